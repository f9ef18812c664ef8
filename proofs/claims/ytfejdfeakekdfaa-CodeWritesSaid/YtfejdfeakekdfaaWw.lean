/-
  The walk of CodeWrites.
-/
import Derived.Test.YtfejdfeakekdfaaTx
import Derived.Test.YtfejdfeakekdfaaDa
namespace Go.Proofs.Ytfejdfeakekdfaa
open Go.RowKit
set_option linter.unusedSimpArgs false

theorem own_below {w w' : World} {base e size n : Nat} {v : Value} {xs : List Value} (h : w.ownsRow base e size v n xs) (hb : Below w.heap.size w w') : w'.ownsRow base e size v n xs := by
  refine ⟨h.1, ?_⟩
  rcases h.2 with h' | ⟨g, cap, cur, h1, h2, h3, h4⟩
  · exact Or.inl h'
  · exact Or.inr ⟨g, cap, cur, h1, h2, (hb.block g (Array.getElem?_eq_some_iff.1 h3).1).trans h3, h4⟩
theorem PrtAt.txtH {w : World} {S : Nat → Prop} {b o : Nat} {p : Prt} (h : PrtAt w S b o p) (hok : p.Ok) (hS : S b) (hb : b < w.heap.size) : Txt w S (some ⟨b, o + 5, none⟩) 32 32 p.h :=
  ⟨hok.h, Nat.le_refl _, hok.hb, Or.inr ⟨b, o + 5, rfl, hS, hb, fun k hk => h.hh k _ (nums_get p.h k (by rw [hok.h]; exact hk))⟩⟩
/-- What is wanted of the first k parts. -/
def WantRel (w : World) (ps : List Prt) (n : Nat) (s4 s5 : Value) (wr : World) : Prop :=
  ∃ k : Nat, k ≤ n ∧ s5 = .int .i64 k ∧ wr.ownsRow w.heap.size 5 1 s4 (written (ps.take k)).length (nums (written (ps.take k))) ∧ Below w.heap.size w wr
theorem WantRel.step {w w2 w3 : World} {ps : List Prt} {n k m : Nat} {v v' : Value} {p : Prt} {l : List Int} (hk : k < n) (hp : ps[k]? = some p) (hl : partBytes p = l) (hm : l.length = m)
    (hb : Below w.heap.size w w2) (ho : w2.ownsRow w.heap.size 5 1 v (written (ps.take k)).length (nums (written (ps.take k))))
    (hown : w3.ownsRow w.heap.size 5 1 v' ((written (ps.take k)).length + m) (nums (written (ps.take k)) ++ nums l)) (hg : w2.grownBy w3 v.ownBlock) :
    WantRel w ps n v' (.int .i64 (k + 1)) w3 := by
  refine ⟨k + 1, hk, by simp, ?_, hb.grown hg hb.size (own_ge ho)⟩
  rw [written_snoc ps k p hp, hl, List.length_append, hm, nums_append]
  exact hown

set_option maxHeartbeats 4000000 in
set_option maxRecDepth 100000 in
theorem writes_walk (a0 : Option Addr) (len0 cap0 : Nat) (ps : List Prt) (w : World) (w0 : Prts w (· < w.heap.size) a0 len0 ps) :
    Calls Try.prog 4 #[.slice a0 len0 cap0] w fun e w' => e = .returned (.bool true) ∧ Below w.heap.size w w' := by
  obtain ⟨i0, hi0, hz0, hz1, hz2⟩ := info_parts u8_info
  have HI := Lib.hid (And.intro hi0 (And.intro hz0 (And.intro hz1 hz2)))
  clear hi0 hz0 hz1 hz2
  have H := Lib.hid w0
  clear w0
  by_cases hfew : Few ps
  · have HF := Lib.hid hfew
    have hn20 : len0 ≤ 20 := by have := hfew.1; have := H.out.1; omega
    clear hfew
    go_enter Try.func4, Try.ntmps4
    go_wp2_with fail
    refine (awake_any _).mono ?_; rintro e w1 ⟨rfl, hg⟩
    have HB1 := Lib.hid hg
    clear hg
    go_wp2_with fail
    refine (few_any (H.out.below HB1.out (fun _ _ h => h))).mono ?_
    rintro e w2 ⟨rfl, rfl⟩
    rw [fewB_true.2 HF.out]
    have HS : Hid (WantRel w ps len0 (.slice none 0 0) (.int .i64 0) w1) := Lib.hid ⟨0, Nat.zero_le _, rfl, ⟨rfl, Or.inl ⟨rfl, rfl⟩⟩, HB1.out⟩
    clear HB1
    go_wp2
    go_loopw [4, 5] (fun s4 s5 wr => WantRel w ps len0 s4 s5 wr) (fun _ i _ => len0 - (intOf i).toNat)
    case atStart => exact HS.out
    case round =>
      clear HS
      obtain ⟨k, hk, rfl, hown, hb⟩ := hrel
      have HO := Lib.hid hown
      have HB := Lib.hid hb
      have hz := hb.size
      clear hown hb
      have HLN : Hid ((written (ps.take k)).length ≤ 6200) := Lib.hid (by
        have h1 := written_len (ps := ps.take k) (fun p hp => H.out.2.1 p (List.mem_of_mem_take hp)) (fun p hp => HF.out.2 p (List.mem_of_mem_take hp))
        have h2 : (ps.take k).length ≤ k := List.length_take_le _ _
        omega)
      by_cases c : k < len0
      · obtain ⟨b, off, p, rfl, hlt, _, hp, hmem, hok, hat⟩ := H.out.at_ c
        have hat' := hat.keep (HB.out.block b hlt) hz (fun b _ h => HB.out.block b h)
        have hk0 := hat'.hk
        have HAT := Lib.hid hat'
        have HOK := Lib.hid hok
        have HBL := Lib.hid (HF.out.2 p hmem)
        have HP := Lib.hid hp
        clear hat hat' hok hmem hp
        by_cases h1 : p.k = 1
        · have e1 : (p.k == 1) = true := by simp [h1]
          have HPB : Hid (partBytes p = Cd.num p.n) := Lib.hid (by unfold partBytes; rw [if_pos h1])
          have c1 := HAT.out.hn
          clear h1
          go_wp2_with fail
          refine (rint_ref p.n wr HOK.out.n.1 HOK.out.n.2).mono ?_
          rintro e w2 ⟨v2, rfl, hown2, hb2⟩
          obtain ⟨a2, c2, rfl, htx2⟩ := Txt.own hown2 (Cd.byt_num _)
          have hnl : (Cd.num p.n).length ≤ 10 := Cd.num_len HOK.out.n.1 HOK.out.n.2
          obtain ⟨m2, hm2⟩ : ∃ m, (Cd.num p.n).length = m := ⟨_, rfl⟩
          rw [hm2] at htx2 hnl
          rw [hm2]
          have HM2 := Lib.hid hm2
          have HT2 := Lib.hid htx2
          have HO2 := Lib.hid (own_below HO.out hb2)
          have HB2 : Hid (Below w.heap.size w w2) := Lib.hid (HB.out.trans (hb2.mono hz))
          clear hown2 hb2 htx2 hm2
          go_wp2_with (at_builtin; refine wpList_append_txt _ rfl (.tmp 24) (.tmp 30) 25 rfl w.heap.size 5 i0 (.int .u8 0) 1 Try.underlying25 HI.out.1 HI.out.2.1 HI.out.2.2.1 HI.out.2.2.2 rfl _ _ _ rfl HO2.out _ a2 m2 c2 (Cd.num p.n) rfl HT2.out ?c3 ?c4 ?c5 ?_)
          case c3 => have := HLN.out; unfold maxLen; omega
          case c4 => have := HLN.out; omega
          case c5 => exact HB2.out.size
          intro v' w3 hown hg _
          have HR := Lib.hid (WantRel.step c HP.out HPB.out HM2.out HB2.out HO2.out hown hg)
          clear hown hg
          go_wp2
          exact ⟨HR.out, by simp [intOf]; omega⟩
        · have e1 : (p.k == 1) = false := by simp [h1]
          by_cases h2 : p.k = 2
          · have e2 : (p.k == 2) = true := by simp [h2]
            have HPB : Hid (partBytes p = Cd.num p.b.length ++ p.b) := Lib.hid (by unfold partBytes; rw [if_neg h1, if_pos h2])
            obtain ⟨a1, n1, c1, hc4, htx⟩ := HAT.out.hb
            have HTX := Lib.hid htx
            have hn1 : n1 ≤ 300 := by have := HBL.out; have := htx.1; omega
            have hnl : (Cd.num (p.b.length : Int)).length ≤ 10 := Cd.num_len (by omega) (by have := htx.1; omega)
            have hby := htx.2.2.1
            have HBY := Lib.hid hby
            have HLB := Lib.hid htx.1
            clear h1 h2 htx hby
            go_wp2_with fail
            refine (rtext_ref HTX.out (by omega)).mono ?_
            rintro e w2 ⟨v2, rfl, hown2, hb2⟩
            obtain ⟨a2, c2, rfl, htx2⟩ := Txt.own hown2 (Cd.byt_append (Cd.byt_num _) HBY.out)
            obtain ⟨m2, hm2⟩ : ∃ m, (Cd.num (p.b.length : Int) ++ p.b).length = m := ⟨_, rfl⟩
            have hmm : m2 ≤ 310 := by rw [← hm2, List.length_append]; have := HLB.out; omega
            rw [hm2] at htx2
            rw [hm2]
            have HM2 := Lib.hid hm2
            have HT2 := Lib.hid htx2
            have HO2 := Lib.hid (own_below HO.out hb2)
            have HB2 : Hid (Below w.heap.size w w2) := Lib.hid (HB.out.trans (hb2.mono hz))
            clear hown2 hb2 htx2 hm2
            go_wp2_with (at_builtin; refine wpList_append_txt _ rfl (.tmp 34) (.tmp 40) 25 rfl w.heap.size 5 i0 (.int .u8 0) 1 Try.underlying25 HI.out.1 HI.out.2.1 HI.out.2.2.1 HI.out.2.2.2 rfl _ _ _ rfl HO2.out _ a2 m2 c2 (Cd.num p.b.length ++ p.b) rfl HT2.out ?c3 ?c4 ?c5 ?_)
            case c3 => have := HLN.out; unfold maxLen; omega
            case c4 => have := HLN.out; omega
            case c5 => exact HB2.out.size
            intro v' w3 hown hg _
            have HR := Lib.hid (WantRel.step c HP.out HPB.out HM2.out HB2.out HO2.out hown hg)
            clear hown hg
            go_wp2
            exact ⟨HR.out, by simp [intOf]; omega⟩
          · have e2 : (p.k == 2) = false := by simp [h2]
            by_cases h3 : p.k = 3
            · have e3 : (p.k == 3) = true := by simp [h3]
              have HPB : Hid (partBytes p = p.h) := Lib.hid (by unfold partBytes; rw [if_neg h1, if_neg h2, if_pos h3])
              have HTH := Lib.hid (HAT.out.txtH HOK.out hlt (by omega))
              clear h1 h2 h3
              go_wp2_with (at_builtin; refine wpList_append_txt _ rfl (.tmp 44) (.tmp 49) 25 rfl w.heap.size 5 i0 (.int .u8 0) 1 Try.underlying25 HI.out.1 HI.out.2.1 HI.out.2.2.1 HI.out.2.2.2 rfl _ _ _ rfl HO.out _ (some ⟨b, off + k * 37 + 5, none⟩) 32 32 p.h rfl HTH.out ?c3 ?c4 ?c5 ?_)
              case c3 => have := HLN.out; unfold maxLen; omega
              case c4 => have := HLN.out; omega
              case c5 => exact hz
              intro v' w3 hown hg _
              have HR := Lib.hid (WantRel.step c HP.out HPB.out HOK.out.h HB.out HO.out hown hg)
              clear hown hg
              go_wp2
              exact ⟨HR.out, by simp [intOf]; omega⟩
            · have e3 : (p.k == 3) = false := by simp [h3]
              have HPB : Hid (partBytes p = []) := Lib.hid (by unfold partBytes; rw [if_neg h1, if_neg h2, if_neg h3])
              clear h1 h2 h3
              go_wp2
              refine ⟨⟨k + 1, by omega, by go_num, ?_, HB.out⟩, by simp [intOf]; omega⟩
              rw [written_snoc ps k p HP.out, HPB.out, List.append_nil]
              exact HO.out
      · have he : ps.take k = ps := List.take_of_length_le (by have := H.out.1; omega)
        have HO1 := HO
        rw [he] at HO1
        have HBYT : Hid (Cd.Byt (written ps)) := Lib.hid (written_byt H.out.2.1 H.out.byt)
        obtain ⟨a4, c4, rfl, htx4⟩ := Txt.own HO1.out HBYT.out
        obtain ⟨m4, hm4⟩ : ∃ m, (written ps).length = m := ⟨_, rfl⟩
        have hcb : (convert 25 9 (.slice a4 (written ps).length c4)).run Try.prog wr.drew = .ok (.string (strOfNums (written ps))) wr.drew := convert_txt (w := wr.drew) (S := fun _ => True) (htx4.weak (fun _ _ _ => trivial))
        have HT4 := Lib.hid htx4
        obtain ⟨s, hs⟩ : ∃ s, strOfNums (written ps) = s := ⟨_, rfl⟩
        rw [hm4] at HT4 hcb
        rw [hm4]
        rw [hs] at hcb
        have HSS := Lib.hid hs
        have HPR : Hid (Prts wr.drew (· < w.heap.size) a0 len0 ps) := Lib.hid (H.out.below HB.out.drew (fun _ _ h => h))
        clear htx4 hm4 hs HO HO1 HLN he
        go_wp2
        refine wp_region_held_drew (S := fun w' => (convert 25 9 (.slice a4 m4 c4)).run Try.prog w' = .ok (.string s) w') (by kernel_rfl) hcb (fun hHeld => ?_)
        refine wpAnyH_take (i := 0) (v := .bool true) rfl (by kernel_rfl) (by kernel_rfl) (by kernel_rfl) (fun _ _ _ h => h) (Or.inl ⟨by rfl, (by intro w hSw; (try dsimp only at hSw); go_simp)⟩) (by assumption) ?_
        try simp only [Act.put, List.getElem_toArray, List.getElem_cons_zero, List.getElem_cons_succ, List.setIfInBounds_toArray, List.set_cons_zero, List.set_cons_succ]
        refine wpAnyH_take (i := 1) (v := .bool true) rfl (by kernel_rfl) (by kernel_rfl) (by kernel_rfl) (fun _ _ _ h => h) (Or.inl ⟨by rfl, (by intro w hSw; (try dsimp only at hSw); go_simp)⟩) (by assumption) ?_
        try simp only [Act.put, List.getElem_toArray, List.getElem_cons_zero, List.getElem_cons_succ, List.setIfInBounds_toArray, List.set_cons_zero, List.set_cons_succ]
        refine wpAnyH_take (i := 2) (v := .slice a0 len0 cap0) rfl (by kernel_rfl) (by kernel_rfl) (by kernel_rfl) (fun _ _ _ h => h) (Or.inl ⟨by rfl, (by intro w hSw; (try dsimp only at hSw); go_simp)⟩) (by assumption) ?_
        try simp only [Act.put, List.getElem_toArray, List.getElem_cons_zero, List.getElem_cons_succ, List.setIfInBounds_toArray, List.set_cons_zero, List.set_cons_succ]
        refine wpAnyH_take (i := 5) (v := .slice a4 m4 c4) rfl (by kernel_rfl) (by kernel_rfl) (by kernel_rfl) (fun _ _ _ h => h) (Or.inl ⟨by rfl, (by intro w hSw; (try dsimp only at hSw); go_simp)⟩) (by assumption) ?_
        try simp only [Act.put, List.getElem_toArray, List.getElem_cons_zero, List.getElem_cons_succ, List.setIfInBounds_toArray, List.set_cons_zero, List.set_cons_succ]
        refine wpAnyH_take (i := 6) (v := .string s) rfl (by kernel_rfl) (by kernel_rfl) (by kernel_rfl) (fun _ _ _ h => h) (Or.inl ⟨by rfl, (by intro w hSw; (try dsimp only at hSw); go_simp)⟩) (by assumption) ?_
        try simp only [Act.put, List.getElem_toArray, List.getElem_cons_zero, List.getElem_cons_succ, List.setIfInBounds_toArray, List.set_cons_zero, List.set_cons_succ]
        refine wpAnyH_ready (rs := [3]) (by kernel_rfl) (by simp) (AllReadyH.cons rfl (fun K hK => ?_) AllReadyH.nil)
        try simp only [List.getElem_toArray, List.getElem_cons_zero, List.getElem_cons_succ]
        go_simp
        go_at_call 15
        refine (written_any HPR.out HF.out).mono ?_
        rintro e w3 ⟨v3, rfl, hown3, hbl3⟩
        obtain ⟨a3, c3, rfl, htx3⟩ := Txt.own hown3 HBYT.out
        have hcv3 := convert_txt htx3
        have hbl4 : Below wr.heap.size wr w3 := ⟨hbl3.os, hbl3.tape, hbl3.output, hbl3.size, fun k hk => hbl3.block k hk⟩
        have HB3 : Hid (Below w.heap.size w w3) := Lib.hid (HB.out.trans (hbl4.mono hz))
        have hcb4 := convert_txt (HT4.out.below hbl4 (fun _ h _ => h))
        rw [HSS.out] at hcv3 hcb4
        clear hown3 hbl3 htx3 hbl4
        go_wp2_with fail
        refine hK.out _ _ hcb4 (fun hHeld => ?_)
        clear hK K
        try simp only [Act.put, List.getElem_toArray, List.getElem_cons_zero, List.getElem_cons_succ, List.setIfInBounds_toArray, List.set_cons_zero, List.set_cons_succ]
        refine wpAnyH_ready (rs := [4]) (by kernel_rfl) (by simp) (AllReadyH.cons rfl (fun K hK => ?_) AllReadyH.nil)
        try simp only [List.getElem_toArray, List.getElem_cons_zero, List.getElem_cons_succ]
        go_simp
        refine hK.out _ _ hcb4 (fun hHeld => ?_)
        clear hK K
        try simp only [Act.put, List.getElem_toArray, List.getElem_cons_zero, List.getElem_cons_succ, List.setIfInBounds_toArray, List.set_cons_zero, List.set_cons_succ]
        refine wpAnyH_take (i := 7) (v := .bool true) rfl (by kernel_rfl) (by kernel_rfl) (by kernel_rfl) (fun _ _ _ h => h) (Or.inl ⟨by rfl, (by intro w hSw; (try dsimp only at hSw); go_simp)⟩) (by assumption) ?_
        try simp only [Act.put, List.getElem_toArray, List.getElem_cons_zero, List.getElem_cons_succ, List.setIfInBounds_toArray, List.set_cons_zero, List.set_cons_succ]
        refine wpAnyH_take (i := 8) (v := .bool true) rfl (by kernel_rfl) (by kernel_rfl) (by kernel_rfl) (fun _ _ _ h => h) (Or.inl ⟨by rfl, (by intro w hSw; (try dsimp only at hSw); go_simp)⟩) (by assumption) ?_
        try simp only [Act.put, List.getElem_toArray, List.getElem_cons_zero, List.getElem_cons_succ, List.setIfInBounds_toArray, List.set_cons_zero, List.set_cons_succ]
        refine wpAnyH_take (i := 9) (v := .bool true) rfl (by kernel_rfl) (by kernel_rfl) (by kernel_rfl) (fun _ _ _ h => h) (Or.inl ⟨by rfl, (by intro w hSw; (try dsimp only at hSw); go_simp)⟩) (by assumption) ?_
        try simp only [Act.put, List.getElem_toArray, List.getElem_cons_zero, List.getElem_cons_succ, List.setIfInBounds_toArray, List.set_cons_zero, List.set_cons_succ]
        refine wpAnyH_done (by kernel_rfl) ?_ _
        go_wp2
        go_ret
        exact ⟨rfl, HB3.out⟩
  · have hfb : fewB ps = false := by
      cases h : fewB ps with
      | true => exact absurd (fewB_true.1 h) hfew
      | false => rfl
    clear hfew
    go_enter Try.func4, Try.ntmps4
    go_wp2_with fail
    refine (awake_any _).mono ?_; rintro e w1 ⟨rfl, hg⟩
    have HB1 := Lib.hid hg
    clear hg
    go_wp2_with fail
    refine (few_any (H.out.below HB1.out (fun _ _ h => h))).mono ?_
    rintro e w2 ⟨rfl, rfl⟩
    rw [hfb]
    go_wp2
    go_ret
    exact ⟨rfl, HB1.out⟩
end Go.Proofs.Ytfejdfeakekdfaa
