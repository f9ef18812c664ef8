/-
  The walks of Verify, and the document's Verify.
  The walks of Whole, and the document's Whole.
  Rows of digests that a call makes: slices that are built of one, appends.
-/
import Derived.Test.YtiogfkhmigbgpaaDoorZm
import Derived.Deep.RegionHeld3
import Derived.Great.CaseRows
import Derived.Great.BuildSlice
namespace Go.Proofs.YtiogfkhmigbgpaaDoor
set_option maxRecDepth 20000
set_option linter.unusedSimpArgs false
open Go.RowKit
/-- What is compared of a chunk. -/
theorem ver_in {m : Mf.Man} {i : Int} {b : List Int} (h : ¬ Mf.off m i) : Mf.ver m i b = if (b.length : Int) ≠ Mf.til m i - Mf.fr m i then 51 else if Mf.cdig i b = m.ds.getD i.toNat [] then 0 else 51 := by
  unfold Mf.ver
  rw [if_neg h]
  by_cases h1 : (b.length : Int) ≠ Mf.til m i - Mf.fr m i
  · rw [if_pos (Or.inl h1), if_pos h1]
  · rw [if_neg h1]
    by_cases h2 : Mf.cdig i b = m.ds.getD i.toNat []
    · rw [if_pos h2, if_neg (fun e => e.elim h1 (fun e => e h2))]
    · rw [if_neg h2, if_pos (Or.inr h2)]
theorem ver_off {m : Mf.Man} {i : Int} {b : List Int} (h : Mf.off m i) : Mf.ver m i b = 1 := by unfold Mf.ver; rw [if_pos h]
theorem range_below {B : Nat} {w w' : World} {b o : Nat} {l : List Value} (h : w.rangeAt b o l) (hb : Below B w w') (hlt : b < B) : w'.rangeAt b o l := fun j v hv => by
  rw [hb.cell (p := ⟨b, o + j, none⟩) hlt]; exact h j v hv
theorem Digs.cell_at {w : World} {S : Nat → Prop} {a : Option Addr} {n : Nat} {ds : List (List Int)} (h : Digs w S a n ds) {k : Nat} (hk : k < n) :
    ∃ b off, a = some ⟨b, off, none⟩ ∧ S b ∧ b < w.heap.size ∧ w.rangeAt b (off + k * 32) (nums (ds.getD k [])) ∧ Dig (ds.getD k []) := by
  obtain ⟨h1, h2, h3⟩ := h
  rcases h3 with h | ⟨b, off, rfl, hs, hb, hc⟩
  · subst h; simp at h1; omega
  · refine ⟨b, off, rfl, hs, hb, hc k hk, h2 _ ?_⟩
    have hl : k < ds.length := by omega
    have : ds.getD k [] = ds[k] := by simp [hl]
    rw [this]; exact List.getElem_mem hl
set_option maxHeartbeats 4000000 in
theorem verify_any {w : World} {S S' : Nat → Prop} {v : Value} {m : Mf.Man} {i : Int} {a0 : Option Addr} {n0 p0 : Nat} {l0 : List Int} (h : Mv w S v m) (hi : In64 i) (hb : Txt w S' a0 n0 p0 l0) (hn0 : n0 ≤ 800000) (hR : Roots w) :
    Calls Tryd.prog 23 #[v, .int .i64 i, .slice a0 n0 p0] w fun e w' => e = .returned (.int .i64 (Mf.ver m i l0)) ∧ Below w.heap.size w w' := by
  have HM := Lib.hid h
  have HT := Lib.hid hb.old
  have HL0 := Lib.hid hb.1
  have HR := Lib.hid hR
  have HIN := Lib.hid hi
  obtain ⟨a, n, c, rfl, hnc, hd, hw, hs, hc⟩ := h
  have HLN := Lib.hid hd.1
  have HDG := Lib.hid hd.old
  have hsz := msize (s := m.size) (c := m.chunk) (v := .slice a n c) hw.1
  have c2 : (mcs m.size m.chunk (.slice a n c) m.wh).toArray[2]? = some (.slice a n c) := rfl
  clear hd hw hs hc hnc hb hR
  generalize (mcs m.size m.chunk (.slice a n c) m.wh).toArray = P at *
  have HC := Lib.hid (show Mv (w.alloc (.cells P 34)) (fun b => b < w.heap.size) (.agg P) m from HM.out.old.keep (by simp) fun b hb _ => Below.heap_alloc _ _ _ hb)
  by_cases hoff : Mf.off m i
  · have HE := Lib.hid (show Mf.fr m i = 0 ∧ Mf.til m i = 0 from ⟨(Mf.til_off hoff).2, (Mf.til_off hoff).1⟩)
    have HV := Lib.hid (ver_off (b := l0) hoff)
    clear hoff
    go_enter Tryd.func23, Tryd.ntmps23
    go_wp2_with (first | ((with_reducible show wpList _ _ _ ((⟨_, Op.load 34 _, _, _, _, _⟩ : Oper) :: _) _ _); refine wpList_load_row rfl _ (.tmp 3) rfl w.heap.size rfl 34 P (0, 0) _ (Whole.new w _ _) Tryd.underlying34 rfl (by rw [hsz]; exact info35) ?_) | (go_at_call 21; refine (part_any HC.out HIN.out).mono ?_; rintro e w1 ⟨rfl, hb1⟩; have HB1 := Lib.hid hb1; have KW := Lib.hid ((Whole.new w 34 P).below hb1 (by simp)); have k2 : w1.cell? ⟨w.heap.size, 2, none⟩ = some (.slice a n c) := (by rw [KW.out.cell]; exact c2); clear hb1; rw [HE.out.1, HE.out.2]))
    go_ret
    exact ⟨ret_i64 HV.out.symm, below_box HB1.out⟩
  · obtain ⟨hnb, hi0, hin, hn64, _, _, _, hs1, _, _, _⟩ := Mf.off_not hoff
    have ht := Mf.til_ne hoff
    have hf0 : 0 ≤ Mf.fr m i := by unfold Mf.fr; rw [if_neg hoff]; assumption
    have HVI := Lib.hid (ver_in (b := l0) hoff)
    rw [HLN.out] at hin hn64
    obtain ⟨f, hf⟩ : ∃ f, Mf.fr m i = f := ⟨_, rfl⟩
    obtain ⟨t, htt⟩ : ∃ t, Mf.til m i = t := ⟨_, rfl⟩
    rw [hf, htt] at ht HVI
    rw [hf] at hf0
    obtain ⟨ht0, ht1, ht2, _⟩ := ht
    have HE := Lib.hid (And.intro hf htt)
    have ht3 : t ≤ 65536 := by omega
    have hz : (t == 0) = false := by simp; omega
    have hz1 : 0 < t := by omega
    clear hoff hnb hf htt ht2 hs1
    obtain ⟨g, hg⟩ : ∃ g, t - f = g := ⟨_, rfl⟩
    have hwr : IntKind.i64.wrap (t - f) = g := by rw [IntWalk.i64_in _ (by omega)]; exact hg
    rw [hg] at HVI
    clear hg
    by_cases hlen : (n0 : Int) = g
    · have d1 : ((n0 : Int) == g) = true := by simp [hlen]
      have d2 : ((n0 : Int) != g) = false := by simp [hlen]
      have HV : Hid (Mf.ver m i l0 = if Mf.cdig i l0 = m.ds.getD i.toNat [] then 0 else 51) := Lib.hid (by rw [HVI.out, if_neg (by rw [HL0.out]; omega)])
      obtain ⟨k, rfl⟩ : ∃ k : Nat, i = (k : Int) := ⟨i.toNat, by omega⟩
      have hkn : k < n := by omega
      rw [Int.toNat_natCast] at HV
      obtain ⟨b, off, rfl, hbS, hbl, hrg, hdg⟩ := HDG.out.cell_at hkn
      have HRG := Lib.hid hrg
      generalize hdd : m.ds.getD k [] = d at *
      have hnd : (nums d).length = 32 := by rw [nums_len, hdg.1]
      have hi32 : (Tryd.prog.info? 32).map (·.size) = some (nums d).length := by rw [hnd]; exact info32
      have hu := und32
      have hcd := Mf.cdig_ok k l0
      obtain ⟨r, hr⟩ : ∃ r, decide (Mf.cdig k l0 = d) = r := ⟨_, rfl⟩
      have HQ : ∀ w : World, (Op.equalIn 10000 32 (.agg (nums (Mf.cdig k l0)).toArray) (.agg (nums d).toArray)).run Tryd.prog w = .ok r w := fun w => by
        have h := equal32 9999 (fun a b w => run_equalIn_int w 9998 5 .u8 .u8 a b Tryd.underlying5) (Mf.cdig k l0) d hcd.1 hdg.1 w
        rw [h, hr]
      have HV2 : Hid (Mf.ver m k l0 = if r then 0 else 51) := Lib.hid (by rw [HV.out, ← hr]; simp)
      have hk64 : (k : Int) < 64 := by omega
      clear hlen ht0 hr hrg hdg hcd hnd hdd HVI HV
      generalize nums d = nd at *
      go_enter Tryd.func23, Tryd.ntmps23
      go_wp2_with (first | ((with_reducible show wpList _ _ _ ((⟨_, Op.load 34 _, _, _, _, _⟩ : Oper) :: _) _ _); refine wpList_load_row rfl _ (.tmp 3) rfl w.heap.size rfl 34 P (0, 0) _ (Whole.new w _ _) Tryd.underlying34 rfl (by rw [hsz]; exact info35) ?_) | (go_at_call 21; refine (part_any HC.out HIN.out).mono ?_; rintro e w1 ⟨rfl, hb1⟩; have HB1 := Lib.hid hb1; have KW := Lib.hid ((Whole.new w 34 P).below hb1 (by simp)); have k2 : w1.cell? ⟨w.heap.size, 2, none⟩ = some (.slice (some ⟨b, off, none⟩) n c) := (by rw [KW.out.cell]; exact c2); clear hb1; rw [HE.out.1, HE.out.2]))
      have rg1 : w1.drew.rangeAt b (off + k * 32) nd := range_below HRG.out (below_box HB1.out).drew hbl
      have k21 : w1.drew.cell? ⟨w.heap.size, 2, none⟩ = some (.slice (some ⟨b, off, none⟩) n c) := k2
      have HT1 := Lib.hid (show Txt w1.drew (fun b => b < w.heap.size) a0 n0 p0 l0 from HT.out.below (below_box HB1.out).drew (fun b _ h => h))
      have HR1 := Lib.hid (show Roots w1.drew from HR.out.below (below_box HB1.out).drew HR.out.two)
      have HBD := Lib.hid (show Below w.heap.size w w1.drew from (below_box HB1.out).drew)
      refine wp_region_held_drew (S := (fun w' => w'.cell? ⟨w.heap.size, 2, none⟩ = some (.slice (some ⟨b, off, none⟩) n c) ∧ w'.rangeAt b (off + k * 32) nd)) (by kernel_rfl) ⟨k21, rg1⟩ (fun hHeld => ?_)
      refine wpAnyH_take (i := 0) (v := .slice a0 n0 p0) rfl (by kernel_rfl) (by kernel_rfl) (by kernel_rfl) (fun _ _ _ h => h) (Or.inl ⟨by rfl, (by intro w hSw; (try dsimp only at hSw); go_simp)⟩) (by assumption) ?_
      try simp only [Act.put, List.getElem_toArray, List.getElem_cons_zero, List.getElem_cons_succ, List.setIfInBounds_toArray, List.set_cons_zero, List.set_cons_succ]
      refine wpAnyH_take (i := 1) (v := .int .i64 (n0 : Int)) rfl (by kernel_rfl) (by kernel_rfl) (by kernel_rfl) (fun _ _ _ h => h) (Or.inl ⟨by rfl, (by intro w hSw; (try dsimp only at hSw); go_simp)⟩) (by assumption) ?_
      try simp only [Act.put, List.getElem_toArray, List.getElem_cons_zero, List.getElem_cons_succ, List.setIfInBounds_toArray, List.set_cons_zero, List.set_cons_succ]
      refine wpAnyH_take (i := 2) (v := .int .i64 t) rfl (by kernel_rfl) (by kernel_rfl) (by kernel_rfl) (fun _ _ _ h => h) (Or.inl ⟨by rfl, (by intro w hSw; (try dsimp only at hSw); go_simp)⟩) (by assumption) ?_
      try simp only [Act.put, List.getElem_toArray, List.getElem_cons_zero, List.getElem_cons_succ, List.setIfInBounds_toArray, List.set_cons_zero, List.set_cons_succ]
      refine wpAnyH_take (i := 3) (v := .int .i64 f) rfl (by kernel_rfl) (by kernel_rfl) (by kernel_rfl) (fun _ _ _ h => h) (Or.inl ⟨by rfl, (by intro w hSw; (try dsimp only at hSw); go_simp)⟩) (by assumption) ?_
      try simp only [Act.put, List.getElem_toArray, List.getElem_cons_zero, List.getElem_cons_succ, List.setIfInBounds_toArray, List.set_cons_zero, List.set_cons_succ]
      refine wpAnyH_take (i := 4) (v := .int .i64 g) rfl (by kernel_rfl) (by kernel_rfl) (by kernel_rfl) (fun _ _ _ h => h) (Or.inl ⟨by rfl, (by intro w hSw; (try dsimp only at hSw); go_simp)⟩) (by assumption) ?_
      try simp only [Act.put, List.getElem_toArray, List.getElem_cons_zero, List.getElem_cons_succ, List.setIfInBounds_toArray, List.set_cons_zero, List.set_cons_succ]
      refine wpAnyH_take (i := 5) (v := .bool false) rfl (by kernel_rfl) (by kernel_rfl) (by kernel_rfl) (fun _ _ _ h => h) (Or.inl ⟨by rfl, (by intro w hSw; (try dsimp only at hSw); go_simp)⟩) (by assumption) ?_
      try simp only [Act.put, List.getElem_toArray, List.getElem_cons_zero, List.getElem_cons_succ, List.setIfInBounds_toArray, List.set_cons_zero, List.set_cons_succ]
      refine wpAnyH_take (i := 6) (v := .bool false) rfl (by kernel_rfl) (by kernel_rfl) (by kernel_rfl) (fun _ _ _ h => h) (Or.inl ⟨by rfl, (by intro w hSw; (try dsimp only at hSw); go_simp)⟩) (by assumption) ?_
      try simp only [Act.put, List.getElem_toArray, List.getElem_cons_zero, List.getElem_cons_succ, List.setIfInBounds_toArray, List.set_cons_zero, List.set_cons_succ]
      refine wpAnyH_take (i := 7) (v := .int .i64 (k : Int)) rfl (by kernel_rfl) (by kernel_rfl) (by kernel_rfl) (fun _ _ _ h => h) (Or.inl ⟨by rfl, (by intro w hSw; (try dsimp only at hSw); go_simp)⟩) (by assumption) ?_
      try simp only [Act.put, List.getElem_toArray, List.getElem_cons_zero, List.getElem_cons_succ, List.setIfInBounds_toArray, List.set_cons_zero, List.set_cons_succ]
      refine wpAnyH_take (i := 8) (v := .slice a0 n0 p0) rfl (by kernel_rfl) (by kernel_rfl) (by kernel_rfl) (fun _ _ _ h => h) (Or.inl ⟨by rfl, (by intro w hSw; (try dsimp only at hSw); go_simp)⟩) (by assumption) ?_
      try simp only [Act.put, List.getElem_toArray, List.getElem_cons_zero, List.getElem_cons_succ, List.setIfInBounds_toArray, List.set_cons_zero, List.set_cons_succ]
      refine wpAnyH_take (i := 10) (v := .pointer (some ⟨w.heap.size, 2, none⟩)) rfl (by kernel_rfl) (by kernel_rfl) (by kernel_rfl) (fun _ _ _ h => h) (Or.inl ⟨by rfl, (by intro w hSw; (try dsimp only at hSw); go_simp)⟩) (by assumption) ?_
      try simp only [Act.put, List.getElem_toArray, List.getElem_cons_zero, List.getElem_cons_succ, List.setIfInBounds_toArray, List.set_cons_zero, List.set_cons_succ]
      refine wpAnyH_take (i := 11) (v := .slice (some ⟨b, off, none⟩) n c) rfl (by kernel_rfl) (by kernel_rfl) (by kernel_rfl) (fun _ _ _ h => h) (Or.inl ⟨by rfl, (by intro w hSw; (try dsimp only at hSw); go_simp)⟩) (by assumption) ?_
      try simp only [Act.put, List.getElem_toArray, List.getElem_cons_zero, List.getElem_cons_succ, List.setIfInBounds_toArray, List.set_cons_zero, List.set_cons_succ]
      refine wpAnyH_take (i := 12) (v := .int .i64 (k : Int)) rfl (by kernel_rfl) (by kernel_rfl) (by kernel_rfl) (fun _ _ _ h => h) (Or.inl ⟨by rfl, (by intro w hSw; (try dsimp only at hSw); go_simp)⟩) (by assumption) ?_
      try simp only [Act.put, List.getElem_toArray, List.getElem_cons_zero, List.getElem_cons_succ, List.setIfInBounds_toArray, List.set_cons_zero, List.set_cons_succ]
      refine wpAnyH_take (i := 13) (v := .pointer (some ⟨b, off + k * 32, none⟩)) rfl (by kernel_rfl) (by kernel_rfl) (by kernel_rfl) (fun _ _ _ h => h) (Or.inl ⟨by rfl, (by intro w hSw; (try dsimp only at hSw); go_simp)⟩) (by assumption) ?_
      try simp only [Act.put, List.getElem_toArray, List.getElem_cons_zero, List.getElem_cons_succ, List.setIfInBounds_toArray, List.set_cons_zero, List.set_cons_succ]
      refine wpAnyH_take (i := 14) (v := .agg nd.toArray) rfl (by kernel_rfl) (by kernel_rfl) (by kernel_rfl) (fun _ _ _ h => h) (yieldsIf_load_mid (by rfl) _ _ rfl _ _ rfl _ _ (fun w hSw => hSw.2) hu rfl hi32) (by assumption) ?_
      try simp only [Act.put, List.getElem_toArray, List.getElem_cons_zero, List.getElem_cons_succ, List.setIfInBounds_toArray, List.set_cons_zero, List.set_cons_succ]
      refine wpAnyH_ready (rs := [9]) (by kernel_rfl) (by simp) (AllReadyH.cons rfl (fun K hK => ?_) AllReadyH.nil)
      try simp only [List.getElem_toArray, List.getElem_cons_zero, List.getElem_cons_succ]
      go_simp
      go_at_call 38
      refine (cdig_any HT1.out HR1.out (by omega) (by omega) hn0).mono ?_
      rintro e w2 ⟨rfl, hb2⟩
      have HB2 := Lib.hid (show Below w.heap.size w w2 from HBD.out.trans (hb2.mono HBD.out.size))
      have s2 : w2.cell? ⟨w.heap.size, 2, none⟩ = some (.slice (some ⟨b, off, none⟩) n c) := by rw [hb2.cell (p := ⟨w.heap.size, 2, none⟩) (by have := KW.out.lt; exact this)]; exact k21
      have s3 : w2.rangeAt b (off + k * 32) nd := range_below HRG.out HB2.out hbl
      clear hb2
      refine hK.out _ _ ⟨s2, s3⟩ (fun hHeld => ?_)
      clear hK K
      try simp only [Act.put, List.getElem_toArray, List.getElem_cons_zero, List.getElem_cons_succ, List.setIfInBounds_toArray, List.set_cons_zero, List.set_cons_succ]
      refine wpAnyH_take (i := 15) (v := .bool (!r)) rfl (by kernel_rfl) (by kernel_rfl) (by kernel_rfl) (fun _ _ _ h => h) (Or.inl ⟨by rfl, (by intro w hSw; (try dsimp only at hSw); go_simp)⟩) (by assumption) ?_
      try simp only [Act.put, List.getElem_toArray, List.getElem_cons_zero, List.getElem_cons_succ, List.setIfInBounds_toArray, List.set_cons_zero, List.set_cons_succ]
      refine wpAnyH_take (i := 16) (v := .bool (!r)) rfl (by kernel_rfl) (by kernel_rfl) (by kernel_rfl) (fun _ _ _ h => h) (Or.inl ⟨by rfl, (by intro w hSw; (try dsimp only at hSw); go_simp)⟩) (by assumption) ?_
      try simp only [Act.put, List.getElem_toArray, List.getElem_cons_zero, List.getElem_cons_succ, List.setIfInBounds_toArray, List.set_cons_zero, List.set_cons_succ]
      refine wpAnyH_done (by kernel_rfl) ?_ _
      cases r
      · have HV3 := Lib.hid (show Mf.ver m k l0 = 51 from HV2.out)
        go_wp2
        go_ret
        exact ⟨ret_i64 HV3.out.symm, HB2.out⟩
      · have HV3 := Lib.hid (show Mf.ver m k l0 = 0 from HV2.out)
        go_wp2
        go_ret
        exact ⟨ret_i64 HV3.out.symm, HB2.out⟩
    · have d1 : ((n0 : Int) == g) = false := by simp [hlen]
      have d2 : ((n0 : Int) != g) = true := by simp [hlen]
      have HV : Hid (Mf.ver m i l0 = 51) := Lib.hid (by rw [HVI.out, if_pos (by rw [HL0.out]; exact hlen)])
      clear hlen
      go_enter Tryd.func23, Tryd.ntmps23
      go_wp2_with (first | ((with_reducible show wpList _ _ _ ((⟨_, Op.load 34 _, _, _, _, _⟩ : Oper) :: _) _ _); refine wpList_load_row rfl _ (.tmp 3) rfl w.heap.size rfl 34 P (0, 0) _ (Whole.new w _ _) Tryd.underlying34 rfl (by rw [hsz]; exact info35) ?_) | (go_at_call 21; refine (part_any HC.out HIN.out).mono ?_; rintro e w1 ⟨rfl, hb1⟩; have HB1 := Lib.hid hb1; have KW := Lib.hid ((Whole.new w 34 P).below hb1 (by simp)); have k2 : w1.cell? ⟨w.heap.size, 2, none⟩ = some (.slice a n c) := (by rw [KW.out.cell]; exact c2); clear hb1; rw [HE.out.1, HE.out.2]))
      go_region
      go_wp2
      go_ret
      exact ⟨ret_i64 HV.out.symm, (below_box HB1.out).drew⟩
set_option maxHeartbeats 4000000 in
theorem rverify_any {w : World} {S S' : Nat → Prop} {v : Value} {m : Mf.Man} {i : Int} {a0 : Option Addr} {n0 p0 : Nat} {l0 : List Int} (h : Mv w S v m) (hi : In64 i) (hb : Txt w S' a0 n0 p0 l0) (hn0 : n0 ≤ 800000) :
    Calls Tryd.prog 30 #[v, .int .i64 i, .slice a0 n0 p0] w fun e w' => e = .returned (.int .i64 (Mf.ver m i l0)) ∧ Below w.heap.size w w' := by
  have HM := Lib.hid h
  have HT := Lib.hid hb.old
  have HL0 := Lib.hid hb.1
  have HIN := Lib.hid hi
  obtain ⟨a, n, c, rfl, hnc, hd, hw, hs, hc⟩ := h
  have HLN := Lib.hid hd.1
  have HDG := Lib.hid hd.old
  have hsz := msize (s := m.size) (c := m.chunk) (v := .slice a n c) hw.1
  have c2 : (mcs m.size m.chunk (.slice a n c) m.wh).toArray[2]? = some (.slice a n c) := rfl
  clear hd hw hs hc hnc hb
  generalize (mcs m.size m.chunk (.slice a n c) m.wh).toArray = P at *
  have HC := Lib.hid (show Mv (w.alloc (.cells P 34)) (fun b => b < w.heap.size) (.agg P) m from HM.out.old.keep (by simp) fun b hb _ => Below.heap_alloc _ _ _ hb)
  by_cases hoff : Mf.off m i
  · have HV := Lib.hid (ver_off (b := l0) hoff)
    have hoff' := (off_iff (m := m) (i := i) HLN.out).1 hoff
    obtain ⟨hi1, hi2⟩ := hi
    by_cases hk : Mf.chk m = 0
    · have d0 : (Mf.chk m == 0) = true := by simp [hk]
      by_cases hneg : i < 0
      · have d1 : decide (i < 0) = true := decide_eq_true hneg
        clear hoff hoff'
        go_enter Tryd.func30, Tryd.ntmps30
        go_wp2_with (first | ((with_reducible show wpList _ _ _ ((⟨_, Op.load 34 _, _, _, _, _⟩ : Oper) :: _) _ _); refine wpList_load_row rfl _ (.tmp 3) rfl w.heap.size rfl 34 P (0, 0) _ (Whole.new w _ _) Tryd.underlying34 rfl (by rw [hsz]; exact info35) ?_) | (go_at_call 33; refine (rcheck_any HC.out).mono ?_; rintro e w1 ⟨rfl, hb1⟩; have HB1 := Lib.hid (below_box hb1); have KW := Lib.hid ((Whole.new w 34 P).below hb1 (by simp)); have k2 : w1.cell? ⟨w.heap.size, 2, none⟩ = some (.slice a n c) := (by rw [KW.out.cell]; exact c2); have HC1 := Lib.hid (show Mv w1 (fun b => b < w.heap.size) (.agg P) m from HM.out.old.below HB1.out (fun b _ h => h)); clear hb1))
        go_ret
        exact ⟨ret_i64 HV.out.symm, HB1.out⟩
      · have d1 : decide (i < 0) = false := decide_eq_false hneg
        have hge : (n : Int) ≤ i := by omega
        have d2 : decide ((n : Int) ≤ i) = true := decide_eq_true hge
        clear hoff hoff'
        go_enter Tryd.func30, Tryd.ntmps30
        go_wp2_with (first | ((with_reducible show wpList _ _ _ ((⟨_, Op.load 34 _, _, _, _, _⟩ : Oper) :: _) _ _); refine wpList_load_row rfl _ (.tmp 3) rfl w.heap.size rfl 34 P (0, 0) _ (Whole.new w _ _) Tryd.underlying34 rfl (by rw [hsz]; exact info35) ?_) | (go_at_call 33; refine (rcheck_any HC.out).mono ?_; rintro e w1 ⟨rfl, hb1⟩; have HB1 := Lib.hid (below_box hb1); have KW := Lib.hid ((Whole.new w 34 P).below hb1 (by simp)); have k2 : w1.cell? ⟨w.heap.size, 2, none⟩ = some (.slice a n c) := (by rw [KW.out.cell]; exact c2); have HC1 := Lib.hid (show Mv w1 (fun b => b < w.heap.size) (.agg P) m from HM.out.old.below HB1.out (fun b _ h => h)); clear hb1))
        go_ret
        exact ⟨ret_i64 HV.out.symm, HB1.out⟩
    · have d0 : (Mf.chk m == 0) = false := by simp [hk]
      clear hoff hoff'
      go_enter Tryd.func30, Tryd.ntmps30
      go_wp2_with (first | ((with_reducible show wpList _ _ _ ((⟨_, Op.load 34 _, _, _, _, _⟩ : Oper) :: _) _ _); refine wpList_load_row rfl _ (.tmp 3) rfl w.heap.size rfl 34 P (0, 0) _ (Whole.new w _ _) Tryd.underlying34 rfl (by rw [hsz]; exact info35) ?_) | (go_at_call 33; refine (rcheck_any HC.out).mono ?_; rintro e w1 ⟨rfl, hb1⟩; have HB1 := Lib.hid (below_box hb1); have KW := Lib.hid ((Whole.new w 34 P).below hb1 (by simp)); have k2 : w1.cell? ⟨w.heap.size, 2, none⟩ = some (.slice a n c) := (by rw [KW.out.cell]; exact c2); have HC1 := Lib.hid (show Mv w1 (fun b => b < w.heap.size) (.agg P) m from HM.out.old.below HB1.out (fun b _ h => h)); clear hb1))
      go_ret
      exact ⟨ret_i64 HV.out.symm, HB1.out⟩
  · obtain ⟨hnb, hi0, hin, hn64, _, _, _, hs1, _, _, _⟩ := Mf.off_not hoff
    have ht := Mf.til_ne hoff
    have hk0 := Mf.chk_zero hnb
    have d0 : (Mf.chk m == 0) = true := by simp [hk0]
    have d3 : decide (i < 0) = false := decide_eq_false (by omega)
    have d4 : decide ((n : Int) ≤ i) = false := decide_eq_false (by have := HLN.out; omega)
    have hf0 : 0 ≤ Mf.fr m i := by unfold Mf.fr; rw [if_neg hoff]; assumption
    have HVI := Lib.hid (ver_in (b := l0) hoff)
    rw [HLN.out] at hin hn64
    obtain ⟨f, hf⟩ : ∃ f, Mf.fr m i = f := ⟨_, rfl⟩
    obtain ⟨t, htt⟩ : ∃ t, Mf.til m i = t := ⟨_, rfl⟩
    rw [hf, htt] at ht HVI
    rw [hf] at hf0
    obtain ⟨ht0, ht1, ht2, _⟩ := ht
    have HE := Lib.hid (And.intro hf htt)
    have ht3 : t ≤ 65536 := by omega
    have hz : (t == 0) = false := by simp; omega
    have hz1 : 0 < t := by omega
    clear hoff hnb hf htt ht2 hs1
    obtain ⟨g, hg⟩ : ∃ g, t - f = g := ⟨_, rfl⟩
    have hwr : IntKind.i64.wrap (t - f) = g := by rw [IntWalk.i64_in _ (by omega)]; exact hg
    rw [hg] at HVI
    clear hg
    by_cases hlen : (n0 : Int) = g
    · have d1 : ((n0 : Int) == g) = true := by simp [hlen]
      have d2 : ((n0 : Int) != g) = false := by simp [hlen]
      have HV : Hid (Mf.ver m i l0 = if Mf.cdig i l0 = m.ds.getD i.toNat [] then 0 else 51) := Lib.hid (by rw [HVI.out, if_neg (by rw [HL0.out]; omega)])
      obtain ⟨k, rfl⟩ : ∃ k : Nat, i = (k : Int) := ⟨i.toNat, by omega⟩
      have hkn : k < n := by omega
      rw [Int.toNat_natCast] at HV
      obtain ⟨b, off, rfl, hbS, hbl, hrg, hdg⟩ := HDG.out.cell_at hkn
      have HRG := Lib.hid hrg
      generalize hdd : m.ds.getD k [] = d at *
      have hnd : (nums d).length = 32 := by rw [nums_len, hdg.1]
      have hi32 : (Tryd.prog.info? 32).map (·.size) = some (nums d).length := by rw [hnd]; exact info32
      have hu := und32
      have hcd := Mf.cdig_ok k l0
      obtain ⟨r, hr⟩ : ∃ r, decide (Mf.cdig k l0 = d) = r := ⟨_, rfl⟩
      have HQ : ∀ w : World, (Op.equalIn 10000 32 (.agg (nums (Mf.cdig k l0)).toArray) (.agg (nums d).toArray)).run Tryd.prog w = .ok r w := fun w => by
        have h := equal32 9999 (fun a b w => run_equalIn_int w 9998 5 .u8 .u8 a b Tryd.underlying5) (Mf.cdig k l0) d hcd.1 hdg.1 w
        rw [h, hr]
      have HV2 : Hid (Mf.ver m k l0 = if r then 0 else 51) := Lib.hid (by rw [HV.out, ← hr]; simp)
      have hk64 : (k : Int) < 64 := by omega
      clear hlen ht0 hr hrg hdg hcd hnd hdd HVI HV
      generalize nums d = nd at *
      go_enter Tryd.func30, Tryd.ntmps30
      go_wp2_with (first | ((with_reducible show wpList _ _ _ ((⟨_, Op.load 34 _, _, _, _, _⟩ : Oper) :: _) _ _); refine wpList_load_row rfl _ (.tmp 3) rfl w.heap.size rfl 34 P (0, 0) _ (Whole.new w _ _) Tryd.underlying34 rfl (by rw [hsz]; exact info35) ?_) | ((with_reducible show wpList _ _ _ ((⟨_, Op.load 34 _, _, _, _, _⟩ : Oper) :: _) _ _); refine wpList_load_row rfl _ (.tmp 3) rfl w.heap.size rfl 34 P (0, 0) _ KW.out Tryd.underlying34 rfl (by rw [hsz]; exact info35) ?_) | (go_at_call 33; refine (rcheck_any HC.out).mono ?_; rintro e w1 ⟨rfl, hb1⟩; have HB1 := Lib.hid (below_box hb1); have KW := Lib.hid ((Whole.new w 34 P).below hb1 (by simp)); have k2 : w1.cell? ⟨w.heap.size, 2, none⟩ = some (.slice (some ⟨b, off, none⟩) n c) := (by rw [KW.out.cell]; exact c2); have HC1 := Lib.hid (show Mv w1 (fun b => b < w.heap.size) (.agg P) m from HM.out.old.below HB1.out (fun b _ h => h)); clear hb1) | (go_at_call 34; refine (rpart_any HC1.out HIN.out).mono ?_; rintro e w2 ⟨rfl, hb2⟩; have HB2 := Lib.hid (HB1.out.trans (hb2.mono HB1.out.size)); have KW2 := Lib.hid (KW.out.below hb2 KW.out.lt); have k3 : w2.cell? ⟨w.heap.size, 2, none⟩ = some (.slice (some ⟨b, off, none⟩) n c) := (by rw [KW2.out.cell]; exact c2); clear hb2; rw [HE.out.1, HE.out.2]))
      have rg1 : w2.drew.rangeAt b (off + k * 32) nd := range_below HRG.out HB2.out.drew hbl
      have k21 : w2.drew.cell? ⟨w.heap.size, 2, none⟩ = some (.slice (some ⟨b, off, none⟩) n c) := k3
      have HT1 := Lib.hid (show Txt w2.drew (fun b => b < w.heap.size) a0 n0 p0 l0 from HT.out.below HB2.out.drew (fun b _ h => h))
      have HBD := Lib.hid (show Below w.heap.size w w2.drew from HB2.out.drew)
      refine wp_region_held_drew (S := (fun w' => w'.cell? ⟨w.heap.size, 2, none⟩ = some (.slice (some ⟨b, off, none⟩) n c) ∧ w'.rangeAt b (off + k * 32) nd)) (by kernel_rfl) ⟨k21, rg1⟩ (fun hHeld => ?_)
      refine wpAnyH_take (i := 0) (v := .slice a0 n0 p0) rfl (by kernel_rfl) (by kernel_rfl) (by kernel_rfl) (fun _ _ _ h => h) (Or.inl ⟨by rfl, (by intro w hSw; (try dsimp only at hSw); go_simp)⟩) (by assumption) ?_
      try simp only [Act.put, List.getElem_toArray, List.getElem_cons_zero, List.getElem_cons_succ, List.setIfInBounds_toArray, List.set_cons_zero, List.set_cons_succ]
      refine wpAnyH_take (i := 1) (v := .int .i64 (n0 : Int)) rfl (by kernel_rfl) (by kernel_rfl) (by kernel_rfl) (fun _ _ _ h => h) (Or.inl ⟨by rfl, (by intro w hSw; (try dsimp only at hSw); go_simp)⟩) (by assumption) ?_
      try simp only [Act.put, List.getElem_toArray, List.getElem_cons_zero, List.getElem_cons_succ, List.setIfInBounds_toArray, List.set_cons_zero, List.set_cons_succ]
      refine wpAnyH_take (i := 2) (v := .int .i64 t) rfl (by kernel_rfl) (by kernel_rfl) (by kernel_rfl) (fun _ _ _ h => h) (Or.inl ⟨by rfl, (by intro w hSw; (try dsimp only at hSw); go_simp)⟩) (by assumption) ?_
      try simp only [Act.put, List.getElem_toArray, List.getElem_cons_zero, List.getElem_cons_succ, List.setIfInBounds_toArray, List.set_cons_zero, List.set_cons_succ]
      refine wpAnyH_take (i := 3) (v := .int .i64 f) rfl (by kernel_rfl) (by kernel_rfl) (by kernel_rfl) (fun _ _ _ h => h) (Or.inl ⟨by rfl, (by intro w hSw; (try dsimp only at hSw); go_simp)⟩) (by assumption) ?_
      try simp only [Act.put, List.getElem_toArray, List.getElem_cons_zero, List.getElem_cons_succ, List.setIfInBounds_toArray, List.set_cons_zero, List.set_cons_succ]
      refine wpAnyH_take (i := 4) (v := .int .i64 g) rfl (by kernel_rfl) (by kernel_rfl) (by kernel_rfl) (fun _ _ _ h => h) (Or.inl ⟨by rfl, (by intro w hSw; (try dsimp only at hSw); go_simp)⟩) (by assumption) ?_
      try simp only [Act.put, List.getElem_toArray, List.getElem_cons_zero, List.getElem_cons_succ, List.setIfInBounds_toArray, List.set_cons_zero, List.set_cons_succ]
      refine wpAnyH_take (i := 5) (v := .bool false) rfl (by kernel_rfl) (by kernel_rfl) (by kernel_rfl) (fun _ _ _ h => h) (Or.inl ⟨by rfl, (by intro w hSw; (try dsimp only at hSw); go_simp)⟩) (by assumption) ?_
      try simp only [Act.put, List.getElem_toArray, List.getElem_cons_zero, List.getElem_cons_succ, List.setIfInBounds_toArray, List.set_cons_zero, List.set_cons_succ]
      refine wpAnyH_take (i := 6) (v := .bool false) rfl (by kernel_rfl) (by kernel_rfl) (by kernel_rfl) (fun _ _ _ h => h) (Or.inl ⟨by rfl, (by intro w hSw; (try dsimp only at hSw); go_simp)⟩) (by assumption) ?_
      try simp only [Act.put, List.getElem_toArray, List.getElem_cons_zero, List.getElem_cons_succ, List.setIfInBounds_toArray, List.set_cons_zero, List.set_cons_succ]
      refine wpAnyH_take (i := 7) (v := .int .i64 (k : Int)) rfl (by kernel_rfl) (by kernel_rfl) (by kernel_rfl) (fun _ _ _ h => h) (Or.inl ⟨by rfl, (by intro w hSw; (try dsimp only at hSw); go_simp)⟩) (by assumption) ?_
      try simp only [Act.put, List.getElem_toArray, List.getElem_cons_zero, List.getElem_cons_succ, List.setIfInBounds_toArray, List.set_cons_zero, List.set_cons_succ]
      refine wpAnyH_take (i := 8) (v := .slice a0 n0 p0) rfl (by kernel_rfl) (by kernel_rfl) (by kernel_rfl) (fun _ _ _ h => h) (Or.inl ⟨by rfl, (by intro w hSw; (try dsimp only at hSw); go_simp)⟩) (by assumption) ?_
      try simp only [Act.put, List.getElem_toArray, List.getElem_cons_zero, List.getElem_cons_succ, List.setIfInBounds_toArray, List.set_cons_zero, List.set_cons_succ]
      refine wpAnyH_take (i := 10) (v := .pointer (some ⟨w.heap.size, 2, none⟩)) rfl (by kernel_rfl) (by kernel_rfl) (by kernel_rfl) (fun _ _ _ h => h) (Or.inl ⟨by rfl, (by intro w hSw; (try dsimp only at hSw); go_simp)⟩) (by assumption) ?_
      try simp only [Act.put, List.getElem_toArray, List.getElem_cons_zero, List.getElem_cons_succ, List.setIfInBounds_toArray, List.set_cons_zero, List.set_cons_succ]
      refine wpAnyH_take (i := 11) (v := .slice (some ⟨b, off, none⟩) n c) rfl (by kernel_rfl) (by kernel_rfl) (by kernel_rfl) (fun _ _ _ h => h) (Or.inl ⟨by rfl, (by intro w hSw; (try dsimp only at hSw); go_simp)⟩) (by assumption) ?_
      try simp only [Act.put, List.getElem_toArray, List.getElem_cons_zero, List.getElem_cons_succ, List.setIfInBounds_toArray, List.set_cons_zero, List.set_cons_succ]
      refine wpAnyH_take (i := 12) (v := .int .i64 (k : Int)) rfl (by kernel_rfl) (by kernel_rfl) (by kernel_rfl) (fun _ _ _ h => h) (Or.inl ⟨by rfl, (by intro w hSw; (try dsimp only at hSw); go_simp)⟩) (by assumption) ?_
      try simp only [Act.put, List.getElem_toArray, List.getElem_cons_zero, List.getElem_cons_succ, List.setIfInBounds_toArray, List.set_cons_zero, List.set_cons_succ]
      refine wpAnyH_take (i := 13) (v := .pointer (some ⟨b, off + k * 32, none⟩)) rfl (by kernel_rfl) (by kernel_rfl) (by kernel_rfl) (fun _ _ _ h => h) (Or.inl ⟨by rfl, (by intro w hSw; (try dsimp only at hSw); go_simp)⟩) (by assumption) ?_
      try simp only [Act.put, List.getElem_toArray, List.getElem_cons_zero, List.getElem_cons_succ, List.setIfInBounds_toArray, List.set_cons_zero, List.set_cons_succ]
      refine wpAnyH_take (i := 14) (v := .agg nd.toArray) rfl (by kernel_rfl) (by kernel_rfl) (by kernel_rfl) (fun _ _ _ h => h) (yieldsIf_load_mid (by rfl) _ _ rfl _ _ rfl _ _ (fun w hSw => hSw.2) hu rfl hi32) (by assumption) ?_
      try simp only [Act.put, List.getElem_toArray, List.getElem_cons_zero, List.getElem_cons_succ, List.setIfInBounds_toArray, List.set_cons_zero, List.set_cons_succ]
      refine wpAnyH_ready (rs := [9]) (by kernel_rfl) (by simp) (AllReadyH.cons rfl (fun K hK => ?_) AllReadyH.nil)
      try simp only [List.getElem_toArray, List.getElem_cons_zero, List.getElem_cons_succ]
      go_simp
      go_at_call 40
      refine (rcdig_any HT1.out (by omega) (by omega) hn0).mono ?_
      rintro e w3 ⟨rfl, hb2⟩
      have HB3 := Lib.hid (show Below w.heap.size w w3 from HBD.out.trans (hb2.mono HBD.out.size))
      have s2 : w3.cell? ⟨w.heap.size, 2, none⟩ = some (.slice (some ⟨b, off, none⟩) n c) := by rw [hb2.cell (p := ⟨w.heap.size, 2, none⟩) (by have := KW2.out.lt; exact this)]; exact k21
      have s3 : w3.rangeAt b (off + k * 32) nd := range_below HRG.out HB3.out hbl
      clear hb2
      refine hK.out _ _ ⟨s2, s3⟩ (fun hHeld => ?_)
      clear hK K
      try simp only [Act.put, List.getElem_toArray, List.getElem_cons_zero, List.getElem_cons_succ, List.setIfInBounds_toArray, List.set_cons_zero, List.set_cons_succ]
      refine wpAnyH_take (i := 15) (v := .bool (!r)) rfl (by kernel_rfl) (by kernel_rfl) (by kernel_rfl) (fun _ _ _ h => h) (Or.inl ⟨by rfl, (by intro w hSw; (try dsimp only at hSw); go_simp)⟩) (by assumption) ?_
      try simp only [Act.put, List.getElem_toArray, List.getElem_cons_zero, List.getElem_cons_succ, List.setIfInBounds_toArray, List.set_cons_zero, List.set_cons_succ]
      refine wpAnyH_take (i := 16) (v := .bool (!r)) rfl (by kernel_rfl) (by kernel_rfl) (by kernel_rfl) (fun _ _ _ h => h) (Or.inl ⟨by rfl, (by intro w hSw; (try dsimp only at hSw); go_simp)⟩) (by assumption) ?_
      try simp only [Act.put, List.getElem_toArray, List.getElem_cons_zero, List.getElem_cons_succ, List.setIfInBounds_toArray, List.set_cons_zero, List.set_cons_succ]
      refine wpAnyH_done (by kernel_rfl) ?_ _
      cases r
      · have HV3 := Lib.hid (show Mf.ver m k l0 = 51 from HV2.out)
        go_wp2
        go_ret
        exact ⟨ret_i64 HV3.out.symm, HB3.out⟩
      · have HV3 := Lib.hid (show Mf.ver m k l0 = 0 from HV2.out)
        go_wp2
        go_ret
        exact ⟨ret_i64 HV3.out.symm, HB3.out⟩
    · have d1 : ((n0 : Int) == g) = false := by simp [hlen]
      have d2 : ((n0 : Int) != g) = true := by simp [hlen]
      have HV : Hid (Mf.ver m i l0 = 51) := Lib.hid (by rw [HVI.out, if_pos (by rw [HL0.out]; exact hlen)])
      clear hlen
      go_enter Tryd.func30, Tryd.ntmps30
      go_wp2_with (first | ((with_reducible show wpList _ _ _ ((⟨_, Op.load 34 _, _, _, _, _⟩ : Oper) :: _) _ _); refine wpList_load_row rfl _ (.tmp 3) rfl w.heap.size rfl 34 P (0, 0) _ (Whole.new w _ _) Tryd.underlying34 rfl (by rw [hsz]; exact info35) ?_) | ((with_reducible show wpList _ _ _ ((⟨_, Op.load 34 _, _, _, _, _⟩ : Oper) :: _) _ _); refine wpList_load_row rfl _ (.tmp 3) rfl w.heap.size rfl 34 P (0, 0) _ KW.out Tryd.underlying34 rfl (by rw [hsz]; exact info35) ?_) | (go_at_call 33; refine (rcheck_any HC.out).mono ?_; rintro e w1 ⟨rfl, hb1⟩; have HB1 := Lib.hid (below_box hb1); have KW := Lib.hid ((Whole.new w 34 P).below hb1 (by simp)); have k2 : w1.cell? ⟨w.heap.size, 2, none⟩ = some (.slice a n c) := (by rw [KW.out.cell]; exact c2); have HC1 := Lib.hid (show Mv w1 (fun b => b < w.heap.size) (.agg P) m from HM.out.old.below HB1.out (fun b _ h => h)); clear hb1) | (go_at_call 34; refine (rpart_any HC1.out HIN.out).mono ?_; rintro e w2 ⟨rfl, hb2⟩; have HB2 := Lib.hid (HB1.out.trans (hb2.mono HB1.out.size)); have KW2 := Lib.hid (KW.out.below hb2 KW.out.lt); have k3 : w2.cell? ⟨w.heap.size, 2, none⟩ = some (.slice a n c) := (by rw [KW2.out.cell]; exact c2); clear hb2; rw [HE.out.1, HE.out.2]))
      go_region
      go_wp2
      go_ret
      exact ⟨ret_i64 HV.out.symm, HB2.out.drew⟩
end Go.Proofs.YtiogfkhmigbgpaaDoor
namespace Go.Proofs.YtiogfkhmigbgpaaDoor
set_option maxRecDepth 20000
set_option linter.unusedSimpArgs false
open Go.RowKit
theorem mcs_tail {s c : Int} {x : Value} {h : List Int} : ∀ j v, (nums h)[j]? = some v → (mcs s c x h).toArray[3 + j]? = some v := fun j v hv => by
  rw [List.getElem?_toArray, Nat.add_comm]; exact hv
theorem tail_range {w : World} {g : Nat} {t : TypeId} {P : Array Value} {nh : List Value} (h : Whole w g t P) (hc : ∀ j v, nh[j]? = some v → P[3 + j]? = some v) : w.rangeAt g 3 nh := fun j v hv => by
  rw [h.cell]; exact hc j v hv
theorem who_in {m : Mf.Man} {b : List Int} (h : ¬ m.bad) : Mf.who m b = if (b.length : Int) ≠ m.size then 51 else if Sm.dig b = m.wh then 0 else 51 := by
  unfold Mf.who
  rw [if_neg h]
  by_cases h1 : (b.length : Int) ≠ m.size
  · rw [if_pos (Or.inl h1), if_pos h1]
  · rw [if_neg h1]
    by_cases h2 : Sm.dig b = m.wh
    · rw [if_pos h2, if_neg (fun e => e.elim h1 (fun e => e h2))]
    · rw [if_neg h2, if_pos (Or.inr h2)]
theorem flat_one (l : List Int) : [l].flatten = l := by simp
set_option maxHeartbeats 4000000 in
theorem whole_any {w : World} {S S' : Nat → Prop} {v : Value} {m : Mf.Man} {a0 : Option Addr} {n0 p0 : Nat} {l0 : List Int} (h : Mv w S v m) (hb : Txt w S' a0 n0 p0 l0) (hn0 : n0 ≤ 800000) (hR : Roots w) :
    Calls Tryd.prog 22 #[v, .slice a0 n0 p0] w fun e w' => e = .returned (.int .i64 (Mf.who m l0)) ∧ Below w.heap.size w w' := by
  have HM := Lib.hid h
  have HT := Lib.hid hb.old
  have HL0 := Lib.hid hb.1
  have HR := Lib.hid hR
  obtain ⟨a, n, c, rfl, hnc, hd, hw, hs, hc⟩ := h
  have HWH := Lib.hid hw
  have hsz := msize (s := m.size) (c := m.chunk) (v := .slice a n c) hw.1
  have c0 : (mcs m.size m.chunk (.slice a n c) m.wh).toArray[0]? = some (.int .i64 m.size) := rfl
  have ct := Lib.hid (mcs_tail (s := m.size) (c := m.chunk) (x := .slice a n c) (h := m.wh))
  clear hd hw hs hc hnc hb hR
  generalize (mcs m.size m.chunk (.slice a n c) m.wh).toArray = P at *
  have HC := Lib.hid (show Mv (w.alloc (.cells P 34)) (fun b => b < w.heap.size) (.agg P) m from HM.out.old.keep (by simp) fun b hb _ => Below.heap_alloc _ _ _ hb)
  obtain ⟨sz, esz⟩ : ∃ sz, m.size = sz := ⟨_, rfl⟩
  rw [esz] at c0
  by_cases hbad : m.bad
  · have HV := Lib.hid (show Mf.who m l0 = 1 by unfold Mf.who; rw [if_pos hbad])
    have hk := Mf.chk_ne.2 hbad
    have d0 : (Mf.chk m == 0) = false := by simp [hk]
    clear hbad esz
    go_enter Tryd.func22, Tryd.ntmps22
    go_wp2_with (first | ((with_reducible show wpList _ _ _ ((⟨_, Op.load 34 _, _, _, _, _⟩ : Oper) :: _) _ _); refine wpList_load_row rfl _ (.tmp 2) rfl w.heap.size rfl 34 P (0, 0) _ (Whole.new w _ _) Tryd.underlying34 rfl (by rw [hsz]; exact info35) ?_) | (go_at_call 31; refine (check_any HC.out).mono ?_; rintro e w1 ⟨rfl, hb1⟩; have HB1 := Lib.hid (below_box hb1); have KW := Lib.hid ((Whole.new w 34 P).below hb1 (by simp)); have k0 : w1.cell? ⟨w.heap.size, 0, none⟩ = some (.int .i64 sz) := (by rw [KW.out.cell]; exact c0); clear hb1))
    go_ret
    exact ⟨ret_i64 HV.out.symm, HB1.out⟩
  · have hk := Mf.chk_zero hbad
    have d0 : (Mf.chk m == 0) = true := by simp [hk]
    have HVI := Lib.hid (who_in (b := l0) hbad)
    rw [esz] at HVI
    clear esz
    by_cases hlen : (n0 : Int) = sz
    · have d1 : ((n0 : Int) == sz) = true := by simp [hlen]
      have d2 : ((n0 : Int) != sz) = false := by simp [hlen]
      have HV : Hid (Mf.who m l0 = if Sm.dig l0 = m.wh then 0 else 51) := Lib.hid (by rw [HVI.out, if_neg (by rw [HL0.out]; omega)])
      have hnd : (nums m.wh).length = 32 := by rw [nums_len, HWH.out.1]
      have hi32 : (Tryd.prog.info? 32).map (·.size) = some (nums m.wh).length := by rw [hnd]; exact info32
      have hu := und32
      obtain ⟨r, hr⟩ : ∃ r, decide (Sm.dig l0 = m.wh) = r := ⟨_, rfl⟩
      have HQ : ∀ w : World, (Op.equalIn 10000 32 (.agg (nums (Sm.dig l0)).toArray) (.agg (nums m.wh).toArray)).run Tryd.prog w = .ok r w := fun w => by
        have h := equal32 9999 (fun a b w => run_equalIn_int w 9998 5 .u8 .u8 a b Tryd.underlying5) (Sm.dig l0) m.wh (dig_len l0) HWH.out.1 w
        rw [h, hr]
      have HV2 : Hid (Mf.who m l0 = if r then 0 else 51) := Lib.hid (by rw [HV.out, ← hr]; simp)
      clear hlen hr hnd HVI HV hbad
      generalize nums m.wh = nd at *
      go_enter Tryd.func22, Tryd.ntmps22
      go_wp2_with (first | ((with_reducible show wpList _ _ _ ((⟨_, Op.load 34 _, _, _, _, _⟩ : Oper) :: _) _ _); refine wpList_load_row rfl _ (.tmp 2) rfl w.heap.size rfl 34 P (0, 0) _ (Whole.new w _ _) Tryd.underlying34 rfl (by rw [hsz]; exact info35) ?_) | (go_at_call 31; refine (check_any HC.out).mono ?_; rintro e w1 ⟨rfl, hb1⟩; have HB1 := Lib.hid (below_box hb1); have KW := Lib.hid ((Whole.new w 34 P).below hb1 (by simp)); have k0 : w1.cell? ⟨w.heap.size, 0, none⟩ = some (.int .i64 sz) := (by rw [KW.out.cell]; exact c0); clear hb1))
      have hltB : w.heap.size < w1.heap.size := KW.out.lt
      have rg1 : w1.drew.rangeAt w.heap.size 3 nd := tail_range (show Whole w1.drew w.heap.size _ P from KW.out) ct.out
      have k01 : w1.drew.cell? ⟨w.heap.size, 0, none⟩ = some (.int .i64 sz) := k0
      have HT1 := Lib.hid (show Txt w1.drew (fun b => b < w.heap.size) a0 n0 p0 l0 from HT.out.below HB1.out.drew (fun b _ h => h))
      have HR1 := Lib.hid (show Roots w1.drew from HR.out.below HB1.out.drew HR.out.two)
      have HBD := Lib.hid (show Below w.heap.size w w1.drew from HB1.out.drew)
      have hltD : w.heap.size < w1.drew.heap.size := hltB
      refine wp_region_held_drew (S := (fun w' => w'.cell? ⟨w.heap.size, 0, none⟩ = some (.int .i64 sz) ∧ w'.rangeAt w.heap.size 3 nd)) (by kernel_rfl) ⟨k01, rg1⟩ (fun hHeld => ?_)
      refine wpAnyH_take (i := 0) (v := .slice a0 n0 p0) rfl (by kernel_rfl) (by kernel_rfl) (by kernel_rfl) (fun _ _ _ h => h) (Or.inl ⟨by rfl, (by intro w hSw; (try dsimp only at hSw); go_simp)⟩) (by assumption) ?_
      try simp only [Act.put, List.getElem_toArray, List.getElem_cons_zero, List.getElem_cons_succ, List.setIfInBounds_toArray, List.set_cons_zero, List.set_cons_succ]
      refine wpAnyH_take (i := 1) (v := .int .i64 (n0 : Int)) rfl (by kernel_rfl) (by kernel_rfl) (by kernel_rfl) (fun _ _ _ h => h) (Or.inl ⟨by rfl, (by intro w hSw; (try dsimp only at hSw); go_simp)⟩) (by assumption) ?_
      try simp only [Act.put, List.getElem_toArray, List.getElem_cons_zero, List.getElem_cons_succ, List.setIfInBounds_toArray, List.set_cons_zero, List.set_cons_succ]
      refine wpAnyH_take (i := 2) (v := .pointer (some ⟨w.heap.size, 0, none⟩)) rfl (by kernel_rfl) (by kernel_rfl) (by kernel_rfl) (fun _ _ _ h => h) (Or.inl ⟨by rfl, (by intro w hSw; (try dsimp only at hSw); go_simp)⟩) (by assumption) ?_
      try simp only [Act.put, List.getElem_toArray, List.getElem_cons_zero, List.getElem_cons_succ, List.setIfInBounds_toArray, List.set_cons_zero, List.set_cons_succ]
      refine wpAnyH_take (i := 3) (v := .int .i64 sz) rfl (by kernel_rfl) (by kernel_rfl) (by kernel_rfl) (fun _ _ _ h => h) (Or.inl ⟨by rfl, (by intro w hSw; (try dsimp only at hSw); go_simp)⟩) (by assumption) ?_
      try simp only [Act.put, List.getElem_toArray, List.getElem_cons_zero, List.getElem_cons_succ, List.setIfInBounds_toArray, List.set_cons_zero, List.set_cons_succ]
      refine wpAnyH_take (i := 4) (v := .bool false) rfl (by kernel_rfl) (by kernel_rfl) (by kernel_rfl) (fun _ _ _ h => h) (Or.inl ⟨by rfl, (by intro w hSw; (try dsimp only at hSw); go_simp)⟩) (by assumption) ?_
      try simp only [Act.put, List.getElem_toArray, List.getElem_cons_zero, List.getElem_cons_succ, List.setIfInBounds_toArray, List.set_cons_zero, List.set_cons_succ]
      refine wpAnyH_take (i := 5) (v := .bool false) rfl (by kernel_rfl) (by kernel_rfl) (by kernel_rfl) (fun _ _ _ h => h) (Or.inl ⟨by rfl, (by intro w hSw; (try dsimp only at hSw); go_simp)⟩) (by assumption) ?_
      try simp only [Act.put, List.getElem_toArray, List.getElem_cons_zero, List.getElem_cons_succ, List.setIfInBounds_toArray, List.set_cons_zero, List.set_cons_succ]
      refine wpAnyH_take (i := 6) (v := .slice a0 n0 p0) rfl (by kernel_rfl) (by kernel_rfl) (by kernel_rfl) (fun _ _ _ h => h) (Or.inl ⟨by rfl, (by intro w hSw; (try dsimp only at hSw); go_simp)⟩) (by assumption) ?_
      try simp only [Act.put, List.getElem_toArray, List.getElem_cons_zero, List.getElem_cons_succ, List.setIfInBounds_toArray, List.set_cons_zero, List.set_cons_succ]
      refine wpAnyH_take (i := 9) (v := .pointer (some ⟨w.heap.size, 3, none⟩)) rfl (by kernel_rfl) (by kernel_rfl) (by kernel_rfl) (fun _ _ _ h => h) (Or.inl ⟨by rfl, (by intro w hSw; (try dsimp only at hSw); go_simp)⟩) (by assumption) ?_
      try simp only [Act.put, List.getElem_toArray, List.getElem_cons_zero, List.getElem_cons_succ, List.setIfInBounds_toArray, List.set_cons_zero, List.set_cons_succ]
      refine wpAnyH_take (i := 10) (v := .agg nd.toArray) rfl (by kernel_rfl) (by kernel_rfl) (by kernel_rfl) (fun _ _ _ h => h) (yieldsIf_load_mid (by rfl) _ _ rfl _ _ rfl _ _ (fun w hSw => hSw.2) hu rfl hi32) (by assumption) ?_
      try simp only [Act.put, List.getElem_toArray, List.getElem_cons_zero, List.getElem_cons_succ, List.setIfInBounds_toArray, List.set_cons_zero, List.set_cons_succ]
      generalize w1.drew = wd at *
      refine wpAnyH_ready (rs := [7]) (by kernel_rfl) (by simp) (AllReadyH.cons rfl (fun K hK => ?_) AllReadyH.nil)
      try simp only [List.getElem_toArray, List.getElem_cons_zero, List.getElem_cons_succ]
      go_simp
      have q2 := Whole.new wd 35 #[.slice a0 n0 p0]
      have s2 : (wd.alloc (Obj.cells #[.slice a0 n0 p0] 35)).cell? ⟨w.heap.size, 0, none⟩ = some (.int .i64 sz) := by rw [(below_alloc wd _).cell (p := ⟨w.heap.size, 0, none⟩) hltD]; exact k01
      have s3 : (wd.alloc (Obj.cells #[.slice a0 n0 p0] 35)).rangeAt w.heap.size 3 nd := range_below rg1 (below_alloc wd _) hltD
      refine hK.out _ _ ⟨s2, s3⟩ (fun hHeld => ?_)
      clear hK K
      try simp only [Act.put, List.getElem_toArray, List.getElem_cons_zero, List.getElem_cons_succ, List.setIfInBounds_toArray, List.set_cons_zero, List.set_cons_succ]
      have HP2 := Lib.hid (parts_one (S := fun _ => True) q2 trivial ((HT1.out.below (below_alloc wd (Obj.cells #[.slice a0 n0 p0] 35)) (fun b _ h => by omega)).weak (fun _ _ _ => trivial)))
      have HB2 := Lib.hid (show Below w.heap.size w (wd.alloc (Obj.cells #[.slice a0 n0 p0] 35)) from HBD.out.alloc (Nat.le_of_lt hltD) _)
      have HR2 := Lib.hid (HR.out.below HB2.out HR.out.two)
      have hlt2 : w.heap.size < (wd.alloc (Obj.cells #[.slice a0 n0 p0] 35)).heap.size := by rw [size_alloc]; omega
      clear q2
      generalize wd.alloc (Obj.cells #[.slice a0 n0 p0] 35) = w2 at *
      refine wpAnyH_ready (rs := [8]) (by kernel_rfl) (by simp) (AllReadyH.cons rfl (fun K hK => ?_) AllReadyH.nil)
      try simp only [List.getElem_toArray, List.getElem_cons_zero, List.getElem_cons_succ]
      go_simp
      go_at_call 36
      refine (sum_any HP2.out HR2.out (by rw [flat_one, HL0.out]; omega) (by omega)).mono ?_
      rintro e w3 ⟨rfl, hb3⟩
      rw [flat_one]
      have HB3 := Lib.hid (show Below w.heap.size w w3 from HB2.out.trans (hb3.mono (Nat.le_of_lt hlt2)))
      have s4 : w3.cell? ⟨w.heap.size, 0, none⟩ = some (.int .i64 sz) := by rw [hb3.cell (p := ⟨w.heap.size, 0, none⟩) hlt2]; exact s2
      have s5 : w3.rangeAt w.heap.size 3 nd := range_below s3 hb3 hlt2
      clear hb3
      refine hK.out _ _ ⟨s4, s5⟩ (fun hHeld => ?_)
      clear hK K
      try simp only [Act.put, List.getElem_toArray, List.getElem_cons_zero, List.getElem_cons_succ, List.setIfInBounds_toArray, List.set_cons_zero, List.set_cons_succ]
      refine wpAnyH_take (i := 11) (v := .bool (!r)) rfl (by kernel_rfl) (by kernel_rfl) (by kernel_rfl) (fun _ _ _ h => h) (Or.inl ⟨by rfl, (by intro w hSw; (try dsimp only at hSw); go_simp)⟩) (by assumption) ?_
      try simp only [Act.put, List.getElem_toArray, List.getElem_cons_zero, List.getElem_cons_succ, List.setIfInBounds_toArray, List.set_cons_zero, List.set_cons_succ]
      refine wpAnyH_take (i := 12) (v := .bool (!r)) rfl (by kernel_rfl) (by kernel_rfl) (by kernel_rfl) (fun _ _ _ h => h) (Or.inl ⟨by rfl, (by intro w hSw; (try dsimp only at hSw); go_simp)⟩) (by assumption) ?_
      try simp only [Act.put, List.getElem_toArray, List.getElem_cons_zero, List.getElem_cons_succ, List.setIfInBounds_toArray, List.set_cons_zero, List.set_cons_succ]
      refine wpAnyH_done (by kernel_rfl) ?_ _
      cases r
      · have HV3 := Lib.hid (show Mf.who m l0 = 51 from HV2.out)
        go_wp2
        go_ret
        exact ⟨ret_i64 HV3.out.symm, HB3.out⟩
      · have HV3 := Lib.hid (show Mf.who m l0 = 0 from HV2.out)
        go_wp2
        go_ret
        exact ⟨ret_i64 HV3.out.symm, HB3.out⟩
    · have d1 : ((n0 : Int) == sz) = false := by simp [hlen]
      have d2 : ((n0 : Int) != sz) = true := by simp [hlen]
      have HV : Hid (Mf.who m l0 = 51) := Lib.hid (by rw [HVI.out, if_pos (by rw [HL0.out]; exact hlen)])
      clear hlen hbad
      go_enter Tryd.func22, Tryd.ntmps22
      go_wp2_with (first | ((with_reducible show wpList _ _ _ ((⟨_, Op.load 34 _, _, _, _, _⟩ : Oper) :: _) _ _); refine wpList_load_row rfl _ (.tmp 2) rfl w.heap.size rfl 34 P (0, 0) _ (Whole.new w _ _) Tryd.underlying34 rfl (by rw [hsz]; exact info35) ?_) | (go_at_call 31; refine (check_any HC.out).mono ?_; rintro e w1 ⟨rfl, hb1⟩; have HB1 := Lib.hid (below_box hb1); have KW := Lib.hid ((Whole.new w 34 P).below hb1 (by simp)); have k0 : w1.cell? ⟨w.heap.size, 0, none⟩ = some (.int .i64 sz) := (by rw [KW.out.cell]; exact c0); clear hb1))
      have k01 : w1.drew.cell? ⟨w.heap.size, 0, none⟩ = some (.int .i64 sz) := k0
      go_region
      go_wp2
      go_ret
      exact ⟨ret_i64 HV.out.symm, HB1.out.drew⟩
end Go.Proofs.YtiogfkhmigbgpaaDoor
namespace Go.Proofs.YtiogfkhmigbgpaaDoor
set_option maxRecDepth 20000
set_option linter.unusedSimpArgs false
open Go.RowKit
theorem dig_info : (Tryd.prog.info? 32).map (fun i => (i.zero, i.size, i.bytes)) = some (some (.agg (nums (zs 32)).toArray), 32, 32) := by kernel_rfl
theorem flat_idx {ds : List (List Int)} (h : ∀ d ∈ ds, Dig d) : ∀ k r : Nat, k < ds.length → r < 32 → (nums ds.flatten)[k * 32 + r]? = (nums (ds.getD k []))[r]? := by
  induction ds with
  | nil => intro k r hk; simp at hk
  | cons d ds ih =>
    intro k r hk hr
    have hd : (nums d).length = 32 := by rw [nums_len, (h d (by simp)).1]
    rw [List.flatten_cons, nums_append]
    cases k with
    | zero =>
      rw [List.getElem?_append_left (by omega), Nat.zero_mul, Nat.zero_add]
      rfl
    | succ k =>
      rw [List.getElem?_append_right (by omega), hd, show (k + 1) * 32 + r - 32 = k * 32 + r by omega]
      exact ih (fun x hx => h x (by simp [hx])) k r (by simpa using hk) hr
theorem flat_cells {w : World} {S : Nat → Prop} {ad : Addr} {n : Nat} {ds : List (List Int)} (h : Digs w S (some ad) n ds) : ∀ j u, (nums ds.flatten)[j]? = some u → w.cell? (ad.add j) = some u := by
  intro j u hu
  have hj : j < 32 * ds.length := by
    have := (List.getElem?_eq_some_iff.1 hu).1
    rw [nums_len, Mf.flatten_len h.2.1] at this; exact this
  have hk : j / 32 < ds.length := by omega
  obtain ⟨h1, h2, h3⟩ := h
  rcases h3 with h | ⟨b, off, e, _, _, hc⟩
  · subst h; simp at hk
  · injection e with e
    subst e
    have := hc (j / 32) (by omega) (j % 32) u (by rw [← flat_idx h2 _ _ hk (by omega), show j / 32 * 32 + j % 32 = j by omega]; exact hu)
    rw [Addr.add_lit]
    rw [Nat.add_assoc, show j / 32 * 32 + j % 32 = j by omega] at this
    exact this
/-- append of digests onto a row of the call's own. -/
theorem run_append_digs (w : World) (base : Nat) (ty : TypeId) (v : Value) (n : Nat) (xs : List Value) (hown : w.ownsRow base 32 32 v n xs) (S : Nat → Prop) (A : Option Addr) (m c : Nat) (ds : List (List Int)) (hr : Digs w S A m ds)
    (hn : n ≤ 100000) (hm : m ≤ 100000) (hbase : base ≤ w.heap.size) :
    ∃ v' w', (Builtin.append_ #[31, 31] ty #[v, .slice A m c]).run Tryd.prog w = .ok v' w' ∧ w'.ownsRow base 32 32 v' (n + m) (xs ++ nums ds.flatten) ∧ w.grownBy w' v.ownBlock ∧
      (v'.ownBlock = v.ownBlock ∨ v'.ownBlock = some w.heap.size) := by
  obtain ⟨i, hi, hz, hsize, hby⟩ := info_parts dig_info
  cases A with
  | none =>
    have hl : ds = [] := by
      rcases hr.2.2 with h | ⟨b, off, h, _⟩
      · exact h
      · cases h
    subst hl
    have hm0 : m = 0 := hr.1.symm
    subst hm0
    refine ⟨v, w, ?_, by simpa [nums] using hown, World.grownBy.refl w _, .inl rfl⟩
    rcases hown.2 with ⟨rfl, rfl⟩ | ⟨g, cap, cur, rfl, _, _, hnc, _⟩
    · simp [Builtin.append_, run_underlying Tryd.underlying31, sizeOf, typeInfo, hi, Builtin.lenOf, Builtin.firstCells]
    · simp [Builtin.append_, run_underlying Tryd.underlying31, sizeOf, typeInfo, hi, Builtin.lenOf, Builtin.firstCells, hnc, storeCells]
  | some ad =>
    obtain ⟨v', w', hrun, h2, h3, _, h5⟩ := run_append_own_at (P := Tryd.prog) w base 31 ty 32 i _ 32 32 Tryd.underlying31 hi hz hsize hby (by simp [Value.cells, nums_len, zs]) (by omega) v n xs hown ad m c (nums ds.flatten) (by rw [nums_len, Mf.flatten_len hr.2.1, hr.1, Nat.mul_comm]) (flat_cells hr) (nums_one _) (by unfold maxLen; omega) (by omega) hbase
    exact ⟨v', w', hrun, h2, h3, h5⟩
theorem wp_append_digs (w : World) {o : Oper} {a : Act} {K : Act → World → Prop} {Q : Exit → Act → World → Prop} (s x : Operand)
    (ho : o.op = .call { callee := .builtin .append, args := #[s, x], argTypes := #[31, 31] })
    (base : Nat) (v : Value) (n : Nat) (xs : List Value) (hs : a.eval s = v) (hown : w.ownsRow base 32 32 v n xs)
    (S : Nat → Prop) (A : Option Addr) (m c : Nat) (ds : List (List Int)) (hx : a.eval x = .slice A m c) (hr : Digs w S A m ds)
    (hn : n ≤ 100000) (hm : m ≤ 100000) (hbase : base ≤ w.heap.size)
    (h : ∀ v' w', w'.ownsRow base 32 32 v' (n + m) (xs ++ nums ds.flatten) → w.grownBy w' v.ownBlock → (v'.ownBlock = v.ownBlock ∨ v'.ownBlock = some w.heap.size) → K (a.put o.dst v') w') : o.wp Tryd.prog a w K Q := by
  obtain ⟨v', w', hrun, h2, h3, h4⟩ := run_append_digs w base o.type v n xs hown S A m c ds hr hn hm hbase
  unfold Oper.wp execOp
  simp only [ho, resolve, invoke, builtin, Sem.run_bind, Sem.run_pure, Result.andThen_ok, List.map_toArray, List.map_cons, List.map_nil, hs, hx, hrun]
  exact h v' w' h2 h3 h4
theorem wpList_append_digs (w : World) {ops : Array Oper} {rest : List Oper} {o : Oper} {a : Act} {Q : Exit → Act → World → Prop} (hgd : o.guard = none) (s x : Operand)
    (ho : o.op = .call { callee := .builtin .append, args := #[s, x], argTypes := #[31, 31] })
    (base : Nat) (v : Value) (n : Nat) (xs : List Value) (hs : a.eval s = v) (hown : w.ownsRow base 32 32 v n xs)
    (S : Nat → Prop) (A : Option Addr) (m c : Nat) (ds : List (List Int)) (hx : a.eval x = .slice A m c) (hr : Digs w S A m ds)
    (hn : n ≤ 100000) (hm : m ≤ 100000) (hbase : base ≤ w.heap.size)
    (h : ∀ v' w', w'.ownsRow base 32 32 v' (n + m) (xs ++ nums ds.flatten) → w.grownBy w' v.ownBlock → (v'.ownBlock = v.ownBlock ∨ v'.ownBlock = some w.heap.size) → wpList Tryd.prog ops Q rest (a.put o.dst v') w') : wpList Tryd.prog ops Q (o :: rest) a w :=
  wpList_plain hgd fun _ hK => wp_append_digs w s x ho base v n xs hs hown S A m c ds hx hr hn hm hbase fun v' w' h2 h3 h4 => hK _ _ (h v' w' h2 h3 h4)
/-- A slice that is built of one digest. -/
theorem wp_buildD {o : Oper} {a : Act} {w : World} {K : Act → World → Prop} {Q : Exit → Act → World → Prop} (ix : Nat) (ho : o.op = .buildSlice 31 1 #[(0, .tmp ix)]) (d : List Int) (hd : d.length = 32)
    (hev : a.eval (.tmp ix) = .agg (nums d).toArray) (h : K (a.put o.dst (.slice (some ⟨w.heap.size, 0, none⟩) 1 1)) (w.alloc (.cells (nums d).toArray 32))) : o.wp Tryd.prog a w K Q := by
  obtain ⟨i, hi, hz, hsize, hby⟩ := info_parts dig_info
  refine wp_buildSlice 31 32 1 #[(0, .tmp ix)] ho (nums d).toArray i _ Tryd.underlying31 hi hz (by rw [hsize]; decide) (by rw [hsize]; decide) ?_ h
  rw [hsize]
  have e1 : ((#[(0, Operand.tmp ix)] : Array (Nat × Operand)).map fun (i, x) => (i, a.eval x)).toList = (([Value.agg (nums d).toArray] : List Value).zipIdx 0).map fun x => (x.2, x.1) := by
    simp only [List.map_toArray, List.map_cons, List.map_nil, hev]
    rfl
  rw [e1]
  have h := Go.Great.fill_whole (s := 32) (by omega) [Value.agg (nums d).toArray] ((Array.range (1 * 32)).map ((Value.agg (nums (zs 32)).toArray).cells[· % (Value.agg (nums (zs 32)).toArray).cells.size]!)) (by intro v hv; simp at hv; subst hv; simp [Value.cells, nums_len, hd]) (by simp)
  refine h.trans ?_
  simp [Value.cells]
theorem wpList_buildD {ops : Array Oper} {rest : List Oper} {o : Oper} {a : Act} {w : World} {Q : Exit → Act → World → Prop} (hg : o.guard = none) (ix : Nat) (ho : o.op = .buildSlice 31 1 #[(0, .tmp ix)]) (d : List Int) (hd : d.length = 32)
    (hev : a.eval (.tmp ix) = .agg (nums d).toArray) (h : wpList Tryd.prog ops Q rest (a.put o.dst (.slice (some ⟨w.heap.size, 0, none⟩) 1 1)) (w.alloc (.cells (nums d).toArray 32))) : wpList Tryd.prog ops Q (o :: rest) a w :=
  wpList_plain hg fun _ hK => wp_buildD ix ho d hd hev (hK _ _ h)
theorem digs_one {w : World} {S : Nat → Prop} {g : Nat} {T : TypeId} {d : List Int} (h : Whole w g T (nums d).toArray) (hS : S g) (hd : Dig d) : Digs w S (some ⟨g, 0, none⟩) 1 [d] := by
  refine ⟨rfl, fun x hx => by simp at hx; subst hx; exact hd, Or.inr ⟨g, 0, rfl, hS, h.lt, fun k hk j v hv => ?_⟩⟩
  have : k = 0 := by omega
  subst this
  rw [h.cell, List.getElem?_toArray]
  simpa using hv
/-- A row of digests of the call's own, as a slice. -/
theorem own_digs {w : World} {base : Nat} {v : Value} {n : Nat} {ds : List (List Int)} (h : w.ownsRow base 32 32 v n (nums ds.flatten)) (hd : ∀ d ∈ ds, Dig d) (hl : ds.length = n) :
    ∃ a c, v = .slice a n c ∧ n ≤ c ∧ Digs w (base ≤ ·) a n ds := by
  by_cases h0 : n = 0
  · have hnil : ds = [] := List.eq_nil_of_length_eq_zero (by omega)
    subst h0 hnil
    rcases h.2 with ⟨rfl, _⟩ | ⟨g, cap, cur, rfl, _, _, _, _⟩
    · exact ⟨_, _, rfl, Nat.zero_le _, Digs.nil _ _ _⟩
    · exact ⟨_, _, rfl, Nat.zero_le _, Digs.nil _ _ _⟩
  · obtain ⟨g, cap, rfl, hb', hlt⟩ := h.form (by omega)
    have hcap : n ≤ cap := by
      rcases h.2 with ⟨h', _⟩ | ⟨g', cap', cur, h', _, _, hnc, _⟩
      · simp at h'
      · simp only [Value.slice.injEq] at h'
        omega
    refine ⟨_, _, rfl, hcap, hl, hd, Or.inr ⟨g, 0, rfl, hb', hlt, fun k hk j u hu => ?_⟩⟩
    have hj : j < 32 := by
      have h1 := (List.getElem?_eq_some_iff.1 hu).1
      have hdk : (ds.getD k []).length = 32 := by
        have : ds.getD k [] = ds[k]'(by omega) := by simp [hl, hk]
        rw [this]; exact (hd _ (List.getElem_mem _)).1
      rw [nums_len, hdk] at h1; exact h1
    rw [Nat.zero_add, h.cellAt _ (by omega), flat_idx hd k j (by omega) hj]
    exact hu
end Go.Proofs.YtiogfkhmigbgpaaDoor
