/-
  The walk of the statement ShaKeys.
-/
import Derived.Test.YtndiojiphoomgaaDoorHv
import Derived.Deep.DeepCutAuto
namespace Go.Proofs.YtndiojiphoomgaaDoor
open Go.RowKit
theorem kb_kb (l : List Int) : Sm.kb (Sm.kb l) = Sm.kb l := by
  have h : ∀ m : List Int, m.length = 64 → Sm.kb m = m := fun m hm => by
    unfold Sm.kb
    rw [if_neg (by omega), hm]
    simp
  exact h _ (kb_len l)
theorem code_kb (l t : List Int) : Sm.code (Sm.kb l) t = Sm.code l t := by unfold Sm.code; rw [kb_kb]
def klen (l : List Int) : Nat := if 64 < l.length then 32 else l.length
theorem kb_zero (l : List Int) (m : Nat) (h : klen l ≤ m) (hm : m < 64) : (Sm.kb l).take (m + 1) = (Sm.kb l).take m ++ [0] := by
  have hl : m < (Sm.kb l).length := by rw [kb_len]; exact hm
  rw [List.take_succ_eq_append_getElem hl]
  congr 2
  have : (Sm.kb l)[m]? = some 0 := by
    unfold Sm.kb
    unfold klen at h
    split
    · rename_i h64
      rw [if_pos h64] at h
      rw [List.getElem?_append_right (by rw [dig_len]; omega), dig_len, List.getElem?_replicate, if_pos (by omega)]
    · rename_i h64
      rw [if_neg h64] at h
      rw [List.getElem?_append_right (by omega), List.getElem?_replicate, if_pos (by omega)]
  rw [List.getElem?_eq_getElem hl] at this
  injection this
theorem kb_start (l : List Int) : (Sm.kb l).take (klen l) = if 64 < l.length then Sm.dig l else l := by
  unfold Sm.kb klen
  split
  · rw [List.take_append_of_le_length (by rw [dig_len]; omega), List.take_of_length_le (by rw [dig_len]; omega)]
  · rw [List.take_left]
theorem own_form {w : World} {base e size n : Nat} {v : Value} {xs : List Value} (h : w.ownsRow base e size v n xs) : ∃ q cap, v = .slice q n cap := by
  rcases h.2 with ⟨rfl, h0⟩ | ⟨g', cap, _, rfl, _⟩
  · exact ⟨_, _, by rw [h0]⟩
  · exact ⟨_, _, rfl⟩
set_option linter.unusedSimpArgs false in
set_option maxHeartbeats 4000000 in
theorem keys_walk (a0 : Option Addr) (n0 c0 : Nat) (l0 : List Int) (a1 : Option Addr) (n1 c1 : Nat) (l1 : List Int) (w : World) (hR : Roots w) (h0 : Txt w (· < w.heap.size) a0 n0 c0 l0) (h1 : Txt w (· < w.heap.size) a1 n1 c1 l1) :
    Calls Tryd.prog 6 #[.slice a0 n0 c0, .slice a1 n1 c1] w fun e w' => e = .returned (.bool true) ∧ Below w.heap.size w w' := by
  obtain ⟨i0, hi0, hz0, hz1, hz2⟩ := info_parts u8_info
  have HI := Lib.hid (And.intro hi0 (And.intro hz0 (And.intro hz1 hz2)))
  clear hi0 hz0 hz1 hz2
  have H0 := Lib.hid h0
  have H1 := Lib.hid h1
  have HR := Lib.hid hR
  have hB2 := hR.two
  clear h0 h1 hR
  by_cases g0 : 500 < n0
  · have d0 : decide ((500 : Int) < (n0 : Int)) = true := by simp; omega
    go_enter Tryd.func6, Tryd.ntmps6
    go_wp2_with (go_at_call 9; refine (awake_any _ HR.out).mono ?_; rintro e w' ⟨rfl, hb⟩; have HB := Lib.hid hb; clear hb)
    go_ret
    exact ⟨rfl, HB.out⟩
  have d0 : decide ((500 : Int) < (n0 : Int)) = false := by simp; omega
  by_cases g1 : 500 < n1
  · have d1 : decide ((500 : Int) < (n1 : Int)) = true := by simp; omega
    go_enter Tryd.func6, Tryd.ntmps6
    go_wp2_with (go_at_call 9; refine (awake_any _ HR.out).mono ?_; rintro e w' ⟨rfl, hb⟩; have HB := Lib.hid hb; clear hb)
    go_ret
    exact ⟨rfl, HB.out⟩
  have d1 : decide ((500 : Int) < (n1 : Int)) = false := by simp; omega
  go_enter Tryd.func6, Tryd.ntmps6
  go_upto_region 4 with (go_at_call 9; refine (awake_any _ HR.out).mono ?_; rintro e w1 ⟨rfl, hb⟩; have HB := Lib.hid hb; clear hb)
  have HT1 := Lib.hid (H0.out.below HB.out (fun b _ h => h))
  have s1 := HB.out.size
  generalize hBe : w.heap.size = B at *
  have HBE := Lib.hid hBe
  clear hBe
  go_upto_region 5 with (at_builtin; refine wpList_append_txt _ rfl (.tmp 18) (.tmp 19) 22 rfl B 5 i0 (.int .u8 0) 1 Tryd.underlying22 HI.out.1 HI.out.2.1 HI.out.2.2.1 HI.out.2.2.2 rfl _ 0 [] rfl ?c1 (· < B) a0 n0 c0 l0 rfl ?c2 ?c3 ?c4 ?c5 ?_)
  case c1 => exact World.ownsRow_lit w1 #[] 0 s1 (by unfold maxLen; omega) rfl
  case c2 => exact HT1.out.keep (by simp) fun b hb _ => Below.heap_alloc _ _ _ hb
  case c3 => unfold maxLen; omega
  case c4 => omega
  case c5 => simp; omega
  intro v' w2 hown hg _
  have HO := Lib.hid hown
  have HB2 : Hid (Below B w w2) := Lib.hid ((HB.out.alloc s1 _).grown hg (by simp; omega) (fun k hk => by simp [Value.ownBlock] at hk; omega))
  clear hown hg
  obtain ⟨q6, cap6, rfl⟩ : ∃ q cap, v' = .slice q n0 cap := own_form HO.out
  go_upto_if 23 with (fail)
  have s2 : B ≤ w2.heap.size := Nat.le_trans (by rw [← HBE.out]; exact Nat.le_refl _) HB2.out.size
  go_cut [6] (fun v wr => ∃ m, klen l0 ≤ m ∧ m ≤ 64 ∧ Hid (wr.ownsRow B 5 1 v m (nums ((Sm.kb l0).take m)) ∧ Below B w wr))
  case first =>
    by_cases hgt : 64 < n0
    · have e : Hid (klen l0 = 32 ∧ (Sm.kb l0).take 32 = Sm.dig l0) := Lib.hid (by
        have hh : 64 < l0.length := by rw [H0.out.1]; exact hgt
        have h1 : klen l0 = 32 := by unfold klen; rw [if_pos hh]
        have h2 := kb_start l0
        rw [h1, if_pos hh] at h2
        exact ⟨h1, h2⟩)
      have hd : decide ((64 : Int) < (n0 : Int)) = true := by simp; omega
      go_wp2_with fail
      have q3 := Whole.new w2 22 #[.slice a0 n0 c0]
      have b3 := HB2.out.alloc s2 (.cells #[.slice a0 n0 c0] 22)
      generalize w2.alloc (.cells #[.slice a0 n0 c0] 22) = w3 at *
      generalize w2.heap.size = P at *
      have hp := parts_one (S := fun _ => True) q3 trivial ((H0.out.below b3 (fun b _ h => h)).weak (fun _ _ _ => trivial))
      refine (sum_any hp (HR.out.below b3 (by omega)) (by simp; rw [H0.out.1]; omega) (by omega)).mono ?_
      rintro e w4 ⟨rfl, hb4⟩
      rw [show [l0].flatten = l0 by simp]
      have HB4 : Hid (Below B w w4) := Lib.hid (b3.trans (hb4.mono (by have := q3.lt; omega)))
      have s4 : B ≤ w4.heap.size := Nat.le_trans (by have := q3.lt; omega) hb4.size
      have HDG := Lib.hid (dig_ok l0)
      clear q3 b3 hp hb4
      have hNa := all_nums (Sm.dig l0)
      have HNS := Lib.hid (row_size HDG.out)
      go_wp2_with (first
        | ((with_reducible show wpList _ _ _ ((⟨_, Op.store 24 _ _, _, _, _, _⟩ : Oper) :: _) _ _); refine wpList_store_row rfl _ (.tmp 7) (.tmp 26) rfl w4.heap.size _ rfl rfl 24 _ (Whole.new _ _ _) (by rw [HNS.out]; exact info32) (by rw [HNS.out]; rfl) hNa ?_)
        | (at_builtin; refine wpList_append_txt _ rfl (.tmp 27) (.tmp 28) 22 rfl B 5 i0 (.int .u8 0) 1 Tryd.underlying22 HI.out.1 HI.out.2.1 HI.out.2.2.1 HI.out.2.2.2 rfl _ 0 [] rfl ?g1 (fun _ => True) (some ⟨w4.heap.size, 0, none⟩) 32 32 (Sm.dig l0) rfl ?g2 ?g3 ?g4 ?g5 ?_))
      case g1 =>
        have h := World.ownsRow_lit (base := B) (e := 5) (size := 1) ((w4.alloc (.cells #[Value.int IntKind.u8 0, Value.int IntKind.u8 0, Value.int IntKind.u8 0, Value.int IntKind.u8 0, Value.int IntKind.u8 0, Value.int IntKind.u8 0, Value.int IntKind.u8 0, Value.int IntKind.u8 0, Value.int IntKind.u8 0, Value.int IntKind.u8 0, Value.int IntKind.u8 0, Value.int IntKind.u8 0, Value.int IntKind.u8 0, Value.int IntKind.u8 0, Value.int IntKind.u8 0, Value.int IntKind.u8 0, Value.int IntKind.u8 0, Value.int IntKind.u8 0, Value.int IntKind.u8 0, Value.int IntKind.u8 0, Value.int IntKind.u8 0, Value.int IntKind.u8 0, Value.int IntKind.u8 0, Value.int IntKind.u8 0, Value.int IntKind.u8 0, Value.int IntKind.u8 0, Value.int IntKind.u8 0, Value.int IntKind.u8 0, Value.int IntKind.u8 0, Value.int IntKind.u8 0, Value.int IntKind.u8 0, Value.int IntKind.u8 0] 24)).setRow w4.heap.size (nums (Sm.dig l0)).toArray) #[] 0 (by rw [put_size]; omega) (by unfold maxLen; omega) rfl
        first | exact h | (rw [put_size] at h; exact h)
      case g2 => exact txt_dig ((put_row (w := w4)).alloc _) HDG.out
      case g3 => unfold maxLen; omega
      case g4 => omega
      case g5 => rw [size_alloc, put_size]; omega
      intro v5 w5 hown hg _
      have HO5 := Lib.hid hown
      have HB5 : Hid (Below B w w5) := Lib.hid (((put_below HB4.out s4).alloc (by rw [put_size]; omega) _).grown hg (by rw [size_alloc, put_size]; omega) (fun k hk => by simp [Value.ownBlock, put_size] at hk; omega))
      clear hown hg
      obtain ⟨q5, cap5, rfl⟩ := own_form HO5.out
      go_wp2_with fail
      go_meet
      exact ⟨32, by rw [e.out.1]; exact Nat.le_refl _, by omega, Lib.hid ⟨by rw [e.out.2]; simpa using HO5.out, HB5.out⟩⟩
    · have e : Hid (klen l0 = n0 ∧ (Sm.kb l0).take n0 = l0) := Lib.hid (by
        have hh : ¬ 64 < l0.length := by rw [H0.out.1]; exact hgt
        have h1 : klen l0 = n0 := by unfold klen; rw [if_neg hh]; exact H0.out.1
        have h2 := kb_start l0
        rw [h1, if_neg hh] at h2
        exact ⟨h1, h2⟩)
      have hd : decide ((64 : Int) < (n0 : Int)) = false := by simp; omega
      go_wp2_with fail
      go_meet
      exact ⟨n0, by rw [e.out.1]; exact Nat.le_refl _, by omega, Lib.hid ⟨by rw [e.out.2]; exact HO.out, HB2.out⟩⟩
  case rest =>
    obtain ⟨m, hm1, hm2, HM⟩ := hcut
    obtain ⟨q6', cap6', rfl⟩ := own_form HM.out.1
    clear HO HB2 HT1 HB s1 s2
    go_wp2
    go_loopw [6] (fun v wr => ∃ m, klen l0 ≤ m ∧ m ≤ 64 ∧ ∃ q cap, v = .slice q m cap ∧ Hid (wr.ownsRow B 5 1 (.slice q m cap) m (nums ((Sm.kb l0).take m)) ∧ Below B w wr)) (fun v _ => match v with | .slice _ m _ => 64 - m | _ => 0)
    case atStart => exact ⟨m, hm1, hm2, q6', cap6', rfl, HM⟩
    case round =>
      clear HM hm1 hm2
      obtain ⟨j, hj1, hj2, q, cap, rfl, HJ⟩ := hrel
      have sj : B ≤ wr.heap.size := Nat.le_trans (by rw [HBE.out]; exact Nat.le_refl _) HJ.out.2.size
      by_cases hlt : j < 64
      · have hd : decide ((j : Int) < 64) = true := by simp; omega
        have hz := Whole.new wr 5 #[.int .u8 0]
        have HZ : Hid (Txt (wr.alloc (.cells #[.int .u8 0] 5)) (fun _ => True) (some ⟨wr.heap.size, 0, none⟩) 1 1 [0]) := Lib.hid (txt_of_whole (fun _ => True) trivial (l := [0]) hz (byt_cons (by omega) (by omega) byt_nil) 1 1 (by simp) (by omega))
        clear hz
        go_wp2_with (at_builtin; refine wpList_append_txt _ rfl (.tmp 33) (.tmp 34) 22 rfl B 5 i0 (.int .u8 0) 1 Tryd.underlying22 HI.out.1 HI.out.2.1 HI.out.2.2.1 HI.out.2.2.2 rfl _ j (nums ((Sm.kb l0).take j)) rfl ?g1 (fun _ => True) (some ⟨wr.heap.size, 0, none⟩) 1 1 [0] rfl HZ.out ?g3 ?g4 ?g5 ?_)
        case g1 => exact HJ.out.1.alloc _
        case g3 => unfold maxLen; omega
        case g4 => omega
        case g5 => simp; omega
        intro v5 w5 hown hg _
        have HO5 := Lib.hid hown
        have HB5 : Hid (Below B w w5) := Lib.hid ((HJ.out.2.alloc sj _).grown hg (by simp; omega) (fun k hk => (HJ.out.1.lt k hk).1))
        clear hown hg
        obtain ⟨q5, cap5, rfl⟩ := own_form HO5.out
        go_wp2
        go_roundw
        case rel =>
          refine ⟨j + 1, by omega, by omega, q5, cap5, rfl, Lib.hid ⟨?_, HB5.out⟩⟩
          rw [kb_zero l0 j hj1 hlt, nums_append]
          exact HO5.out
        case measure => simp; omega
      · have hd : decide ((j : Int) < 64) = false := by simp; omega
        have hj : j = 64 := by omega
        have hown := HJ.out.1
        rw [hj, List.take_of_length_le (by rw [kb_len]; omega)] at hown
        obtain ⟨a, c, ev, htx⟩ := Txt.own hown (byt_kb H0.out.2.2.1)
        injection ev with e1 _ e3
        rw [← e1, ← e3, ← hj] at htx
        have HTX := Lib.hid htx
        have HBJ := Lib.hid HJ.out.2
        have HJJ := Lib.hid hj
        clear hj hown htx HJ e1 e3
        have hcd := code_kb l0 l1
        have hcl := dig_ok (Sm.chg 92 (Sm.kb l0) ++ Sm.dig (Sm.chg 54 (Sm.kb l0) ++ l1))
        rw [show Sm.dig (Sm.chg 92 (Sm.kb l0) ++ Sm.dig (Sm.chg 54 (Sm.kb l0) ++ l1)) = Sm.code l0 l1 from rfl] at hcl
        have HCD := Lib.hid hcd
        have HCL := Lib.hid hcl
        clear hcd hcl
        go_wp2_with fail
        refine (code_any HTX.out (H1.out.below HBJ.out (fun b _ h => h)) (HR.out.below HBJ.out (by omega)) (by omega) (by omega)).mono ?_
        rintro e w5 ⟨rfl, hb⟩
        have HB5 : Hid (Below B w w5) := Lib.hid (HBJ.out.trans (hb.mono (by omega)))
        clear hb
        rw [HCD.out]
        have hq : ∀ w : World, (Op.equalIn 10000 24 (.agg (nums (Sm.code l0 l1)).toArray) (.agg (nums (Sm.code l0 l1)).toArray)).run Tryd.prog w = .ok true w := fun w => by
          have h := equal32 9999 (fun a b w => run_equalIn_int w 9998 5 .u8 .u8 a b Tryd.underlying5) (Sm.code l0 l1) (Sm.code l0 l1) HCL.out.1 HCL.out.1 w
          rw [h, decide_eq_true rfl]
        go_wp2_with fail
        refine (code_any (H0.out.below HB5.out (fun b _ h => h)) (H1.out.below HB5.out (fun b _ h => h)) (HR.out.below HB5.out (by omega)) (by omega) (by omega)).mono ?_
        rintro e w6 ⟨rfl, hb⟩
        have HB6 : Hid (Below B w w6) := Lib.hid (HB5.out.trans (hb.mono (by have := HB5.out.size; rw [HBE.out] at this; exact this)))
        clear hb
        with_reducible generalize Sm.code l0 l1 = res at *
        go_wp2
        go_ret
        exact ⟨rfl, by rw [HBE.out]; exact HB6.out⟩
end Go.Proofs.YtndiojiphoomgaaDoor
