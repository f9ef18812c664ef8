/-
  The walks of the document's Aborted, Next, Best.
-/
import Derived.Test.YtdfmfjahnnifnaaFf
namespace Go.Proofs.Ytdfmfjahnnifnaa
set_option maxRecDepth 20000
set_option linter.unusedSimpArgs false
set_option linter.unusedVariables false
open Go.RowKit
theorem ret_iF {a b : Int} (h : a = b) : Ending.returned (.int .i64 a) = .returned (.int .i64 b) := by rw [h]
set_option maxHeartbeats 2000000 in
theorem raborted_any {w : World} {S D : Nat → Prop} {a : Option Addr} {n c : Nat} {R : List Fm} (h : Fts w S D a n R) (hn : n ≤ 100000) (e m : Int) :
    Calls Try.prog 24 #[.slice a n c, .int .i64 e, .int .i64 m] w fun r w' => r = .returned (.bool (decide (La.aborted (FS R) e m))) ∧ Below w.heap.size w w' := by
  have H := Lib.hid h
  clear h
  go_enter Try.func24, Try.ntmps24
  go_wp2_with fail
  refine (rwho_any H.out hn 3 e).mono ?_
  rintro x w2 ⟨q, k, cap, hk, rfl, hown, hb⟩
  have HB := Lib.hid hb
  have HK : Hid (decide (La.aborted (FS R) e m) = decide (m ≤ (k : Int))) := Lib.hid (by rw [hk]; rfl)
  clear hb hown hk
  by_cases z : m ≤ (k : Int)
  · have HZ := Lib.hid (decide_eq_true z)
    go_wp2
    go_ret
    exact ⟨ret_bool (by rw [HK.out, HZ.out]), HB.out⟩
  · have HZ := Lib.hid (decide_eq_false z)
    go_wp2
    go_ret
    exact ⟨ret_bool (by rw [HK.out, HZ.out]), HB.out⟩
theorem next_snoc (l : List Ft.Fact) {j : Nat} (h : j < l.length) : La.next (l.take (j + 1)) = La.nextStep (La.next (l.take j)) (l.getD j Ft.nought) := by
  rw [take_snocF l h]
  unfold La.next
  rw [List.foldl_append]
  rfl
theorem best_snoc (L l : List Ft.Fact) (m : Int) {j : Nat} (h : j < l.length) : (l.take (j + 1)).foldl (La.bestStep L m) 0 = La.bestStep L m ((l.take j).foldl (La.bestStep L m) 0) (l.getD j Ft.nought) := by
  rw [take_snocF l h, List.foldl_append]
  rfl
theorem ofK_in {e : Int} (h : In64 e) : 0 ≤ Ft.ofK e ∧ Ft.ofK e < 1152921504606846976 := by
  unfold Ft.ofK In64 at *
  split
  · rename_i h'
    unfold Ft.isEp at h'
    omega
  · omega
set_option maxHeartbeats 2000000 in
theorem rnext_any {w : World} {S D : Nat → Prop} {a : Option Addr} {n c : Nat} {R : List Fm} (h : Fts w S D a n R) (hn : n ≤ 1000000) :
    Calls Try.prog 28 #[.slice a n c] w fun r w' => r = .returned (.int .i64 (La.next (FS R))) ∧ w = w' := by
  have H := Lib.hid h
  have HLN := Lib.hid (show (FS R).length = n by rw [FS_len, h.1])
  clear h
  go_enter Try.func28, Try.ntmps28
  go_wp2
  go_loopw [3, 4, 5, 6] (fun v i _ _ wr => ∃ (j : Nat) (o : Int), j ≤ n ∧ v = .int .i64 o ∧ i = .int .i64 (j : Int) ∧ Hid (La.next ((FS R).take j) = o) ∧ 1 ≤ o ∧ o ≤ 1152921504606846976 ∧ wr = w) (fun _ i _ _ _ => n - (intOf i).toNat)
  case atStart => exact ⟨0, 1, Nat.zero_le _, rfl, rfl, Lib.hid rfl, by omega, by omega, rfl⟩
  case round =>
    obtain ⟨j, o, hj, rfl, rfl, HO, ho1, ho2, rfl⟩ := hrel
    by_cases hlt : j < n
    · obtain ⟨b, off, rfl, _, _, hrg, hrw⟩ := H.out.at_ hlt
      have hs := next_snoc (FS R) (j := j) (by rw [HLN.out]; exact hlt)
      rw [FS_get, HO.out] at hs
      obtain ⟨x, hx⟩ : ∃ x, R.getD j d0 = x := ⟨_, rfl⟩
      rw [hx] at hrg hs hrw
      obtain ⟨⟨xk, xe, xn, xm⟩, xM⟩ := x
      have c1 : wr.cell? ⟨b, off + j * 38 + 1, none⟩ = some (.int .i64 xe) := range_c1 hrg
      obtain ⟨hk1, hk2⟩ := ofK_in (e := xe) hrw.2.2.2.1
      have HS : Hid (La.next ((FS R).take (j + 1)) = if o < Ft.ofK xe + 1 then Ft.ofK xe + 1 else o) := Lib.hid hs
      clear hrg hx hs hrw
      go_wp2_with fail
      refine (rof_any xe wr).mono ?_
      rintro e w2 ⟨rfl, rfl⟩
      generalize Ft.ofK xe = K at *
      generalize Ft.ofN xe = K' at *
      by_cases z : o < K + 1
      · have HS' := Lib.hid (HS.out.trans (if_pos z))
        clear HS
        go_wp2
        exact ⟨⟨j + 1, K + 1, by omega, by go_num, by go_num, HS', by omega, by omega, by first | rfl | trivial⟩, by simp [intOf]; omega⟩
      · have HS' := Lib.hid (HS.out.trans (if_neg z))
        clear HS
        go_wp2
        exact ⟨⟨j + 1, o, by omega, rfl, by go_num, HS', by omega, by omega, by first | rfl | trivial⟩, by simp [intOf]; omega⟩
    · obtain rfl : j = n := by omega
      have HE : Hid (o = La.next (FS R)) := Lib.hid (by rw [← HO.out, List.take_of_length_le (by rw [HLN.out]; exact Nat.le_refl _)])
      go_wp2
      go_ret
      exact ⟨ret_iF HE.out, rfl⟩
set_option maxHeartbeats 2000000 in
theorem rbest_any {w : World} {S D : Nat → Prop} {a : Option Addr} {n c : Nat} {R : List Fm} (h : Fts w S D a n R) (hn : n ≤ 100000) (m : Int) :
    Calls Try.prog 26 #[.slice a n c, .int .i64 m] w fun r w' => r = .returned (.int .i64 (La.best (FS R) m)) ∧ Below w.heap.size w w' := by
  have H := Lib.hid h.old
  have HLN := Lib.hid (show (FS R).length = n by rw [FS_len, h.1])
  clear h
  go_enter Try.func26, Try.ntmps26
  go_wp2
  go_loopw [5, 6, 7] (fun v i _ wr => ∃ (j : Nat) (o : Int), j ≤ n ∧ v = .int .i64 o ∧ i = .int .i64 (j : Int) ∧ Hid (((FS R).take j).foldl (La.bestStep (FS R) m) 0 = o) ∧ Hid (Below w.heap.size w wr)) (fun _ i _ _ => n - (intOf i).toNat)
  case atStart => exact ⟨0, 0, Nat.zero_le _, rfl, rfl, Lib.hid rfl, Lib.hid (Below.refl _ _)⟩
  case round =>
    obtain ⟨j, o, hj, rfl, rfl, HO, HB⟩ := hrel
    by_cases hlt : j < n
    · have HJ := Lib.hid (H.out.below HB.out (fun _ _ h => h) (fun _ _ h => h))
      obtain ⟨b, off, rfl, _, hbl, hrg, hrw⟩ := HJ.out.at_ hlt
      have hs := best_snoc (FS R) (FS R) m (j := j) (by rw [HLN.out]; exact hlt)
      rw [FS_get, HO.out] at hs
      obtain ⟨x, hx⟩ : ∃ x, R.getD j d0 = x := ⟨_, rfl⟩
      rw [hx] at hrg hs hrw
      obtain ⟨⟨xk, xe, xn, xm⟩, xM⟩ := x
      have c1 : wr.cell? ⟨b, off + j * 38 + 1, none⟩ = some (.int .i64 xe) := range_c1 hrg
      have HRG := Lib.hid (And.intro hrg hbl)
      have HS : Hid ((((FS R).take (j + 1)).foldl (La.bestStep (FS R) m) 0) = if xk = 1 ∧ ¬ La.aborted (FS R) xe m ∧ o < xe then xe else o) := Lib.hid hs
      clear hrg hx hs hrw hbl
      go_wp2_with fail
      refine (raborted_any HJ.out hn xe m).mono ?_
      rintro e w2 ⟨rfl, hb2⟩
      have hrg := range_below HRG.out.1 hb2 HRG.out.2
      have c0 : w2.cell? ⟨b, off + j * 38, none⟩ = some (.int .i64 xk) := range_c0 hrg
      have c1 : w2.cell? ⟨b, off + j * 38 + 1, none⟩ = some (.int .i64 xe) := range_c1 hrg
      have HB2 := Lib.hid (HB.out.trans (hb2.mono HB.out.size))
      obtain ⟨t, ht⟩ : ∃ t, decide (La.aborted (FS R) xe m) = t := ⟨_, rfl⟩
      rw [ht]
      have HT := Lib.hid ht
      clear hrg hb2 ht HB HJ HRG
      by_cases z0 : xk = 1
      case neg =>
        have d0 : (xk == 1) = false := by simp [z0]
        have HS' := Lib.hid (HS.out.trans (if_neg (fun h => z0 h.1)))
        clear z0 HS
        go_wp2
        exact ⟨⟨j + 1, o, by omega, rfl, by go_num, HS', HB2⟩, by simp [intOf]; omega⟩
      have q0 : (xk == 1) = true := by simp [z0]
      cases t with
      | true =>
        have HS' := Lib.hid (HS.out.trans (if_neg (fun h => h.2.1 (of_decide_eq_true HT.out))))
        clear z0 HS
        go_wp2
        exact ⟨⟨j + 1, o, by omega, rfl, by go_num, HS', HB2⟩, by simp [intOf]; omega⟩
      | false =>
        by_cases z2 : o < xe
        · have HS' := Lib.hid (HS.out.trans (if_pos ⟨z0, of_decide_eq_false HT.out, z2⟩))
          clear z0 HS
          go_wp2
          exact ⟨⟨j + 1, xe, by omega, rfl, by go_num, HS', HB2⟩, by simp [intOf]; omega⟩
        · have HS' := Lib.hid (HS.out.trans (if_neg (fun h => z2 h.2.2)))
          clear z0 HS
          go_wp2
          exact ⟨⟨j + 1, o, by omega, rfl, by go_num, HS', HB2⟩, by simp [intOf]; omega⟩
    · obtain rfl : j = n := by omega
      have HE : Hid (o = La.best (FS R) m) := Lib.hid (by rw [← HO.out, List.take_of_length_le (by rw [HLN.out]; exact Nat.le_refl _)]; rfl)
      go_wp2
      go_ret
      exact ⟨ret_iF HE.out, HB.out⟩
end Go.Proofs.Ytdfmfjahnnifnaa
