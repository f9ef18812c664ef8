/-
  The walks of isEpoch, below, Of and Epoch, and the document's Of and Epoch.
-/
import Derived.Test.YtcfchkffanfehaaIa
namespace Go.Proofs.Ytcfchkffanfehaa
set_option maxRecDepth 20000
open Go.RowKit
theorem ret_bool {a b : Bool} (h : a = b) : Ending.returned (.bool a) = .returned (.bool b) := by rw [h]
theorem ret_i2 {a b c d : Int} (h : a = c) (h' : b = d) : Ending.returned (.tuple #[.int .i64 a, .int .i64 b]) = .returned (.tuple #[.int .i64 c, .int .i64 d]) := by rw [h, h']
theorem isEpoch_any (e : Int) (w : World) : Calls Try.prog 33 #[.int .i64 e] w fun r w' => r = .returned (.bool (decide (Ft.isEp e))) ∧ w = w' := by
  by_cases c1 : 16 ≤ e
  · have d1 : decide ((16 : Int) ≤ e) = true := decide_eq_true c1
    by_cases c2 : e ≤ 1099511627776
    · have d2 : decide (e ≤ (1099511627776 : Int)) = true := decide_eq_true c2
      have HE := Lib.hid (show decide (Ft.isEp e) = true from decide_eq_true ⟨c1, c2⟩)
      clear c1 c2
      go_enter Try.func33, Try.ntmps33
      go_wp2
      go_ret
      exact ⟨ret_bool HE.out.symm, rfl⟩
    · have d2 : decide (e ≤ (1099511627776 : Int)) = false := decide_eq_false c2
      have HE := Lib.hid (show decide (Ft.isEp e) = false from decide_eq_false fun h => c2 h.2)
      clear c1 c2
      go_enter Try.func33, Try.ntmps33
      go_wp2
      go_ret
      exact ⟨ret_bool HE.out.symm, rfl⟩
  · have d1 : decide ((16 : Int) ≤ e) = false := decide_eq_false c1
    have HE := Lib.hid (show decide (Ft.isEp e) = false from decide_eq_false fun h => c1 h.1)
    clear c1
    go_enter Try.func33, Try.ntmps33
    go_wp2
    go_ret
    exact ⟨ret_bool HE.out.symm, rfl⟩
theorem below_any (a n : Int) (w : World) : Calls Try.prog 34 #[.int .i64 a, .int .i64 n] w fun r w' => r = .returned (.bool (decide (0 ≤ a ∧ a < n))) ∧ w = w' := by
  by_cases c1 : 0 ≤ a
  · have d1 : decide ((0 : Int) ≤ a) = true := decide_eq_true c1
    by_cases c2 : a < n
    · have d2 : decide (a < n) = true := decide_eq_true c2
      have HE := Lib.hid (show decide (0 ≤ a ∧ a < n) = true from decide_eq_true ⟨c1, c2⟩)
      clear c1 c2
      go_enter Try.func34, Try.ntmps34
      go_wp2
      go_ret
      exact ⟨ret_bool HE.out.symm, rfl⟩
    · have d2 : decide (a < n) = false := decide_eq_false c2
      have HE := Lib.hid (show decide (0 ≤ a ∧ a < n) = false from decide_eq_false fun h => c2 h.2)
      clear c1 c2
      go_enter Try.func34, Try.ntmps34
      go_wp2
      go_ret
      exact ⟨ret_bool HE.out.symm, rfl⟩
  · have d1 : decide ((0 : Int) ≤ a) = false := decide_eq_false c1
    have HE := Lib.hid (show decide (0 ≤ a ∧ a < n) = false from decide_eq_false fun h => c1 h.1)
    clear c1
    go_enter Try.func34, Try.ntmps34
    go_wp2
    go_ret
    exact ⟨ret_bool HE.out.symm, rfl⟩
theorem of_any (e : Int) (w : World) : Calls Try.prog 15 #[.int .i64 e] w fun r w' => r = .returned (.tuple #[.int .i64 (Ft.ofN e), .int .i64 (Ft.ofK e)]) ∧ w = w' := by
  by_cases h : Ft.isEp e
  · have HE := Lib.hid (show decide (Ft.isEp e) = true from decide_eq_true h)
    obtain ⟨q, hq⟩ : ∃ q, e / 16 = q := ⟨_, rfl⟩
    obtain ⟨r, hr⟩ : ∃ r, e % 16 = r := ⟨_, rfl⟩
    have tq : e.tdiv 16 = q := by rw [Int.tdiv_eq_ediv_of_nonneg (by have := h.1; omega)]; exact hq
    have tr : e.tmod 16 = r := by rw [Int.tmod_eq_emod_of_nonneg (by have := h.1; omega)]; exact hr
    have HV := Lib.hid (And.intro (show Ft.ofN e = r by unfold Ft.ofN; rw [if_pos h]; exact hr) (show Ft.ofK e = q by unfold Ft.ofK; rw [if_pos h]; exact hq))
    have h0 : 0 ≤ q ∧ q ≤ 1099511627776 ∧ 0 ≤ r ∧ r < 16 := by have := h.1; have := h.2; omega
    obtain ⟨h0, h1, h2, h3⟩ := h0
    clear h hq hr
    go_enter Try.func15, Try.ntmps15
    go_wp2_with (go_at_call 33; refine (isEpoch_any _ _).mono ?_; rintro e w' ⟨rfl, rfl⟩; rw [HE.out])
    go_ret2
    exact ⟨ret_i2 HV.out.1.symm HV.out.2.symm, rfl⟩
  · have HE := Lib.hid (show decide (Ft.isEp e) = false from decide_eq_false h)
    have HV := Lib.hid (And.intro (show Ft.ofN e = 0 by unfold Ft.ofN; rw [if_neg h]) (show Ft.ofK e = 0 by unfold Ft.ofK; rw [if_neg h]))
    clear h
    go_enter Try.func15, Try.ntmps15
    go_wp2_with (go_at_call 33; refine (isEpoch_any _ _).mono ?_; rintro e w' ⟨rfl, rfl⟩; rw [HE.out])
    go_ret2
    exact ⟨ret_i2 HV.out.1.symm HV.out.2.symm, rfl⟩
theorem rof_any (e : Int) (w : World) : Calls Try.prog 16 #[.int .i64 e] w fun r w' => r = .returned (.tuple #[.int .i64 (Ft.ofN e), .int .i64 (Ft.ofK e)]) ∧ w = w' := by
  by_cases h : Ft.isEp e
  · have d1 : decide (e < (16 : Int)) = false := decide_eq_false (by have := h.1; omega)
    have d2 : decide ((1099511627776 : Int) < e) = false := decide_eq_false (by have := h.2; omega)
    obtain ⟨q, hq⟩ : ∃ q, e / 16 = q := ⟨_, rfl⟩
    obtain ⟨r, hr⟩ : ∃ r, e % 16 = r := ⟨_, rfl⟩
    have tq : e.tdiv 16 = q := by rw [Int.tdiv_eq_ediv_of_nonneg (by have := h.1; omega)]; exact hq
    have tr : e.tmod 16 = r := by rw [Int.tmod_eq_emod_of_nonneg (by have := h.1; omega)]; exact hr
    have HV := Lib.hid (And.intro (show Ft.ofN e = r by unfold Ft.ofN; rw [if_pos h]; exact hr) (show Ft.ofK e = q by unfold Ft.ofK; rw [if_pos h]; exact hq))
    have h0 : 0 ≤ q ∧ q ≤ 1099511627776 ∧ 0 ≤ r ∧ r < 16 := by have := h.1; have := h.2; omega
    obtain ⟨h0, h1, h2, h3⟩ := h0
    clear h hq hr
    go_enter Try.func16, Try.ntmps16
    go_wp2
    go_ret2
    exact ⟨ret_i2 HV.out.1.symm HV.out.2.symm, rfl⟩
  · have HV := Lib.hid (And.intro (show Ft.ofN e = 0 by unfold Ft.ofN; rw [if_neg h]) (show Ft.ofK e = 0 by unfold Ft.ofK; rw [if_neg h]))
    by_cases c1 : e < 16
    · have d1 : decide (e < (16 : Int)) = true := decide_eq_true c1
      clear h c1
      go_enter Try.func16, Try.ntmps16
      go_wp2
      go_ret2
      exact ⟨ret_i2 HV.out.1.symm HV.out.2.symm, rfl⟩
    · have d1 : decide (e < (16 : Int)) = false := decide_eq_false c1
      have d2 : decide ((1099511627776 : Int) < e) = true := decide_eq_true (by unfold Ft.isEp at h; omega)
      clear h c1
      go_enter Try.func16, Try.ntmps16
      go_wp2
      go_ret2
      exact ⟨ret_i2 HV.out.1.symm HV.out.2.symm, rfl⟩
set_option maxHeartbeats 1000000 in
theorem epoch_any (a n : Int) (w : World) : Calls Try.prog 21 #[.int .i64 a, .int .i64 n] w fun r w' => r = .returned (.int .i64 (Ft.ep a n)) ∧ w = w' := by
  by_cases c1 : 0 ≤ a ∧ a < 9
  · have H1 := Lib.hid (show decide (0 ≤ a ∧ a < 9) = true from decide_eq_true c1)
    by_cases c2 : n < 1
    · have d2 : decide (n < (1 : Int)) = true := decide_eq_true c2
      have HV := Lib.hid (show Ft.ep a n = 0 by unfold Ft.ep; rw [if_neg (fun h => by have := h.2.2.1; omega)])
      clear c1 c2
      go_enter Try.func21, Try.ntmps21
      go_wp2_with (go_at_call 34; refine (below_any _ _ _).mono ?_; rintro e w' ⟨rfl, rfl⟩; rw [H1.out])
      go_ret
      exact ⟨ret_i64 HV.out.symm, rfl⟩
    have d2 : decide (n < (1 : Int)) = false := decide_eq_false c2
    by_cases c3 : 68719476736 < n
    · have d3 : decide ((68719476736 : Int) < n) = true := decide_eq_true c3
      have HV := Lib.hid (show Ft.ep a n = 0 by unfold Ft.ep; rw [if_neg (fun h => by have := h.2.2.2; omega)])
      clear c1 c2 c3
      go_enter Try.func21, Try.ntmps21
      go_wp2_with (go_at_call 34; refine (below_any _ _ _).mono ?_; rintro e w' ⟨rfl, rfl⟩; rw [H1.out])
      go_ret
      exact ⟨ret_i64 HV.out.symm, rfl⟩
    have d3 : decide ((68719476736 : Int) < n) = false := decide_eq_false c3
    obtain ⟨s, hs⟩ : ∃ s, 16 * n + a = s := ⟨_, rfl⟩
    obtain ⟨c10, c11⟩ := c1
    have k0 : IntKind.i64.wrap (16 * n) = 16 * n := IntWalk.i64_in _ (by omega)
    have k1 : IntKind.i64.wrap (16 * n + a) = s := by rw [hs]; exact IntWalk.i64_in _ (by omega)
    by_cases c4 : s ≤ 1099511627776
    · have H4 := Lib.hid (show decide (Ft.isEp s) = true from decide_eq_true ⟨by omega, c4⟩)
      have HV := Lib.hid (show Ft.ep a n = s by unfold Ft.ep; rw [if_pos ⟨c10, c11, by omega, by omega⟩]; exact hs)
      go_enter Try.func21, Try.ntmps21
      go_wp2_with (first | (go_at_call 34; refine (below_any _ _ _).mono ?_; rintro e w' ⟨rfl, rfl⟩; rw [H1.out]) | (go_at_call 33; refine (isEpoch_any _ _).mono ?_; rintro e w' ⟨rfl, rfl⟩; rw [H4.out]))
      go_ret
      exact ⟨ret_i64 HV.out.symm, rfl⟩
    · have H4 := Lib.hid (show decide (Ft.isEp s) = false from decide_eq_false fun h => c4 h.2)
      have HV := Lib.hid (show Ft.ep a n = 0 by unfold Ft.ep; rw [if_neg (fun h => by have := h.2.2.2; omega)])
      go_enter Try.func21, Try.ntmps21
      go_wp2_with (first | (go_at_call 34; refine (below_any _ _ _).mono ?_; rintro e w' ⟨rfl, rfl⟩; rw [H1.out]) | (go_at_call 33; refine (isEpoch_any _ _).mono ?_; rintro e w' ⟨rfl, rfl⟩; rw [H4.out]))
      go_ret
      exact ⟨ret_i64 HV.out.symm, rfl⟩
  · have H1 := Lib.hid (show decide (0 ≤ a ∧ a < 9) = false from decide_eq_false c1)
    have HV := Lib.hid (show Ft.ep a n = 0 by unfold Ft.ep; rw [if_neg (fun h => c1 ⟨h.1, h.2.1⟩)])
    clear c1
    go_enter Try.func21, Try.ntmps21
    go_wp2_with (go_at_call 34; refine (below_any _ _ _).mono ?_; rintro e w' ⟨rfl, rfl⟩; rw [H1.out])
    go_ret
    exact ⟨ret_i64 HV.out.symm, rfl⟩
set_option maxHeartbeats 1000000 in
theorem repoch_any (a n : Int) (w : World) : Calls Try.prog 22 #[.int .i64 a, .int .i64 n] w fun r w' => r = .returned (.int .i64 (Ft.ep a n)) ∧ w = w' := by
  by_cases c0 : a < 0
  · have d0 : decide (a < (0 : Int)) = true := decide_eq_true c0
    have HV := Lib.hid (show Ft.ep a n = 0 by unfold Ft.ep; rw [if_neg (fun h => by have := h.1; omega)])
    clear c0
    go_enter Try.func22, Try.ntmps22
    go_wp2
    go_ret
    exact ⟨ret_i64 HV.out.symm, rfl⟩
  have d0 : decide (a < (0 : Int)) = false := decide_eq_false c0
  by_cases c1 : 8 < a
  · have d1 : decide ((8 : Int) < a) = true := decide_eq_true c1
    have HV := Lib.hid (show Ft.ep a n = 0 by unfold Ft.ep; rw [if_neg (fun h => by have := h.2.1; omega)])
    clear c0 c1
    go_enter Try.func22, Try.ntmps22
    go_wp2
    go_ret
    exact ⟨ret_i64 HV.out.symm, rfl⟩
  have d1 : decide ((8 : Int) < a) = false := decide_eq_false c1
  by_cases c2 : n < 1
  · have d2 : decide (n < (1 : Int)) = true := decide_eq_true c2
    have HV := Lib.hid (show Ft.ep a n = 0 by unfold Ft.ep; rw [if_neg (fun h => by have := h.2.2.1; omega)])
    clear c0 c1 c2
    go_enter Try.func22, Try.ntmps22
    go_wp2
    go_ret
    exact ⟨ret_i64 HV.out.symm, rfl⟩
  have d2 : decide (n < (1 : Int)) = false := decide_eq_false c2
  by_cases c3 : 68719476736 < n
  · have d3 : decide ((68719476736 : Int) < n) = true := decide_eq_true c3
    have HV := Lib.hid (show Ft.ep a n = 0 by unfold Ft.ep; rw [if_neg (fun h => by have := h.2.2.2; omega)])
    clear c0 c1 c2 c3
    go_enter Try.func22, Try.ntmps22
    go_wp2
    go_ret
    exact ⟨ret_i64 HV.out.symm, rfl⟩
  have d3 : decide ((68719476736 : Int) < n) = false := decide_eq_false c3
  obtain ⟨s, hs⟩ : ∃ s, 16 * n + a = s := ⟨_, rfl⟩
  have k0 : IntKind.i64.wrap (16 * n) = 16 * n := IntWalk.i64_in _ (by omega)
  have k1 : IntKind.i64.wrap (16 * n + a) = s := by rw [hs]; exact IntWalk.i64_in _ (by omega)
  by_cases c4 : 1099511627776 < s
  · have d4 : decide ((1099511627776 : Int) < s) = true := decide_eq_true c4
    have HV := Lib.hid (show Ft.ep a n = 0 by unfold Ft.ep; rw [if_neg (fun h => by have := h.2.2.2; omega)])
    clear hs
    go_enter Try.func22, Try.ntmps22
    go_wp2
    go_ret
    exact ⟨ret_i64 HV.out.symm, rfl⟩
  · have d4 : decide ((1099511627776 : Int) < s) = false := decide_eq_false c4
    have HV := Lib.hid (show Ft.ep a n = s by unfold Ft.ep; rw [if_pos ⟨by omega, by omega, by omega, by omega⟩]; exact hs)
    clear hs
    go_enter Try.func22, Try.ntmps22
    go_wp2
    go_ret
    exact ⟨ret_i64 HV.out.symm, rfl⟩
end Go.Proofs.Ytcfchkffanfehaa
