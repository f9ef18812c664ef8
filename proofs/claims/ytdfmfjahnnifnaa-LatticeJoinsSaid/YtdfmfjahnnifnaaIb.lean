/-
  The walks of isEpoch, below, Of and Epoch, and the document's Of and Epoch.
-/
import Derived.Test.YtdfmfjahnnifnaaIa
namespace Go.Proofs.Ytdfmfjahnnifnaa
set_option maxRecDepth 20000
open Go.RowKit
theorem ret_bool {a b : Bool} (h : a = b) : Ending.returned (.bool a) = .returned (.bool b) := by rw [h]
theorem ret_i2 {a b c d : Int} (h : a = c) (h' : b = d) : Ending.returned (.tuple #[.int .i64 a, .int .i64 b]) = .returned (.tuple #[.int .i64 c, .int .i64 d]) := by rw [h, h']
theorem isEpoch_any (e : Int) (w : World) : Calls Try.prog 58 #[.int .i64 e] w fun r w' => r = .returned (.bool (decide (Ft.isEp e))) ∧ w = w' := by
  by_cases c1 : 16 ≤ e
  · have d1 : decide ((16 : Int) ≤ e) = true := decide_eq_true c1
    by_cases c2 : e ≤ 1099511627776
    · have d2 : decide (e ≤ (1099511627776 : Int)) = true := decide_eq_true c2
      have HE := Lib.hid (show decide (Ft.isEp e) = true from decide_eq_true ⟨c1, c2⟩)
      clear c1 c2
      go_enter Try.func58, Try.ntmps58
      go_wp2
      go_ret
      exact ⟨ret_bool HE.out.symm, rfl⟩
    · have d2 : decide (e ≤ (1099511627776 : Int)) = false := decide_eq_false c2
      have HE := Lib.hid (show decide (Ft.isEp e) = false from decide_eq_false fun h => c2 h.2)
      clear c1 c2
      go_enter Try.func58, Try.ntmps58
      go_wp2
      go_ret
      exact ⟨ret_bool HE.out.symm, rfl⟩
  · have d1 : decide ((16 : Int) ≤ e) = false := decide_eq_false c1
    have HE := Lib.hid (show decide (Ft.isEp e) = false from decide_eq_false fun h => c1 h.1)
    clear c1
    go_enter Try.func58, Try.ntmps58
    go_wp2
    go_ret
    exact ⟨ret_bool HE.out.symm, rfl⟩
theorem below_any (a n : Int) (w : World) : Calls Try.prog 57 #[.int .i64 a, .int .i64 n] w fun r w' => r = .returned (.bool (decide (0 ≤ a ∧ a < n))) ∧ w = w' := by
  by_cases c1 : 0 ≤ a
  · have d1 : decide ((0 : Int) ≤ a) = true := decide_eq_true c1
    by_cases c2 : a < n
    · have d2 : decide (a < n) = true := decide_eq_true c2
      have HE := Lib.hid (show decide (0 ≤ a ∧ a < n) = true from decide_eq_true ⟨c1, c2⟩)
      clear c1 c2
      go_enter Try.func57, Try.ntmps57
      go_wp2
      go_ret
      exact ⟨ret_bool HE.out.symm, rfl⟩
    · have d2 : decide (a < n) = false := decide_eq_false c2
      have HE := Lib.hid (show decide (0 ≤ a ∧ a < n) = false from decide_eq_false fun h => c2 h.2)
      clear c1 c2
      go_enter Try.func57, Try.ntmps57
      go_wp2
      go_ret
      exact ⟨ret_bool HE.out.symm, rfl⟩
  · have d1 : decide ((0 : Int) ≤ a) = false := decide_eq_false c1
    have HE := Lib.hid (show decide (0 ≤ a ∧ a < n) = false from decide_eq_false fun h => c1 h.1)
    clear c1
    go_enter Try.func57, Try.ntmps57
    go_wp2
    go_ret
    exact ⟨ret_bool HE.out.symm, rfl⟩
theorem of_any (e : Int) (w : World) : Calls Try.prog 37 #[.int .i64 e] w fun r w' => r = .returned (.tuple #[.int .i64 (Ft.ofN e), .int .i64 (Ft.ofK e)]) ∧ w = w' := by
  by_cases h : Ft.isEp e
  · have HE := Lib.hid (show decide (Ft.isEp e) = true from decide_eq_true h)
    obtain ⟨q, hq⟩ : ∃ q, e / 16 = q := ⟨_, rfl⟩
    obtain ⟨r, hr⟩ : ∃ r, e % 16 = r := ⟨_, rfl⟩
    have tq : e.tdiv 16 = q := by rw [Int.tdiv_eq_ediv_of_nonneg (by have := h.1; omega)]; exact hq
    have tr : e.tmod 16 = r := by rw [Int.tmod_eq_emod_of_nonneg (by have := h.1; omega)]; exact hr
    have HV := Lib.hid (And.intro (show Ft.ofN e = r by unfold Ft.ofN; rw [if_pos h]; exact hr) (show Ft.ofK e = q by unfold Ft.ofK; rw [if_pos h]; exact hq))
    have h0 : 0 ≤ q ∧ q ≤ 1099511627776 ∧ 0 ≤ r ∧ r < 16 := by have := h.1; have := h.2; omega
    obtain ⟨h0, h1, h2, h3⟩ := h0
    clear h hq hr
    go_enter Try.func37, Try.ntmps37
    go_wp2_with (go_at_call 58; refine (isEpoch_any _ _).mono ?_; rintro e w' ⟨rfl, rfl⟩; rw [HE.out])
    go_ret2
    exact ⟨ret_i2 HV.out.1.symm HV.out.2.symm, rfl⟩
  · have HE := Lib.hid (show decide (Ft.isEp e) = false from decide_eq_false h)
    have HV := Lib.hid (And.intro (show Ft.ofN e = 0 by unfold Ft.ofN; rw [if_neg h]) (show Ft.ofK e = 0 by unfold Ft.ofK; rw [if_neg h]))
    clear h
    go_enter Try.func37, Try.ntmps37
    go_wp2_with (go_at_call 58; refine (isEpoch_any _ _).mono ?_; rintro e w' ⟨rfl, rfl⟩; rw [HE.out])
    go_ret2
    exact ⟨ret_i2 HV.out.1.symm HV.out.2.symm, rfl⟩
theorem rof_any (e : Int) (w : World) : Calls Try.prog 54 #[.int .i64 e] w fun r w' => r = .returned (.tuple #[.int .i64 (Ft.ofN e), .int .i64 (Ft.ofK e)]) ∧ w = w' := by
  by_cases h : Ft.isEp e
  · have d1 : decide (e < (16 : Int)) = false := decide_eq_false (by have := h.1; omega)
    have d2 : decide ((1099511627776 : Int) < e) = false := decide_eq_false (by have := h.2; omega)
    obtain ⟨q, hq⟩ : ∃ q, e / 16 = q := ⟨_, rfl⟩
    obtain ⟨r, hr⟩ : ∃ r, e % 16 = r := ⟨_, rfl⟩
    have tq : e.tdiv 16 = q := by rw [Int.tdiv_eq_ediv_of_nonneg (by have := h.1; omega)]; exact hq
    have tr : e.tmod 16 = r := by rw [Int.tmod_eq_emod_of_nonneg (by have := h.1; omega)]; exact hr
    have HV := Lib.hid (And.intro (show Ft.ofN e = r by unfold Ft.ofN; rw [if_pos h]; exact hr) (show Ft.ofK e = q by unfold Ft.ofK; rw [if_pos h]; exact hq))
    have h0 : 0 ≤ q ∧ q ≤ 1099511627776 ∧ 0 ≤ r ∧ r < 16 := by have := h.1; have := h.2; omega
    obtain ⟨h0, h1, h2, h3⟩ := h0
    clear h hq hr
    go_enter Try.func54, Try.ntmps54
    go_wp2
    go_ret2
    exact ⟨ret_i2 HV.out.1.symm HV.out.2.symm, rfl⟩
  · have HV := Lib.hid (And.intro (show Ft.ofN e = 0 by unfold Ft.ofN; rw [if_neg h]) (show Ft.ofK e = 0 by unfold Ft.ofK; rw [if_neg h]))
    by_cases c1 : e < 16
    · have d1 : decide (e < (16 : Int)) = true := decide_eq_true c1
      clear h c1
      go_enter Try.func54, Try.ntmps54
      go_wp2
      go_ret2
      exact ⟨ret_i2 HV.out.1.symm HV.out.2.symm, rfl⟩
    · have d1 : decide (e < (16 : Int)) = false := decide_eq_false c1
      have d2 : decide ((1099511627776 : Int) < e) = true := decide_eq_true (by unfold Ft.isEp at h; omega)
      clear h c1
      go_enter Try.func54, Try.ntmps54
      go_wp2
      go_ret2
      exact ⟨ret_i2 HV.out.1.symm HV.out.2.symm, rfl⟩
end Go.Proofs.Ytdfmfjahnnifnaa
