/-
  The walks of the statements that take words alone: names, tells, orders, cleans.
-/
import Derived.Test.YtambmendeomknaaWm
namespace Go.Proofs.Ytambmendeomknaa
open Go.RowKit

theorem u64_nat {a : Int} (h : (Lit.int .u64 a).wf = true) : ∃ x : Nat, a = x ∧ x < 18446744073709551616 := by
  have hb : 0 ≤ a ∧ a ≤ 18446744073709551615 := by
    simp [Lit.wf, IntKind.min, IntKind.max, IntKind.signed, IntKind.bits] at h; omega
  exact ⟨a.toNat, by omega, by omega⟩
theorem ext_fromN (x : Nat) (w : World) : (callFunc 10 #[.int .u64 (x : Int)]).run Try.prog w = .ok (.value (.float .f64 x)) w := ext_from x w
theorem of_nat (x : Nat) (w : World) : Calls Try.prog 22 #[.int .u64 (x : Int)] w fun e w' => e = .returned (.float .f64 x) ∧ w = w' := of_any x w
theorem bits_clean (x : Nat) (hx : x < 18446744073709551616) : Fl.bitsOf (Fl.cleanOf x) = Fl.cleanOf x := by
  have h := Nat.lt_of_le_of_lt (Fl.cleanOf_le x hx) Fl.one_inf
  unfold Fl.bitsOf
  rw [(pos_word h).1]; rfl
theorem clean_bd (x : Nat) (hx : x < 18446744073709551616) : Fl.cleanOf x < 18446744073709551616 := by
  have h := Fl.cleanOf_le x hx
  unfold Fl.one at h; omega

set_option maxRecDepth 100000 in
set_option maxHeartbeats 1000000 in
theorem names_walk (w : World) : Calls Try.prog 3 #[] w fun e w' => e = .returned (.bool true) ∧ Grown w w' := by
  go_enter Try.func3, Try.ntmps3
  go_wp2_with fail
  refine (awake_any _).mono ?_; rintro e w1 ⟨rfl, hg⟩
  have HG := Lib.hid hg
  clear hg
  go_wp2
  go_ret
  exact ⟨rfl, HG.out⟩

set_option maxRecDepth 100000 in
set_option maxHeartbeats 1000000 in
theorem tells_walk (a0 a1 : Int) (w0 : (Lit.int .u64 a0).wf = true) (w1 : (Lit.int .u64 a1).wf = true) (w : World) :
    Calls Try.prog 4 #[.int .u64 a0, .int .u64 a1] w fun e w' => e = .returned (.bool true) ∧ Grown w w' := by
  obtain ⟨x, rfl, hx⟩ := u64_nat w0
  obtain ⟨y, rfl, hy⟩ := u64_nat w1
  clear w0 w1
  have he := ext_fromN
  have hf := ext_bits
  have hbc := bits_clean x hx
  have HX := Lib.hid hx
  have HY := Lib.hid hy
  clear hx hy
  by_cases hk : Fl.kindOf x = 0
  · have hb : (Fl.kindOf x == 0) = true := by simp [hk]
    clear hk
    go_enter Try.func4, Try.ntmps4
    go_wp2_with fail
    refine (awake_any _).mono ?_; rintro e w1 ⟨rfl, hg⟩
    have HG := Lib.hid hg
    clear hg
    go_wp2_with (first
      | (go_at_call 11; refine (kind_any _ _ HX.out).mono ?_; rintro e w' ⟨rfl, rfl⟩)
      | (go_at_call 12; refine (rkind_any _ _ HX.out).mono ?_; rintro e w' ⟨rfl, rfl⟩)
      | (go_at_call 13; refine (order_any _ _ _ HX.out HY.out).mono ?_; rintro e w' ⟨rfl, rfl⟩)
      | (go_at_call 14; refine (rorder_any _ _ _ HX.out HY.out).mono ?_; rintro e w' ⟨rfl, rfl⟩)
      | (go_at_call 15; refine (points_any _ _ HX.out).mono ?_; rintro e w' ⟨rfl, rfl⟩)
      | (go_at_call 16; refine (rpoints_any _ _ HX.out).mono ?_; rintro e w' ⟨rfl, rfl⟩)
      | (go_at_call 18; refine (clean_any _ _).mono ?_; rintro e w' ⟨rfl, rfl⟩)
      | (go_at_call 20; refine (rclean_any _ _ HX.out).mono ?_; rintro e w' ⟨rfl, rfl⟩)
      | (go_at_call 17; refine (bits_any _ _).mono ?_; rintro e w' ⟨rfl, rfl⟩)
      | (go_at_call 21; refine (rbits_any _ _ HX.out).mono ?_; rintro e w' ⟨rfl, rfl⟩)
      | (go_at_call 22; refine (of_nat _ _).mono ?_; rintro e w' ⟨rfl, rfl⟩))
    go_ret
    exact ⟨rfl, HG.out⟩
  · have hb : (Fl.kindOf x == 0) = false := by simp [hk]
    clear hk
    go_enter Try.func4, Try.ntmps4
    go_wp2_with fail
    refine (awake_any _).mono ?_; rintro e w1 ⟨rfl, hg⟩
    have HG := Lib.hid hg
    clear hg
    go_wp2_with (first
      | (go_at_call 11; refine (kind_any _ _ HX.out).mono ?_; rintro e w' ⟨rfl, rfl⟩)
      | (go_at_call 12; refine (rkind_any _ _ HX.out).mono ?_; rintro e w' ⟨rfl, rfl⟩)
      | (go_at_call 13; refine (order_any _ _ _ HX.out HY.out).mono ?_; rintro e w' ⟨rfl, rfl⟩)
      | (go_at_call 14; refine (rorder_any _ _ _ HX.out HY.out).mono ?_; rintro e w' ⟨rfl, rfl⟩)
      | (go_at_call 15; refine (points_any _ _ HX.out).mono ?_; rintro e w' ⟨rfl, rfl⟩)
      | (go_at_call 16; refine (rpoints_any _ _ HX.out).mono ?_; rintro e w' ⟨rfl, rfl⟩)
      | (go_at_call 18; refine (clean_any _ _).mono ?_; rintro e w' ⟨rfl, rfl⟩)
      | (go_at_call 20; refine (rclean_any _ _ HX.out).mono ?_; rintro e w' ⟨rfl, rfl⟩)
      | (go_at_call 17; refine (bits_any _ _).mono ?_; rintro e w' ⟨rfl, rfl⟩)
      | (go_at_call 21; refine (rbits_any _ _ HX.out).mono ?_; rintro e w' ⟨rfl, rfl⟩)
      | (go_at_call 22; refine (of_nat _ _).mono ?_; rintro e w' ⟨rfl, rfl⟩))
    go_ret
    exact ⟨rfl, HG.out⟩

/-! ### orders -/
theorem ord_range (x y : Nat) : Fl.ordOf x y = -1 ∨ Fl.ordOf x y = 0 ∨ Fl.ordOf x y = 1 := by
  unfold Fl.ordOf
  repeat' split
  all_goals simp
theorem ord_swap (x y : Nat) : Fl.ordOf x y = -Fl.ordOf y x := by
  unfold Fl.ordOf
  by_cases a : Fl.kindOf x < Fl.kindOf y
  · rw [if_pos a, if_neg (by omega), if_pos a]
  · by_cases b : Fl.kindOf y < Fl.kindOf x
    · rw [if_neg a, if_pos b, if_pos b]; rfl
    · have e : Fl.kindOf x = Fl.kindOf y := by omega
      rw [if_neg a, if_neg b, if_neg b, if_neg a, e]
      repeat' split
      all_goals omega
theorem ord_zero (x y : Nat) (hx : x < 18446744073709551616) (hy : y < 18446744073709551616) : Fl.ordOf x y = 0 ↔ Fl.bitsOf x = Fl.bitsOf y := by
  have kx := Fl.kind_key x
  have ky := Fl.kind_key y
  have key : ∀ z : Nat, z < 18446744073709551616 → z = (if Fl.neg z = true then 9223372036854775808 else 0) + Fl.rung z := by
    intro z hz
    unfold Fl.neg Fl.rung
    by_cases h : z / 9223372036854775808 % 2 = 1
    · simp [h]; omega
    · simp [h]; omega
  have neg_of : ∀ z : Nat, Fl.isNaN z = false → (Fl.neg z = true ↔ Fl.kindOf z = 1 ∨ Fl.kindOf z = 2 ∨ Fl.kindOf z = 3) := by
    intro z hz
    unfold Fl.kindOf
    rw [hz]
    by_cases h1 : Fl.rung z = Fl.inf
    · cases Fl.neg z <;> simp [h1]
    · by_cases h0 : Fl.rung z = 0
      · have : (0 : Nat) ≠ Fl.inf := by decide
        cases Fl.neg z <;> simp [h0, this]
      · cases Fl.neg z <;> simp [h0, h1]
  obtain ⟨_, _, nx, x1, x2, x3, x4, x5, x6⟩ := kx
  obtain ⟨_, _, ny, y1, y2, y3, y4, y5, y6⟩ := ky
  by_cases hk : Fl.kindOf x = Fl.kindOf y
  · by_cases h0 : Fl.kindOf x = 0
    · have a := nx.1 h0
      have b := ny.1 (by omega)
      have h0' : Fl.kindOf y = 0 := by omega
      have e1 : Fl.ordOf x y = 0 := by unfold Fl.ordOf; rw [h0, h0']; simp
      have e2 : Fl.bitsOf x = Fl.bitsOf y := by unfold Fl.bitsOf; rw [a, b]; rfl
      simp only [e1, e2]
    · have a : Fl.isNaN x = false := by cases hh : Fl.isNaN x; rfl; exact absurd (nx.2 hh) h0
      have b : Fl.isNaN y = false := by cases hh : Fl.isNaN y; rfl; exact absurd (ny.2 hh) (by omega)
      have ex := key x hx
      have ey := key y hy
      have sx := neg_of x a
      have sy := neg_of y b
      rw [← hk] at sy
      have same : Fl.neg x = Fl.neg y := by rw [Bool.eq_iff_iff]; exact sx.trans sy.symm
      have hkey : Fl.key x = Fl.key y ↔ x = y := by
        unfold Fl.key
        rw [same] at ex ⊢
        cases Fl.neg y <;> simp at ex ey ⊢ <;> omega
      unfold Fl.ordOf Fl.bitsOf
      rw [a, b, hk]
      rw [if_neg (by omega), if_neg (by omega), if_neg (by omega)]
      simp only [Bool.false_eq_true, if_false]
      rw [← hkey]
      repeat' split
      all_goals omega
  · have : Fl.ordOf x y ≠ 0 := by
      unfold Fl.ordOf
      by_cases c : Fl.kindOf x < Fl.kindOf y
      · rw [if_pos c]; decide
      · rw [if_neg c, if_pos (by omega)]; decide
    have hb : Fl.bitsOf x ≠ Fl.bitsOf y := by
      intro e
      apply hk
      unfold Fl.bitsOf at e
      cases a : Fl.isNaN x
      · cases b : Fl.isNaN y
        · simp [a, b] at e; rw [e]
        · simp [a, b] at e
          rw [e] at a; exact absurd a (by decide)
      · cases b : Fl.isNaN y
        · simp [a, b] at e
          rw [← e] at b; exact absurd b (by decide)
        · rw [nx.2 a, ny.2 b]
    simp [this, hb]
theorem ord_le (x y : Nat) : Fl.ordOf x y ≤ 0 ↔ Fl.kindOf x < Fl.kindOf y ∨ (Fl.kindOf x = Fl.kindOf y ∧ (Fl.kindOf x = 0 ∨ Fl.key x ≤ Fl.key y)) := by
  unfold Fl.ordOf
  repeat' split
  all_goals omega
theorem ord_eq0 (x y : Nat) : Fl.ordOf x y = 0 ↔ (Fl.kindOf x = Fl.kindOf y ∧ (Fl.kindOf x = 0 ∨ Fl.key x = Fl.key y)) := by
  unfold Fl.ordOf
  repeat' split
  all_goals omega
theorem ord_trans (x y z : Nat) (h1 : Fl.ordOf x y ≤ 0) (h2 : Fl.ordOf y z ≤ 0) : Fl.ordOf x z ≤ 0 := by
  rw [ord_le] at *; omega
theorem ord_same (x y z : Nat) (h1 : Fl.ordOf x y = 0) : Fl.ordOf x z = Fl.ordOf y z := by
  rw [ord_eq0] at h1
  unfold Fl.ordOf
  rw [h1.1]
  rcases h1.2 with h | h
  · have : Fl.kindOf y = 0 := by omega
    simp [this]
  · rw [h]

set_option maxRecDepth 100000 in
set_option maxHeartbeats 1600000 in
theorem orders_walk (a0 a1 a2 : Int) (w0 : (Lit.int .u64 a0).wf = true) (w1 : (Lit.int .u64 a1).wf = true) (w2 : (Lit.int .u64 a2).wf = true) (w : World) :
    Calls Try.prog 6 #[.int .u64 a0, .int .u64 a1, .int .u64 a2] w fun e w' => e = .returned (.bool true) ∧ Grown w w' := by
  obtain ⟨x, rfl, hx⟩ := u64_nat w0
  obtain ⟨y, rfl, hy⟩ := u64_nat w1
  obtain ⟨z, rfl, hz⟩ := u64_nat w2
  clear w0 w1 w2
  have OXY : Hid (∀ w, Calls Try.prog 13 #[.float .f64 x, .float .f64 y] w fun e w' => e = .returned (.int .i64 (Fl.ordOf x y)) ∧ w = w') := Lib.hid fun w => order_any x y w hx hy
  have OYZ : Hid (∀ w, Calls Try.prog 13 #[.float .f64 y, .float .f64 z] w fun e w' => e = .returned (.int .i64 (Fl.ordOf y z)) ∧ w = w') := Lib.hid fun w => order_any y z w hy hz
  have OXZ : Hid (∀ w, Calls Try.prog 13 #[.float .f64 x, .float .f64 z] w fun e w' => e = .returned (.int .i64 (Fl.ordOf x z)) ∧ w = w') := Lib.hid fun w => order_any x z w hx hz
  have OYX : Hid (∀ w, Calls Try.prog 13 #[.float .f64 y, .float .f64 x] w fun e w' => e = .returned (.int .i64 (Fl.ordOf y x)) ∧ w = w') := Lib.hid fun w => order_any y x w hy hx
  have h1 := ord_swap x y
  have h2 := ord_zero x y hx hy
  have h3 := ord_trans x y z
  have h4 := ord_same x y z
  have r1 := ord_range x y
  have r2 := ord_range y z
  have r3 := ord_range x z
  have h5 : ((Fl.bitsOf x : Int) == (Fl.bitsOf y : Int)) = decide (Fl.ordOf x y = 0) := by
    rw [Bool.eq_iff_iff, beq_iff_eq, decide_eq_true_eq, h2]; omega
  clear hx hy hz h2
  generalize Fl.ordOf x y = m at *
  generalize Fl.ordOf y z = n at *
  generalize Fl.ordOf x z = o at *
  generalize Fl.ordOf y x = r at *
  have hr : r = -m := by omega
  clear h1
  subst hr
  have cases5 : m = 1 ∨ (m = -1 ∧ n = 1) ∨ (m = -1 ∧ n ≤ 0 ∧ o ≤ 0) ∨ (m = 0 ∧ n = 1 ∧ o = n) ∨ (m = 0 ∧ n ≤ 0 ∧ o = n) := by
    rcases r1 with e | e | e <;> rcases r2 with f | f | f <;> first | omega | (have := h3 (by omega) (by omega); omega) | (have := h4 (by omega); omega)
  clear r1 r2 r3 h3 h4
  rcases cases5 with rfl | ⟨rfl, rfl⟩ | ⟨rfl, c, d⟩ | ⟨rfl, rfl, rfl⟩ | ⟨rfl, c, rfl⟩
  all_goals
    try simp only [Int.neg_neg, Int.neg_zero] at OYX
    try rw [decide_eq_true (by decide)] at h5
    try rw [decide_eq_false (by decide)] at h5
    go_enter Try.func6, Try.ntmps6
    go_wp2_with fail
    refine (awake_any _).mono ?_; rintro e w1 ⟨rfl, hg⟩
    have HG := Lib.hid hg
    clear hg
    go_wp2_with (go_at_call 22; refine (of_nat _ _).mono ?_; rintro e w' ⟨rfl, rfl⟩)
    refine (OXY.out _).mono ?_; rintro e w' ⟨rfl, rfl⟩
    go_wp2_with fail
    refine (OYZ.out _).mono ?_; rintro e w' ⟨rfl, rfl⟩
    go_wp2_with fail
    refine (OXZ.out _).mono ?_; rintro e w' ⟨rfl, rfl⟩
    go_wp2_with fail
    refine (OYX.out _).mono ?_; rintro e w' ⟨rfl, rfl⟩
    go_wp2_with (go_at_call 17; refine (bits_any _ _).mono ?_; rintro e w' ⟨rfl, rfl⟩)
    go_ret
    exact ⟨rfl, HG.out⟩

end Go.Proofs.Ytambmendeomknaa
