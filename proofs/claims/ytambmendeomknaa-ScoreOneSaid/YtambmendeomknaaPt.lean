/-
  Points and means of clean scores, by plain facts on rounding; no Go program.
-/
import Derived.Test.YtambmendeomknaaSc
namespace Fl
open Ieee

def E : Nat := 2 ^ 1074
def R1000 : Nat := 4652007308841189376
theorem E_pos : 0 < E := by decide +kernel

/-- small whole numbers, as words -/
def small (k : Nat) : Bool := V (near k 0) == k * E && decide (near k 0 < inf) && ((double.read (near k 0)).toInt .zero == some (k : Int))
theorem small_all : ∀ k, k < 1001 → small k = true := by decide +kernel
theorem small_V {k : Nat} (h : k ≤ 1000) : V (near k 0) = k * E := by
  have := small_all k (by omega); simp [small] at this; exact this.1.1
theorem small_inf {k : Nat} (h : k ≤ 1000) : near k 0 < inf := by
  have := small_all k (by omega); simp [small] at this; exact this.1.2
theorem small_int {k : Nat} (h : k ≤ 1000) : (double.read (near k 0)).toInt .zero = some (k : Int) := by
  have := small_all k (by omega); simp [small] at this; exact this.2
theorem near_one : near 1 0 = one := by decide +kernel
theorem near_1000 : near 1000 0 = R1000 := by decide +kernel

theorem inf_lt : inf < 9223372036854775808 := by decide
theorem read_pos {r : Nat} (h : r < inf) : double.read r = .number false (mag r) (-1074 + (up r : Int)) := by
  have hi := inf_lt
  have := rung_small (r := r) (by omega)
  have e := read_num (x := r) (by rw [this.1]; exact h)
  rw [this.1, this.2] at e; exact e

theorem write_num (m : Nat) (i : Int) : double.write (.number false m i) = near m i := by
  rw [Format.write, nearest_eq, word_false]

/-! ### 1000 times a clean score -/
def prodOf (c : Nat) : Nat := near (mag R1000 * mag c) ((-1074 + (up R1000 : Int)) + (-1074 + (up c : Int)))
theorem R1000_inf : R1000 < inf := by decide
theorem mul_left {c : Nat} (h : c ≤ one) : double.mul R1000 c = some (prodOf c) := by
  unfold Format.mul
  rw [read_pos R1000_inf, read_pos (Nat.lt_of_le_of_lt h one_inf)]
  simp only [Datum.product, Option.map]
  rw [show (false ^^ false) = false from rfl, write_num, prodOf]
theorem mul_right {c : Nat} (h : c ≤ one) : double.mul c R1000 = some (prodOf c) := by
  unfold Format.mul
  rw [read_pos R1000_inf, read_pos (Nat.lt_of_le_of_lt h one_inf)]
  simp only [Datum.product, Option.map]
  rw [show (false ^^ false) = false from rfl, write_num, prodOf, Nat.mul_comm, Int.add_comm]
theorem prod_mono {c d : Nat} (h : c ≤ d) : prodOf c ≤ prodOf d := by
  unfold prodOf
  refine near_mono ?_
  rw [le2_iff _ _ _ _ (up c) (up d) (by omega)]
  rw [Nat.mul_assoc, Nat.mul_assoc, ← V_eq, ← V_eq]
  exact Nat.mul_le_mul_left _ (V_le_iff.2 h)
theorem prod_one : prodOf one = R1000 := by decide +kernel
theorem prod_zero : prodOf 0 = 0 := by decide +kernel
theorem prod_le {c : Nat} (h : c ≤ one) : prodOf c ≤ R1000 := by rw [← prod_one]; exact prod_mono h

/-- the whole part of a word's number -/
def floorOf (p : Nat) : Nat := V p / E
theorem cut_down (n d : Nat) : Toward.down.cut false n d = n / 2 ^ d := by
  unfold Toward.cut
  simp only [Nat.shiftLeft_eq, Nat.one_mul, Bool.false_and, Bool.toNat_false, Nat.add_zero]
  by_cases h : d ≤ n.log2 + 2
  · rw [Nat.min_eq_left h]
  · rw [Nat.min_eq_right (by omega)]
    have hn : n < 2 ^ (n.log2 + 1) := Nat.lt_log2_self
    have h1 : 2 ^ (n.log2 + 1) ≤ 2 ^ (n.log2 + 2) := Nat.pow_le_pow_right (by omega) (by omega)
    have h2 : 2 ^ (n.log2 + 1) ≤ 2 ^ d := Nat.pow_le_pow_right (by omega) (by omega)
    rw [Nat.div_eq_of_lt (by omega), Nat.div_eq_of_lt (by omega)]
theorem integral_pos {p : Nat} (h : p < inf) : (double.read p).integral .down = .number false (floorOf p) 0 := by
  rw [read_pos h]
  unfold Datum.integral
  simp only
  rw [cut_down, Nat.shiftLeft_eq]
  have : mag p * 2 ^ (-1074 + (up p : Int)).toNat / 2 ^ (-(-1074 + (up p : Int))).toNat = floorOf p := by
    unfold floorOf E
    rw [V_eq]
    by_cases c : 1074 ≤ up p
    · have e1 : (-1074 + (up p : Int)).toNat = up p - 1074 := by omega
      have e2 : (-(-1074 + (up p : Int))).toNat = 0 := by omega
      rw [e1, e2, Nat.pow_zero, Nat.div_one]
      have : up p = (up p - 1074) + 1074 := by omega
      rw [this, Nat.pow_add, ← Nat.mul_assoc, Nat.mul_div_cancel _ (Nat.two_pow_pos 1074)]
      rw [show up p - 1074 + 1074 - 1074 = up p - 1074 by omega]
    · have e1 : (-1074 + (up p : Int)).toNat = 0 := by omega
      have e2 : (-(-1074 + (up p : Int))).toNat = 1074 - up p := by omega
      rw [e1, e2, Nat.pow_zero, Nat.mul_one]
      have : (2 : Nat) ^ 1074 = 2 ^ (1074 - up p) * 2 ^ up p := by rw [← Nat.pow_add]; congr 1; omega
      rw [this, Nat.mul_div_mul_right _ _ (Nat.two_pow_pos _)]
  rw [this]

def pointsOf (x : Nat) : Nat := floorOf (prodOf (cleanOf x))
theorem floor_mono {p q : Nat} (h : p ≤ q) : floorOf p ≤ floorOf q := Nat.div_le_div_right (V_le_iff.2 h)
theorem floor_1000 : floorOf R1000 = 1000 := by
  unfold floorOf; rw [← near_1000, small_V (by omega), Nat.mul_div_cancel _ E_pos]
theorem points_le {c : Nat} (h : c ≤ one) : floorOf (prodOf c) ≤ 1000 := by
  rw [← floor_1000]; exact floor_mono (prod_le h)
/-- a small whole number is not above a word just if it is not above its whole part -/
theorem small_le {k p : Nat} (h : k ≤ 1000) : near k 0 ≤ p ↔ k ≤ floorOf p := by
  rw [← V_le_iff, small_V h]
  unfold floorOf
  rw [Nat.le_div_iff_mul_le E_pos]

/-! ### sums -/
theorem sum_pos {s c : Nat} (hs : s < inf) (hc : c < inf) : ∃ t b, double.add s c = some (near t b) ∧ -1074 ≤ b ∧ t * 2 ^ (b + 1074).toNat = V s + V c := by
  unfold Format.add
  rw [read_pos hs, read_pos hc]
  simp only [Datum.sum, Option.map]
  obtain ⟨u, hu, ha, hb⟩ : ∃ u : Nat, min (-1074 + (up s : Int)) (-1074 + (up c : Int)) = -1074 + (u : Int) ∧ u ≤ up s ∧ u ≤ up c := ⟨min (up s) (up c), by omega, by omega, by omega⟩
  rw [hu]
  have e1 : (-1074 + (up s : Int) - (-1074 + (u : Int))).toNat = up s - u := by omega
  have e2 : (-1074 + (up c : Int) - (-1074 + (u : Int))).toNat = up c - u := by omega
  rw [e1, e2]
  simp only [signed, Bool.false_eq_true, if_false, Nat.shiftLeft_eq, Bool.and_self]
  refine ⟨mag s * 2 ^ (up s - u) + mag c * 2 ^ (up c - u), -1074 + (u : Int), ?_, by omega, ?_⟩
  · have hnn : ¬ ((((mag s * 2 ^ (up s - u) : Nat) : Int) + ((mag c * 2 ^ (up c - u) : Nat) : Int)) < 0) := by omega
    have hna : (((mag s * 2 ^ (up s - u) : Nat) : Int) + ((mag c * 2 ^ (up c - u) : Nat) : Int)).natAbs = mag s * 2 ^ (up s - u) + mag c * 2 ^ (up c - u) := by omega
    rw [hna]
    have hd : (if ((mag s * 2 ^ (up s - u) : Nat) : Int) + ((mag c * 2 ^ (up c - u) : Nat) : Int) = 0 then false else decide (((mag s * 2 ^ (up s - u) : Nat) : Int) + ((mag c * 2 ^ (up c - u) : Nat) : Int) < 0)) = false := by
      split
      · rfl
      · simp only [decide_eq_false_iff_not]; exact hnn
    rw [hd, write_num]
  · have e3 : (-1074 + (u : Int) + 1074).toNat = u := by omega
    rw [e3, Nat.add_mul, Nat.mul_assoc, Nat.mul_assoc, ← Nat.pow_add, ← Nat.pow_add, Nat.sub_add_cancel ha, Nat.sub_add_cancel hb, V_eq, V_eq]

def addOf (s c : Nat) : Nat := (double.add s c).getD 0
theorem add_some {s c : Nat} (hs : s < inf) (hc : c < inf) : double.add s c = some (addOf s c) := by
  obtain ⟨t, b, h, _⟩ := sum_pos hs hc
  simp [addOf, h]
theorem V_E (k : Nat) : k * E = k * 2 ^ 1074 := by rw [E]
theorem add_small {s c k : Nat} (hk : k < 1000) (hs : s ≤ near k 0) (hc : c ≤ one) : addOf s c ≤ near (k + 1) 0 := by
  have i1 := Nat.lt_of_le_of_lt hs (small_inf (by omega))
  have i2 := Nat.lt_of_le_of_lt hc one_inf
  obtain ⟨t, b, h, hb, hv⟩ := sum_pos i1 i2
  have e : addOf s c = near t b := by simp [addOf, h]
  rw [e]
  refine near_mono ?_
  rw [le2_iff _ _ _ _ (b + 1074).toNat 1074 (by omega), hv, ← V_E, Nat.add_mul, Nat.one_mul]
  have a1 := V_le_iff.2 hs
  have a2 := V_le_iff.2 hc
  rw [small_V (by omega)] at a1
  rw [← near_one, small_V (by omega), Nat.one_mul] at a2
  exact Nat.add_le_add a1 a2
theorem add_zero {c : Nat} (hc : c < inf) : addOf 0 c = c := by
  obtain ⟨t, b, h, hb, hv⟩ := sum_pos (s := 0) (by decide) hc
  have e : addOf 0 c = near t b := by simp [addOf, h]
  rw [V_zero, Nat.zero_add, V_eq] at hv
  rw [e]
  have e2 := near_rung (r := c) (Nat.le_of_lt hc)
  rw [← e2]
  refine near_eq ?_ ?_
  · rw [le2_iff _ _ _ _ (b + 1074).toNat (up c) (by omega), hv]
    exact Nat.le_refl _
  · rw [le2_iff _ _ _ _ (up c) (b + 1074).toNat (by omega), hv]
    exact Nat.le_refl _

/-! ### quotients -/
theorem mag_pos {n : Nat} (h : n ≠ 0) : mag n ≠ 0 := by
  unfold mag; split
  · exact h
  · have : 0 < B := by decide
    omega
def divOf (s n : Nat) : Nat := (double.div s n).getD 0
theorem div_form {s n : Nat} (hs : s < inf) (hn : n < inf) (h0 : n ≠ 0) : ∃ more D, more = 54 + (mag n).log2 - (mag s).log2 ∧ D = mag s * 2 ^ more ∧
    double.div s n = some (near (2 * (D / mag n) + (D % mag n != 0).toNat) ((-1074 + (up s : Int)) - (-1074 + (up n : Int)) - more - 1)) := by
  refine ⟨_, _, rfl, rfl, ?_⟩
  unfold Format.div
  rw [read_pos hs, read_pos hn]
  have hf : double.fractionBits = 52 := by decide
  simp only [Datum.quotient, mag_pos h0, if_false, Option.map, hf, Nat.shiftLeft_eq]
  rw [show (false ^^ false) = false from rfl, write_num]
theorem div_some {s n : Nat} (hs : s < inf) (hn : n < inf) (h0 : n ≠ 0) : double.div s n = some (divOf s n) := by
  obtain ⟨m, D, _, _, h⟩ := div_form hs hn h0
  simp [divOf, h]

theorem quot_le {D n T : Nat} (h : D ≤ T * n) : 2 * (D / n) + (D % n != 0).toNat ≤ 2 * T := by
  have a := Nat.div_add_mod D n
  have b : D / n ≤ T := Nat.div_le_of_le_mul (by rw [Nat.mul_comm]; exact h)
  by_cases c : D / n = T
  · have : D % n = 0 := by
      rw [c, Nat.mul_comm] at a; omega
    simp [this, c]
  · have : (D % n != 0).toNat ≤ 1 := by cases (D % n != 0) <;> simp
    omega

theorem div_le_one {s n : Nat} (hn : n < inf) (h0 : n ≠ 0) (h : s ≤ n) : divOf s n ≤ one := by
  have hs : s < inf := Nat.lt_of_le_of_lt h hn
  obtain ⟨more, D, hm, hD, hd⟩ := div_form hs hn h0
  have e : divOf s n = near (2 * (D / mag n) + (D % mag n != 0).toNat) ((-1074 + (up s : Int)) - (-1074 + (up n : Int)) - more - 1) := by simp [divOf, hd]
  rw [e]
  have hV := V_le_iff.2 h
  rw [V_eq, V_eq] at hV
  have hmn := mag_pos h0
  by_cases z : mag s = 0
  · have : D = 0 := by rw [hD, z, Nat.zero_mul]
    rw [this]; simp [near]
  · have hl : ((mag s).log2 : Int) + up s ≤ (mag n).log2 + up n :=
      le2_log (i := (up s : Int)) (j := (up n : Int)) (by omega) ((le2_iff _ _ _ _ (up s) (up n) (by omega)).2 hV)
    rw [← near_one]
    refine near_mono ?_
    have hex : up s ≤ more + up n := by omega
    rw [le2_iff _ _ _ _ 0 (more + up n + 1 - up s) (by omega), Nat.pow_zero, Nat.mul_one, Nat.one_mul]
    have hT : D ≤ 2 ^ (more + up n - up s) * mag n := by
      rw [hD, Nat.mul_comm _ (mag n)]
      exact (shift_le (mag s) (mag n) (up s) (up n) more (more + up n - up s) (by omega)).1 hV
    have := quot_le (n := mag n) hT
    have e2 : 2 ^ (more + up n + 1 - up s) = 2 * 2 ^ (more + up n - up s) := by
      rw [show more + up n + 1 - up s = (more + up n - up s) + 1 by omega, Nat.pow_succ, Nat.mul_comm]
    rw [e2]; exact this

theorem mag_one : mag one = 4503599627370496 ∧ up one = 1022 := by decide +kernel
theorem log_one : (4503599627370496 : Nat).log2 = 52 := by decide +kernel
theorem div_one {s : Nat} (hs : s < inf) : divOf s one = s := by
  obtain ⟨more, D, hm, hD, hd⟩ := div_form hs one_inf (by decide)
  have e : divOf s one = near (2 * (D / mag one) + (D % mag one != 0).toNat) ((-1074 + (up s : Int)) - (-1074 + (up one : Int)) - more - 1) := by simp [divOf, hd]
  have e2 := near_rung (r := s) (Nat.le_of_lt hs)
  rw [mag_one.1, log_one] at hm
  rw [mag_one.1, mag_one.2] at e
  have h4 : (4503599627370496 : Nat) = 2 ^ 52 := by decide
  by_cases z : mag s = 0
  · have : s = 0 := by
      apply Decidable.byContradiction; intro h; exact mag_pos h z
    rw [e, hD, z, this]; simp [near]
  · have hlog : (mag s).log2 ≤ 52 := by
      have hB : mag s < 2 ^ 53 := by
        unfold mag; split
        · have : B < 2 ^ 53 := by decide
          omega
        · have hb : B + B = 2 ^ 53 := by decide
          have := Nat.mod_lt s (show 0 < B by decide)
          omega
      have := (Nat.log2_lt z).2 hB
      omega
    have hq : D = mag s * 2 ^ (more - 52) * 2 ^ 52 := by rw [hD, Nat.mul_assoc, ← Nat.pow_add, Nat.sub_add_cancel (by omega)]
    have hdv : D / 4503599627370496 = mag s * 2 ^ (more - 52) := by rw [hq, h4, Nat.mul_div_cancel _ (Nat.two_pow_pos 52)]
    have hmd : D % 4503599627370496 = 0 := by rw [hq, h4, Nat.mul_mod_left]
    rw [e, hdv, hmd]
    simp only [bne_self_eq_false, Bool.toNat_false, Nat.add_zero]
    have e5 : 2 * (mag s * 2 ^ (more - 52)) = mag s * 2 ^ (more - 51) := by
      rw [show more - 51 = (more - 52) + 1 by omega, Nat.pow_succ, Nat.mul_comm (2 ^ (more - 52)) 2, Nat.mul_left_comm]
    rw [e5]
    conv => rhs; rw [← e2]
    refine near_eq ?_ ?_
    · rw [le2_iff _ _ _ _ 0 (more - 51) (by omega), Nat.pow_zero, Nat.mul_one]; exact Nat.le_refl _
    · rw [le2_iff _ _ _ _ (more - 51) 0 (by omega), Nat.pow_zero, Nat.mul_one]; exact Nat.le_refl _

/-! ### means -/
def sumOf (l : List Nat) : Nat := l.foldl (fun s x => addOf s (cleanOf x)) 0
def meanOf (l : List Nat) : Nat := if l.length = 0 then 0 else divOf (sumOf l) (near l.length 0)
theorem sum_snoc (l : List Nat) (x : Nat) : sumOf (l ++ [x]) = addOf (sumOf l) (cleanOf x) := by simp [sumOf]
theorem take_snoc (l : List Nat) (k : Nat) (h : k < l.length) : l.take (k + 1) = l.take k ++ [l.getD k 0] := by
  rw [List.take_succ_eq_append_getElem h]; simp [h]
theorem sum_take (l : List Nat) (h : ∀ x ∈ l, x < 18446744073709551616) (hl : l.length ≤ 1000) (k : Nat) (hk : k ≤ l.length) : sumOf (l.take k) ≤ near k 0 := by
  induction k with
  | zero => exact Nat.zero_le _
  | succ k ih =>
    rw [take_snoc l k (by omega), sum_snoc]
    refine add_small (by omega) (ih (by omega)) (cleanOf_le _ (h _ ?_))
    simp [show k < l.length by omega]
theorem sum_le (l : List Nat) (h : ∀ x ∈ l, x < 18446744073709551616) (hl : l.length ≤ 1000) : sumOf l ≤ near l.length 0 := by
  have := sum_take l h hl l.length (Nat.le_refl _)
  rwa [List.take_length] at this
theorem near_ne {k : Nat} (h0 : k ≠ 0) (h : k ≤ 1000) : near k 0 ≠ 0 := by
  intro e
  have := small_V h
  rw [e, V_zero] at this
  have := E_pos
  rcases Nat.mul_eq_zero.1 (by omega : k * E = 0) with a | a <;> omega
theorem mean_le (l : List Nat) (h : ∀ x ∈ l, x < 18446744073709551616) (hl : l.length ≤ 1000) : meanOf l ≤ one := by
  unfold meanOf
  by_cases h0 : l.length = 0
  · rw [if_pos h0]; exact Nat.zero_le _
  · rw [if_neg h0]
    exact div_le_one (small_inf hl) (near_ne h0 hl) (sum_le l h hl)
theorem mean_one (x : Nat) (h : x < 18446744073709551616) : meanOf [x] = cleanOf x := by
  have hc := Nat.lt_of_le_of_lt (cleanOf_le x h) one_inf
  unfold meanOf
  simp only [List.length_singleton, Nat.one_ne_zero, if_false]
  rw [near_one]
  simp only [sumOf, List.foldl]
  rw [add_zero hc, div_one hc]

end Fl
