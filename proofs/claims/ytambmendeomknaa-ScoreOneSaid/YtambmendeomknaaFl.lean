/-
  Plain facts on IEEE 754 double words (no Go program): the order of words is the order of signed rungs; rounding to nearest is monotone; a number that a word has is rounded to that word.
-/
import Ieee.Arith
namespace Fl
open Ieee

def rung (x : Nat) : Nat := x % 9223372036854775808
def neg (x : Nat) : Bool := x / 9223372036854775808 % 2 == 1
def inf : Nat := 9218868437227405312
def isNaN (x : Nat) : Bool := decide (inf < rung x)
def B : Nat := 4503599627370496
/-- the magnitude of a rung, in units of the least place. -/
def V (r : Nat) : Nat := if r < B then r else (B + r % B) * 2 ^ (r / B - 1)
def mag (r : Nat) : Nat := if r < B then r else B + r % B
def up (r : Nat) : Nat := if r < B then 0 else r / B - 1
def key (x : Nat) : Int := if neg x then -(rung x : Int) else rung x
def val (x : Nat) : Int := if neg x then -(V (rung x) : Int) else V (rung x)

theorem V_eq (r : Nat) : V r = mag r * 2 ^ up r := by
  unfold V mag up; split <;> simp

theorem V_zero : V 0 = 0 := by simp [V, B]

theorem V_succ (r : Nat) : V r < V (r + 1) := by
  unfold V
  by_cases h1 : r + 1 < B
  · rw [if_pos (by omega), if_pos h1]; omega
  · by_cases h0 : r < B
    · have e : r + 1 = B := by omega
      rw [if_pos h0, if_neg h1, e]
      simp [Nat.div_self (show 0 < B by decide)]; omega
    · rw [if_neg h0, if_neg h1]
      have hB : 0 < B := by decide
      by_cases hm : (r + 1) % B = 0
      · have hd : (r + 1) / B = r / B + 1 := by
          have a := Nat.div_add_mod (r + 1) B
          have b := Nat.div_add_mod r B
          have c := Nat.mod_lt r hB
          rw [Nat.succ_div]; rw [if_pos (Nat.dvd_of_mod_eq_zero hm)]
        have hr : r % B = B - 1 := by
          have a := Nat.div_add_mod (r + 1) B
          have b := Nat.div_add_mod r B
          rw [hd, hm, Nat.mul_add] at a
          omega
        have h1' : 1 ≤ r / B := Nat.div_pos (by omega) hB
        obtain ⟨q, hq⟩ : ∃ q, r / B = q + 1 := ⟨r / B - 1, by omega⟩
        rw [hd, hm, hr, hq]
        simp only [Nat.add_sub_cancel, Nat.add_zero, Nat.pow_succ]
        have hp : 0 < 2 ^ q := Nat.two_pow_pos q
        have : (B + (B - 1)) * 2 ^ q + 2 ^ q = B * (2 ^ q * 2) := by
          rw [← Nat.succ_mul, Nat.mul_comm (2 ^ q) 2, ← Nat.mul_assoc]
          congr 1
        omega
      · have hd : (r + 1) / B = r / B := by
          rw [Nat.succ_div, if_neg (fun h => hm (Nat.mod_eq_zero_of_dvd h))]
          rfl
        have hr : (r + 1) % B = r % B + 1 := by
          have a := Nat.div_add_mod (r + 1) B
          have b := Nat.div_add_mod r B
          rw [hd] at a; omega
        rw [hd, hr]
        exact Nat.mul_lt_mul_of_pos_right (by omega) (Nat.two_pow_pos _)

theorem V_lt {r s : Nat} (h : r < s) : V r < V s := by
  induction s with
  | zero => omega
  | succ s ih =>
    rcases Nat.lt_or_eq_of_le (Nat.le_of_lt_succ h) with h | rfl
    · exact Nat.lt_trans (ih h) (V_succ s)
    · exact V_succ r

theorem V_lt_iff {r s : Nat} : V r < V s ↔ r < s := by
  constructor
  · intro h
    rcases Nat.lt_trichotomy r s with a | a | a
    · exact a
    · subst a; omega
    · have := V_lt a; omega
  · exact V_lt

theorem V_le_iff {r s : Nat} : V r ≤ V s ↔ r ≤ s := by
  have := @V_lt_iff s r; omega

theorem V_inj {r s : Nat} : V r = V s ↔ r = s := by
  have := @V_le_iff r s; have := @V_le_iff s r; omega

theorem key_lt_iff (x y : Nat) : key x < key y ↔ val x < val y := by
  unfold key val
  have a := @V_lt_iff (rung x) (rung y)
  have b := @V_lt_iff (rung y) (rung x)
  have c := @V_lt_iff 0 (rung x)
  have d := @V_lt_iff 0 (rung y)
  rw [V_zero] at c d
  split <;> split <;> omega

theorem key_eq_iff (x y : Nat) : key x = key y ↔ val x = val y := by
  have a := key_lt_iff x y
  have b := key_lt_iff y x
  omega

/-! ### reading -/
theorem read_eq (x : Nat) : double.read x =
    if rung x < B then .number (neg x) (rung x) (-1074)
    else if rung x < inf then .number (neg x) (B + rung x % B) (-1074 + (rung x / B - 1 : Nat))
    else if rung x = inf then .infinity (neg x)
    else .nan (neg x) (rung x - inf) := by
  have hs : double.signWeight = 9223372036854775808 := by decide
  have hb : double.binade = B := by decide
  have hi : double.infRung = inf := by decide
  have hl : double.leastPlace = -1074 := by decide
  unfold Format.read
  simp only [hs, hb, hi, hl]
  rfl

theorem read_num {x : Nat} (h : rung x < inf) : double.read x = .number (neg x) (mag (rung x)) (-1074 + (up (rung x) : Int)) := by
  rw [read_eq]
  unfold mag up
  by_cases hb : rung x < B
  · rw [if_pos hb, if_pos hb, if_pos hb]; rfl
  · rw [if_neg hb, if_pos h, if_neg hb, if_neg hb]

theorem read_inf {x : Nat} (h : rung x = inf) : double.read x = .infinity (neg x) := by
  have hB : B < inf := by decide
  rw [read_eq, if_neg (by omega), if_neg (by omega), if_pos h]

theorem read_nan {x : Nat} (h : inf < rung x) : double.read x = .nan (neg x) (rung x - inf) := by
  have hB : B < inf := by decide
  rw [read_eq, if_neg (by omega), if_neg (by omega), if_neg (by omega)]

/-! ### the order -/
def cmp (a b : Int) : Ordering := if a < b then .lt else if a = b then .eq else .gt

theorem compare_int (a b : Int) : compare a b = cmp a b := by
  rfl

theorem cmp_scale (a b : Int) (k : Nat) (hk : 0 < k) : cmp (a * k) (b * k) = cmp a b := by
  have hk' : (0 : Int) < k := by omega
  unfold cmp
  have h1 : a * k < b * k ↔ a < b := ⟨fun h => Int.lt_of_mul_lt_mul_right h (by omega), fun h => Int.mul_lt_mul_of_pos_right h hk'⟩
  have h2 : a * k = b * k ↔ a = b := ⟨fun h => Int.eq_of_mul_eq_mul_right (by omega) h, fun h => by rw [h]⟩
  simp only [h1, h2]

theorem signed_scale (s : Bool) (m u k : Nat) : signed s m u * (2 ^ k : Nat) = if s then -((m * 2 ^ (u + k) : Nat) : Int) else ((m * 2 ^ (u + k) : Nat) : Int) := by
  unfold signed
  rw [Nat.shiftLeft_eq]
  cases s
  · simp only [Bool.false_eq_true, if_false]
    rw [Nat.pow_add, ← Nat.mul_assoc]; simp
  · simp only [if_true]
    rw [Nat.pow_add, ← Nat.mul_assoc, Int.neg_mul]; simp

theorem order_num (s t : Bool) (m n a b : Nat) : Datum.order (.number s m (-1074 + (a : Int))) (.number t n (-1074 + (b : Int))) =
    some (cmp (if s then -((m * 2 ^ a : Nat) : Int) else ((m * 2 ^ a : Nat) : Int)) (if t then -((n * 2 ^ b : Nat) : Int) else ((n * 2 ^ b : Nat) : Int))) := by
  unfold Datum.order
  simp only
  obtain ⟨c, hc, ha, hb⟩ : ∃ c : Nat, min (-1074 + (a : Int)) (-1074 + (b : Int)) = -1074 + (c : Int) ∧ c ≤ a ∧ c ≤ b := ⟨min a b, by omega, by omega, by omega⟩
  rw [hc]
  have e1 : (-1074 + (a : Int) - (-1074 + (c : Int))).toNat = a - c := by omega
  have e2 : (-1074 + (b : Int) - (-1074 + (c : Int))).toNat = b - c := by omega
  rw [e1, e2, compare_int]
  rw [← cmp_scale _ _ (2 ^ c) (Nat.two_pow_pos c), signed_scale, signed_scale, Nat.sub_add_cancel ha, Nat.sub_add_cancel hb]

theorem order_nan_left {x : Nat} (y : Nat) (h : isNaN x = true) : double.order x y = none := by
  unfold Format.order
  rw [read_nan (by simpa [isNaN] using h)]
  unfold Datum.order
  rfl

theorem order_nan_right (x : Nat) {y : Nat} (h : isNaN y = true) : double.order x y = none := by
  unfold Format.order
  rw [read_nan (x := y) (by simpa [isNaN] using h)]
  unfold Datum.order
  split <;> first | rfl | contradiction

theorem val_inf_lt {x y : Nat} (hx : rung x < inf) (hy : rung y = inf) : (neg y = true → val y < val x) ∧ (neg y = false → val x < val y) := by
  have a := @V_lt_iff (rung x) (rung y)
  have a' : V (rung x) < V (rung y) := a.2 (by omega)
  unfold val
  constructor
  · intro h; simp only [h, if_true]; split <;> omega
  · intro h; simp only [h]; simp only [Bool.false_eq_true, if_false]; split <;> omega

theorem order_val {x y : Nat} (hx : isNaN x = false) (hy : isNaN y = false) : double.order x y = some (cmp (val x) (val y)) := by
  have hx' : rung x ≤ inf := by simpa [isNaN] using hx
  have hy' : rung y ≤ inf := by simpa [isNaN] using hy
  unfold Format.order
  rcases Nat.lt_or_eq_of_le hx' with h1 | h1 <;> rcases Nat.lt_or_eq_of_le hy' with h2 | h2
  · rw [read_num h1, read_num h2, order_num, ← V_eq, ← V_eq]; rfl
  · rw [read_num h1, read_inf h2]
    have := val_inf_lt h1 h2
    unfold Datum.order
    cases hn : neg y
    · have := this.2 hn
      simp [cmp, this]
    · have := this.1 hn
      simp only [if_true, cmp]
      rw [if_neg (by omega), if_neg (by omega)]
  · rw [read_inf h1, read_num h2]
    have := val_inf_lt h2 h1
    unfold Datum.order
    cases hn : neg x
    · have := this.2 hn
      simp only [Bool.false_eq_true, if_false, cmp]
      rw [if_neg (by omega), if_neg (by omega)]
    · have := this.1 hn
      simp [cmp, this]
  · rw [read_inf h1, read_inf h2]
    have h0 : 0 < V inf := by rw [← V_zero]; exact V_lt (by decide)
    unfold Datum.order val
    rw [h1, h2]
    generalize V inf = v at h0
    cases neg x <;> cases neg y <;> simp only [cmp, Bool.false_eq_true, if_false, if_true, Int.lt_irrefl]
    · rfl
    · rw [if_neg (by omega), if_neg (by omega)]; rfl
    · rw [if_pos (by omega)]; rfl
    · rfl

theorem cmp_key (x y : Nat) : cmp (val x) (val y) = cmp (key x) (key y) := by
  unfold cmp
  simp only [key_lt_iff, key_eq_iff]

theorem order_key {x y : Nat} (hx : isNaN x = false) (hy : isNaN y = false) : double.order x y = some (cmp (key x) (key y)) := by
  rw [order_val hx hy, cmp_key]

/-! ### rounding -/
theorem rne_spec (s : Bool) (n d : Nat) : 2 * (Toward.even.cut s n d) * 2 ^ d ≤ 2 * n + 2 ^ d ∧ 2 * n ≤ 2 * (Toward.even.cut s n d) * 2 ^ d + 2 ^ d ∧
    (2 * (Toward.even.cut s n d) * 2 ^ d = 2 * n + 2 ^ d → Toward.even.cut s n d % 2 = 0) ∧ (2 * n = 2 * (Toward.even.cut s n d) * 2 ^ d + 2 ^ d → Toward.even.cut s n d % 2 = 0) := by
  unfold Toward.cut
  simp only [Nat.shiftLeft_eq, Nat.one_mul]
  by_cases h : d ≤ n.log2 + 2
  · rw [Nat.min_eq_left h]
    have hp : 0 < 2 ^ d := Nat.two_pow_pos d
    generalize 2 ^ d = P at hp
    have a := Nat.div_add_mod n P
    have b := Nat.mod_lt n hp
    generalize n / P = q at a
    generalize n % P = r at a b
    have e1 : 2 * q * P = 2 * (P * q) := by rw [Nat.mul_assoc, Nat.mul_comm q P]
    have e2 : 2 * (q + 1) * P = 2 * (P * q) + 2 * P := by rw [Nat.mul_assoc, Nat.mul_comm (q + 1) P, Nat.mul_add]; omega
    generalize P * q = Q at a e1 e2
    by_cases c1 : P < 2 * r
    · simp only [c1, decide_true, Bool.true_or, Bool.toNat_true]
      rw [e2]; refine ⟨by omega, by omega, by omega, by omega⟩
    · by_cases c2 : P = 2 * r
      · by_cases c3 : q % 2 = 1
        · have : (decide (P < 2 * r) || P == 2 * r && q % 2 == 1) = true := by simp [c2, c3]
          simp only [this, Bool.toNat_true]
          rw [e2]; refine ⟨by omega, by omega, by omega, by omega⟩
        · have : (decide (P < 2 * r) || P == 2 * r && q % 2 == 1) = false := by simp [c2, c3]
          simp only [this, Bool.toNat_false, Nat.add_zero]
          rw [e1]; refine ⟨by omega, by omega, by omega, by omega⟩
      · have : (decide (P < 2 * r) || P == 2 * r && q % 2 == 1) = false := by simp [c2]; omega
        simp only [this, Bool.toNat_false, Nat.add_zero]
        rw [e1]; refine ⟨by omega, by omega, by omega, by omega⟩
  · rw [Nat.min_eq_right (by omega)]
    have hn : n < 2 ^ (n.log2 + 1) := Nat.lt_log2_self
    have hg : 2 ^ (n.log2 + 2) = 2 * 2 ^ (n.log2 + 1) := by rw [Nat.pow_succ 2 (n.log2 + 1), Nat.mul_comm]
    have hd : 2 ^ (n.log2 + 2) ≤ 2 ^ d := Nat.pow_le_pow_right (by omega) (by omega)
    generalize 2 ^ (n.log2 + 2) = G at hg hd
    generalize 2 ^ (n.log2 + 1) = G' at hn hg
    rw [Nat.div_eq_of_lt (by omega), Nat.mod_eq_of_lt (by omega)]
    have : (decide (G < 2 * n) || G == 2 * n && 0 % 2 == 1) = false := by simp; omega
    simp only [this, Bool.toNat_false, Nat.add_zero, Nat.mul_zero, Nat.zero_mul]
    refine ⟨by omega, by omega, by omega, by omega⟩

theorem rne_mono (s t : Bool) (n1 d1 n2 d2 : Nat) (h : n1 * 2 ^ d2 ≤ n2 * 2 ^ d1) : Toward.even.cut s n1 d1 ≤ Toward.even.cut t n2 d2 := by
  obtain ⟨a1, a2, a3, a4⟩ := rne_spec s n1 d1
  obtain ⟨b1, b2, b3, b4⟩ := rne_spec t n2 d2
  generalize Toward.even.cut s n1 d1 = k1 at a1 a2 a3 a4
  generalize Toward.even.cut t n2 d2 = k2 at b1 b2 b3 b4
  have hp1 : 0 < 2 ^ d1 := Nat.two_pow_pos d1
  have hp2 : 0 < 2 ^ d2 := Nat.two_pow_pos d2
  generalize 2 ^ d1 = P1 at *
  generalize 2 ^ d2 = P2 at *
  apply Decidable.byContradiction
  intro hk
  have hk : k2 + 1 ≤ k1 := by omega
  have m1 := Nat.mul_le_mul_right P2 a1
  have m2 := Nat.mul_le_mul_right P1 b2
  have m3 := Nat.mul_le_mul_right (P1 * P2) hk
  have f1 : 2 * k1 * P1 * P2 = 2 * (k1 * (P1 * P2)) := by simp only [Nat.mul_assoc]
  have f2 : (2 * n1 + P1) * P2 = 2 * (n1 * P2) + P1 * P2 := by rw [Nat.add_mul, Nat.mul_assoc]
  have f3 : 2 * n2 * P1 = 2 * (n2 * P1) := by rw [Nat.mul_assoc]
  have f4 : (2 * k2 * P2 + P2) * P1 = 2 * (k2 * (P1 * P2)) + P1 * P2 := by rw [Nat.add_mul, Nat.mul_comm P2 P1, Nat.mul_assoc, Nat.mul_assoc, Nat.mul_comm P2 P1]
  have f5 : (k2 + 1) * (P1 * P2) = k2 * (P1 * P2) + P1 * P2 := by rw [Nat.add_mul, Nat.one_mul]
  rw [f1, f2] at m1
  rw [f3, f4] at m2
  rw [f5] at m3
  have hP : 0 < P1 * P2 := Nat.mul_pos hp1 hp2
  have q1 : 2 * k1 * P1 * P2 = (2 * n1 + P1) * P2 := by rw [f1, f2]; omega
  have q2 : 2 * n2 * P1 = (2 * k2 * P2 + P2) * P1 := by rw [f3, f4]; omega
  have q3 : (k2 + 1) * (P1 * P2) = k1 * (P1 * P2) := by rw [f5]; omega
  have r1 := a3 (Nat.eq_of_mul_eq_mul_right hp2 q1)
  have r2 := b4 (Nat.eq_of_mul_eq_mul_right hp1 q2)
  have r3 := Nat.eq_of_mul_eq_mul_right hP q3
  omega

theorem rne_zero (s : Bool) (n : Nat) : Toward.even.cut s n 0 = n := by
  obtain ⟨a1, a2, a3, a4⟩ := rne_spec s n 0
  generalize Toward.even.cut s n 0 = k at *
  simp only [Nat.pow_zero, Nat.mul_one] at *
  omega

/-- 'm * 2 ^ i ≤ n * 2 ^ j'. -/
def le2 (m : Nat) (i : Int) (n : Nat) (j : Int) : Prop := m * 2 ^ (i - min i j).toNat ≤ n * 2 ^ (j - min i j).toNat

theorem shift_le (m n p q p' q' : Nat) (h : p + q' = p' + q) : m * 2 ^ p ≤ n * 2 ^ q ↔ m * 2 ^ p' ≤ n * 2 ^ q' := by
  have a : m * 2 ^ p ≤ n * 2 ^ q ↔ m * 2 ^ p * 2 ^ q' ≤ n * 2 ^ q * 2 ^ q' := (Nat.mul_le_mul_right_iff (Nat.two_pow_pos q')).symm
  have b : m * 2 ^ p' ≤ n * 2 ^ q' ↔ m * 2 ^ p' * 2 ^ q ≤ n * 2 ^ q' * 2 ^ q := (Nat.mul_le_mul_right_iff (Nat.two_pow_pos q)).symm
  rw [a, b]
  simp only [Nat.mul_assoc, ← Nat.pow_add]
  rw [h, Nat.add_comm q q']

theorem le2_iff (m n : Nat) (i j : Int) (p q : Nat) (h : (p : Int) - q = i - j) : le2 m i n j ↔ m * 2 ^ p ≤ n * 2 ^ q := by
  unfold le2
  exact shift_le _ _ _ _ _ _ (by omega)

theorem le2_log {m n : Nat} {i j : Int} (hm : 0 < m) (h : le2 m i n j) : (m.log2 : Int) + i ≤ n.log2 + j := by
  unfold le2 at h
  have hm' : m ≠ 0 := by omega
  have hn : 0 < n := by
    rcases Nat.eq_zero_or_pos n with e | e
    · subst e; have := Nat.mul_pos hm (Nat.two_pow_pos (i - min i j).toNat); omega
    · exact e
  have a : ∀ (x k : Nat), 0 < x → (x * 2 ^ k).log2 = x.log2 + k := by
    intro x k hx
    have hx' : x ≠ 0 := by omega
    have hxk : x * 2 ^ k ≠ 0 := by have := Nat.mul_pos hx (Nat.two_pow_pos k); omega
    rw [Nat.log2_eq_iff hxk]
    have l1 : 2 ^ x.log2 ≤ x := Nat.log2_self_le hx'
    have l2 : x < 2 ^ (x.log2 + 1) := Nat.lt_log2_self
    constructor
    · rw [Nat.pow_add]; exact Nat.mul_le_mul_right _ l1
    · rw [show x.log2 + k + 1 = x.log2 + 1 + k by omega, Nat.pow_add]; exact Nat.mul_lt_mul_of_pos_right l2 (Nat.two_pow_pos k)
  have l : (m * 2 ^ (i - min i j).toNat).log2 ≤ (n * 2 ^ (j - min i j).toNat).log2 := by
    have hz : n * 2 ^ (j - min i j).toNat ≠ 0 := by have := Nat.mul_pos hn (Nat.two_pow_pos (j - min i j).toNat); omega
    have hz' : m * 2 ^ (i - min i j).toNat ≠ 0 := by have := Nat.mul_pos hm (Nat.two_pow_pos (i - min i j).toNat); omega
    rw [Nat.le_log2 hz]
    exact Nat.le_trans (Nat.log2_self_le hz') h
  rw [a _ _ hm, a _ _ hn] at l
  omega

def last (m : Nat) (i : Int) : Int := max (i + m.log2 - 52) (-1074)
def kept (m : Nat) (i : Int) : Nat := Toward.even.cut false (m <<< (i - last m i).toNat) (last m i - i).toNat
/-- The rung nearest to 'm * 2 ^ i'. -/
def near (m : Nat) (i : Int) : Nat := if m = 0 then 0 else min ((last m i + 1074).toNat * B + kept m i) inf

theorem cut_sign (s t : Bool) (n d : Nat) : Toward.even.cut s n d = Toward.even.cut t n d := by
  unfold Toward.cut; rfl

theorem nearest_eq (s : Bool) (m : Nat) (i : Int) : double.nearest s m i = double.word s (near m i) := by
  have hb : double.binade = B := by decide
  have hi : double.infRung = inf := by decide
  have hl : double.leastPlace = -1074 := by decide
  have hf : double.fractionBits = 52 := by decide
  unfold Format.nearest near kept last
  simp only [hb, hi, hl, hf]
  by_cases h : m = 0
  · simp [h]
  · rw [if_neg h, if_neg h, cut_sign s false]; rfl

theorem kept_le (m : Nat) (i : Int) : kept m i ≤ 2 * B := by
  unfold kept
  have hB : 2 * B = Toward.even.cut false (2 ^ 53) 0 := by rw [rne_zero]; decide
  rw [hB]
  refine rne_mono _ _ _ _ _ _ ?_
  rw [Nat.pow_zero, Nat.mul_one, Nat.shiftLeft_eq]
  have l2 : m < 2 ^ (m.log2 + 1) := Nat.lt_log2_self
  have a : m * 2 ^ (i - last m i).toNat ≤ 2 ^ (m.log2 + 1) * 2 ^ (i - last m i).toNat := Nat.mul_le_mul_right _ (Nat.le_of_lt l2)
  refine Nat.le_trans a ?_
  rw [← Nat.pow_add, ← Nat.pow_add]
  refine Nat.pow_le_pow_right (by omega) ?_
  unfold last; omega

theorem kept_ge (m : Nat) (i : Int) (hm : 0 < m) (h : -1074 < last m i) : B ≤ kept m i := by
  unfold kept
  have hB : B = Toward.even.cut false (2 ^ 52) 0 := by rw [rne_zero]; decide
  rw [hB]
  refine rne_mono _ _ _ _ _ _ ?_
  rw [Nat.pow_zero, Nat.mul_one, Nat.shiftLeft_eq]
  have l1 : 2 ^ m.log2 ≤ m := Nat.log2_self_le (by omega)
  have a : 2 ^ m.log2 * 2 ^ (i - last m i).toNat ≤ m * 2 ^ (i - last m i).toNat := Nat.mul_le_mul_right _ l1
  refine Nat.le_trans ?_ a
  rw [← Nat.pow_add, ← Nat.pow_add]
  refine Nat.pow_le_pow_right (by omega) ?_
  unfold last at *; omega

theorem near_mono {m n : Nat} {i j : Int} (h : le2 m i n j) : near m i ≤ near n j := by
  rcases Nat.eq_zero_or_pos m with e | hm
  · subst e; simp [near]
  · have hl := le2_log hm h
    have hn : 0 < n := by
      rcases Nat.eq_zero_or_pos n with e | e
      · subst e; unfold le2 at h; have := Nat.mul_pos hm (Nat.two_pow_pos (i - min i j).toNat); omega
      · exact e
    unfold near
    rw [if_neg (by omega), if_neg (by omega)]
    have core : (last m i + 1074).toNat * B + kept m i ≤ (last n j + 1074).toNat * B + kept n j := by
      have hle : last m i ≤ last n j := by unfold last; omega
      rcases Int.lt_or_eq_of_le hle with hlt | heq
      · have k1 := kept_le m i
        have k2 := kept_ge n j hn (by unfold last at *; omega)
        have : (last m i + 1074).toNat + 1 ≤ (last n j + 1074).toNat := by unfold last at *; omega
        have := Nat.mul_le_mul_right B this
        rw [Nat.add_mul, Nat.one_mul] at this
        omega
      · have : kept m i ≤ kept n j := by
          unfold kept
          rw [heq]
          refine rne_mono _ _ _ _ _ _ ?_
          rw [Nat.shiftLeft_eq, Nat.shiftLeft_eq, Nat.mul_assoc, Nat.mul_assoc, ← Nat.pow_add, ← Nat.pow_add]
          exact (le2_iff m n i j _ _ (by omega)).1 h
        rw [heq]; exact Nat.add_le_add_left this _
    generalize (last m i + 1074).toNat * B + kept m i = x at core
    generalize (last n j + 1074).toNat * B + kept n j = y at core
    exact Nat.le_min.2 ⟨Nat.le_trans (Nat.min_le_left _ _) core, Nat.min_le_right _ _⟩

theorem near_eq {m n : Nat} {i j : Int} (h : le2 m i n j) (h' : le2 n j m i) : near m i = near n j := Nat.le_antisymm (near_mono h) (near_mono h')

/-- A rung's own number is rounded to it. -/
theorem near_rung {r : Nat} (hr : r ≤ inf) : near (mag r) (-1074 + (up r : Int)) = r := by
  unfold near mag up
  by_cases h : r < B
  · simp only [if_pos h]
    by_cases h0 : r = 0
    · simp [h0]
    · rw [if_neg h0]
      have hl : r.log2 < 52 := (Nat.log2_lt h0).2 h
      have e : last r (-1074 + ((0 : Nat) : Int)) = -1074 := by unfold last; omega
      unfold kept
      rw [e]
      simp [rne_zero]
      exact Nat.min_eq_left hr
  · simp only [if_neg h]
    have hB : 0 < B := by decide
    have hm := Nat.mod_lt r hB
    have hd := Nat.div_add_mod r B
    have hq : 1 ≤ r / B := Nat.div_pos (by omega) hB
    have hne : B + r % B ≠ 0 := by omega
    rw [if_neg hne]
    have hl : (B + r % B).log2 = 52 := by
      rw [Nat.log2_eq_iff hne]
      have : (2 : Nat) ^ 52 = B := by decide
      have : (2 : Nat) ^ (52 + 1) = 2 * B := by decide
      omega
    have e : last (B + r % B) (-1074 + ((r / B - 1 : Nat) : Int)) = -1074 + ((r / B - 1 : Nat) : Int) := by unfold last; rw [hl]; omega
    unfold kept
    rw [e]
    have e1 : (-1074 + ((r / B - 1 : Nat) : Int) - (-1074 + ((r / B - 1 : Nat) : Int))).toNat = 0 := by omega
    have e2 : (-1074 + ((r / B - 1 : Nat) : Int) + 1074).toNat = r / B - 1 := by omega
    rw [e1, e2, rne_zero, Nat.shiftLeft_zero]
    have : (r / B - 1) * B + (B + r % B) = r := by
      rw [Nat.sub_mul, Nat.one_mul, Nat.mul_comm]
      have := Nat.mul_le_mul_left B hq
      generalize B * (r / B) = Q at *
      omega
    rw [this]
    exact Nat.min_eq_left hr

theorem near_le_inf (m : Nat) (i : Int) : near m i ≤ inf := by
  unfold near; split
  · exact Nat.zero_le _
  · exact Nat.min_le_right _ _

theorem word_false (r : Nat) : double.word false r = r := rfl

end Fl
