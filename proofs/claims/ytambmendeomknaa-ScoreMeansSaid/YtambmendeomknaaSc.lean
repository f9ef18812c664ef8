/-
  Plain functions of scores (words of float64): kind, order, clean, points; no Go program.
-/
import Derived.Test.YtambmendeomknaaFl
namespace Fl

def kindOf (x : Nat) : Int :=
  if isNaN x then 0 else if rung x = inf then (if neg x then 1 else 6) else if rung x = 0 then (if neg x then 3 else 4) else if neg x then 2 else 5
def ordOf (x y : Nat) : Int :=
  if kindOf x < kindOf y then -1 else if kindOf y < kindOf x then 1 else if kindOf x = 0 then 0 else if key x < key y then -1 else if key y < key x then 1 else 0
def one : Nat := 4607182418800017408
def cleanOf (x : Nat) : Nat := if kindOf x < 5 then 0 else if one < rung x then one else x
def bitsOf (x : Nat) : Nat := if isNaN x then 9221120237041090561 else x

theorem isNaN_lit0 : isNaN 0 = false := by decide
theorem key0 : key 0 = 0 := by decide

def gtB (x y : Nat) : Bool := !isNaN x && !isNaN y && decide (key y < key x)
def ltB (x y : Nat) : Bool := !isNaN x && !isNaN y && decide (key x < key y)
def eqB (x y : Nat) : Bool := !isNaN x && !isNaN y && decide (key x = key y)
open Ieee in
theorem gt_eq (x y : Nat) : (double.order x y == some .gt) = gtB x y := by
  unfold gtB
  by_cases hx : isNaN x = true
  · simp [order_nan_left y hx, hx]
  · by_cases hy : isNaN y = true
    · simp [order_nan_right x hy, hy]
    · simp only [Bool.not_eq_true] at hx hy
      rw [order_key hx hy]
      simp only [hx, hy, cmp]
      rcases Int.lt_trichotomy (key x) (key y) with h | h | h
      · simp [h]; omega
      · simp [h]
      · rw [if_neg (by omega), if_neg (by omega)]; simp [h]
open Ieee in
theorem lt_eq (x y : Nat) : (double.order x y == some .lt) = ltB x y := by
  unfold ltB
  by_cases hx : isNaN x = true
  · simp [order_nan_left y hx, hx]
  · by_cases hy : isNaN y = true
    · simp [order_nan_right x hy, hy]
    · simp only [Bool.not_eq_true] at hx hy
      rw [order_key hx hy]
      simp only [hx, hy, cmp]
      rcases Int.lt_trichotomy (key x) (key y) with h | h | h
      · simp [h]
      · simp [h]
      · rw [if_neg (by omega), if_neg (by omega)]; simp; omega
open Ieee in
theorem eq_eq (x y : Nat) : (double.order x y == some .eq) = eqB x y := by
  unfold eqB
  by_cases hx : isNaN x = true
  · simp [order_nan_left y hx, hx]
  · by_cases hy : isNaN y = true
    · simp [order_nan_right x hy, hy]
    · simp only [Bool.not_eq_true] at hx hy
      rw [order_key hx hy]
      simp only [hx, hy, cmp]
      rcases Int.lt_trichotomy (key x) (key y) with h | h | h
      · simp [h]; omega
      · simp [h]
      · rw [if_neg (by omega), if_neg (by omega)]; simp; omega

/-- the tests of Kind, all at once, by the kind -/
def top : Nat := 9218868437227405311
def low : Nat := 18442240474082181119
theorem key_top : key top = 9218868437227405311 := by decide
theorem key_low : key low = -9218868437227405311 := by decide
theorem nan_top : isNaN top = false := by decide
theorem nan_low : isNaN low = false := by decide
theorem key_one : key one = 4607182418800017408 := by decide
theorem nan_one : isNaN one = false := by decide

structure KindFacts (x : Nat) (k : Int) (b1 b2 b3 s b4 b5 : Bool) : Prop where
  kind : kindOf x = k
  top : gtB x Fl.top = b1
  gt : gtB x 0 = b2
  eq : eqB x 0 = b3
  sign : neg x = s
  ge : (gtB x Fl.low || eqB x Fl.low) = b4
  lt : ltB x 0 = b5

theorem kind_cases (x : Nat) : KindFacts x 0 false false false (neg x) false false ∨ KindFacts x 1 false false false true false true ∨ KindFacts x 2 false false false true true true ∨
    KindFacts x 3 false false true true true false ∨ KindFacts x 4 false false true false true false ∨ KindFacts x 5 false true false false true false ∨ KindFacts x 6 true true false false true false := by
  by_cases hn : isNaN x = true
  · exact Or.inl ⟨by simp [kindOf, hn], by simp [gtB, hn], by simp [gtB, hn], by simp [eqB, hn], rfl, by simp [gtB, eqB, hn], by simp [ltB, hn]⟩
  · simp only [Bool.not_eq_true] at hn
    have hr : rung x ≤ inf := by simpa [isNaN] using hn
    have hi : inf = 9218868437227405312 := rfl
    by_cases h1 : rung x = inf
    · cases hs : neg x
      · have hk : key x = 9218868437227405312 := by simp [key, hs, h1, hi]
        refine Or.inr (Or.inr (Or.inr (Or.inr (Or.inr (Or.inr ⟨?_, ?_, ?_, ?_, hs, ?_, ?_⟩)))))
        · simp [kindOf, hn, h1, hs]
        · simp [gtB, hn, nan_top, key_top, hk]
        · simp [gtB, hn, isNaN_lit0, key0, hk]
        · simp [eqB, hn, isNaN_lit0, key0, hk]
        · simp [gtB, eqB, hn, nan_low, key_low, hk]
        · simp [ltB, hn, isNaN_lit0, key0, hk]
      · have hk : key x = -9218868437227405312 := by simp [key, hs, h1, hi]
        refine Or.inr (Or.inl ⟨?_, ?_, ?_, ?_, hs, ?_, ?_⟩)
        · simp [kindOf, hn, h1, hs]
        · simp [gtB, hn, nan_top, key_top, hk]
        · simp [gtB, hn, isNaN_lit0, key0, hk]
        · simp [eqB, hn, isNaN_lit0, key0, hk]
        · simp [gtB, eqB, hn, nan_low, key_low, hk]
        · simp [ltB, hn, isNaN_lit0, key0, hk]
    · by_cases h0 : rung x = 0
      · have hk : key x = 0 := by simp [key, h0]
        have hi0 : (0 : Nat) ≠ inf := by decide
        cases hs : neg x
        · refine Or.inr (Or.inr (Or.inr (Or.inr (Or.inl ⟨?_, ?_, ?_, ?_, hs, ?_, ?_⟩))))
          · simp [kindOf, hn, h0, hi0, hs]
          · simp [gtB, hn, nan_top, key_top, hk]
          · simp [gtB, key0, hk]
          · simp [eqB, hn, isNaN_lit0, key0, hk]
          · simp [gtB, eqB, hn, nan_low, key_low, hk]
          · simp [ltB, key0, hk]
        · refine Or.inr (Or.inr (Or.inr (Or.inl ⟨?_, ?_, ?_, ?_, hs, ?_, ?_⟩)))
          · simp [kindOf, hn, h0, hi0, hs]
          · simp [gtB, hn, nan_top, key_top, hk]
          · simp [gtB, key0, hk]
          · simp [eqB, hn, isNaN_lit0, key0, hk]
          · simp [gtB, eqB, hn, nan_low, key_low, hk]
          · simp [ltB, key0, hk]
      · cases hs : neg x
        · have hk : key x = rung x := by simp [key, hs]
          refine Or.inr (Or.inr (Or.inr (Or.inr (Or.inr (Or.inl ⟨?_, ?_, ?_, ?_, hs, ?_, ?_⟩)))))
          · simp [kindOf, hn, h0, h1, hs]
          · simp [gtB, hn, nan_top, key_top, hk] <;> omega
          · simp [gtB, hn, isNaN_lit0, key0, hk] <;> omega
          · simp [eqB, hn, isNaN_lit0, key0, hk] <;> omega
          · simp [gtB, eqB, hn, nan_low, key_low, hk] <;> omega
          · simp [ltB, hn, isNaN_lit0, key0, hk] <;> omega
        · have hk : key x = -(rung x : Int) := by simp [key, hs]
          refine Or.inr (Or.inr (Or.inl ⟨?_, ?_, ?_, ?_, hs, ?_, ?_⟩))
          · simp [kindOf, hn, h0, h1, hs]
          · simp [gtB, hn, nan_top, key_top, hk] <;> omega
          · simp [gtB, hn, isNaN_lit0, key0, hk] <;> omega
          · simp [eqB, hn, isNaN_lit0, key0, hk] <;> omega
          · simp [gtB, eqB, hn, nan_low, key_low, hk] <;> omega
          · simp [ltB, hn, isNaN_lit0, key0, hk] <;> omega


theorem kindOf_int (x : Nat) (X : Int) (h : (x : Int) = X) (_hx : X ≤ 18446744073709551615) : kindOf x =
    if 9218868437227405312 < X % 9223372036854775808 then 0 else if X % 9223372036854775808 = 9218868437227405312 then (if 9223372036854775808 ≤ X then 1 else 6)
    else if X % 9223372036854775808 = 0 then (if 9223372036854775808 ≤ X then 3 else 4) else if 9223372036854775808 ≤ X then 2 else 5 := by
  subst h
  have hr : (rung x : Int) = (x : Int) % 9223372036854775808 := by simp [rung]
  have hn : neg x = decide (9223372036854775808 ≤ (x : Int)) := by
    unfold neg
    rw [Bool.eq_iff_iff]
    simp only [beq_iff_eq, decide_eq_true_eq]
    omega
  unfold kindOf isNaN
  rw [hn]
  simp only [decide_eq_true_eq, inf]
  have a1 : (9218868437227405312 < rung x) ↔ (9218868437227405312 < (x : Int) % 9223372036854775808) := by omega
  have a2 : (rung x = 9218868437227405312) ↔ ((x : Int) % 9223372036854775808 = 9218868437227405312) := by omega
  have a3 : (rung x = 0) ↔ ((x : Int) % 9223372036854775808 = 0) := by omega
  simp only [a1, a2, a3, decide_eq_true_eq]

theorem kind_key (x : Nat) : 0 ≤ kindOf x ∧ kindOf x ≤ 6 ∧ (kindOf x = 0 ↔ isNaN x = true) ∧ (kindOf x = 1 → key x = -(rung x : Int) ∧ rung x = inf) ∧ (kindOf x = 2 → key x = -(rung x : Int) ∧ 0 < rung x) ∧
    (kindOf x = 3 → key x = 0 ∧ rung x = 0) ∧ (kindOf x = 4 → key x = 0 ∧ rung x = 0) ∧ (kindOf x = 5 → key x = rung x ∧ 0 < rung x) ∧ (kindOf x = 6 → key x = rung x ∧ rung x = inf) := by
  unfold kindOf key
  cases isNaN x
  · by_cases h1 : rung x = inf
    · cases neg x <;> simp [h1]
    · by_cases h0 : rung x = 0
      · have : (0 : Nat) ≠ inf := by decide
        cases neg x <;> simp [h0, this]
      · cases neg x <;> simp [h0, h1] <;> omega
  · simp

theorem lt_key {x y : Nat} (hk : kindOf x = kindOf y) : ltB x y = decide (kindOf x ≠ 0 ∧ key x < key y) := by
  have a := (kind_key x).2.2.1
  have b := (kind_key y).2.2.1
  rw [hk] at a
  unfold ltB
  rw [hk]
  by_cases h : kindOf y = 0
  · simp [h, a.1 h]
  · have h1 : isNaN x = false := by cases hh : isNaN x; rfl; exact absurd (a.2 hh) h
    have h2 : isNaN y = false := by cases hh : isNaN y; rfl; exact absurd (b.2 hh) h
    simp [h, h1, h2]

theorem gt_key {x y : Nat} (hk : kindOf x = kindOf y) : gtB x y = decide (kindOf x ≠ 0 ∧ key y < key x) := by
  have a := (kind_key x).2.2.1
  have b := (kind_key y).2.2.1
  rw [hk] at a
  unfold gtB
  rw [hk]
  by_cases h : kindOf y = 0
  · simp [h, a.1 h]
  · have h1 : isNaN x = false := by cases hh : isNaN x; rfl; exact absurd (a.2 hh) h
    have h2 : isNaN y = false := by cases hh : isNaN y; rfl; exact absurd (b.2 hh) h
    simp [h, h1, h2]

/-- the document's order, by the rungs -/
theorem ord_ref (x y : Nat) (hk : kindOf x = kindOf y) : ordOf x y =
    if kindOf x = 2 then (if rung y = rung x then 0 else if rung y < rung x then -1 else 1)
    else if kindOf x = 0 ∨ rung x = rung y then 0 else if rung x < rung y then -1 else 1 := by
  have a := kind_key x
  have b := kind_key y
  obtain ⟨a0, a6, _, a1, a2, a3, a4, a5, a7⟩ := a
  obtain ⟨_, _, _, b1, b2, b3, b4, b5, b7⟩ := b
  unfold ordOf
  rw [← hk] at b1 b2 b3 b4 b5 b7
  rw [if_neg (by omega), if_neg (by omega)]
  have : kindOf x = 0 ∨ kindOf x = 1 ∨ kindOf x = 2 ∨ kindOf x = 3 ∨ kindOf x = 4 ∨ kindOf x = 5 ∨ kindOf x = 6 := by omega
  rcases this with h | h | h | h | h | h | h
  · simp [h]
  · have p := a1 h; have q := b1 h
    simp [h, p.1, q.1, p.2, q.2]
  · have p := a2 h; have q := b2 h
    simp only [h, p.1, q.1, if_true]
    rw [if_neg (show ¬ (2 : Int) = 0 by decide)]
    rcases Nat.lt_trichotomy (rung x) (rung y) with c | c | c
    · rw [if_neg (by omega), if_pos (by omega), if_neg (by omega), if_neg (by omega)]
    · simp [c]
    · rw [if_pos (by omega), if_neg (by omega), if_pos (by omega)]
  · have p := a3 h; have q := b3 h
    simp [h, p.1, q.1, p.2, q.2]
  · have p := a4 h; have q := b4 h
    simp [h, p.1, q.1, p.2, q.2]
  · have p := a5 h; have q := b5 h
    simp only [h, p.1, q.1]
    rw [if_neg (show ¬ (5 : Int) = 0 by decide), if_neg (show ¬ (5 : Int) = 2 by decide)]
    rcases Nat.lt_trichotomy (rung x) (rung y) with c | c | c
    · rw [if_pos (by omega), if_neg (by omega), if_pos (by omega)]
    · simp [c]
    · rw [if_neg (by omega), if_pos (by omega), if_neg (by omega), if_neg (by omega)]
  · have p := a7 h; have q := b7 h
    simp [h, p.1, q.1, p.2, q.2]

/-! ### clean -/
theorem one_lt : one < 9223372036854775808 := by decide
theorem one_inf : one < inf := by decide
theorem rung_small {r : Nat} (h : r < 9223372036854775808) : rung r = r ∧ neg r = false := by
  unfold rung neg
  constructor
  · omega
  · simp; omega

theorem cleanOf_le (x : Nat) (hx : x < 18446744073709551616) : cleanOf x ≤ one := by
  unfold cleanOf
  by_cases h : kindOf x < 5
  · rw [if_pos h]; exact Nat.zero_le _
  · rw [if_neg h]
    by_cases h1 : one < rung x
    · rw [if_pos h1]; exact Nat.le_refl _
    · rw [if_neg h1]
      have a := kind_key x
      have hn : neg x = false := by
        cases hh : neg x
        · rfl
        · exfalso; apply h; unfold kindOf; simp [hh]; split <;> (try split) <;> (try split) <;> decide
      have : x = rung x := by
        unfold neg at hn; unfold rung
        simp at hn; omega
      omega

theorem gt0_kind (x : Nat) : gtB x 0 = decide (5 ≤ kindOf x) := by
  rcases kind_cases x with h | h | h | h | h | h | h <;> simp [h.kind, h.gt]

theorem gt1_clean (x : Nat) (h : 5 ≤ kindOf x) : gtB x one = decide (one < rung x) := by
  obtain ⟨_, _, a, _, _, _, _, a5, a7⟩ := kind_key x
  have hn : isNaN x = false := by cases hh : isNaN x; rfl; have := a.2 hh; omega
  have hk : key x = rung x := by
    have : kindOf x = 5 ∨ kindOf x = 6 := by have := (kind_key x).2.1; omega
    rcases this with h | h
    · exact (a5 h).1
    · exact (a7 h).1
  unfold gtB
  rw [hn, nan_one, hk, key_one]
  simp only [Bool.not_false, Bool.true_and]
  unfold one
  rw [Bool.eq_iff_iff]; simp only [decide_eq_true_eq]; omega

end Fl
