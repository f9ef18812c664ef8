/-
  The walk of the statement on clean scores.
-/
import Derived.Test.YtambmendeomknaaLa
namespace Go.Proofs.Ytambmendeomknaa
open Go.RowKit

theorem kind_small {c : Nat} (h : c ≤ Fl.one) : Fl.kindOf c = if c = 0 then 4 else 5 := by
  have h1 := Fl.one_inf
  have h2 := Fl.inf_lt
  have h3 := Fl.rung_small (r := c) (by omega)
  have h4 : Fl.isNaN c = false := (pos_word (Nat.lt_of_le_of_lt h h1)).1
  unfold Fl.kindOf
  rw [h4, h3.1, h3.2]
  simp only [Bool.false_eq_true, if_false]
  rw [if_neg (by omega)]
theorem clean_small {c : Nat} (h : c ≤ Fl.one) : Fl.cleanOf c = c := by
  have h1 := Fl.one_inf
  have h2 := Fl.inf_lt
  have h3 := Fl.rung_small (r := c) (by omega)
  unfold Fl.cleanOf
  rw [kind_small h, h3.1]
  by_cases z : c = 0
  · simp [z]
  · rw [if_neg z, if_neg (by decide), if_neg (by omega)]
theorem clean_mono {x y : Nat} (hx : x < 18446744073709551616) (hy : y < 18446744073709551616) (h : Fl.ordOf x y ≤ 0) : Fl.cleanOf x ≤ Fl.cleanOf y := by
  rw [ord_le] at h
  have lx := Fl.cleanOf_le x hx
  have pos : ∀ z : Nat, z < 18446744073709551616 → 5 ≤ Fl.kindOf z → z = Fl.rung z ∧ Fl.key z = Fl.rung z := by
    intro z hz hk
    obtain ⟨_, z6, _, _, _, _, _, z5, z7⟩ := Fl.kind_key z
    have hn : Fl.neg z = false := by
      cases hh : Fl.neg z
      · rfl
      · exfalso
        have : Fl.kindOf z < 5 := by unfold Fl.kindOf; simp [hh]; split <;> (try split) <;> (try split) <;> decide
        omega
    refine ⟨?_, by unfold Fl.key; simp [hn]⟩
    unfold Fl.neg at hn; unfold Fl.rung
    simp at hn; omega
  obtain ⟨_, _, _, _, _, _, _, _, y7⟩ := Fl.kind_key y
  have k6 := (Fl.kind_key y).2.1
  by_cases k : Fl.kindOf x < 5
  · have : Fl.cleanOf x = 0 := by unfold Fl.cleanOf; rw [if_pos k]
    omega
  · have hi := Fl.one_inf
    have px := pos x hx (by omega)
    have py := pos y hy (by omega)
    have ey : Fl.cleanOf y = if Fl.one < Fl.rung y then Fl.one else y := by unfold Fl.cleanOf; rw [if_neg (by omega)]
    have ex : Fl.cleanOf x = if Fl.one < Fl.rung x then Fl.one else x := by unfold Fl.cleanOf; rw [if_neg k]
    rw [ey]
    by_cases c : Fl.one < Fl.rung y
    · rw [if_pos c]; exact lx
    · have hk5 : ¬ Fl.kindOf y = 6 := fun e => by have := (y7 e).2; omega
      rw [if_neg c, ex]
      have : Fl.rung x ≤ Fl.rung y := by omega
      rw [if_neg (by omega)]
      omega
theorem points_clean (x : Nat) (hx : x < 18446744073709551616) : Fl.pointsOf (Fl.cleanOf x) = Fl.pointsOf x := by
  unfold Fl.pointsOf; rw [clean_small (Fl.cleanOf_le x hx)]
theorem ge_words {p q : Nat} (hp : p < Fl.inf) (hq : q < Fl.inf) : (FloatKind.f64.format.order p q == some Ordering.gt || FloatKind.f64.format.order p q == some Ordering.eq) = decide (q ≤ p) := by
  rw [fgt, feq]
  unfold Fl.gtB Fl.eqB
  rw [(pos_word hp).1, (pos_word hq).1, (pos_word hp).2, (pos_word hq).2]
  rw [Bool.eq_iff_iff]; simp; omega

structure CleanFacts (x c p : Nat) : Prop where
  ge : (FloatKind.f64.format.order c 0 == some Ordering.gt || FloatKind.f64.format.order c 0 == some Ordering.eq) = true
  le : (FloatKind.f64.format.order c 4607182418800017408 == some Ordering.lt || FloatKind.f64.format.order c 4607182418800017408 == some Ordering.eq) = true
  kind : Fl.kindOf c = 4 ∨ Fl.kindOf c = 5
  clean : Fl.cleanOf c = c
  pts : p ≤ 1000
  again : Fl.pointsOf c = p
theorem clean_facts (x : Nat) (hx : x < 18446744073709551616) : CleanFacts x (Fl.cleanOf x) (Fl.pointsOf x) := by
  have hc := Fl.cleanOf_le x hx
  have hi := Nat.lt_of_le_of_lt hc Fl.one_inf
  refine ⟨?_, ?_, ?_, clean_small hc, Fl.points_le hc, points_clean x hx⟩
  · rw [ge_words hi (by decide)]; simp
  · rw [le_words hi (by decide)]; exact decide_eq_true hc
  · rw [kind_small hc]; split <;> simp

set_option maxRecDepth 100000 in
set_option maxHeartbeats 1600000 in
theorem cleans_walk (a0 a1 : Int) (w0 : (Lit.int .u64 a0).wf = true) (w1 : (Lit.int .u64 a1).wf = true) (w : World) :
    Calls Try.prog 7 #[.int .u64 a0, .int .u64 a1] w fun e w' => e = .returned (.bool true) ∧ Grown w w' := by
  obtain ⟨x, rfl, hx⟩ := u64_nat w0
  obtain ⟨y, rfl, hy⟩ := u64_nat w1
  clear w0 w1
  have OXY : Hid (∀ w, Calls Try.prog 13 #[.float .f64 x, .float .f64 y] w fun e w' => e = .returned (.int .i64 (Fl.ordOf x y)) ∧ w = w') := Lib.hid fun w => order_any x y w hx hy
  have CX : Hid (∀ w, Calls Try.prog 18 #[.float .f64 x] w fun e w' => e = .returned (.float .f64 (Fl.cleanOf x)) ∧ w = w') := Lib.hid fun w => clean_any x w
  have CY : Hid (∀ w, Calls Try.prog 18 #[.float .f64 y] w fun e w' => e = .returned (.float .f64 (Fl.cleanOf y)) ∧ w = w') := Lib.hid fun w => clean_any y w
  have PX : Hid (∀ w, Calls Try.prog 15 #[.float .f64 x] w fun e w' => e = .returned (.int .i64 (Fl.pointsOf x)) ∧ w = w') := Lib.hid fun w => points_any x w hx
  have PY : Hid (∀ w, Calls Try.prog 15 #[.float .f64 y] w fun e w' => e = .returned (.int .i64 (Fl.pointsOf y)) ∧ w = w') := Lib.hid fun w => points_any y w hy
  have PC : Hid (∀ w, Calls Try.prog 15 #[.float .f64 (Fl.cleanOf x)] w fun e w' => e = .returned (.int .i64 (Fl.pointsOf (Fl.cleanOf x))) ∧ w = w') := Lib.hid fun w => points_any _ w (clean_bd x hx)
  have KC : Hid (∀ w, Calls Try.prog 11 #[.float .f64 (Fl.cleanOf x)] w fun e w' => e = .returned (.int .i64 (Fl.kindOf (Fl.cleanOf x))) ∧ w = w') := Lib.hid fun w => kind_any _ w (clean_bd x hx)
  have CC : Hid (∀ w, Calls Try.prog 18 #[.float .f64 (Fl.cleanOf x)] w fun e w' => e = .returned (.float .f64 (Fl.cleanOf (Fl.cleanOf x))) ∧ w = w') := Lib.hid fun w => clean_any _ w
  obtain ⟨f1, f2, f3, f4, f5, f6⟩ := clean_facts x hx
  have hm := clean_mono hx hy
  have r1 := ord_range x y
  have hle : Fl.ordOf x y ≤ 0 → (FloatKind.f64.format.order (Fl.cleanOf x) (Fl.cleanOf y) == some Ordering.lt || FloatKind.f64.format.order (Fl.cleanOf x) (Fl.cleanOf y) == some Ordering.eq) = true := by
    intro h
    rw [le_words (Nat.lt_of_le_of_lt (Fl.cleanOf_le x hx) Fl.one_inf) (Nat.lt_of_le_of_lt (Fl.cleanOf_le y hy) Fl.one_inf)]
    exact decide_eq_true (hm h)
  have hpl : Fl.ordOf x y ≤ 0 → Fl.pointsOf x ≤ Fl.pointsOf y := fun h => Fl.floor_mono (Fl.prod_mono (hm h))
  rw [f4] at CC
  rw [f6] at PC
  clear f4 f6 hm hx hy
  generalize Fl.cleanOf x = c at *
  generalize Fl.cleanOf y = d at *
  generalize Fl.pointsOf x = p at *
  generalize Fl.pointsOf y = q at *
  generalize Fl.ordOf x y = m at *
  generalize Fl.kindOf c = k at *
  have c4 : (0 < m ∨ (m ≤ 0 ∧ p ≤ q ∧ (FloatKind.f64.format.order c d == some Ordering.lt || FloatKind.f64.format.order c d == some Ordering.eq) = true)) := by
    rcases r1 with e | e | e
    · exact Or.inr ⟨by omega, hpl (by omega), hle (by omega)⟩
    · exact Or.inr ⟨by omega, hpl (by omega), hle (by omega)⟩
    · exact Or.inl (by omega)
  clear r1 hle hpl
  rcases c4 with g1 | ⟨g1, g2, g3⟩ <;> rcases f3 with rfl | rfl
  all_goals
    go_enter Try.func7, Try.ntmps7
    go_wp2_with fail
    refine (awake_any _).mono ?_; rintro e w1 ⟨rfl, hg⟩
    have HG := Lib.hid hg
    clear hg
    go_wp2_with (go_at_call 22; refine (of_nat _ _).mono ?_; rintro e w' ⟨rfl, rfl⟩)
    refine (CX.out _).mono ?_; rintro e w' ⟨rfl, rfl⟩
    go_wp2_with fail
    refine (CY.out _).mono ?_; rintro e w' ⟨rfl, rfl⟩
    go_wp2_with fail
    refine (KC.out _).mono ?_; rintro e w' ⟨rfl, rfl⟩
    go_wp2_with fail
    refine (PX.out _).mono ?_; rintro e w' ⟨rfl, rfl⟩
    go_wp2_with fail
    refine (OXY.out _).mono ?_; rintro e w' ⟨rfl, rfl⟩
    go_wp2_with fail
    try (((with_reducible refine (PY.out _).mono ?_); rintro e w' ⟨rfl, rfl⟩); go_wp2_with fail)
    refine (CC.out _).mono ?_; rintro e w' ⟨rfl, rfl⟩
    go_wp2_with (go_at_call 17; refine (bits_any _ _).mono ?_; rintro e w' ⟨rfl, rfl⟩)
    refine (PC.out _).mono ?_; rintro e w' ⟨rfl, rfl⟩
    go_wp2
    go_ret
    exact ⟨rfl, HG.out⟩

end Go.Proofs.Ytambmendeomknaa
