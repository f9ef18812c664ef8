/-
  Mathematics of plans: greatest and least of a list, how many have a stage, and which plans may be.
-/
import Derived.Test.YtegdopbiiddamaaRows
namespace Go.Proofs.Ytegdopbiiddamaa
namespace Dr
/-- The greatest of the first k + 1. -/
def mx (l : List Int) : Nat → Int
  | 0 => l.getD 0 0
  | k + 1 => max (mx l k) (l.getD (k + 1) 0)
/-- The least of the first k + 1. -/
def mn (l : List Int) : Nat → Int
  | 0 => l.getD 0 0
  | k + 1 => min (mn l k) (l.getD (k + 1) 0)
/-- How many of the first k are s. -/
def cn (l : List Int) (s : Int) : Nat → Int
  | 0 => 0
  | k + 1 => cn l s k + (if l.getD k 0 = s then 1 else 0)
theorem mx_ge (l : List Int) (k j : Nat) (h : j ≤ k) : l.getD j 0 ≤ mx l k := by
  induction k with
  | zero => obtain rfl : j = 0 := by omega
            exact Int.le_refl _
  | succ k ih =>
    by_cases e : j = k + 1
    · subst e; exact Int.le_max_right _ _
    · exact Int.le_trans (ih (by omega)) (Int.le_max_left _ _)
theorem mx_is (l : List Int) (k : Nat) : ∃ j, j ≤ k ∧ mx l k = l.getD j 0 := by
  induction k with
  | zero => exact ⟨0, Nat.le_refl _, rfl⟩
  | succ k ih =>
    obtain ⟨j, hj, e⟩ := ih
    by_cases h : mx l k ≤ l.getD (k + 1) 0
    · exact ⟨k + 1, Nat.le_refl _, by show max _ _ = _; exact Int.max_eq_right h⟩
    · exact ⟨j, by omega, by show max _ _ = _; rw [Int.max_eq_left (by omega), e]⟩
theorem mn_le (l : List Int) (k j : Nat) (h : j ≤ k) : mn l k ≤ l.getD j 0 := by
  induction k with
  | zero => obtain rfl : j = 0 := by omega
            exact Int.le_refl _
  | succ k ih =>
    by_cases e : j = k + 1
    · subst e; exact Int.min_le_right _ _
    · exact Int.le_trans (Int.min_le_left _ _) (ih (by omega))
theorem mn_is (l : List Int) (k : Nat) : ∃ j, j ≤ k ∧ mn l k = l.getD j 0 := by
  induction k with
  | zero => exact ⟨0, Nat.le_refl _, rfl⟩
  | succ k ih =>
    obtain ⟨j, hj, e⟩ := ih
    by_cases h : l.getD (k + 1) 0 ≤ mn l k
    · exact ⟨k + 1, Nat.le_refl _, by show min _ _ = _; exact Int.min_eq_right h⟩
    · exact ⟨j, by omega, by show min _ _ = _; rw [Int.min_eq_left (by omega), e]⟩
theorem cn_lo (l : List Int) (s : Int) (k : Nat) : 0 ≤ cn l s k := by
  induction k with
  | zero => exact Int.le_refl _
  | succ k ih => unfold cn; split <;> omega
theorem cn_hi (l : List Int) (s : Int) (k : Nat) : cn l s k ≤ k := by
  induction k with
  | zero => exact Int.le_refl _
  | succ k ih => unfold cn; split <;> omega
/-- A plan. -/
structure P where
  nodes : Int
  slots : Int
  rho : Int
  hold : Int
  grant : Int
  guard : Int
  work : Int
  stages : List Int
  needs : List Int
  soak : Int
  pass : Int
def tm (x : Int) : Prop := 1 ≤ x ∧ x ≤ 1073741824
def P.top (p : P) : Int := mx p.stages (p.stages.length - 1)
def P.g0 (p : P) : Prop := 1 ≤ p.nodes ∧ p.nodes ≤ 9
def P.g1 (p : P) : Prop := 1 ≤ p.slots ∧ p.slots ≤ p.nodes
def P.g2 (p : P) : Prop := 0 ≤ p.rho ∧ p.rho ≤ 500
def P.g3 (p : P) : Prop := tm p.hold ∧ tm p.grant ∧ tm p.guard ∧ tm p.work
def P.g4 (p : P) : Prop := p.hold * (1000 + p.rho) < p.grant * (1000 - p.rho)
def P.g5 (p : P) : Prop := 1000 + p.rho ≤ p.guard
def P.g6 (p : P) : Prop := (p.stages.length : Int) = p.nodes ∧ ∀ k, k < p.stages.length → 0 ≤ p.stages.getD k 0 ∧ p.stages.getD k 0 < 4
def P.met (p : P) : Prop := ∀ k, k < p.needs.length → 0 ≤ p.needs.getD k 0 ∧ p.needs.getD k 0 ≤ cn p.stages (k : Int) p.stages.length
def P.g7 (p : P) : Prop := (p.needs.length : Int) = p.top + 1 ∧ p.met
def P.g8 (p : P) : Prop := 1 ≤ p.soak ∧ p.soak ≤ 20
def P.g9 (p : P) : Prop := 0 ≤ p.pass ∧ p.pass ≤ 1000
/-- What is asked first, as far as k. -/
def P.upto (p : P) : Nat → Prop
  | 0 => True
  | 1 => p.g0
  | 2 => p.g0 ∧ p.g1
  | 3 => p.g0 ∧ p.g1 ∧ p.g2
  | 4 => p.g0 ∧ p.g1 ∧ p.g2 ∧ p.g3
  | 5 => p.g0 ∧ p.g1 ∧ p.g2 ∧ p.g3 ∧ p.g4
  | 6 => p.g0 ∧ p.g1 ∧ p.g2 ∧ p.g3 ∧ p.g4 ∧ p.g5
  | 7 => p.g0 ∧ p.g1 ∧ p.g2 ∧ p.g3 ∧ p.g4 ∧ p.g5 ∧ p.g6
  | 8 => p.g0 ∧ p.g1 ∧ p.g2 ∧ p.g3 ∧ p.g4 ∧ p.g5 ∧ p.g6 ∧ p.g7
  | 9 => p.g0 ∧ p.g1 ∧ p.g2 ∧ p.g3 ∧ p.g4 ∧ p.g5 ∧ p.g6 ∧ p.g7 ∧ p.g8
  | _ => p.g0 ∧ p.g1 ∧ p.g2 ∧ p.g3 ∧ p.g4 ∧ p.g5 ∧ p.g6 ∧ p.g7 ∧ p.g8 ∧ p.g9
/-- The plan may be. -/
def P.ok (p : P) : Prop := p.g0 ∧ p.g1 ∧ p.g2 ∧ p.g3 ∧ p.g4 ∧ p.g5 ∧ p.g6 ∧ p.g7 ∧ p.g8 ∧ p.g9
instance (x : Int) : Decidable (tm x) := by unfold tm; infer_instance
instance (p : P) : Decidable p.g0 := by unfold P.g0; infer_instance
instance (p : P) : Decidable p.g1 := by unfold P.g1; infer_instance
instance (p : P) : Decidable p.g2 := by unfold P.g2; infer_instance
instance (p : P) : Decidable p.g3 := by unfold P.g3; infer_instance
instance (p : P) : Decidable p.g4 := by unfold P.g4; infer_instance
instance (p : P) : Decidable p.g5 := by unfold P.g5; infer_instance
instance (p : P) : Decidable p.g6 := by unfold P.g6; infer_instance
instance (p : P) : Decidable p.met := by unfold P.met; infer_instance
instance (p : P) : Decidable p.g7 := by unfold P.g7; infer_instance
instance (p : P) : Decidable p.g8 := by unfold P.g8; infer_instance
instance (p : P) : Decidable p.g9 := by unfold P.g9; infer_instance
instance (p : P) : Decidable p.ok := by unfold P.ok; infer_instance
/-- What Check answers. -/
def P.chk (p : P) : Int := if p.ok then 0 else 90
def P.slow (p : P) : Int := 1000 - p.rho
def P.fast (p : P) : Int := 1000 + p.rho
/-- How far a clock goes that is told so. -/
def P.gain (p : P) (t : Int) : Int := if p.ok then min (max t p.slow) p.fast else 0
def P.maj (p : P) : Int := if p.ok then p.nodes / 2 + 1 else 0
/-- Both are times, in this order. -/
def tw (a b : Int) : Prop := 0 ≤ a ∧ a ≤ b ∧ b ≤ 4611686018427387904
instance (a b : Int) : Decidable (tw a b) := by unfold tw; infer_instance
def P.holds (p : P) (a b : Int) : Bool := decide (p.ok ∧ tw a b ∧ b - a < p.hold)
def P.late (p : P) (a b : Int) : Bool := decide (p.ok ∧ (¬ tw a b ∨ p.hold - (b - a) ≤ p.guard))
def P.free (p : P) (a b : Int) : Bool := decide (p.ok ∧ tw a b ∧ p.grant ≤ b - a)
theorem P.chk_ok {p : P} (h : p.ok) : p.chk = 0 := if_pos h
theorem P.chk_no {p : P} (h : ¬ p.ok) : p.chk = 90 := if_neg h
theorem P.upto_ten (p : P) : p.upto 10 = p.ok := rfl
theorem P.top_lo {p : P} (h : p.g6) (h0 : p.g0) : 0 ≤ p.top ∧ p.top < 4 := by
  obtain ⟨j, hj, e⟩ := mx_is p.stages (p.stages.length - 1)
  obtain ⟨h1, h2⟩ := h
  have h3 := h0.1
  unfold P.top
  rw [e]
  exact h2 j (by omega)
/-- The worked plan. -/
def P0 : P := ⟨3, 1, 100, 10000, 20000, 1100, 1, [0, 0, 1], [2, 1], 1, 0⟩
/-- Nothing at all. -/
def PZ : P := ⟨0, 0, 0, 0, 0, 0, 0, [], [], 0, 0⟩
theorem ok_p0 : P0.ok := by decide
theorem no_pz : ¬ PZ.ok := by decide
end Dr
end Go.Proofs.Ytegdopbiiddamaa
