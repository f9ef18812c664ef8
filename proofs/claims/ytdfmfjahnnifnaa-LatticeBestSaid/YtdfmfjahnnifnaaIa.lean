/-
  Plain mathematics of facts: whose an epoch is, which facts may be, which comes first, their bytes, and what bytes are one.
-/
import Derived.Test.YtdfmfjahnnifnaaZq
namespace Ft
open Go.Proofs.Ytdfmfjahnnifnaa
def isEp (e : Int) : Prop := 16 ≤ e ∧ e ≤ 1099511627776
instance (e : Int) : Decidable (isEp e) := inferInstanceAs (Decidable (_ ∧ _))
/-- Whose an epoch is, and which of its. -/
def ofN (e : Int) : Int := if isEp e then e % 16 else 0
def ofK (e : Int) : Int := if isEp e then e / 16 else 0
def may (node n : Int) : Prop := 0 ≤ node ∧ node < 9 ∧ 1 ≤ n ∧ 16 * n + node ≤ 1099511627776
instance (a b : Int) : Decidable (may a b) := inferInstanceAs (Decidable (_ ∧ _))
def ep (node n : Int) : Int := if may node n then 16 * n + node else 0
/-- A fact. -/
structure Fact where
  kind : Int
  epoch : Int
  node : Int
  man : Mf.Man
def emp (m : Mf.Man) : Prop := m.size = 0 ∧ m.chunk = 0 ∧ m.ds.length = 0 ∧ m.wh = zs 32
instance (m : Mf.Man) : Decidable (emp m) := inferInstanceAs (Decidable (_ ∧ _))
def Fact.fits (f : Fact) (node : Int) : Prop := (f.kind = 1 ∧ f.node = node ∧ ¬ f.man.bad) ∨ ((f.kind = 2 ∨ f.kind = 3) ∧ emp f.man)
instance (f : Fact) (n : Int) : Decidable (f.fits n) := inferInstanceAs (Decidable (_ ∨ _))
def Fact.ok (f : Fact) (nodes : Int) : Prop := 1 ≤ nodes ∧ nodes ≤ 9 ∧ 0 ≤ f.node ∧ f.node < nodes ∧ isEp f.epoch ∧ f.epoch % 16 < nodes ∧ f.fits (f.epoch % 16)
instance (f : Fact) (n : Int) : Decidable (f.ok n) := inferInstanceAs (Decidable (_ ∧ _))
def Fact.chk (f : Fact) (nodes : Int) : Int := if f.ok nodes then 0 else 100
/-- Which comes first. -/
def Fact.less (a b : Fact) : Prop := a.epoch < b.epoch ∨ (a.epoch = b.epoch ∧ (a.kind < b.kind ∨ (a.kind = b.kind ∧ a.node < b.node)))
instance (a b : Fact) : Decidable (a.less b) := inferInstanceAs (Decidable (_ ∨ _))
/-- What a fact has that lies in memory. -/
def Fact.wf (f : Fact) : Prop := (∀ d ∈ f.man.ds, Dig d) ∧ Dig f.man.wh
def nought : Fact := ⟨0, 0, 0, Mf.zero⟩
theorem emp_zero {m : Mf.Man} (h : emp m) : m = Mf.zero := by
  obtain ⟨s, c, ds, wh⟩ := m
  obtain ⟨h1, h2, h3, h4⟩ := h
  simp only at h1 h2 h3 h4
  have : ds = [] := List.length_eq_zero_iff.1 h3
  subst h1 h2 h4 this
  rfl
theorem zero_emp : emp Mf.zero := ⟨rfl, rfl, rfl, rfl⟩
theorem zero_bad : Mf.Man.bad Mf.zero := Or.inl rfl
theorem chk_ok {f : Fact} {n : Int} (h : f.ok n) : f.chk n = 0 := if_pos h
theorem chk_no {f : Fact} {n : Int} (h : ¬ f.ok n) : f.chk n = 100 := if_neg h
theorem chk_zero {f : Fact} {n : Int} : f.chk n = 0 ↔ f.ok n := by
  unfold Fact.chk
  by_cases h : f.ok n
  · rw [if_pos h]; exact ⟨fun _ => h, fun _ => rfl⟩
  · rw [if_neg h]; exact ⟨fun e => by omega, fun e => absurd e h⟩
theorem chk_two (f : Fact) (n : Int) : f.chk n = 0 ∨ f.chk n = 100 := by
  unfold Fact.chk; split
  · exact Or.inl rfl
  · exact Or.inr rfl
/-- More nodes. -/
theorem ok_more {f : Fact} {n m : Int} (h : f.ok n) (h1 : n ≤ m) (h2 : m ≤ 9) : f.ok m := by
  obtain ⟨a1, a2, a3, a4, a5, a6, a7⟩ := h
  exact ⟨by omega, h2, a3, by omega, a5, by omega, a7⟩
theorem ok_kind {f : Fact} {n : Int} (h : f.ok n) : 1 ≤ f.kind ∧ f.kind ≤ 3 := by
  rcases h.2.2.2.2.2.2 with h | h <;> omega
theorem ok_in {f : Fact} {n : Int} (h : f.ok n) : 1 ≤ f.kind ∧ f.kind ≤ 3 ∧ 16 ≤ f.epoch ∧ f.epoch ≤ 1099511627776 ∧ 0 ≤ f.node ∧ f.node ≤ 8 := by
  have hk := ok_kind h
  obtain ⟨a1, a2, a3, a4, ⟨a5, a6⟩, _⟩ := h
  omega
theorem ok_one {f : Fact} {n : Int} (h : f.ok n) (hk : f.kind = 1) : ¬ f.man.bad := by
  rcases h.2.2.2.2.2.2 with h | h
  · exact h.2.2
  · omega
theorem ok_else {f : Fact} {n : Int} (h : f.ok n) (hk : f.kind ≠ 1) : f.man = Mf.zero := by
  rcases h.2.2.2.2.2.2 with h | h
  · exact absurd h.1 hk
  · exact emp_zero h.2
end Ft
