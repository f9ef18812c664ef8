/-
  Plain mathematics of transfers: what is missing, what is picked, taken and found.
-/
import Derived.Test.YtiogfkhmigbgpaaDoorZq
namespace Tr
open Go.Proofs.YtiogfkhmigbgpaaDoor
/-- The first of n numbers, going round from s on, of which P holds. -/
def first (n s : Nat) (P : Nat → Bool) : Option Nat := ((List.range n).find? (fun k => P ((s + k) % n))).map (fun k => (s + k) % n)
theorem first_at {n s i : Nat} {P : Nat → Bool} (hi : i < n) (hno : ∀ k, k < i → P ((s + k) % n) = false) (hp : P ((s + i) % n) = true) : first n s P = some ((s + i) % n) := by
  unfold first
  have : (List.range n).find? (fun k => P ((s + k) % n)) = some i := by
    rw [List.find?_range_eq_some]
    exact ⟨hp, List.mem_range.2 hi, fun j hj => by rw [hno j hj]; rfl⟩
  rw [this]
  rfl
theorem first_end {n s : Nat} {P : Nat → Bool} (hno : ∀ k, k < n → P ((s + k) % n) = false) : first n s P = none := by
  unfold first
  have : (List.range n).find? (fun k => P ((s + k) % n)) = none := by
    rw [List.find?_eq_none]
    intro k hk
    rw [hno k (List.mem_range.1 hk)]
    decide
  rw [this]
  rfl
theorem first_some {n s c : Nat} {P : Nat → Bool} (h : first n s P = some c) : c < n ∧ P c = true := by
  unfold first at h
  obtain ⟨k, hk, rfl⟩ := Option.map_eq_some_iff.1 h
  have h1 := List.mem_range.1 (List.mem_of_find?_eq_some hk)
  exact ⟨Nat.mod_lt _ (by omega), List.find?_some (p := fun k => P ((s + k) % n)) hk⟩
/-- Every number comes, going round. -/
theorem round {n s c : Nat} (hc : c < n) : ∃ k, k < n ∧ (s + k) % n = c := by
  have hs : s % n < n := Nat.mod_lt _ (by omega)
  refine ⟨(c + (n - s % n)) % n, Nat.mod_lt _ (by omega), ?_⟩
  rw [Nat.add_mod, Nat.mod_mod, ← Nat.add_mod_mod (s % n)]
  rw [Nat.add_mod_mod, Nat.add_mod_mod]
  have : s % n + (c + (n - s % n)) = c + n := by omega
  rw [this, Nat.add_mod_right, Nat.mod_eq_of_lt hc]
theorem first_none {n s : Nat} {P : Nat → Bool} (h : first n s P = none) : ∀ c, c < n → P c = false := by
  intro c hc
  obtain ⟨k, hk, rfl⟩ := round (s := s) hc
  unfold first at h
  have h1 := Option.map_eq_none_iff.1 h
  rw [List.find?_eq_none] at h1
  have := h1 k (List.mem_range.2 hk)
  simpa using this
/-- Has a peer a chunk? -/
def has (l : List Bool) (i : Nat) : Bool := l.getD i false
/-- Has some peer a chunk? -/
def some_ (ps : List (List Bool)) (i : Nat) : Bool := ps.any (fun l => has l i)
theorem some_of_at {ps : List (List Bool)} {c : Nat} (h : some_ ps c = true) : ∃ p, p < ps.length ∧ has (ps.getD p []) c = true := by
  unfold some_ at h
  obtain ⟨l, hl, hp⟩ := List.any_eq_true.1 h
  obtain ⟨p, hlt, rfl⟩ := List.getElem_of_mem hl
  exact ⟨p, hlt, by simpa [hlt] using hp⟩
theorem at_of_some {ps : List (List Bool)} {c p : Nat} (hp : p < ps.length) (h : has (ps.getD p []) c = true) : some_ ps c = true := by
  unfold some_
  refine List.any_eq_true.2 ⟨ps[p], List.getElem_mem hp, ?_⟩
  simpa [hp] using h
def missing (l : List Bool) : Nat := l.count false
theorem missing_le (l : List Bool) : missing l ≤ l.length := List.count_le_length
theorem missing_next (l : List Bool) (k : Nat) (h : k < l.length) : missing (l.take (k + 1)) = missing (l.take k) + (if l.getD k false = true then 0 else 1) := by
  unfold missing
  rw [List.take_succ_eq_append_getElem h, List.count_append, List.count_singleton]
  have : l.getD k false = l[k] := by simp [h]
  rw [this]
  cases l[k] <;> rfl
/-- What is asked for, and whom. -/
def pick (hv : List Bool) (ps : List (List Bool)) (d : Int) : Int × Int × Bool :=
  match first hv.length (d.toNat % hv.length) (fun c => !hv.getD c false && some_ ps c) with
  | none => (0, 0, false)
  | some c =>
    match first ps.length (d.toNat / 4294967296 % ps.length) (fun p => has (ps.getD p []) c) with
    | none => (0, 0, false)
    | some p => ((c : Int), (p : Int), true)
/-- Chunks with one that came, or an error. -/
def take (m : Mf.Man) (hv : List Bool) (i : Int) (b : List Int) : List Bool × Int :=
  if Mf.ver m i b ≠ 0 then (hv, Mf.ver m i b) else if hv.length ≠ m.ds.length then (hv, 1) else (hv.set i.toNat true, 0)
/-- The bytes of an image where a chunk is. -/
def part (m : Mf.Man) (b : List Int) (k : Nat) : List Int := (b.drop (Mf.fr m k).toNat).take ((Mf.til m k).toNat - (Mf.fr m k).toNat)
/-- The chunks that bytes hold. -/
def find (m : Mf.Man) (b : List Int) : List Bool := if m.bad then [] else (List.range m.ds.length).map fun k => decide (Mf.ver m (k : Nat) (part m b k) = 0)
end Tr
