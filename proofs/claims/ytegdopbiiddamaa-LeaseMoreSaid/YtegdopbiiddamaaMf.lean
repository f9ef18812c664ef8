/-
  The walk of the document's Ask of acceptors.
-/
import Derived.Test.YtegdopbiiddamaaMd
namespace Go.Proofs.Ytegdopbiiddamaa
open Go.RowKit Go.Great
set_option linter.unusedVariables false
set_option linter.unusedSimpArgs false
set_option maxRecDepth 20000
theorem in_at {a : Gt.A} (h : ∀ x ∈ a.gs, Gin x) (k : Nat) : Gin (a.gs.getD k Gt.none) := by
  by_cases hl : k < a.gs.length
  · have : a.gs.getD k Gt.none = a.gs[k] := by simp [hl]
    rw [this]
    exact h _ (List.getElem_mem hl)
  · have : a.gs.getD k Gt.none = Gt.none := by simp [Nat.le_of_not_lt hl]
    rw [this]
    exact ⟨⟨by decide, by decide⟩, ⟨by decide, by decide⟩, ⟨by decide, by decide⟩⟩
theorem Acc.row {w : World} {boot : Int} {ad : Option Addr} {n c : Nat} {a : Gt.A} (h : Acc w (acs boot ad n c) a) : GE.Row w Any ad n a.gs := by
  obtain ⟨ad', n', c', e, h1, _⟩ := h
  simp only [acs, Array.mk.injEq, List.cons.injEq, Value.slice.injEq, and_true] at e
  obtain ⟨_, e1, e2, _⟩ := e
  subst e1 e2
  exact h1
def gz : List Value := gcs ⟨0, 0, 0⟩
theorem gz_is : gz.toArray = #[.int .i64 0, .int .i64 0, .int .i64 0] := rfl
theorem built_g3 (x y z : Int) : Try.prog.built 67 [(0, .int .i64 x), (1, .int .i64 y), (2, .int .i64 z)] = some (gcs ⟨x, y, z⟩).toArray := by kernel_rfl
end Go.Proofs.Ytegdopbiiddamaa
