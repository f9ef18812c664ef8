/-
  The walk of awake: calls whose answers the document fixes; names and limits.
-/
import Derived.Test.YtdfmfjahnnifnaaIk
namespace Go.Proofs.Ytdfmfjahnnifnaa
set_option maxRecDepth 20000
set_option linter.unusedSimpArgs false
set_option linter.unusedVariables false
open Go.RowKit
/-- A fact that was answered, laid into a variable. -/
theorem fv_lay {w : World} {S : Nat → Prop} {v : Value} {f : Ft.Fact} (h : Fv w S v f) : ∃ P M, v = .agg P ∧ P.size = 38 ∧ P.all (·.oneCell') = true ∧ FB ((w.alloc (.cells zf 30)).setRow w.heap.size P) w.heap.size P M f := by
  obtain ⟨P, M, rfl, hPE, hmv, hM, hin⟩ := fv_agg h
  have hf := fb_put hPE hmv hM hin zf
  exact ⟨P, M, rfl, hf.size, hf.one, hf⟩
end Go.Proofs.Ytdfmfjahnnifnaa
