/-
  The walks of the document's may and put.
-/
import Derived.Test.YtegdopbiiddamaaMb
namespace Go.Proofs.Ytegdopbiiddamaa
open Go.RowKit Go.Great
set_option linter.unusedVariables false
set_option linter.unusedSimpArgs false
set_option maxRecDepth 20000
/-- A plan and an acceptor boxed. -/
theorem boxes_pa {w : World} {S : Nat → Prop} {C V : Array Value} {p : Dr.P} {a : Gt.A} (h : Cc w S C p) (ha : Acc w V a) : ∃ w1, (w.alloc (.cells C 24)).alloc (.cells V 45) = w1 ∧ Pl w1 w.heap.size C p ∧ Ab w1 (w.heap.size + 1) V a ∧ Below w.heap.size w w1 := by
  refine ⟨_, rfl, (Pl.new h).on (below_alloc _ _), ?_, (below_alloc w _).alloc (by simp) _⟩
  have := Ab.new (ha.on (below_alloc w (.cells C 24)))
  rw [size_alloc] at this
  exact this
theorem gcs_one (g : Gt.G) : (gcs g).toArray.all (·.oneCell') = true := by simp [gcs, Value.oneCell']
theorem built_aa (x : Int) (ad : Option Addr) (n c : Nat) : Try.prog.built 45 [(0, .int .i64 x), (1, .slice ad n c)] = some (acs x ad n c) := by kernel_rfl
end Go.Proofs.Ytegdopbiiddamaa
