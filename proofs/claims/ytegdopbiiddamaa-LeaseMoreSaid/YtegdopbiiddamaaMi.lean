/-
  What the package's functions are to answer (Grn); boxes that a walk keeps; the walk of the statements' awake.
-/
import Derived.Test.YtegdopbiiddamaaMh
namespace Go.Proofs.Ytegdopbiiddamaa
open Go.RowKit Go.Great
set_option linter.unusedVariables false
set_option linter.unusedSimpArgs false
set_option maxRecDepth 20000
/-- Boxes that are kept: a plan, and acceptors. -/
structure Kit (w0 w : World) (g : Nat) (C : Array Value) (p : Dr.P) (L : List (Nat × Array Value × Gt.A)) : Prop where
  pl : Pl w g C p
  bs : ∀ q ∈ L, Ab w q.1 q.2.1 q.2.2
  below : Below w0.heap.size w0 w
theorem Kit.on {w0 w w' : World} {g : Nat} {C : Array Value} {p : Dr.P} {L : List (Nat × Array Value × Gt.A)} (h : Kit w0 w g C p L) (hb : Below w.heap.size w w') : Kit w0 w' g C p L := ⟨h.pl.on hb, fun q hq => (h.bs q hq).on hb, h.below.trans (hb.mono h.below.size)⟩
theorem kit_new {w0 w : World} {g : Nat} {C V : Array Value} {p : Dr.P} {a : Gt.A} {L : List (Nat × Array Value × Gt.A)} (h : Kit w0 w g C p L) (ha : Acc w V a) : Kit w0 ((w.alloc (.cells az 45)).setRow w.heap.size V) g C p ((w.heap.size, V, a) :: L) := by
  have hb : Below w.heap.size w ((w.alloc (.cells az 45)).setRow w.heap.size V) := below_row (below_alloc w _) (Nat.le_refl _) _
  have h2 := h.on hb
  refine ⟨h2.pl, fun q hq => ?_, h2.below⟩
  rcases List.mem_cons.1 hq with rfl | hq
  · exact ⟨(Whole.new w 45 az).row V, ha.on hb⟩
  · exact h2.bs q hq
theorem in_lit {x : Int} (h : -1000000 ≤ x ∧ x ≤ 1000000) : In64 x := by constructor <;> omega
def a0 : Gt.A := ⟨0, [Gt.none]⟩
def a1 : Gt.A := ⟨0, [⟨1, 1, 20000⟩]⟩
def a2 : Gt.A := ⟨0, [⟨2, 1, 40000⟩]⟩
end Go.Proofs.Ytegdopbiiddamaa
