/-
  The walks of the document's Free of acceptors, and of Same, where two are one.
-/
import Derived.Test.YtegdopbiiddamaaMf
namespace Go.Proofs.Ytegdopbiiddamaa
open Go.RowKit Go.Great
set_option linter.unusedVariables false
set_option linter.unusedSimpArgs false
set_option maxRecDepth 20000
/-- Two grants compared. -/
def eqFg (d : Nat) (xs ys : Array Value) : List (String × TypeId × Nat) → Sem Bool
  | [] => pure true
  | f :: fs =>
    if f.1 ≠ "_" then do
      let a ← part f.2.1 xs f.2.2
      let b ← part f.2.1 ys f.2.2
      let r ← Op.equalIn d f.2.1 a b
      if (!r) = true then pure false else eqFg d xs ys fs
    else eqFg d xs ys fs
theorem eqFg_is (d : Nat) (xs ys : Array Value) (fs : List Field) : Op.eqFields d xs ys fs = eqFg d xs ys (fs.map fun f => (f.name, f.type, f.offset)) := by
  induction fs with
  | nil => rfl
  | cons f fs ih =>
    simp only [Op.eqFields, eqFg, List.map_cons]
    rw [ih]
theorem fields_g : ((Try.prog.fieldsOf 67).toList.map fun f => (f.name, f.type, f.offset)) = [("Node", 3, 0), ("Nonce", 2, 1), ("Since", 2, 2)] := by kernel_rfl
theorem und_fg : Try.prog.underlying 67 = some (.struct (Try.prog.fieldsOf 67)) := by kernel_rfl
theorem part_intg {t : TypeId} {k : IntKind} (hu : Try.prog.underlying t = some (.int k)) (C : Array Value) (i : Nat) (v : Value) (h : C[i]? = some v) (w : World) : (part t C i).run Try.prog w = .ok v w := by
  have ha : (isAgg t).run Try.prog w = .ok false w := by
    unfold isAgg
    rw [Sem.run_bind, run_underlying hu w]
    rfl
  unfold part
  rw [Sem.run_bind, ha]
  simp only [Result.andThen_ok, Bool.false_eq_true, if_false, h]
  rfl
theorem equalG (a : Gt.G) (w : World) : (Op.equalIn 10000 67 (.agg (gcs a).toArray) (.agg (gcs a).toArray)).run Try.prog w = .ok true w := by
  rw [run_equalIn_struct w 9999 _ _ _ und_fg (by kernel_rfl), eqFg_is, fields_g]
  have p0 : ∀ (b : Gt.G) (w : World), (part 3 (gcs b).toArray 0).run Try.prog w = .ok (.int .i64 b.node) w := fun b w => part_intg Try.underlying3 _ _ _ rfl w
  have p1 : ∀ (b : Gt.G) (w : World), (part 2 (gcs b).toArray 1).run Try.prog w = .ok (.int .i64 b.nonce) w := fun b w => part_intg Try.underlying2 _ _ _ rfl w
  have p2 : ∀ (b : Gt.G) (w : World), (part 2 (gcs b).toArray 2).run Try.prog w = .ok (.int .i64 b.since) w := fun b w => part_intg Try.underlying2 _ _ _ rfl w
  have i0 := fun (x y : Int) (w : World) => run_equalIn_int (P := Try.prog) w 9998 3 .i64 .i64 x y Try.underlying3
  have i1 := fun (x y : Int) (w : World) => run_equalIn_int (P := Try.prog) w 9998 2 .i64 .i64 x y Try.underlying2
  simp only [eqFg, Sem.run_bind, p0, p1, p2, i0, i1, Result.andThen_ok, Sem.run_ite, Sem.run_pure]
  simp
theorem neG (a : Gt.G) (w : World) : (binOp .neq 67 (.agg (gcs a).toArray) (.agg (gcs a).toArray)).run Try.prog w = .ok (.bool false) w := by
  rw [run_neq_struct w, equalG a w]
  rfl
/-- Two acceptors boxed. -/
theorem boxes_aa {w : World} {V V' : Array Value} {a a' : Gt.A} (ha : Acc w V a) (ha' : Acc w V' a') : ∃ w1, (w.alloc (.cells V 45)).alloc (.cells V' 45) = w1 ∧ Ab w1 w.heap.size V a ∧ Ab w1 (w.heap.size + 1) V' a' ∧ Below w.heap.size w w1 := by
  refine ⟨_, rfl, (Ab.new ha).on (below_alloc _ _), ?_, (below_alloc w _).alloc (by simp) _⟩
  have := Ab.new (ha'.on (below_alloc w (.cells V 45)))
  rw [size_alloc] at this
  exact this
end Go.Proofs.Ytegdopbiiddamaa
