/-
  Leases that came in.
-/
import Derived.Test.YtegdopbiiddamaaS1
import Derived.Test.YtegdopbiiddamaaEo
namespace Go.Proofs.Ytegdopbiiddamaa
set_option linter.unusedVariables false
set_option linter.unusedSimpArgs false
set_option maxRecDepth 20000
open Go.ChangeShapes Go.WideShapes Go.RowKit Go.Deep
section
variable {H : Type} {enc : TypeId × Value → H} {w : World}
theorem four (cs : List Value) (h : cs.length = 4) : ∃ c0 c1 c2 c3, cs = [c0, c1, c2, c3] := by
  match cs, h with
  | [c0, c1, c2, c3], _ => exact ⟨c0, c1, c2, c3, rfl⟩
theorem open_lcs {m : Nat} {cs : List Value} {x : DataW H × List MemPlace} (h : DataW.trod enc Try.prog w 0 (fun _ => true) true m 26 cs = some x) :
    ∃ l : Ln.L, Lse w cs.toArray l := by
  obtain ⟨xs, m', _, _, hcl, hxl, hf⟩ := DataW.trod_struct Try.underlying26 h
  have hcl' : cs.length = 4 := hcl.trans (by kernel_rfl)
  have hxl' : xs.length = 4 := hxl
  obtain ⟨c0, c1, c2, c3, rfl⟩ := four cs hcl'
  have k0 : Try.prog.cellsOf 3 = 1 := by kernel_rfl
  have k1 : Try.prog.cellsOf 2 = 1 := by kernel_rfl
  have k2 : Try.prog.cellsOf 22 = 1 := by kernel_rfl
  obtain ⟨y0, hy0⟩ := some_of hxl' (i := 0) (by omega)
  have f0 : DataW.trod enc Try.prog w 0 (fun _ => true) true m' 3 ((([c0, c1, c2, c3] : List Value).drop 0).take (Try.prog.cellsOf 3)) = some y0 := (hf 0 _ rfl).trans hy0
  rw [k0] at f0
  simp only [List.drop_succ_cons, List.drop_zero, List.take_succ_cons, List.take_zero] at f0
  obtain ⟨y1, hy1⟩ := some_of hxl' (i := 1) (by omega)
  have f1 : DataW.trod enc Try.prog w 0 (fun _ => true) true m' 2 ((([c0, c1, c2, c3] : List Value).drop 1).take (Try.prog.cellsOf 2)) = some y1 := (hf 1 _ rfl).trans hy1
  rw [k1] at f1
  simp only [List.drop_succ_cons, List.drop_zero, List.take_succ_cons, List.take_zero] at f1
  obtain ⟨y2, hy2⟩ := some_of hxl' (i := 2) (by omega)
  have f2 : DataW.trod enc Try.prog w 0 (fun _ => true) true m' 2 ((([c0, c1, c2, c3] : List Value).drop 2).take (Try.prog.cellsOf 2)) = some y2 := (hf 2 _ rfl).trans hy2
  rw [k1] at f2
  simp only [List.drop_succ_cons, List.drop_zero, List.take_succ_cons, List.take_zero] at f2
  obtain ⟨y3, hy3⟩ := some_of hxl' (i := 3) (by omega)
  have f3 : DataW.trod enc Try.prog w 0 (fun _ => true) true m' 22 ((([c0, c1, c2, c3] : List Value).drop 3).take (Try.prog.cellsOf 22)) = some y3 := (hf 3 _ rfl).trans hy3
  rw [k2] at f3
  simp only [List.drop_succ_cons, List.drop_zero, List.take_succ_cons, List.take_zero] at f3
  obtain ⟨n0, e0, _, g0⟩ := DataW.trod_int Try.underlying3 f0
  injection e0 with e0 _
  obtain ⟨n1, e1, _, g1⟩ := DataW.trod_int Try.underlying2 f1
  injection e1 with e1 _
  obtain ⟨n2, e2, _, g2⟩ := DataW.trod_int Try.underlying2 f2
  injection e2 with e2 _
  obtain ⟨a, n, c, l, e3, h1, h2, h3⟩ := open_row f3
  subst e0 e1 e2 e3
  exact ⟨⟨n0, n1, n2, l⟩, a, n, c, rfl, h3.weak (fun _ _ _ => trivial), h1, i64_in g0, i64_in g1, i64_in g2⟩
theorem open_lease {base : Nat} {r : Reach} {v : Value} {d : DataW H} {ps : List MemPlace} (hv : Value.okWide Try.prog w r base 26 v) (h : DataW.Trod enc Try.prog w 0 (fun _ => true) true 26 v d ps) : ∃ C l, v = .agg C ∧ Lse w C l := by
  simp only [Value.okWide, Try.underlying26] at hv
  obtain ⟨cs, rfl, h2, _⟩ := hv
  obtain ⟨fuel, hf⟩ := h
  obtain ⟨p, hp⟩ := open_lcs (cs := cs.toList) (by simpa [Value.cells] using hf)
  exact ⟨cs, p, rfl, by simpa using hp⟩
end
end Go.Proofs.Ytegdopbiiddamaa
