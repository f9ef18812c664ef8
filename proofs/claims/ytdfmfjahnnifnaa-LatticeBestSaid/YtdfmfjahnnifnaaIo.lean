/-
  What came in: facts, and bytes.
-/
import Derived.Test.YtdfmfjahnnifnaaIn
namespace Go.Proofs.Ytdfmfjahnnifnaa
set_option maxRecDepth 20000
open Go.ChangeShapes Go.WideShapes Go.RowKit Go.Deep
section
variable {H : Type} {enc : TypeId × Value → H} {w : World}
theorem three38 (cs : List Value) (h : cs.length = 38) : ∃ c0 c1 c2 r, cs = c0 :: c1 :: c2 :: r ∧ r.length = 35 := by
  match cs, h with
  | c0 :: c1 :: c2 :: r, h => exact ⟨c0, c1, c2, r, rfl, by simpa using h⟩
theorem open_fcs {m : Nat} {cs : List Value} {x : DataW H × List MemPlace} (h : DataW.trod enc Try.prog w 0 (fun _ => true) true m 30 cs = some x) :
    ∃ f : Ft.Fact, Fv w (fun b => b < w.heap.size) (.agg cs.toArray) f := by
  obtain ⟨xs, m', _, _, hcl, hxl, hf⟩ := DataW.trod_struct Try.underlying30 h
  have hcl' : cs.length = 38 := hcl.trans (by kernel_rfl)
  have hxl' : xs.length = 4 := hxl
  obtain ⟨c0, c1, c2, r, rfl, hr⟩ := three38 cs hcl'
  have k0 : Try.prog.cellsOf 3 = 1 := by kernel_rfl
  have k1 : Try.prog.cellsOf 2 = 1 := by kernel_rfl
  have k3 : Try.prog.cellsOf 28 = 35 := by kernel_rfl
  obtain ⟨y0, hy0⟩ := some_of hxl' (i := 0) (by omega)
  obtain ⟨y1, hy1⟩ := some_of hxl' (i := 1) (by omega)
  obtain ⟨y2, hy2⟩ := some_of hxl' (i := 2) (by omega)
  obtain ⟨y3, hy3⟩ := some_of hxl' (i := 3) (by omega)
  have f0 : DataW.trod enc Try.prog w 0 (fun _ => true) true m' 3 (((c0 :: c1 :: c2 :: r).drop 0).take (Try.prog.cellsOf 3)) = some y0 := (hf 0 _ rfl).trans hy0
  have f1 : DataW.trod enc Try.prog w 0 (fun _ => true) true m' 2 (((c0 :: c1 :: c2 :: r).drop 1).take (Try.prog.cellsOf 2)) = some y1 := (hf 1 _ rfl).trans hy1
  have f2 : DataW.trod enc Try.prog w 0 (fun _ => true) true m' 3 (((c0 :: c1 :: c2 :: r).drop 2).take (Try.prog.cellsOf 3)) = some y2 := (hf 2 _ rfl).trans hy2
  have f3 : DataW.trod enc Try.prog w 0 (fun _ => true) true m' 28 (((c0 :: c1 :: c2 :: r).drop 3).take (Try.prog.cellsOf 28)) = some y3 := (hf 3 _ rfl).trans hy3
  rw [k0] at f0 f2
  rw [k1] at f1
  rw [k3] at f3
  simp only [List.drop_succ_cons, List.drop_zero, List.take_succ_cons, List.take_zero] at f0 f1 f2
  rw [show ((c0 :: c1 :: c2 :: r).drop 3).take 35 = r by simp only [List.drop_succ_cons, List.drop_zero]; exact List.take_of_length_le (by omega)] at f3
  obtain ⟨n0, e0, _, g0⟩ := DataW.trod_int Try.underlying3 f0
  obtain ⟨n1, e1, _, g1⟩ := DataW.trod_int Try.underlying2 f1
  obtain ⟨n2, e2, _, g2⟩ := DataW.trod_int Try.underlying3 f2
  obtain ⟨mm, hm⟩ := open_mcs f3
  injection e0 with e0 _
  injection e1 with e1 _
  injection e2 with e2 _
  subst e0 e1 e2
  exact ⟨⟨n0, n1, n2, mm⟩, r, rfl, hm, i64_in g0, i64_in g1, i64_in g2⟩
theorem open_fact {base : Nat} {r : Reach} {v : Value} {d : DataW H} {ps : List MemPlace} (hv : Value.okWide Try.prog w r base 30 v) (h : DataW.Trod enc Try.prog w 0 (fun _ => true) true 30 v d ps) :
    ∃ C f, v = .agg C ∧ Fv w (fun b => b < w.heap.size) (.agg C) f := by
  simp only [Value.okWide, Try.underlying30] at hv
  obtain ⟨cs, rfl, h2, _⟩ := hv
  obtain ⟨fuel, hf⟩ := h
  obtain ⟨f, h3⟩ := open_fcs (cs := cs.toList) (by simpa [Value.cells] using hf)
  exact ⟨cs, f, rfl, by simpa using h3⟩
end
end Go.Proofs.Ytdfmfjahnnifnaa
