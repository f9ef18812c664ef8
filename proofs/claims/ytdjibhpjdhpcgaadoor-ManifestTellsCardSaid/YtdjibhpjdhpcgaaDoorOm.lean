/-
  A manifest that came in.
-/
import Derived.Test.YtdjibhpjdhpcgaaDoorZq
import Derived.Deep.Slices
import Derived.ChangeSlices
import Derived.ChangeOld
import Derived.ProofKit
import Derived.OpenShut
namespace Go.Proofs.YtdjibhpjdhpcgaaDoor
set_option maxRecDepth 20000
open Go.ChangeShapes Go.WideShapes Go.RowKit Go.Deep
section
variable {H : Type} {enc : TypeId × Value → H} {w : World}
theorem three (cs : List Value) (h : cs.length = 35) : ∃ c0 c1 c2 r, cs = c0 :: c1 :: c2 :: r ∧ r.length = 32 := by
  match cs, h with
  | c0 :: c1 :: c2 :: r, h => exact ⟨c0, c1, c2, r, rfl, by simpa using h⟩
theorem open_mcs {m : Nat} {cs : List Value} {x : DataW H × List MemPlace} (h : DataW.trod enc Tryd.prog w 0 (fun _ => true) true m 27 cs = some x) :
    ∃ mm : Mf.Man, Mv w (fun b => b < w.heap.size) (.agg cs.toArray) mm := by
  obtain ⟨xs, m', _, _, hcl, hxl, hf⟩ := DataW.trod_struct Tryd.underlying27 h
  have hcl' : cs.length = 35 := hcl.trans (by kernel_rfl)
  have hxl' : xs.length = 4 := hxl
  obtain ⟨c0, c1, c2, r, rfl, hr⟩ := three cs hcl'
  have k0 : Tryd.prog.cellsOf 3 = 1 := by kernel_rfl
  have k2 : Tryd.prog.cellsOf 24 = 1 := by kernel_rfl
  have k3 : Tryd.prog.cellsOf 25 = 32 := by kernel_rfl
  obtain ⟨y0, hy0⟩ := some_of hxl' (i := 0) (by omega)
  obtain ⟨y1, hy1⟩ := some_of hxl' (i := 1) (by omega)
  obtain ⟨y2, hy2⟩ := some_of hxl' (i := 2) (by omega)
  obtain ⟨y3, hy3⟩ := some_of hxl' (i := 3) (by omega)
  have f0 : DataW.trod enc Tryd.prog w 0 (fun _ => true) true m' 3 (((c0 :: c1 :: c2 :: r).drop 0).take (Tryd.prog.cellsOf 3)) = some y0 := (hf 0 _ rfl).trans hy0
  have f1 : DataW.trod enc Tryd.prog w 0 (fun _ => true) true m' 3 (((c0 :: c1 :: c2 :: r).drop 1).take (Tryd.prog.cellsOf 3)) = some y1 := (hf 1 _ rfl).trans hy1
  have f2 : DataW.trod enc Tryd.prog w 0 (fun _ => true) true m' 24 (((c0 :: c1 :: c2 :: r).drop 2).take (Tryd.prog.cellsOf 24)) = some y2 := (hf 2 _ rfl).trans hy2
  have f3 : DataW.trod enc Tryd.prog w 0 (fun _ => true) true m' 25 (((c0 :: c1 :: c2 :: r).drop 3).take (Tryd.prog.cellsOf 25)) = some y3 := (hf 3 _ rfl).trans hy3
  rw [k0] at f0 f1
  rw [k2] at f2
  rw [k3] at f3
  simp only [List.drop_succ_cons, List.drop_zero, List.take_succ_cons, List.take_zero] at f0 f1 f2 f3
  rw [List.take_of_length_le (by omega)] at f3
  obtain ⟨n0, e0, _, g0⟩ := DataW.trod_int Tryd.underlying3 f0
  obtain ⟨n1, e1, _, g1⟩ := DataW.trod_int Tryd.underlying3 f1
  obtain ⟨hh, hl32, e3⟩ := open_h32 hr f3
  obtain ⟨a, l, c, e2⟩ : ∃ a l c, c2 = .slice a l c := by
    rcases open_slice Tryd.underlying24 f2 with ⟨hcs, _⟩ | ⟨ad, l, c, _, _, _, _, hcs, _⟩
    · injection hcs with hcs _; exact ⟨_, _, _, hcs⟩
    · injection hcs with hcs _; exact ⟨_, _, _, hcs⟩
  subst e2
  obtain ⟨ds, hle, hdg⟩ := open_digs f2
  injection e0 with e0 _
  injection e1 with e1 _
  subst e0 e1 e3
  exact ⟨⟨n0, n1, ds, hh⟩, a, l, c, rfl, hle, hdg, hl32, i64_in g0, i64_in g1⟩
theorem open_man {base : Nat} {r : Reach} {v : Value} {d : DataW H} {ps : List MemPlace} (hv : Value.okWide Tryd.prog w r base 27 v) (h : DataW.Trod enc Tryd.prog w 0 (fun _ => true) true 27 v d ps) : ∃ m : Mf.Man, Mv w (fun b => b < w.heap.size) v m := by
  simp only [Value.okWide, Tryd.underlying27] at hv
  obtain ⟨cs, rfl, h2, _⟩ := hv
  obtain ⟨fuel, hf⟩ := h
  have h3 := open_mcs (cs := cs.toList) (by simpa [Value.cells] using hf)
  simpa using h3
end
end Go.Proofs.YtdjibhpjdhpcgaaDoor
