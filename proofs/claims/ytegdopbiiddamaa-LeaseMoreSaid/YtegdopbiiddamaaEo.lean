/-
  What came in: numbers, rows of numbers, plans.
-/
import Derived.Test.YtegdopbiiddamaaEj
import Derived.Deep.Slices
import Derived.ChangeSlices
import Derived.ChangeOld
import Derived.ProofKit
import Derived.LaidMore
import Derived.OpenShut
namespace Go.Proofs.Ytegdopbiiddamaa
set_option maxRecDepth 20000
set_option linter.unusedSimpArgs false
open Go.ChangeShapes Go.WideShapes Go.RowKit Go.Deep
theorem u8_in {n : Int} (h : (Lit.int .u8 n).wf = true) : 0 ≤ n ∧ n < 256 := by
  simp [Lit.wf, IntKind.min, IntKind.max, IntKind.signed, IntKind.bits] at h
  omega
theorem u16_in {n : Int} (h : (Lit.int .u16 n).wf = true) : 0 ≤ n ∧ n < 65536 := by
  simp [Lit.wf, IntKind.min, IntKind.max, IntKind.signed, IntKind.bits] at h
  omega
theorem u32_in {n : Int} (h : (Lit.int .u32 n).wf = true) : 0 ≤ n ∧ n < 4294967296 := by
  simp [Lit.wf, IntKind.min, IntKind.max, IntKind.signed, IntKind.bits] at h
  omega
theorem i64_in {n : Int} (h : (Lit.int .i64 n).wf = true) : -9223372036854775808 ≤ n ∧ n ≤ 9223372036854775807 := by
  simp [Lit.wf, IntKind.min, IntKind.max, IntKind.signed, IntKind.bits] at h
  omega
section
variable {H : Type} {enc : TypeId × Value → H} {w : World}
/-- A row of numbers that came in. -/
theorem open_row {m : Nat} {v : Value} {x : DataW H × List MemPlace} (h : DataW.trod enc Try.prog w 0 (fun _ => true) true m 22 [v] = some x) : ∃ a n c l, v = .slice a n c ∧ n ≤ c ∧ c ≤ maxLen ∧ Ns w (· < w.heap.size) a n l := by
  rcases open_ints Try.underlying22 Try.underlying3 (by kernel_rfl) h with ⟨hcs, _⟩ | ⟨x, l, c, zs, hcs, _, hl, hm, hz, _, hcell, hwz⟩
  · injection hcs with hcs _
    exact ⟨none, 0, 0, [], hcs, Nat.le_refl _, Nat.zero_le _, Ns.nil _ _ _⟩
  · injection hcs with hcs _
    have hz' : zs.length = c := by simpa using hz
    by_cases h0 : l = 0
    · subst h0
      exact ⟨_, _, _, [], hcs, hl, hm, Ns.nil _ _ _⟩
    · obtain ⟨b, off, rfl, hc'⟩ := ints_at hcell (by omega)
      refine ⟨_, _, _, zs.take l, hcs, hl, hm, by simp; omega, fun y hy => i64_in (hwz y (List.mem_of_mem_take hy)), Or.inr ⟨b, off, rfl, World.block_lt_of_cell? w _ (hc' 0 (by omega)), World.block_lt_of_cell? w _ (hc' 0 (by omega)), fun k hk => ?_⟩⟩
      rw [hc' k (by omega)]
      have hk' : k < zs.length := by omega
      simp [hk', hk]
theorem open_nums {m : Nat} {a : Option Addr} {len cap : Nat} {x : DataW H × List MemPlace} (h : DataW.trod enc Try.prog w 0 (fun _ => true) true m 22 [.slice a len cap] = some x) : ∃ l, Ns w (· < w.heap.size) a len l := by
  obtain ⟨a', n', c', l, e, _, _, ht⟩ := open_row h
  injection e with e1 e2 e3
  subst e1 e2 e3
  exact ⟨l, ht⟩
theorem some_of {xs : List (DataW H × List MemPlace)} {n i : Nat} (h : xs.length = n) (hi : i < n) : ∃ y, xs[i]? = some y := ⟨xs[i]'(by omega), List.getElem?_eq_getElem (by omega)⟩
theorem eleven (cs : List Value) (h : cs.length = 11) : ∃ c0 c1 c2 c3 c4 c5 c6 c7 c8 c9 c10, cs = [c0, c1, c2, c3, c4, c5, c6, c7, c8, c9, c10] := by
  match cs, h with
  | [c0, c1, c2, c3, c4, c5, c6, c7, c8, c9, c10], _ => exact ⟨_, _, _, _, _, _, _, _, _, _, _, rfl⟩
/-- A plan that came in. -/
theorem open_pcs {m : Nat} {cs : List Value} {x : DataW H × List MemPlace} (h : DataW.trod enc Try.prog w 0 (fun _ => true) true m 24 cs = some x) :
    ∃ p : Dr.P, Cc w (· < w.heap.size) cs.toArray p := by
  obtain ⟨xs, m', _, _, hcl, hxl, hf⟩ := DataW.trod_struct Try.underlying24 h
  have hcl' : cs.length = 11 := hcl.trans (by kernel_rfl)
  have hxl' : xs.length = 11 := hxl
  obtain ⟨c0, c1, c2, c3, c4, c5, c6, c7, c8, c9, c10, rfl⟩ := eleven cs hcl'
  have k0 : Try.prog.cellsOf 3 = 1 := by kernel_rfl
  have k1 : Try.prog.cellsOf 2 = 1 := by kernel_rfl
  have k2 : Try.prog.cellsOf 22 = 1 := by kernel_rfl
  obtain ⟨y0, hy0⟩ := some_of hxl' (i := 0) (by omega)
  have f0 : DataW.trod enc Try.prog w 0 (fun _ => true) true m' 3 ((([c0, c1, c2, c3, c4, c5, c6, c7, c8, c9, c10] : List Value).drop 0).take (Try.prog.cellsOf 3)) = some y0 := (hf 0 _ rfl).trans hy0
  rw [k0] at f0
  simp only [List.drop_succ_cons, List.drop_zero, List.take_succ_cons, List.take_zero] at f0
  obtain ⟨y1, hy1⟩ := some_of hxl' (i := 1) (by omega)
  have f1 : DataW.trod enc Try.prog w 0 (fun _ => true) true m' 3 ((([c0, c1, c2, c3, c4, c5, c6, c7, c8, c9, c10] : List Value).drop 1).take (Try.prog.cellsOf 3)) = some y1 := (hf 1 _ rfl).trans hy1
  rw [k0] at f1
  simp only [List.drop_succ_cons, List.drop_zero, List.take_succ_cons, List.take_zero] at f1
  obtain ⟨y2, hy2⟩ := some_of hxl' (i := 2) (by omega)
  have f2 : DataW.trod enc Try.prog w 0 (fun _ => true) true m' 3 ((([c0, c1, c2, c3, c4, c5, c6, c7, c8, c9, c10] : List Value).drop 2).take (Try.prog.cellsOf 3)) = some y2 := (hf 2 _ rfl).trans hy2
  rw [k0] at f2
  simp only [List.drop_succ_cons, List.drop_zero, List.take_succ_cons, List.take_zero] at f2
  obtain ⟨y3, hy3⟩ := some_of hxl' (i := 3) (by omega)
  have f3 : DataW.trod enc Try.prog w 0 (fun _ => true) true m' 2 ((([c0, c1, c2, c3, c4, c5, c6, c7, c8, c9, c10] : List Value).drop 3).take (Try.prog.cellsOf 2)) = some y3 := (hf 3 _ rfl).trans hy3
  rw [k1] at f3
  simp only [List.drop_succ_cons, List.drop_zero, List.take_succ_cons, List.take_zero] at f3
  obtain ⟨y4, hy4⟩ := some_of hxl' (i := 4) (by omega)
  have f4 : DataW.trod enc Try.prog w 0 (fun _ => true) true m' 2 ((([c0, c1, c2, c3, c4, c5, c6, c7, c8, c9, c10] : List Value).drop 4).take (Try.prog.cellsOf 2)) = some y4 := (hf 4 _ rfl).trans hy4
  rw [k1] at f4
  simp only [List.drop_succ_cons, List.drop_zero, List.take_succ_cons, List.take_zero] at f4
  obtain ⟨y5, hy5⟩ := some_of hxl' (i := 5) (by omega)
  have f5 : DataW.trod enc Try.prog w 0 (fun _ => true) true m' 2 ((([c0, c1, c2, c3, c4, c5, c6, c7, c8, c9, c10] : List Value).drop 5).take (Try.prog.cellsOf 2)) = some y5 := (hf 5 _ rfl).trans hy5
  rw [k1] at f5
  simp only [List.drop_succ_cons, List.drop_zero, List.take_succ_cons, List.take_zero] at f5
  obtain ⟨y6, hy6⟩ := some_of hxl' (i := 6) (by omega)
  have f6 : DataW.trod enc Try.prog w 0 (fun _ => true) true m' 2 ((([c0, c1, c2, c3, c4, c5, c6, c7, c8, c9, c10] : List Value).drop 6).take (Try.prog.cellsOf 2)) = some y6 := (hf 6 _ rfl).trans hy6
  rw [k1] at f6
  simp only [List.drop_succ_cons, List.drop_zero, List.take_succ_cons, List.take_zero] at f6
  obtain ⟨y7, hy7⟩ := some_of hxl' (i := 7) (by omega)
  have f7 : DataW.trod enc Try.prog w 0 (fun _ => true) true m' 22 ((([c0, c1, c2, c3, c4, c5, c6, c7, c8, c9, c10] : List Value).drop 7).take (Try.prog.cellsOf 22)) = some y7 := (hf 7 _ rfl).trans hy7
  rw [k2] at f7
  simp only [List.drop_succ_cons, List.drop_zero, List.take_succ_cons, List.take_zero] at f7
  obtain ⟨y8, hy8⟩ := some_of hxl' (i := 8) (by omega)
  have f8 : DataW.trod enc Try.prog w 0 (fun _ => true) true m' 22 ((([c0, c1, c2, c3, c4, c5, c6, c7, c8, c9, c10] : List Value).drop 8).take (Try.prog.cellsOf 22)) = some y8 := (hf 8 _ rfl).trans hy8
  rw [k2] at f8
  simp only [List.drop_succ_cons, List.drop_zero, List.take_succ_cons, List.take_zero] at f8
  obtain ⟨y9, hy9⟩ := some_of hxl' (i := 9) (by omega)
  have f9 : DataW.trod enc Try.prog w 0 (fun _ => true) true m' 3 ((([c0, c1, c2, c3, c4, c5, c6, c7, c8, c9, c10] : List Value).drop 9).take (Try.prog.cellsOf 3)) = some y9 := (hf 9 _ rfl).trans hy9
  rw [k0] at f9
  simp only [List.drop_succ_cons, List.drop_zero, List.take_succ_cons, List.take_zero] at f9
  obtain ⟨y10, hy10⟩ := some_of hxl' (i := 10) (by omega)
  have f10 : DataW.trod enc Try.prog w 0 (fun _ => true) true m' 3 ((([c0, c1, c2, c3, c4, c5, c6, c7, c8, c9, c10] : List Value).drop 10).take (Try.prog.cellsOf 3)) = some y10 := (hf 10 _ rfl).trans hy10
  rw [k0] at f10
  simp only [List.drop_succ_cons, List.drop_zero, List.take_succ_cons, List.take_zero] at f10
  obtain ⟨n0, e0, _, g0⟩ := DataW.trod_int Try.underlying3 f0
  injection e0 with e0 _
  obtain ⟨n1, e1, _, g1⟩ := DataW.trod_int Try.underlying3 f1
  injection e1 with e1 _
  obtain ⟨n2, e2, _, g2⟩ := DataW.trod_int Try.underlying3 f2
  injection e2 with e2 _
  obtain ⟨n3, e3, _, g3⟩ := DataW.trod_int Try.underlying2 f3
  injection e3 with e3 _
  obtain ⟨n4, e4, _, g4⟩ := DataW.trod_int Try.underlying2 f4
  injection e4 with e4 _
  obtain ⟨n5, e5, _, g5⟩ := DataW.trod_int Try.underlying2 f5
  injection e5 with e5 _
  obtain ⟨n6, e6, _, g6⟩ := DataW.trod_int Try.underlying2 f6
  injection e6 with e6 _
  obtain ⟨n9, e9, _, g9⟩ := DataW.trod_int Try.underlying3 f9
  injection e9 with e9 _
  obtain ⟨n10, e10, _, g10⟩ := DataW.trod_int Try.underlying3 f10
  injection e10 with e10 _
  obtain ⟨a, n, c, l, e7, h1, h2, h3⟩ := open_row f7
  obtain ⟨a', n', c', l', e8, h1', h2', h3'⟩ := open_row f8
  subst e0 e1 e2 e3 e4 e5 e6 e7 e8 e9 e10
  exact ⟨⟨n0, n1, n2, n3, n4, n5, n6, l, l', n9, n10⟩, a, n, c, a', n', c', rfl, h1, h1', h2', h3, h3', i64_in g0, i64_in g1, i64_in g2, i64_in g3, i64_in g4, i64_in g5, i64_in g6, i64_in g9, i64_in g10⟩
theorem open_plan {base : Nat} {r : Reach} {v : Value} {d : DataW H} {ps : List MemPlace} (hv : Value.okWide Try.prog w r base 24 v) (h : DataW.Trod enc Try.prog w 0 (fun _ => true) true 24 v d ps) : ∃ C p, v = .agg C ∧ Cc w (· < w.heap.size) C p := by
  simp only [Value.okWide, Try.underlying24] at hv
  obtain ⟨cs, rfl, h2, _⟩ := hv
  obtain ⟨fuel, hf⟩ := h
  obtain ⟨p, hp⟩ := open_pcs (cs := cs.toList) (by simpa [Value.cells] using hf)
  exact ⟨cs, p, rfl, by simpa using hp⟩
end
end Go.Proofs.Ytegdopbiiddamaa
