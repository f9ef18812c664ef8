/-
  Calls of scripts that came in.
-/
import Derived.Test.YtalfcaepobbdeaaMk
import Derived.Test.YtalfcaepobbdeaaEo
namespace Go.Proofs.Ytalfcaepobbdeaa
set_option linter.unusedVariables false
set_option linter.unusedSimpArgs false
set_option maxRecDepth 20000
open Go.ChangeShapes Go.WideShapes Go.RowKit Go.Deep
instance : Inhabited Cl := ⟨⟨0, 0, 0, 0, 0⟩⟩
section
variable {H : Type} {enc : TypeId × Value → H} {w : World}
theorem five (cs : List Value) (h : cs.length = 5) : ∃ c0 c1 c2 c3 c4, cs = [c0, c1, c2, c3, c4] := by
  match cs, h with
  | [c0, c1, c2, c3, c4], _ => exact ⟨c0, c1, c2, c3, c4, rfl⟩
theorem open_ccs {m : Nat} {cs : List Value} {x : DataW H × List MemPlace} (h : DataW.trod enc Try.prog w 0 (fun _ => true) true m 33 cs = some x) :
    ∃ b : Cl, Cin b ∧ cs = ccs b := by
  obtain ⟨xs, m', _, _, hcl, hxl, hf⟩ := DataW.trod_struct Try.underlying33 h
  have hcl' : cs.length = 5 := hcl.trans (by kernel_rfl)
  have hxl' : xs.length = 5 := hxl
  obtain ⟨c0, c1, c2, c3, c4, rfl⟩ := five cs hcl'
  have k0 : Try.prog.cellsOf 3 = 1 := by kernel_rfl
  have k1 : Try.prog.cellsOf 2 = 1 := by kernel_rfl
  obtain ⟨y0, hy0⟩ := some_of hxl' (i := 0) (by omega)
  have f0 : DataW.trod enc Try.prog w 0 (fun _ => true) true m' 3 ((([c0, c1, c2, c3, c4] : List Value).drop 0).take (Try.prog.cellsOf 3)) = some y0 := (hf 0 _ rfl).trans hy0
  rw [k0] at f0
  simp only [List.drop_succ_cons, List.drop_zero, List.take_succ_cons, List.take_zero] at f0
  obtain ⟨y1, hy1⟩ := some_of hxl' (i := 1) (by omega)
  have f1 : DataW.trod enc Try.prog w 0 (fun _ => true) true m' 3 ((([c0, c1, c2, c3, c4] : List Value).drop 1).take (Try.prog.cellsOf 3)) = some y1 := (hf 1 _ rfl).trans hy1
  rw [k0] at f1
  simp only [List.drop_succ_cons, List.drop_zero, List.take_succ_cons, List.take_zero] at f1
  obtain ⟨y2, hy2⟩ := some_of hxl' (i := 2) (by omega)
  have f2 : DataW.trod enc Try.prog w 0 (fun _ => true) true m' 3 ((([c0, c1, c2, c3, c4] : List Value).drop 2).take (Try.prog.cellsOf 3)) = some y2 := (hf 2 _ rfl).trans hy2
  rw [k0] at f2
  simp only [List.drop_succ_cons, List.drop_zero, List.take_succ_cons, List.take_zero] at f2
  obtain ⟨y3, hy3⟩ := some_of hxl' (i := 3) (by omega)
  have f3 : DataW.trod enc Try.prog w 0 (fun _ => true) true m' 2 ((([c0, c1, c2, c3, c4] : List Value).drop 3).take (Try.prog.cellsOf 2)) = some y3 := (hf 3 _ rfl).trans hy3
  rw [k1] at f3
  simp only [List.drop_succ_cons, List.drop_zero, List.take_succ_cons, List.take_zero] at f3
  obtain ⟨y4, hy4⟩ := some_of hxl' (i := 4) (by omega)
  have f4 : DataW.trod enc Try.prog w 0 (fun _ => true) true m' 2 ((([c0, c1, c2, c3, c4] : List Value).drop 4).take (Try.prog.cellsOf 2)) = some y4 := (hf 4 _ rfl).trans hy4
  rw [k1] at f4
  simp only [List.drop_succ_cons, List.drop_zero, List.take_succ_cons, List.take_zero] at f4
  obtain ⟨n0, e0, _, g0⟩ := DataW.trod_int Try.underlying3 f0
  injection e0 with e0 _
  obtain ⟨n1, e1, _, g1⟩ := DataW.trod_int Try.underlying3 f1
  injection e1 with e1 _
  obtain ⟨n2, e2, _, g2⟩ := DataW.trod_int Try.underlying3 f2
  injection e2 with e2 _
  obtain ⟨n3, e3, _, g3⟩ := DataW.trod_int Try.underlying2 f3
  injection e3 with e3 _
  obtain ⟨n4, e4, _, g4⟩ := DataW.trod_int Try.underlying2 f4
  injection e4 with e4 _
  subst e0 e1 e2 e3 e4
  exact ⟨⟨n0, n1, n2, n3, n4⟩, ⟨i64_in g0, i64_in g1, i64_in g2, i64_in g3, i64_in g4⟩, rfl⟩
theorem open_script {m : Nat} {a : Option Addr} {len cap : Nat} {x : DataW H × List MemPlace} (h : DataW.trod enc Try.prog w 0 (fun _ => true) true m 25 [.slice a len cap] = some x) :
    ∃ l, CE.Row w (· < w.heap.size) a len l := by
  have kk : Try.prog.cellsOf 33 = 5 := by kernel_rfl
  rcases open_slice Try.underlying25 h with ⟨hcs, _⟩ | ⟨ad, l, c, m', n, D, Pl, hcs, _, hl, hcap, hm, _, hi⟩
  · injection hcs with hcs _
    injection hcs with e1 e2 e3
    subst e1 e2 e3
    exact ⟨[], Elem.Row.nil _ _ _⟩
  · injection hcs with hcs _
    injection hcs with e1 e2 e3
    subst e1 e2 e3
    have hm' : m' = cap := by simpa using hm
    subst hm'
    rw [kk] at hi
    by_cases h0 : len = 0
    · subst h0
      exact ⟨[], Elem.Row.nil _ _ _⟩
    · obtain ⟨b, off, spot⟩ := ad
      have hspot : spot = none := by
        obtain ⟨cs', h1, h2⟩ := hi 0 (by omega)
        obtain ⟨c, _, hc⟩ := open_ccs (w := w) (cs := cs') h2
        obtain ⟨_, hln, hat⟩ := World.cells?_some h1
        have h3 := hat 0 (by omega)
        rw [hc] at h3
        simpa [Addr.add] using World.cell?_spot (h3.trans rfl)
      subst hspot
      have key : ∀ i, i < len → ∃ c : Cl, Cin c ∧ w.rangeAt b (off + i * 5) (ccs c) := fun i hlt => by
        obtain ⟨cs', h1, h2⟩ := hi i (by omega)
        obtain ⟨c, hk, hc⟩ := open_ccs (w := w) (cs := cs') h2
        obtain ⟨_, hln, hat⟩ := World.cells?_some h1
        refine ⟨c, hk, fun j v hv => ?_⟩
        have hj : j < 5 := by
          have := (List.getElem?_eq_some_iff.1 hv).1
          simpa [ccs] using this
        have h3 := hat j hj
        rw [add_add, add_plain] at h3
        rw [← hv, ← hc, ← h3, Nat.add_assoc]
      obtain ⟨f, hf⟩ := choose_lt (α := Cl) (n := len) (p := fun i c => Cin c ∧ w.rangeAt b (off + i * 5) (ccs c)) key
      have hblt : b < w.heap.size := World.block_lt_of_cell? w _ ((hf 0 (by omega)).2 0 _ rfl)
      refine ⟨(List.range len).map f, ⟨by simp, ?_, Or.inr ⟨b, off, rfl, hblt, hblt, fun k hk => ?_⟩⟩⟩
      · intro c hc
        obtain ⟨i, hi', rfl⟩ := List.mem_map.1 hc
        exact (hf i (List.mem_range.1 hi')).1
      · have e : ((List.range len).map f).getD k CE.z = f k := by simp [hk]
        rw [e]
        exact (hf k hk).2
end
end Go.Proofs.Ytalfcaepobbdeaa
