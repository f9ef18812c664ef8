/-
  Members that came in, and rows of them.
-/
import Derived.Test.YtlcpiompmpccoaaCh
import Derived.Deep.Slices
import Derived.ChangeSlices
import Derived.ChangeOld
import Derived.ProofKit
import Derived.LaidMore
import Derived.OpenShut
namespace Go.Proofs.Ytlcpiompmpccoaa
set_option linter.unusedVariables false
set_option linter.unusedSimpArgs false
set_option maxRecDepth 20000
open Go.ChangeShapes Go.WideShapes Go.RowKit Go.Deep Mb
theorem i64_in {n : Int} (h : (Lit.int .i64 n).wf = true) : -9223372036854775808 ≤ n ∧ n ≤ 9223372036854775807 := by
  simp [Lit.wf, IntKind.min, IntKind.max, IntKind.signed, IntKind.bits] at h
  omega
section
variable {H : Type} {enc : TypeId × Value → H} {w : World}
theorem some_of {xs : List (DataW H × List MemPlace)} {n i : Nat} (h : xs.length = n) (hi : i < n) : ∃ y, xs[i]? = some y := ⟨xs[i]'(by omega), List.getElem?_eq_getElem (by omega)⟩
theorem duo (cs : List Value) (h : cs.length = 2) : ∃ c0 c1, cs = [c0, c1] := by
  match cs, h with
  | [c0, c1], _ => exact ⟨c0, c1, rfl⟩
theorem open_mcs {m : Nat} {cs : List Value} {x : DataW H × List MemPlace} (h : DataW.trod enc Try.prog w 0 (fun _ => true) true m 24 cs = some x) :
    ∃ b : M, Min b ∧ cs = (mc b).toList := by
  obtain ⟨xs, m', _, _, hcl, hxl, hf⟩ := DataW.trod_struct Try.underlying24 h
  have hcl' : cs.length = 2 := hcl.trans (by kernel_rfl)
  have hxl' : xs.length = 2 := hxl
  obtain ⟨c0, c1, rfl⟩ := duo cs hcl'
  have k0 : Try.prog.cellsOf 2 = 1 := by kernel_rfl
  have k1 : Try.prog.cellsOf 3 = 1 := by kernel_rfl
  obtain ⟨y0, hy0⟩ := some_of hxl' (i := 0) (by omega)
  obtain ⟨y1, hy1⟩ := some_of hxl' (i := 1) (by omega)
  have f0 : DataW.trod enc Try.prog w 0 (fun _ => true) true m' 2 (([c0, c1].drop 0).take (Try.prog.cellsOf 2)) = some y0 := (hf 0 _ rfl).trans hy0
  have f1 : DataW.trod enc Try.prog w 0 (fun _ => true) true m' 3 (([c0, c1].drop 1).take (Try.prog.cellsOf 3)) = some y1 := (hf 1 _ rfl).trans hy1
  rw [k0] at f0
  rw [k1] at f1
  simp only [List.drop_succ_cons, List.drop_zero, List.take_succ_cons, List.take_zero] at f0 f1
  obtain ⟨n0, e0, _, g0⟩ := DataW.trod_int Try.underlying2 f0
  obtain ⟨n1, e1, _, g1⟩ := DataW.trod_int Try.underlying3 f1
  injection e0 with e0 _
  injection e1 with e1 _
  subst e0 e1
  exact ⟨(n0, n1), ⟨i64_in g0, i64_in g1⟩, rfl⟩
theorem open_mem {base : Nat} {r : Reach} {v : Value} {d : DataW H} {ps : List MemPlace} (hv : Value.okWide Try.prog w r base 24 v) (h : DataW.Trod enc Try.prog w 0 (fun _ => true) true 24 v d ps) : ∃ (C : Array Value) (b : M), v = .agg C ∧ (C = mc b ∧ Min b) := by
  simp only [Value.okWide, Try.underlying24] at hv
  obtain ⟨cs, rfl, h2, _⟩ := hv
  obtain ⟨fuel, hf⟩ := h
  obtain ⟨b, h3, h4⟩ := open_mcs (cs := cs.toList) (by simpa [Value.cells] using hf)
  exact ⟨cs, b, rfl, by simpa using congrArg List.toArray h4, h3⟩
theorem open_mems {m : Nat} {a : Option Addr} {len cap : Nat} {x : DataW H × List MemPlace} (h : DataW.trod enc Try.prog w 0 (fun _ => true) true m 30 [.slice a len cap] = some x) :
    ∃ l, Ms w (· < w.heap.size) a len l ∧ len ≤ cap := by
  have kk : Try.prog.cellsOf 24 = 2 := by kernel_rfl
  rcases open_slice Try.underlying30 h with ⟨hcs, _⟩ | ⟨ad, l, c, m', n, D, Pl, hcs, _, hl, hcap, hm, _, hi⟩
  · injection hcs with hcs _
    injection hcs with e1 e2 e3
    subst e1 e2 e3
    exact ⟨[], Ms.nil _ _ _, Nat.le_refl _⟩
  · injection hcs with hcs _
    injection hcs with e1 e2 e3
    subst e1 e2 e3
    have hm' : m' = cap := by simpa using hm
    subst hm'
    rw [kk] at hi
    by_cases h0 : len = 0
    · subst h0
      exact ⟨[], Ms.nil _ _ _, hl⟩
    · obtain ⟨b, off, spot⟩ := ad
      have hspot : spot = none := by
        obtain ⟨cs', h1, h2⟩ := hi 0 (by omega)
        obtain ⟨c, _, hc⟩ := open_mcs (w := w) (cs := cs') h2
        obtain ⟨_, hln, hat⟩ := World.cells?_some h1
        have h3 := hat 0 (by omega)
        rw [hc] at h3
        simpa [Addr.add] using World.cell?_spot (h3.trans rfl)
      subst hspot
      have key : ∀ i, i < len → ∃ c : M, Min c ∧ w.rangeAt b (off + i * 2) (mc c).toList := fun i hlt => by
        obtain ⟨cs', h1, h2⟩ := hi i (by omega)
        obtain ⟨c, hk, hc⟩ := open_mcs (w := w) (cs := cs') h2
        obtain ⟨_, hln, hat⟩ := World.cells?_some h1
        refine ⟨c, hk, fun j v hv => ?_⟩
        have hj : j < 2 := by
          have := (List.getElem?_eq_some_iff.1 hv).1
          simpa [mc] using this
        have h3 := hat j hj
        rw [add_add, add_plain] at h3
        rw [← hv, ← hc, ← h3, Nat.add_assoc]
      obtain ⟨f, hf⟩ := choose_lt (α := M) (n := len) (p := fun i c => Min c ∧ w.rangeAt b (off + i * 2) (mc c).toList) key
      have hblt : b < w.heap.size := World.block_lt_of_cell? w _ ((hf 0 (by omega)).2 0 _ rfl)
      refine ⟨(List.range len).map f, ⟨by simp, ?_, Or.inr ⟨b, off, rfl, hblt, hblt, fun k hk => ?_⟩⟩, hl⟩
      · intro c hc
        obtain ⟨i, hi', rfl⟩ := List.mem_map.1 hc
        exact (hf i (List.mem_range.1 hi')).1
      · have e : ((List.range len).map f).getD k nought = f k := by simp [hk]
        rw [e]
        have h2 := (hf k hk).2
        exact ⟨h2 0 _ rfl, by rw [Nat.add_assoc]; exact h2 1 _ rfl⟩
end
end Go.Proofs.Ytlcpiompmpccoaa
