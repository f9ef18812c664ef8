/-
  The walks of the document's Ask and Free of acceptors.
-/
import Derived.Test.YtegdopbiiddamaaMc
namespace Go.Proofs.Ytegdopbiiddamaa
open Go.RowKit Go.Great
set_option linter.unusedVariables false
set_option linter.unusedSimpArgs false
set_option maxRecDepth 20000
theorem results_cell_one {fn : Func} {p u : Tmp} {ty : TypeId} (h : fn.results = #[.cell p ty, .tmp u]) (tmps : Array Value) (P : Program) (w : World) (a : Addr) {v : Value} (ht : tmps.getD p undef = .pointer (some a)) (hv : (loadVar ty a).run P w = .ok v w) :
    (results fn tmps).run P w = .ok (.tuple #[v, tmps.getD u undef]) w := by
  rw [results_cell_tmp h, ht]
  simp [asAddr, hv]
/-- A plan, an acceptor, and a place for an answer. -/
theorem boxes_paz {w : World} {S : Nat → Prop} {C V : Array Value} {p : Dr.P} {a : Gt.A} (h : Cc w S C p) (ha : Acc w V a) : ∃ w1, ((w.alloc (.cells C 24)).alloc (.cells V 45)).alloc (.cells az 45) = w1 ∧ Pl w1 w.heap.size C p ∧ Ab w1 (w.heap.size + 1) V a ∧ Whole w1 (w.heap.size + 1 + 1) 45 az ∧ Below w.heap.size w w1 := by
  obtain ⟨w0, e, h1, h2, h3⟩ := boxes_pa h ha
  have hs : w0.heap.size = w.heap.size + 1 + 1 := by rw [← e, size_alloc, size_alloc]
  refine ⟨_, rfl, ?_⟩
  rw [e]
  refine ⟨h1.on (below_alloc w0 _), h2.on (below_alloc w0 _), ?_, h3.alloc h3.size _⟩
  have := Whole.new w0 45 az
  rw [hs] at this
  exact this
theorem gt_at {a : Gt.A} {s : Int} {k : Nat} (h : s = (k : Int)) : Gt.at_ a s = a.gs.getD k Gt.none := by subst h; simp [Gt.at_]
/-- What a walk of an acceptor's call keeps. -/
structure Cal (w0 w : World) (C V : Array Value) (p : Dr.P) (a : Gt.A) : Prop where
  pl : Pl w w0.heap.size C p
  ab : Ab w (w0.heap.size + 1) V a
  z : Whole w (w0.heap.size + 1 + 1) 45 az
  below : Below w0.heap.size w0 w
theorem Cal.on {w0 w w' : World} {C V : Array Value} {p : Dr.P} {a : Gt.A} (h : Cal w0 w C V p a) (hb : Below w.heap.size w w') : Cal w0 w' C V p a := ⟨h.pl.on hb, h.ab.on hb, h.z.below hb h.z.lt, h.below.trans (hb.mono h.below.size)⟩
/-- Behind the store of an acceptor. -/
theorem Cal.acc {w0 w : World} {C V V' : Array Value} {p : Dr.P} {a a' : Gt.A} (h : Cal w0 w C V p a) (ha : Acc w V' a') : Acc (w.setRow (w0.heap.size + 1 + 1) V') V' a' := by
  obtain ⟨ad, n, c, e, h1, h2, h3⟩ := ha
  refine ⟨ad, n, c, e, ?_, h2, h3⟩
  obtain ⟨q1, q2, q3⟩ := h1
  refine ⟨q1, q2, ?_⟩
  rcases q3 with q | ⟨b, off, rfl, _, hb, hc⟩
  · exact Or.inl q
  · by_cases hne : b = w0.heap.size + 1 + 1
    · by_cases h0 : n = 0
      · exact Or.inl (List.eq_nil_of_length_eq_zero (by rw [q1]; exact h0))
      · exfalso
        subst hne
        have h4 := hc 0 (by omega) 0 (Value.int .i64 (a'.gs.getD 0 Gt.none).node) rfl
        have h5 := h.z.cell (off + 0 * GE.K + 0)
        rw [h4] at h5
        have e0 : off + 0 * GE.K + 0 = off := by omega
        rw [e0] at h5
        match off, h5 with
        | 0, h5 => 
          have h6 := hc 0 (by omega) 1 (Value.int .i64 (a'.gs.getD 0 Gt.none).nonce) rfl
          have h7 := h.z.cell (0 + 0 * GE.K + 1)
          rw [h6] at h7
          have e1 : 0 + 0 * GE.K + 1 = 1 := by omega
          rw [e1] at h7
          simp [az, acs] at h7
        | 1, h5 => simp [az, acs] at h5
        | k + 2, h5 => simp [az, acs] at h5
    · refine Or.inr ⟨b, off, rfl, trivial, by simp [World.setRow]; exact hb, fun k hk j v hv => ?_⟩
      exact (World.cell?_of_block (w := w) (setRow_other w (w0.heap.size + 1 + 1) b _ hne)).trans (hc k hk j v hv)
end Go.Proofs.Ytegdopbiiddamaa
