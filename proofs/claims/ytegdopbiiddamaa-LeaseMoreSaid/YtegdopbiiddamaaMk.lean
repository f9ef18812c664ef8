/-
  Calls of scripts; two acceptors side by side; the walk of GrantPlays.
-/
import Derived.Test.YtegdopbiiddamaaMj
import Derived.Deep.DeepCutAuto
namespace Go.Proofs.Ytegdopbiiddamaa
open Go.RowKit Go.Great
set_option linter.unusedVariables false
set_option linter.unusedSimpArgs false
set_option maxRecDepth 20000
/-- A call of a script. -/
structure Cl where
  kind : Int
  slot : Int
  node : Int
  nonce : Int
  ahead : Int
def ccs (c : Cl) : List Value := [.int .i64 c.kind, .int .i64 c.slot, .int .i64 c.node, .int .i64 c.nonce, .int .i64 c.ahead]
def Cin (c : Cl) : Prop := In64 c.kind ∧ In64 c.slot ∧ In64 c.node ∧ In64 c.nonce ∧ In64 c.ahead
def cz : List Value := ccs ⟨0, 0, 0, 0, 0⟩
theorem cz_is : cz.toArray = #[.int .i64 0, .int .i64 0, .int .i64 0, .int .i64 0, .int .i64 0] := rfl
theorem ccs_one (c : Cl) : (ccs c).toArray.all (·.oneCell') = true := by simp [ccs, Value.oneCell']
/-- A store to a block that holds an acceptor leaves all rows of grants. -/
theorem acc_setRow {w : World} {g : Nat} {V0 V' V : Array Value} {a : Gt.A} (hz : Whole w g 45 V0) (hv : ∃ boot ad n c, V0 = acs boot ad n c) (ha : Acc w V a) : Acc (w.setRow g V') V a := by
  obtain ⟨ad, n, c, e, h1, h2, h3⟩ := ha
  refine ⟨ad, n, c, e, ?_, h2, h3⟩
  obtain ⟨q1, q2, q3⟩ := h1
  refine ⟨q1, q2, ?_⟩
  obtain ⟨vb, va, vn, vc, rfl⟩ := hv
  rcases q3 with q | ⟨b, off, rfl, _, hb, hc⟩
  · exact Or.inl q
  · by_cases hne : b = g
    · by_cases h0 : n = 0
      · exact Or.inl (List.eq_nil_of_length_eq_zero (by rw [q1]; exact h0))
      · exfalso
        subst hne
        have e0 : off + 0 * GE.K = off := by omega
        have h4 := hc 0 (by omega) 0 (Value.int .i64 (a.gs.getD 0 Gt.none).node) rfl
        have h6 := hc 0 (by omega) 1 (Value.int .i64 (a.gs.getD 0 Gt.none).nonce) rfl
        rw [e0] at h4 h6
        have h5 := hz.cell (off + 0)
        have h7 := hz.cell (off + 1)
        rw [h4] at h5
        rw [h6] at h7
        match off, h5, h7 with
        | 0, h5, h7 => simp [acs] at h7
        | 1, h5, h7 => simp [acs] at h5
        | k + 2, h5, h7 => simp [acs] at h5
    · refine Or.inr ⟨b, off, rfl, trivial, by simp [World.setRow]; exact hb, fun k hk j v hv => ?_⟩
      exact (World.cell?_of_block (w := w) (setRow_other w g b _ hne)).trans (hc k hk j v hv)
theorem acc_form {w : World} {V : Array Value} {a : Gt.A} (h : Acc w V a) : ∃ boot ad n c, V = acs boot ad n c := by
  obtain ⟨ad, n, c, e, _⟩ := h
  exact ⟨_, _, _, _, e⟩
/-- Two acceptors side by side, in blocks of their own. -/
structure Dd (w1 w : World) (g7 g8 : Nat) (V V' : Array Value) (a b : Gt.A) : Prop where
  one : Ab w g7 V a
  two : Ab w g8 V' b
  below : Below g7 w1 w
  lt : g7 < g8
section
variable {w1 w w' : World} {g7 g8 : Nat} {V V' : Array Value} {a b : Gt.A}
theorem Dd.on (h : Dd w1 w g7 g8 V V' a b) (hb : Below w.heap.size w w') : Dd w1 w' g7 g8 V V' a b := ⟨h.one.on hb, h.two.on hb, h.below.trans (hb.mono (by have := h.one.1.lt; omega)), h.lt⟩
theorem Dd.put7 {W : Array Value} {a' : Gt.A} (h : Dd w1 w g7 g8 V V' a b) (hv : Acc w W a') : Dd w1 (w.setRow g7 W) g7 g8 W V' a' b := by
  have := h.lt
  exact ⟨⟨h.one.1.row W, acc_setRow h.one.1 (acc_form h.one.2) hv⟩, ⟨h.two.1.rowFar (by omega) W, acc_setRow h.one.1 (acc_form h.one.2) h.two.2⟩, below_row h.below (Nat.le_refl _) _, h.lt⟩
theorem Dd.put8 {W : Array Value} {b' : Gt.A} (h : Dd w1 w g7 g8 V V' a b) (hv : Acc w W b') : Dd w1 (w.setRow g8 W) g7 g8 V W a b' := by
  have := h.lt
  exact ⟨⟨h.one.1.rowFar (by omega) W, acc_setRow h.two.1 (acc_form h.two.2) h.one.2⟩, ⟨h.two.1.row W, acc_setRow h.two.1 (acc_form h.two.2) hv⟩, below_row h.below (by omega) _, h.lt⟩
theorem Dd.acc8 {W : Array Value} {a' : Gt.A} (h : Dd w1 w g7 g8 V V' a b) (hv : Acc w W a') (X : Array Value) : Acc (w.setRow g7 X) W a' := acc_setRow h.one.1 (acc_form h.one.2) hv
end
end Go.Proofs.Ytegdopbiiddamaa
