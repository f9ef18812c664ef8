/-
  The walk of GrantBack.
-/
import Derived.Test.YtegdopbiiddamaaMi
namespace Go.Proofs.Ytegdopbiiddamaa.Gt
theorem at_put {a : A} {k : Nat} (h : k < a.gs.length) (g : G) : at_ (put a (k : Int) g) (k : Int) = g := by
  unfold at_ put
  simp [h]
theorem may_put {p : Dr.P} {a : A} {s s' : Int} (g : G) : may p (put a s' g) s ↔ may p a s := by
  unfold may
  rw [put_len]
theorem at_new {p : Dr.P} (hok : p.ok) {k : Nat} (hk : (k : Int) < p.slots) (now : Int) : at_ (new p now) (k : Int) = none := by
  unfold at_ new
  rw [if_pos hok]
  have : k < p.slots.toNat := by omega
  simp [this]
theorem may_new {p : Dr.P} (hok : p.ok) {k : Nat} (hk : (k : Int) < p.slots) (now : Int) : may p (new p now) (k : Int) := by
  refine ⟨hok, ?_, by omega, hk⟩
  unfold new
  rw [if_pos hok]
  have := hok.2.1.1
  simp only [List.length_replicate]
  omega
theorem ask_yes {p : Dr.P} {a : A} {s node nonce now : Int} (h : grants p a s node nonce now) : ask p a s node nonce now = (put a s ⟨node, nonce, now⟩, true) := if_pos h
theorem ask_no {p : Dr.P} {a : A} {s node nonce now : Int} (h : ¬ grants p a s node nonce now) : ask p a s node nonce now = (a, false) := if_neg h
/-- What GrantBack says. -/
theorem back {p : Dr.P} (hok : p.ok) {k : Nat} (hk : (k : Int) < p.slots) {one two n now : Int} (h1 : 0 ≤ one ∧ one < p.nodes) (h2 : 0 ≤ two ∧ two < p.nodes) (hn : 0 ≤ n) (hnow : p.grant ≤ now ∧ now < 1099511627776)
    {x y f w : A} (hx : new p 0 = x) (hy : put x (k : Int) ⟨one, n, now⟩ = y) (hf : put y (k : Int) none = f) (hw : put f (k : Int) ⟨two, n, now + 1⟩ = w) :
    ask p x (k : Int) one n now = (y, true) ∧ ask p y (k : Int) two n (now + 1) = (y, false) ∧ free p y (k : Int) one n = f ∧ ask p f (k : Int) two n (now + 1) = (w, true) ∧ free p y (k : Int) one (n + 1) = y ∧ ask p x (k : Int) one n (p.grant - 1) = (x, false) ∧ holder p w (k : Int) (now + 1) = two ∧ holder p y (k : Int) now = one := by
  have hg : 2 ≤ p.grant ∧ p.grant ≤ 1073741824 := by
    obtain ⟨_, _, ⟨r0, r1⟩, ⟨⟨t1, t2⟩, ⟨t3, t4⟩, _, _⟩, g4, _⟩ := hok
    unfold Dr.P.g4 at g4
    refine ⟨?_, t4⟩
    apply Decidable.byContradiction
    intro h
    have hg1 : p.grant = 1 := by omega
    have h5 : p.hold * (1000 + p.rho) ≥ 1 * (1000 + p.rho) := Int.mul_le_mul_of_nonneg_right t1 (by omega)
    rw [hg1] at g4
    omega
  have hb0 : x.boot = 0 := by rw [← hx]; unfold new; rw [if_pos hok]
  have hby : y.boot = 0 := by rw [← hy]; exact hb0
  have hbf : f.boot = 0 := by rw [← hf]; exact hby
  have hmx : may p x (k : Int) := by rw [← hx]; exact may_new hok hk 0
  have hmy : may p y (k : Int) := by rw [← hy, may_put]; exact hmx
  have hmf : may p f (k : Int) := by rw [← hf, may_put]; exact hmy
  have hmw : may p w (k : Int) := by rw [← hw, may_put]; exact hmf
  have hlx : k < x.gs.length := by have := hmx.2.1; have := hmx.2.2.2; omega
  have hly : k < y.gs.length := by rw [← hy, put_len]; exact hlx
  have hlf : k < f.gs.length := by rw [← hf, put_len]; exact hly
  have ax : at_ x (k : Int) = none := by rw [← hx]; exact at_new hok hk 0
  have ay : at_ y (k : Int) = ⟨one, n, now⟩ := by rw [← hy]; exact at_put hlx _
  have af : at_ f (k : Int) = none := by rw [← hf]; exact at_put hly _
  have aw : at_ w (k : Int) = ⟨two, n, now + 1⟩ := by rw [← hw]; exact at_put hlf _
  have f1 : p.free 0 now = true := decide_eq_true ⟨hok, ⟨by omega, by omega, by omega⟩, by omega⟩
  have f2 : p.free 0 (now + 1) = true := decide_eq_true ⟨hok, ⟨by omega, by omega, by omega⟩, by omega⟩
  have f3 : p.free now (now + 1) = false := decide_eq_false fun h => by have := h.2.2; omega
  have f4 : p.free 0 (p.grant - 1) = false := decide_eq_false fun h => by have := h.2.2; omega
  have f5 : p.free (now + 1) (now + 1) = false := decide_eq_false fun h => by have := h.2.2; omega
  have f6 : p.free now now = false := decide_eq_false fun h => by have := h.2.2; omega
  refine ⟨?_, ?_, ?_, ?_, ?_, ?_, ?_, ?_⟩
  · rw [ask_yes ⟨hmx, h1.1, h1.2, hn, by omega, by rw [hb0]; exact f1, Or.inl (by rw [ax]; decide)⟩, hy]
  · refine ask_no fun h => ?_
    obtain ⟨_, _, _, _, _, _, h7⟩ := h
    rw [ay] at h7
    rcases h7 with h7 | h7 | h7
    · exact absurd h7 (by simp only; omega)
    · exact absurd h7.2 (by simp only; omega)
    · rw [f3] at h7; cases h7
  · unfold free
    rw [if_pos ⟨hmy, by rw [ay], by rw [ay]⟩, hf]
  · rw [ask_yes ⟨hmf, h2.1, h2.2, hn, by omega, by rw [hbf]; exact f2, Or.inl (by rw [af]; decide)⟩, hw]
  · unfold free
    rw [if_neg]
    rintro ⟨_, _, h3⟩
    rw [ay] at h3
    simp only at h3
    omega
  · refine ask_no fun h => ?_
    have := h.2.2.2.2.2.1
    rw [hb0, f4] at this
    cases this
  · unfold holder
    rw [aw, if_pos ⟨hmw, f5⟩]
  · unfold holder
    rw [ay, if_pos ⟨hmy, f6⟩]
end Go.Proofs.Ytegdopbiiddamaa.Gt
namespace Go.Proofs.Ytegdopbiiddamaa
open Go.RowKit Go.Great
set_option linter.unusedVariables false
set_option linter.unusedSimpArgs false
set_option maxRecDepth 20000
theorem yields_ab {ops : Array Oper} {S : World → Prop} {op : Oper} {a : Act} (hw : Region.wanted op (yielded ops a.tmps) = true) (x : Operand) (ho : op.op = .load 45 x)
    (b : Nat) (hx : a.eval x = .pointer (some ⟨b, 0, none⟩)) (V : Array Value) (hV : V.size = 2) (hS : ∀ w, S w → Whole w b 45 V) : YieldsIf Try.prog ops S op (.agg V) a :=
  .inl ⟨hw, fun w hw' => by
    unfold execOp
    simp only [ho, hx, Instr.loadAt, Instr.sureAddr, Sem.run_bind, Sem.run_pure, Result.andThen_ok, run_loadVar_row w b 45 45 V (0, 0) _ (hS w hw') Try.underlying45 rfl (by rw [hV]; exact info_acc)]⟩
theorem yields_pl {ops : Array Oper} {S : World → Prop} {op : Oper} {a : Act} (hw : Region.wanted op (yielded ops a.tmps) = true) (x : Operand) (ho : op.op = .load 24 x)
    (b : Nat) (hx : a.eval x = .pointer (some ⟨b, 0, none⟩)) (C : Array Value) (hV : C.size = 11) (hS : ∀ w, S w → Whole w b 24 C) : YieldsIf Try.prog ops S op (.agg C) a :=
  .inl ⟨hw, fun w hw' => by
    unfold execOp
    simp only [ho, hx, Instr.loadAt, Instr.sureAddr, Sem.run_bind, Sem.run_pure, Result.andThen_ok, run_loadVar_row w b 24 24 C (0, 0) _ (hS w hw') Try.underlying24 rfl (by rw [hV]; exact info11)]⟩
theorem Kit.drew {w0 w : World} {g : Nat} {C : Array Value} {p : Dr.P} {L : List (Nat × Array Value × Gt.A)} (h : Kit w0 w g C p L) : Kit w0 w.drew g C p L := h.on (Below.refl _ _).drew
end Go.Proofs.Ytegdopbiiddamaa
