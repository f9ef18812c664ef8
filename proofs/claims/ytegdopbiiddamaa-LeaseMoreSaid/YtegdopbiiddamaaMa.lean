/-
  Plain mathematics of acceptors; acceptors in memory; plans that a walk keeps.
-/
import Derived.Test.YtegdopbiiddamaaRw
import Derived.Test.YtegdopbiiddamaaEj
import Derived.Test.YtegdopbiiddamaaEg
import Derived.Laws.StructEq
namespace Go.Proofs.Ytegdopbiiddamaa.Gt
structure G where
  node : Int
  nonce : Int
  since : Int
deriving DecidableEq
structure A where
  boot : Int
  gs : List G
deriving DecidableEq
def none : G := ⟨-1, 0, 0⟩
def may (p : Dr.P) (a : A) (s : Int) : Prop := p.ok ∧ (a.gs.length : Int) = p.slots ∧ 0 ≤ s ∧ s < p.slots
instance (p : Dr.P) (a : A) (s : Int) : Decidable (may p a s) := by unfold may; infer_instance
def at_ (a : A) (s : Int) : G := a.gs.getD s.toNat none
def new (p : Dr.P) (now : Int) : A := if p.ok then ⟨now, List.replicate p.slots.toNat none⟩ else ⟨0, []⟩
def put (a : A) (s : Int) (g : G) : A := ⟨a.boot, a.gs.set s.toNat g⟩
/-- Whether a slot is granted. -/
def grants (p : Dr.P) (a : A) (s node nonce now : Int) : Prop := may p a s ∧ 0 ≤ node ∧ node < p.nodes ∧ 0 ≤ nonce ∧ 0 ≤ now ∧ p.free a.boot now = true ∧ ((at_ a s).node < 0 ∨ ((at_ a s).node = node ∧ (at_ a s).nonce < nonce) ∨ p.free (at_ a s).since now = true)
instance (p : Dr.P) (a : A) (s node nonce now : Int) : Decidable (grants p a s node nonce now) := by unfold grants; infer_instance
def ask (p : Dr.P) (a : A) (s node nonce now : Int) : A × Bool := if grants p a s node nonce now then (put a s ⟨node, nonce, now⟩, true) else (a, false)
def free (p : Dr.P) (a : A) (s node nonce : Int) : A := if may p a s ∧ (at_ a s).node = node ∧ (at_ a s).nonce = nonce then put a s none else a
def holder (p : Dr.P) (a : A) (s now : Int) : Int := if may p a s ∧ p.free (at_ a s).since now = false then (at_ a s).node else -1
theorem new_len {p : Dr.P} (now : Int) : (new p now).gs.length ≤ 9 := by
  unfold new
  split
  · rename_i h
    obtain ⟨h0, h1, _⟩ := h
    unfold Dr.P.g0 at h0
    unfold Dr.P.g1 at h1
    simp only [List.length_replicate]
    omega
  · simp
theorem put_len (a : A) (s : Int) (g : G) : (put a s g).gs.length = a.gs.length := by simp [put]
theorem ask_len (p : Dr.P) (a : A) (s node nonce now : Int) : (ask p a s node nonce now).1.gs.length = a.gs.length := by
  unfold ask
  split
  · exact put_len _ _ _
  · rfl
theorem free_len (p : Dr.P) (a : A) (s node nonce : Int) : (free p a s node nonce).gs.length = a.gs.length := by
  unfold free
  split
  · exact put_len _ _ _
  · rfl
end Go.Proofs.Ytegdopbiiddamaa.Gt
namespace Go.Proofs.Ytegdopbiiddamaa
open Go.RowKit Go.Great
set_option linter.unusedVariables false
set_option linter.unusedSimpArgs false
set_option maxRecDepth 20000
theorem ret_agg {a b : Array Value} (h : a = b) : Ending.returned (.agg a) = .returned (.agg b) := by rw [h]
def gcs (g : Gt.G) : List Value := [.int .i64 g.node, .int .i64 g.nonce, .int .i64 g.since]
def Gin (g : Gt.G) : Prop := In64 g.node ∧ In64 g.nonce ∧ In64 g.since
/-- Rows of grants. -/
def GE : Elem Gt.G where
  K := 3
  T := 67
  TS := 43
  enc := gcs
  z := Gt.none
  ok := Gin
  bytes := 24
  zero := .agg #[.int .i64 0, .int .i64 0, .int .i64 0]
  hK := by omega
  len := fun x => rfl
  one := fun x v hv => by simp [gcs] at hv; rcases hv with rfl | rfl | rfl <;> rfl
  und := Try.underlying43
  info := by kernel_rfl
  zs := rfl
  hb := by omega
  hKs := by omega
def acs (boot : Int) (a : Option Addr) (n c : Nat) : Array Value := #[.int .i64 boot, .slice a n c]
/-- The cells V are those of the acceptor a. -/
def Acc (w : World) (V : Array Value) (a : Gt.A) : Prop := ∃ ad n c, V = acs a.boot ad n c ∧ GE.Row w Any ad n a.gs ∧ n ≤ c ∧ In64 a.boot ∧ n ≤ 100
theorem Acc.on {w w' : World} {V : Array Value} {a : Gt.A} (h : Acc w V a) (hb : Below w.heap.size w w') : Acc w' V a := by
  obtain ⟨ad, n, c, e, h1, h2, h3⟩ := h
  exact ⟨ad, n, c, e, h1.on hb, h2, h3⟩
theorem Acc.size {w : World} {V : Array Value} {a : Gt.A} (h : Acc w V a) : V.size = 2 := by
  obtain ⟨ad, n, c, rfl, _⟩ := h
  rfl
theorem info_acc : (Try.prog.info? 45).map (·.size) = some 2 := by kernel_rfl
theorem info_gr : (Try.prog.info? 67).map (·.size) = some 3 := by kernel_rfl
theorem Acc.one {w : World} {V : Array Value} {a : Gt.A} (h : Acc w V a) : V.all (·.oneCell') = true := by
  obtain ⟨ad, n, c, rfl, _⟩ := h
  simp [acs, Value.oneCell']
/-- An acceptor is answered. -/
def AccQ (w : World) (a : Gt.A) (e : Ending) (w' : World) : Prop := ∃ V, e = .returned (.agg V) ∧ Acc w' V a ∧ Below w.heap.size w w'
def AccB (w : World) (a : Gt.A) (b : Bool) (e : Ending) (w' : World) : Prop := ∃ V, e = .returned (.tuple #[.agg V, .bool b]) ∧ Acc w' V a ∧ Below w.heap.size w w'
/-- A plan in its block, as it is seen in some later world. -/
def Pl (w : World) (g : Nat) (C : Array Value) (p : Dr.P) : Prop := Box w Any g C p
theorem Pl.on {w w' : World} {g : Nat} {C : Array Value} {p : Dr.P} (h : Pl w g C p) (hb : Below w.heap.size w w') : Pl w' g C p := (Box.on h hb).weak fun _ _ => trivial
theorem Pl.new {w : World} {S : Nat → Prop} {C : Array Value} {p : Dr.P} (h : Cc w S C p) : Pl (w.alloc (.cells C 24)) w.heap.size C p := (Box.new h).weak fun _ _ => trivial
theorem Pl.cells {w : World} {g : Nat} {C : Array Value} {p : Dr.P} (h : Pl w g C p) : w.cell? ⟨g, 0, none⟩ = some (.int .i64 p.nodes) ∧ w.cell? ⟨g, 1, none⟩ = some (.int .i64 p.slots) ∧ w.cell? ⟨g, 4, none⟩ = some (.int .i64 p.grant) := by
  obtain ⟨a, n, c, a', n', c', e, _⟩ := h.2
  refine ⟨(h.1.cell 0).trans ?_, (h.1.cell 1).trans ?_, (h.1.cell 4).trans ?_⟩ <;> rw [e] <;> rfl
/-- An acceptor in its block. -/
def Ab (w : World) (g : Nat) (V : Array Value) (a : Gt.A) : Prop := Whole w g 45 V ∧ Acc w V a
theorem Ab.on {w w' : World} {g : Nat} {V : Array Value} {a : Gt.A} (h : Ab w g V a) (hb : Below w.heap.size w w') : Ab w' g V a := ⟨h.1.below hb h.1.lt, h.2.on hb⟩
theorem Ab.new {w : World} {V : Array Value} {a : Gt.A} (h : Acc w V a) : Ab (w.alloc (.cells V 45)) w.heap.size V a := ⟨Whole.new w _ _, h.on (below_alloc w _)⟩
end Go.Proofs.Ytegdopbiiddamaa
