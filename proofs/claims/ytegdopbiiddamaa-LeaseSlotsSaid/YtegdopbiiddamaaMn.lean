/-
  What GrantOne keeps; acceptors whose rows lie in blocks that are told.
-/
import Derived.Test.YtegdopbiiddamaaMk
namespace Go.Proofs.Ytegdopbiiddamaa.Gt
/-- Who has a slot, and since when, as the statement keeps it. -/
structure Inv (p : Dr.P) (a : A) (has since : Nat → Int) (now : Int) : Prop where
  len : (a.gs.length : Int) = p.slots
  boot : a.boot ≤ now
  at_ : ∀ s : Nat, (s : Int) < p.slots → since s ≤ now ∧ (0 ≤ has s → ((Gt.at_ a (s : Int)).node = has s ∧ (Gt.at_ a (s : Int)).since = since s) ∨ since s ≤ a.boot)
def upd (f : Nat → Int) (s : Nat) (x : Int) : Nat → Int := fun k => if k = s then x else f k
theorem upd_same (f : Nat → Int) (s : Nat) (x : Int) : upd f s x s = x := if_pos rfl
theorem upd_ne (f : Nat → Int) {s k : Nat} (x : Int) (h : k ≠ s) : upd f s x k = f k := if_neg h
theorem Inv.mono {p : Dr.P} {a : A} {has since : Nat → Int} {now now' : Int} (h : Inv p a has since now) (hn : now ≤ now') : Inv p a has since now' :=
  ⟨h.len, by have := h.boot; omega, fun s hs => ⟨by have := (h.at_ s hs).1; omega, (h.at_ s hs).2⟩⟩
theorem inv_new {p : Dr.P} (hok : p.ok) {a : A} {has since : Nat → Int} {now : Int} (h : Inv p a has since now) : Inv p (new p now) has since now := by
  have hb : (new p now).boot = now := by unfold new; rw [if_pos hok]
  refine ⟨?_, by rw [hb]; exact Int.le_refl _, fun s hs => ⟨(h.at_ s hs).1, fun _ => Or.inr (by rw [hb]; exact (h.at_ s hs).1)⟩⟩
  unfold new
  rw [if_pos hok]
  have := hok.2.1.1
  simp only [List.length_replicate]
  omega
theorem inv_first {p : Dr.P} (hok : p.ok) : Inv p (new p 0) (fun _ => -1) (fun _ => 0) 0 := by
  have hb : (new p 0).boot = 0 := by unfold new; rw [if_pos hok]
  refine ⟨?_, by rw [hb]; exact Int.le_refl _, fun s hs => ⟨by omega, fun h => by omega⟩⟩
  unfold new
  rw [if_pos hok]
  have := hok.2.1.1
  simp only [List.length_replicate]
  omega
theorem at_other {a : A} {s k : Nat} (h : k ≠ s) (g : G) : Gt.at_ (put a (s : Int) g) (k : Int) = Gt.at_ a (k : Int) := by
  unfold Gt.at_ put
  simp [List.getElem?_set_ne (Ne.symm h)]
/-- A slot that is granted: it may be, and nobody else has it. -/
theorem inv_ask {p : Dr.P} {a : A} {has since : Nat → Int} {now : Int} (h : Inv p a has since now) {s : Nat} {node nonce : Int} (hg : grants p a (s : Int) node nonce now) :
    ¬ (0 ≤ has s ∧ has s ≠ node ∧ now - since s < p.grant) ∧ Inv p (put a (s : Int) ⟨node, nonce, now⟩) (upd has s node) (upd since s now) now := by
  obtain ⟨hm, hn0, hn1, hc0, hw0, hf, hor⟩ := hg
  have hs := hm.2.2.2
  have hsl : s < a.gs.length := by have := hm.2.1; omega
  have hfb := (of_decide_eq_true hf).2.2
  refine ⟨fun ⟨h0, h1, h2⟩ => ?_, ?_, h.boot, fun k hk => ?_⟩
  · rcases (h.at_ s hs).2 h0 with ⟨e1, e2⟩ | e
    · rcases hor with q | q | q
      · rw [e1] at q; omega
      · exact h1 (by rw [← e1]; exact q.1)
      · rw [e2] at q
        have := (of_decide_eq_true q).2.2
        omega
    · omega
  · rw [put_len]; exact h.len
  · by_cases e : k = s
    · subst e
      rw [upd_same, upd_same, at_put hsl]
      exact ⟨Int.le_refl _, fun _ => Or.inl ⟨rfl, rfl⟩⟩
    · rw [upd_ne _ _ e, upd_ne _ _ e, at_other e]
      exact ⟨(h.at_ k hk).1, (h.at_ k hk).2⟩
/-- A slot that is given back. -/
theorem inv_free {p : Dr.P} {a : A} {has since : Nat → Int} {now : Int} (h : Inv p a has since now) (s node nonce : Int) (has' : Nat → Int)
    (h1 : ∀ k : Nat, (k : Int) < p.slots → has' k = if (k : Int) = s ∧ has k = node then -1 else has k) : Inv p (free p a s node nonce) has' since now := by
  have hbt : (free p a s node nonce).boot = a.boot := by unfold free; split <;> rfl
  refine ⟨by rw [free_len]; exact h.len, by rw [hbt]; exact h.boot, fun k hk => ⟨(h.at_ k hk).1, fun h0 => ?_⟩⟩
  rw [h1 k hk] at h0
  rw [h1 k hk, hbt]
  by_cases e : (k : Int) = s ∧ has k = node
  · rw [if_pos e] at h0
    omega
  · rw [if_neg e] at h0
    rw [if_neg e]
    rcases (h.at_ k hk).2 h0 with q | q
    · by_cases hm : may p a s ∧ (Gt.at_ a s).node = node ∧ (Gt.at_ a s).nonce = nonce
      · have ef : free p a s node nonce = put a s none := if_pos hm
        rw [ef]
        by_cases hks : (k : Int) = s
        · exfalso
          refine e ⟨hks, ?_⟩
          rw [← q.1, hks]
          exact hm.2.1
        · obtain ⟨j, hj⟩ : ∃ j : Nat, s = (j : Int) := ⟨s.toNat, by have := hm.1.2.2.1; omega⟩
          subst hj
          rw [at_other (by omega)]
          exact Or.inl q
      · have ef : free p a s node nonce = a := if_neg hm
        rw [ef]
        exact Or.inl q
    · exact Or.inr q
end Go.Proofs.Ytegdopbiiddamaa.Gt
namespace Go.Proofs.Ytegdopbiiddamaa
open Go.RowKit Go.Great
set_option linter.unusedVariables false
set_option linter.unusedSimpArgs false
set_option maxRecDepth 20000
/-- An acceptor whose row lies in a block of S. -/
def AccS (w : World) (S : Nat → Prop) (V : Array Value) (a : Gt.A) : Prop := ∃ ad n c, V = acs a.boot ad n c ∧ GE.Row w S ad n a.gs ∧ n ≤ c ∧ In64 a.boot ∧ n ≤ 100
theorem AccS.acc {w : World} {S : Nat → Prop} {V : Array Value} {a : Gt.A} (h : AccS w S V a) : Acc w V a := by
  obtain ⟨ad, n, c, e, h1, h2⟩ := h
  exact ⟨ad, n, c, e, h1.any, h2⟩
theorem Acc.accS {w : World} {V : Array Value} {a : Gt.A} (h : Acc w V a) : AccS w Any V a := h
theorem AccS.weak {w : World} {S S' : Nat → Prop} {V : Array Value} {a : Gt.A} (h : AccS w S V a) (hs : ∀ b, b < w.heap.size → S b → S' b) : AccS w S' V a := by
  obtain ⟨ad, n, c, e, h1, h2⟩ := h
  exact ⟨ad, n, c, e, h1.weak hs, h2⟩
theorem AccS.keep {w w' : World} {S : Nat → Prop} {V : Array Value} {a : Gt.A} (h : AccS w S V a) (hz : w.heap.size ≤ w'.heap.size) (hk : ∀ b, b < w.heap.size → S b → w'.heap[b]? = w.heap[b]?) : AccS w' S V a := by
  obtain ⟨ad, n, c, e, h1, h2⟩ := h
  exact ⟨ad, n, c, e, h1.keep hz hk, h2⟩
theorem AccS.on {w w' : World} {S : Nat → Prop} {V : Array Value} {a : Gt.A} (h : AccS w S V a) (hb : Below w.heap.size w w') : AccS w' S V a := h.keep hb.size fun b hlt _ => hb.block b hlt
/-- An acceptor is answered, its row among blocks that are told. -/
def AccQS (w : World) (S : Nat → Prop) (a : Gt.A) (e : Ending) (w' : World) : Prop := ∃ V, e = .returned (.agg V) ∧ AccS w' S V a ∧ Below w.heap.size w w'
def AccBS (w : World) (S : Nat → Prop) (a : Gt.A) (b : Bool) (e : Ending) (w' : World) : Prop := ∃ V, e = .returned (.tuple #[.agg V, .bool b]) ∧ AccS w' S V a ∧ Below w.heap.size w w'
/-- What LeaseMeets asks of grant's functions: a lease's statements call no others. -/
structure GrsA : Prop where
  new : ∀ {w : World} {S : Nat → Prop} {C : Array Value} {p : Dr.P}, Cc w S C p → ∀ (now : Int), In64 now → Calls Try.prog 23 #[.agg C, .int .i64 now] w (AccQS w (fun b => w.heap.size ≤ b) (Gt.new p now))
  ask : ∀ {w : World} {S T : Nat → Prop} {C V : Array Value} {p : Dr.P} {a : Gt.A}, Cc w S C p → AccS w T V a → ∀ (s node nonce now : Int), In64 s → In64 node → In64 nonce → In64 now →
    Calls Try.prog 27 #[.agg C, .agg V, .int .i64 s, .int .i64 node, .int .i64 nonce, .int .i64 now] w (AccBS w (fun b => T b ∨ w.heap.size ≤ b) (Gt.ask p a s node nonce now).1 (Gt.ask p a s node nonce now).2)
end Go.Proofs.Ytegdopbiiddamaa
