/-
  The walk of CodeBack.
-/
import Derived.Test.YtkmkccdihoaefaaBm
import Derived.Test.YtkmkccdihoaefaaSa
import Derived.StillTailTactics
namespace Go.Proofs.Ytkmkccdihoaefaa
open Go.RowKit
set_option linter.unusedSimpArgs false

structure BackRel (w : World) (qs rs : List (Prt × Value)) (s6 s7 : Value) (wr : World) : Prop where
  asks : Out wr w.heap.size (· < w.heap.size) s6 qs
  wants : Out wr w.heap.size (· < w.heap.size) s7 rs
  apart : ∀ b, s6.ownBlock = some b → s7.ownBlock ≠ some b
  old : Below w.heap.size w wr

theorem BackRel.below {w wr w5 : World} {qs rs : List (Prt × Value)} {s6 s7 : Value} (h : BackRel w qs rs s6 s7 wr) (hb : Below wr.heap.size wr w5) : BackRel w qs rs s6 s7 w5 :=
  ⟨h.asks.keep (fun b hlt _ => hb.block b hlt) hb.size, h.wants.keep (fun b hlt _ => hb.block b hlt) hb.size, h.apart, h.old.trans (hb.mono h.old.size)⟩
/-- One more is wanted. -/
theorem BackRel.want {w w5 w6 : World} {qs rs : List (Prt × Value)} {s6 s7 s7' : Value} {q : Prt} {a : Option Addr} {n c : Nat} {o : Obj} (h : BackRel w qs rs s6 s7 w5) (hok : q.Ok) (ht : Txt w5 (· < w.heap.size) a n c q.b)
    (hown : w6.ownsRow w.heap.size 28 37 s7' (rs.length + 1) (flat rs ++ cellsOf q (.slice a n c))) (hg : (w5.alloc o).grownBy w6 s7.ownBlock) (hv : s7'.ownBlock = s7.ownBlock ∨ s7'.ownBlock = some (w5.alloc o).heap.size) :
    BackRel w qs (rs ++ [(q, .slice a n c)]) s6 s7' w6 := by
  have h5 := h.below (below_alloc w5 o)
  have hz := h.old.size
  refine ⟨h5.asks.keep (fun b hlt hb => hg.block b hlt (fun e => ?_)) hg.size, ?_, ?_, h5.old.grown hg h5.old.size (own_ge h5.wants.1)⟩
  · rcases hb with hb | hb
    · have := own_ge h5.wants.1 b e.symm; omega
    · exact h5.apart b hb e.symm
  · refine out_append h5.wants hok ((ht.below (below_alloc w5 o) (fun _ hlt _ => hlt)).weak (fun b _ hb => ⟨hb, fun e => by have := own_ge h5.wants.1 b e; omega⟩)) hown hg ?_
    rcases hv with hv | hv
    · exact Or.inl hv
    · exact Or.inr ⟨_, Nat.le_refl _, hv⟩
  · intro b hb e
    rcases hv with hv | hv
    · rw [hv] at e; exact h5.apart b hb e
    · rw [hv] at e
      injection e with e
      have := (h5.asks.1.lt b hb).2
      omega
/-- One more is asked for. -/
theorem BackRel.ask {w w5 w6 : World} {qs rs : List (Prt × Value)} {s6 s7 s6' : Value} {q : Prt} {o : Obj} (h : BackRel w qs rs s6 s7 w5) (hok : q.Ok) (hq : q.b = [])
    (hown : w6.ownsRow w.heap.size 28 37 s6' (qs.length + 1) (flat qs ++ cellsOf q nilv)) (hg : (w5.alloc o).grownBy w6 s6.ownBlock) (hv : s6'.ownBlock = s6.ownBlock ∨ s6'.ownBlock = some (w5.alloc o).heap.size) :
    BackRel w (qs ++ [(q, nilv)]) rs s6' s7 w6 := by
  have h5 := h.below (below_alloc w5 o)
  have hz := h.old.size
  refine ⟨?_, h5.wants.keep (fun b hlt hb => hg.block b hlt (fun e => ?_)) hg.size, ?_, h5.old.grown hg h5.old.size (own_ge h5.asks.1)⟩
  · refine out_append h5.asks hok (by rw [hq]; exact Txt.nil _ _ _ _) hown hg ?_
    rcases hv with hv | hv
    · exact Or.inl hv
    · exact Or.inr ⟨_, Nat.le_refl _, hv⟩
  · rcases hb with hb | hb
    · have := own_ge h5.asks.1 b e.symm; omega
    · exact h5.apart b e.symm hb
  · intro b hb e
    rcases hv with hv | hv
    · rw [hv] at hb; exact h5.apart b hb e
    · rw [hv] at hb
      injection hb with hb
      have := (h5.wants.1.lt b e).2
      omega
theorem asks_snoc {ps : List Prt} {k : Nat} {p : Prt} (hp : ps[k]? = some p) (hv : Valid p) : asksOf (ps.take (k + 1)) = asksOf (ps.take k) ++ [askOf p] ∧ wantsOf (ps.take (k + 1)) = wantsOf (ps.take k) ++ [wantOf p] := by
  obtain ⟨hk, rfl⟩ := List.getElem?_eq_some_iff.1 hp
  have e1 : [ps[k]].filter (fun p => decide (Valid p)) = [ps[k]] := by simp [hv]
  unfold asksOf wantsOf
  rw [List.take_succ_eq_append_getElem hk, List.filter_append, e1, List.map_append, List.map_append]
  exact ⟨rfl, rfl⟩
theorem asks_skip {ps : List Prt} {k : Nat} {p : Prt} (hp : ps[k]? = some p) (hv : ¬ Valid p) : asksOf (ps.take (k + 1)) = asksOf (ps.take k) ∧ wantsOf (ps.take (k + 1)) = wantsOf (ps.take k) := by
  obtain ⟨hk, rfl⟩ := List.getElem?_eq_some_iff.1 hp
  have e1 : [ps[k]].filter (fun p => decide (Valid p)) = [] := by simp [hv]
  unfold asksOf wantsOf
  rw [List.take_succ_eq_append_getElem hk, List.filter_append, e1, List.append_nil]
  exact ⟨rfl, rfl⟩
def BackAt (w : World) (ps : List Prt) (s6 s7 s8 : Value) (wr : World) : Prop :=
  ∃ (k : Nat) (qs rs : List (Prt × Value)), k ≤ ps.length ∧ s8 = .int .i64 k ∧ qs.length ≤ k ∧ rs.length ≤ k ∧ qs.map (·.1) = asksOf (ps.take k) ∧ rs.map (·.1) = wantsOf (ps.take k) ∧ BackRel w qs rs s6 s7 wr
end Go.Proofs.Ytkmkccdihoaefaa
