/-
  The walk of All.
-/
import Derived.Test.YtfecobkpdmjaeaaZj
namespace Go.Proofs.Ytfecobkpdmjaeaa
open Go.RowKit
set_option linter.unusedVariables false
set_option maxRecDepth 20000
set_option linter.unusedSimpArgs false
theorem wpList_built {ops : Array Oper} {rest : List Oper} {o : Oper} {a : Act} {w : World} {Q : Exit → Act → World → Prop} {ty : TypeId} (hg : o.guard = none) (parts : Array (Nat × Operand)) (ho : o.op = .build ty parts)
    (l : List (Nat × Value)) (hl : (parts.map fun (i, x) => (i, a.eval x)).toList = l) (C : Array Value) (hC : Try.prog.built ty l = some C)
    (h : wpList Try.prog ops Q rest (a.put o.dst (.agg C)) w) : wpList Try.prog ops Q (o :: rest) a w := by
  refine wpList_build hg ty parts ho (by rw [hl, hC]; rfl) ?_
  rw [hl, hC]
  exact h
theorem built_zb : Try.prog.built 45 [] = some zb := by kernel_rfl
theorem info_zb : (Try.prog.info? 45).map (·.size) = some zb.size := info_b
theorem write_at {p bb mb n : Nat} {z : Int} {a : Dm.A} {b : List Int} {w : World} (h : Dk w p bb mb a n) (hd : a.down = false) (h0 : 0 ≤ z) (h1 : z < (n : Int)) (hb64 : b.length = 64) (hB : Byt b) :
    Calls Try.prog 21 #[.pointer (some ⟨p, 0, none⟩), .int .i64 z, .agg (nums b).toArray] w fun e w' => e = .returned (.int .i64 0) ∧ Dk w' p bb mb (Dm.write a z.toNat b) n ∧ Only [p, bb, mb] w w' := by
  obtain ⟨k, rfl⟩ := Int.eq_ofNat_of_zero_le h0
  exact (write_any h hd (by omega) hb64 hB).mono fun e w' ⟨h1, h2, h3⟩ => ⟨h1, h2, ⟨h3.os, h3.tape, h3.output, h3.size, fun i hi hn => h3.block i hi (by simp at hn ⊢; exact hn.2.2)⟩⟩
theorem read_at {p bb mb n : Nat} {z : Int} {a : Dm.A} {w : World} (h : Dk w p bb mb a n) (hd : a.down = false) (h0 : 0 ≤ z) (h1 : z < (n : Int)) :
    Calls Try.prog 49 #[.pointer (some ⟨p, 0, none⟩), .int .i64 z] w fun e w' => e = .returned (.tuple #[.agg (nums (Dm.read a z.toNat)).toArray, .int .i64 0]) ∧ Below w.heap.size w w' := by
  obtain ⟨k, rfl⟩ := Int.eq_ofNat_of_zero_le h0
  exact read_any h hd (by omega)
theorem Only.after {p bb mb : Nat} {a b w : World} (h : Only [p, bb, mb] a b) (hb : Below w.heap.size w a) (hP : w.heap.size ≤ p ∧ w.heap.size ≤ bb ∧ w.heap.size ≤ mb) : Below w.heap.size w b :=
  hb.trans (h.below hb.size (fun j hj => by simp at hj; omega))
theorem its_one (w : World) (z : Int) {S : Nat → Prop} (hS : S w.heap.size) : Its (w.alloc (.cells #[.int .i64 z] 3)) S (some ⟨w.heap.size, 0, none⟩) 1 [z] := by
  refine ⟨rfl, Or.inr ⟨w.heap.size, 0, rfl, hS, by simp, fun k hk => ?_⟩⟩
  obtain rfl : k = 0 := by omega
  exact (Whole.new w _ _).cell 0
theorem boxed (w : World) (l : List Int) : ∃ w', (w.alloc (.cells zb 45)).setRow w.heap.size (nums l).toArray = w' ∧ Whole w' w.heap.size 45 (nums l).toArray ∧ Below w.heap.size w w' :=
  ⟨_, rfl, (Whole.new w _ _).row _, below_row ((Below.refl _ _).alloc (Nat.le_refl _) _) (Nat.le_refl _) _⟩
theorem wpList_load_rowG {P : Program} {ops : Array Oper} {rest : List Oper} {o : Oper} {a : Act} {w : World} {Q : Exit → Act → World → Prop} (hgd : Region.wanted o (yielded ops a.tmps) = true) (ty : TypeId) (x : Operand) (ho : o.op = .load ty x)
    (g : Nat) (hx : a.eval x = .pointer (some ⟨g, 0, none⟩)) (t : TypeId) (cs : Array Value) (fr : Nat × Nat) (d : TypeDesc) (hg : w.heap[g]? = some (.cells cs t fr))
    (hu : P.underlying ty = some d) (hd : (match d with | .struct _ | .array _ _ => true | _ => false) = true) (hi : (P.info? ty).map (·.size) = some cs.size)
    (h : wpList P ops Q rest (a.put o.dst (.agg cs)) w) : wpList P ops Q (o :: rest) a w :=
  wpList_step fun _ hK => by rw [if_pos hgd]; exact wp_load_row ty x ho g hx t cs fr d hg hu hd hi (hK _ _ h)
end Go.Proofs.Ytfecobkpdmjaeaa
