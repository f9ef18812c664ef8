/-
  The walk of All.
-/
import Derived.Test.YtjpgepodkeccmaaDoorZj
namespace Go.Proofs.YtjpgepodkeccmaaDoor
open Go.RowKit
set_option linter.unusedVariables false
set_option maxRecDepth 20000
set_option linter.unusedSimpArgs false
theorem wpList_built {ops : Array Oper} {rest : List Oper} {o : Oper} {a : Act} {w : World} {Q : Exit → Act → World → Prop} {ty : TypeId} (hg : o.guard = none) (parts : Array (Nat × Operand)) (ho : o.op = .build ty parts)
    (l : List (Nat × Value)) (hl : (parts.map fun (i, x) => (i, a.eval x)).toList = l) (C : Array Value) (hC : Tryd.prog.built ty l = some C)
    (h : wpList Tryd.prog ops Q rest (a.put o.dst (.agg C)) w) : wpList Tryd.prog ops Q (o :: rest) a w := by
  refine wpList_build hg ty parts ho (by rw [hl, hC]; rfl) ?_
  rw [hl, hC]
  exact h
theorem built_zb : Tryd.prog.built 32 [] = some zb := by kernel_rfl
theorem info_zb : (Tryd.prog.info? 32).map (·.size) = some zb.size := info_b
theorem write_at {p bb mb n : Nat} {z : Int} {a : Dm.A} {b : List Int} {w : World} (h : Dk w p bb mb a n) (hd : a.down = false) (h0 : 0 ≤ z) (h1 : z < (n : Int)) (hb64 : b.length = 64) (hB : Byt b) :
    Calls Tryd.prog 13 #[.pointer (some ⟨p, 0, none⟩), .int .i64 z, .agg (nums b).toArray] w fun e w' => e = .returned (.int .i64 0) ∧ Dk w' p bb mb (Dm.write a z.toNat b) n ∧ Only [p, bb, mb] w w' := by
  obtain ⟨k, rfl⟩ := Int.eq_ofNat_of_zero_le h0
  exact (write_any h hd (by omega) hb64 hB).mono fun e w' ⟨h1, h2, h3⟩ => ⟨h1, h2, ⟨h3.os, h3.tape, h3.output, h3.size, fun i hi hn => h3.block i hi (by simp at hn ⊢; exact hn.2.2)⟩⟩
theorem read_at {p bb mb n : Nat} {z : Int} {a : Dm.A} {w : World} (h : Dk w p bb mb a n) (hd : a.down = false) (h0 : 0 ≤ z) (h1 : z < (n : Int)) :
    Calls Tryd.prog 19 #[.pointer (some ⟨p, 0, none⟩), .int .i64 z] w fun e w' => e = .returned (.tuple #[.agg (nums (Dm.read a z.toNat)).toArray, .int .i64 0]) ∧ Below w.heap.size w w' := by
  obtain ⟨k, rfl⟩ := Int.eq_ofNat_of_zero_le h0
  exact read_any h hd (by omega)
theorem Only.after {p bb mb : Nat} {a b w : World} (h : Only [p, bb, mb] a b) (hb : Below w.heap.size w a) (hP : w.heap.size ≤ p ∧ w.heap.size ≤ bb ∧ w.heap.size ≤ mb) : Below w.heap.size w b :=
  hb.trans (h.below hb.size (fun j hj => by simp at hj; omega))
theorem its_one (w : World) (z : Int) {S : Nat → Prop} (hS : S w.heap.size) : Its (w.alloc (.cells #[.int .i64 z] 3)) S (some ⟨w.heap.size, 0, none⟩) 1 [z] := by
  refine ⟨rfl, Or.inr ⟨w.heap.size, 0, rfl, hS, by simp, fun k hk => ?_⟩⟩
  obtain rfl : k = 0 := by omega
  exact (Whole.new w _ _).cell 0
theorem boxed (w : World) (l : List Int) : ∃ w', (w.alloc (.cells zb 32)).setRow w.heap.size (nums l).toArray = w' ∧ Whole w' w.heap.size 32 (nums l).toArray ∧ Below w.heap.size w w' :=
  ⟨_, rfl, (Whole.new w _ _).row _, below_row ((Below.refl _ _).alloc (Nat.le_refl _) _) (Nat.le_refl _) _⟩
theorem wpList_load_rowG {P : Program} {ops : Array Oper} {rest : List Oper} {o : Oper} {a : Act} {w : World} {Q : Exit → Act → World → Prop} (hgd : Region.wanted o (yielded ops a.tmps) = true) (ty : TypeId) (x : Operand) (ho : o.op = .load ty x)
    (g : Nat) (hx : a.eval x = .pointer (some ⟨g, 0, none⟩)) (t : TypeId) (cs : Array Value) (fr : Nat × Nat) (d : TypeDesc) (hg : w.heap[g]? = some (.cells cs t fr))
    (hu : P.underlying ty = some d) (hd : (match d with | .struct _ | .array _ _ => true | _ => false) = true) (hi : (P.info? ty).map (·.size) = some cs.size)
    (h : wpList P ops Q rest (a.put o.dst (.agg cs)) w) : wpList P ops Q (o :: rest) a w :=
  wpList_step fun _ hK => by rw [if_pos hgd]; exact wp_load_row ty x ho g hx t cs fr d hg hu hd hi (hK _ _ h)
def all (x : Int) : List Int := List.replicate 64 x
/-- The first k bytes are x, the others 0. -/
def half (x : Int) (k : Nat) : List Int := List.replicate k x ++ List.replicate (64 - k) 0
theorem half_len (x : Int) {k : Nat} (h : k ≤ 64) : (half x k).length = 64 := by simp [half]; omega
theorem half_set (x : Int) {k : Nat} (h : k < 64) : (nums (half x k)).toArray.setIfInBounds k (.int .u8 x) = (nums (half x (k + 1))).toArray := by
  rw [List.setIfInBounds_toArray]
  congr 1
  apply List.ext_getElem?
  intro q
  unfold nums half
  rw [← List.map_set, List.getElem?_map, List.getElem?_map]
  congr 1
  rw [List.getElem?_set]
  by_cases e : k = q
  · subst e
    rw [if_pos rfl, if_pos (by simp; omega), List.getElem?_append_left (by simp)]
    simp
  · rw [if_neg e]
    by_cases h1 : q < k
    · rw [List.getElem?_append_left (by simpa using h1), List.getElem?_append_left (by simp; omega)]
      simp [h1, show q < k + 1 by omega]
    · rw [List.getElem?_append_right (by simp; omega), List.getElem?_append_right (by simp; omega)]
      simp only [List.length_replicate, List.getElem?_replicate]
      have : (q - k < 64 - k) = (q - (k + 1) < 64 - (k + 1)) := by
        apply propext; omega
      simp only [this]
theorem half_all (x : Int) : half x 64 = all x := by simp [half, all]
theorem all_len (x : Int) : (all x).length = 64 := by simp [all]
theorem all_byt {x : Int} (h0 : 0 ≤ x) (h1 : x < 256) : Byt (all x) := by
  intro y hy
  have := (List.mem_replicate.1 hy).2
  omega
set_option maxHeartbeats 4000000 in
theorem all_any {x : Int} {w : World} : Calls Tryd.prog 14 #[.int .u8 x] w fun e w' => e = .returned (.agg (nums (all x)).toArray) ∧ Below w.heap.size w w' := by
  have hzb := zero_b
  have k2 : Whole ((w.alloc (.cells zb 32)).alloc (.cells zb 32)) w.heap.size 32 zb := (Whole.new w _ _).alloc _
  have k3 : Whole ((w.alloc (.cells zb 32)).alloc (.cells zb 32)) (w.heap.size + 1) 32 zb := by
    have := Whole.new (w.alloc (.cells zb 32)) 32 zb
    rw [size_alloc] at this
    exact this
  have hb : Below w.heap.size w ((w.alloc (.cells zb 32)).alloc (.cells zb 32)) := ((Below.refl _ _).alloc (Nat.le_refl _) _).alloc (by simp) _
  obtain ⟨w1, h1⟩ : ∃ w1, ((w.alloc (.cells zb 32)).alloc (.cells zb 32)).setRow (w.heap.size + 1) zb = w1 := ⟨_, rfl⟩
  have H0 : Hid (Whole w1 (w.heap.size + 1) 32 (nums (half x 0)).toArray ∧ Whole w1 w.heap.size 32 zb ∧ Below w.heap.size w w1) := Lib.hid (by rw [← h1]; exact ⟨k3.row _, k2.rowFar (by omega) _, below_row hb (by omega) _⟩)
  have H1 := Lib.hid (And.intro h1 k3)
  clear h1 k2 k3 hb
  go_enter Tryd.func14, Tryd.ntmps14
  go_wp2_with (first | ((with_reducible show wpList _ _ _ ((⟨_, Op.build 32 _, _, _, _, _⟩ : Oper) :: _) _ _); refine wpList_built rfl _ rfl _ rfl _ built_zb ?_) | ((with_reducible show wpList _ _ _ ((⟨_, Op.store 32 _ _, _, _, _, _⟩ : Oper) :: _) _ _); refine wpList_store_row rfl 32 (.tmp 3) (.tmp 5) rfl (w.heap.size + 1) zb rfl rfl 32 zb H1.out.2 info_zb rfl (all_nums _) ?_; rw [H1.out.1]; clear hzb))
  go_loopw [4] (fun v wr => ∃ k : Nat, k ≤ 64 ∧ v = .int .i64 (k : Int) ∧ Hid (Whole wr (w.heap.size + 1) 32 (nums (half x k)).toArray ∧ Whole wr w.heap.size 32 zb ∧ Below w.heap.size w wr)) (fun v _ => 64 - (intOf v).toNat)
  case atStart => exact ⟨0, by omega, rfl, H0⟩
  case round =>
    clear H0
    obtain ⟨k, hk, rfl, HB⟩ := hrel
    by_cases hlt : k < 64
    · obtain ⟨old, hold⟩ : ∃ old, wr.cell? ⟨w.heap.size + 1, k, none⟩ = some old := ⟨_, (HB.out.1.cell k).trans (Array.getElem?_eq_getElem (by rw [List.size_toArray, nums_len, half_len x hk]; exact hlt))⟩
      have fk : wr.frozen? ⟨w.heap.size + 1, k, none⟩ = false := HB.out.1.frozen k
      have q1 : (k : Int) < 64 := by omega
      go_wp2
      go_roundw
      case rel =>
        refine ⟨k + 1, by omega, by go_num, Lib.hid ⟨?_, HB.out.2.1.far (by show w.heap.size ≠ w.heap.size + 1; omega) _, HB.out.2.2.setCell (by show w.heap.size ≤ w.heap.size + 1; omega) _⟩⟩
        have := HB.out.1.set k (.int .u8 x)
        rw [half_set x hlt] at this
        exact this
      case measure => simp [intOf]; omega
    · have hk64 : k = 64 := by omega
      subst hk64
      have q1 : ¬ ((64 : Int) < 64) := by omega
      have HE : Hid (Whole wr (w.heap.size + 1) 32 (nums (all x)).toArray ∧ Whole wr w.heap.size 32 zb ∧ Below w.heap.size w wr) := Lib.hid (by have := HB.out; rw [half_all] at this; exact this)
      clear HB
      go_wp2_with (first | ((with_reducible show wpList _ _ _ ((⟨_, Op.load 32 _, _, _, _, _⟩ : Oper) :: _) _ _); refine wpList_load_row rfl 32 (.tmp 3) rfl (w.heap.size + 1) rfl 32 (nums (all x)).toArray (0, 0) _ HE.out.1 und_b rfl (info_bn (all_len x)) ?_) | ((with_reducible show wpList _ _ _ ((⟨_, Op.store 32 _ _, _, _, _, _⟩ : Oper) :: _) _ _); refine wpList_store_row rfl 32 (.tmp 2) (.tmp 13) rfl w.heap.size (nums (all x)).toArray rfl rfl 32 zb HE.out.2.1 (info_bn (all_len x)) (size_bn (all_len x)) (all_nums _) ?_))
      refine ⟨rfl, _, results_one_cell rfl _ _ _ _ rfl (loadVar_b (HE.out.2.1.row (nums (all x)).toArray) (all_len x)), rfl, below_row HE.out.2.2 (Nat.le_refl _) _⟩
end Go.Proofs.YtjpgepodkeccmaaDoor
