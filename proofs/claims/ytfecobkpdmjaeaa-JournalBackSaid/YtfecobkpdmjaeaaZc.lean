/-
  Disks in memory, and the walks of ready, Blocks, find, block, Down, Start.
-/
import Derived.Test.YtfecobkpdmjaeaaZb
import Derived.Deep.RegionHeld3
import Derived.StillTailTactics
import Derived.IntWalk
namespace Go.Proofs.Ytfecobkpdmjaeaa
open Go.RowKit
set_option linter.unusedVariables false
set_option maxRecDepth 20000

theorem grown_trans {a b c : World} {row : Option Nat} (h : a.grownBy b row) (h' : b.grownBy c row) : a.grownBy c row :=
  ⟨h'.os.trans h.os, h'.tape.trans h.tape, h'.output.trans h.output, Nat.le_trans h.size h'.size, fun k hk hne => (h'.block k (Nat.lt_of_lt_of_le hk h.size) hne).trans (h.block k hk hne)⟩
theorem grown_below {a b : World} {row : Option Nat} (h : Below a.heap.size a b) : a.grownBy b row := ⟨h.os, h.tape, h.output, h.size, fun k hk _ => h.block k hk⟩
structure Dk (w : World) (p bb mb : Nat) (a : Dm.A) (n : Nat) : Prop where
  cells : Whole w p 66 #[.slice (some ⟨bb, 0, none⟩) (64 * n) (64 * n), .map (some mb), .bool a.down]
  bytes : Whole w bb 5 (nums a.last).toArray
  map : Frs w mb a.fresh
  ok : Dm.Ok a n
section
variable {w w' : World} {p bb mb : Nat} {a : Dm.A} {n : Nat}
theorem Dk.keep (h : Dk w p bb mb a n) (h1 : w'.heap[p]? = w.heap[p]?) (h2 : w'.heap[bb]? = w.heap[bb]?) (h3 : w'.heap[mb]? = w.heap[mb]?) : Dk w' p bb mb a n := ⟨h.cells.keep h1, h.bytes.keep h2, h.map.keep h3, h.ok⟩
theorem Dk.below {B : Nat} (h : Dk w p bb mb a n) (hb : Below B w w') (h1 : p < B) (h2 : bb < B) (h3 : mb < B) : Dk w' p bb mb a n := h.keep (hb.block _ h1) (hb.block _ h2) (hb.block _ h3)
theorem Dk.old (h : Dk w p bb mb a n) (hb : Below w.heap.size w w') : Dk w' p bb mb a n := h.below hb h.cells.lt h.bytes.lt h.map.lt
theorem Dk.c0 (h : Dk w p bb mb a n) : w.cell? ⟨p, 0, none⟩ = some (.slice (some ⟨bb, 0, none⟩) (64 * n) (64 * n)) := h.cells.cell 0
theorem Dk.c1 (h : Dk w p bb mb a n) : w.cell? ⟨p, 1, none⟩ = some (.map (some mb)) := h.cells.cell 1
theorem Dk.c2 (h : Dk w p bb mb a n) : w.cell? ⟨p, 2, none⟩ = some (.bool a.down) := h.cells.cell 2
theorem Dk.f2 (h : Dk w p bb mb a n) : w.frozen? ⟨p, 2, none⟩ = false := h.cells.frozen 2
theorem Dk.ne1 (h : Dk w p bb mb a n) : p ≠ bb := by
  intro e
  have h1 := h.cells
  have h2 := h.bytes
  rw [← e] at h2
  unfold Whole at h1 h2
  rw [h1] at h2
  injection h2 with h3
  injection h3 with _ h4
  exact absurd h4 (by decide)
theorem Dk.ne2 (h : Dk w p bb mb a n) : p ≠ mb := by
  intro e
  obtain ⟨es, clock, h2, _⟩ := h.map
  have h1 := h.cells
  unfold Whole at h1
  rw [← e, h1] at h2
  cases h2
theorem Dk.ne3 (h : Dk w p bb mb a n) : bb ≠ mb := by
  intro e
  obtain ⟨es, clock, h2, _⟩ := h.map
  have h1 := h.bytes
  unfold Whole at h1
  rw [← e, h1] at h2
  cases h2
end

theorem ready_up {p : Nat} {w : World} (c2 : w.cell? ⟨p, 2, none⟩ = some (.bool false)) : Calls Try.prog 45 #[.pointer (some ⟨p, 0, none⟩)] w fun e w' => e = .returned (.int .i64 0) ∧ w = w' := by
  go_enter Try.func45, Try.ntmps45
  go_wp2
  go_ret
  exact ⟨rfl, rfl⟩
theorem ready_down {p : Nat} {w : World} (c2 : w.cell? ⟨p, 2, none⟩ = some (.bool true)) : Calls Try.prog 45 #[.pointer (some ⟨p, 0, none⟩)] w fun e w' => e = .returned (.int .i64 60) ∧ w = w' := by
  go_enter Try.func45, Try.ntmps45
  go_wp2
  go_ret
  exact ⟨rfl, rfl⟩
theorem ready_nil {w : World} : Calls Try.prog 45 #[.pointer none] w fun e w' => e = .returned (.int .i64 1) ∧ w = w' := by
  go_enter Try.func45, Try.ntmps45
  go_wp2
  go_ret
  exact ⟨rfl, rfl⟩
theorem blocks_any {p bb n : Nat} {w : World} (hn : n ≤ 4096) (c0 : w.cell? ⟨p, 0, none⟩ = some (.slice (some ⟨bb, 0, none⟩) (64 * n) (64 * n))) : Calls Try.prog 32 #[.pointer (some ⟨p, 0, none⟩)] w fun e w' => e = .returned (.int .i64 (n : Int)) ∧ w = w' := by
  obtain ⟨m, hm⟩ : ∃ m, 64 * n = m := ⟨_, rfl⟩
  rw [hm] at c0
  have hq : ((m : Int)).tdiv 64 = (n : Int) := by
    rw [← hm, Int.tdiv_eq_ediv_of_nonneg (by omega)]; omega
  have hq2 : (m : Int) / 64 = (n : Int) := by rw [← hm]; omega
  have h0 : m ≤ 300000 := by omega
  have HM := Lib.hid hm
  clear hm
  go_enter Try.func32, Try.ntmps32
  go_wp2
  go_ret
  exact ⟨rfl, rfl⟩
theorem blocks_nil {w : World} : Calls Try.prog 32 #[.pointer none] w fun e w' => e = .returned (.int .i64 0) ∧ w = w' := by
  go_enter Try.func32, Try.ntmps32
  go_wp2
  go_ret
  exact ⟨rfl, rfl⟩
theorem down_any {p : Nat} {w : World} {b : Bool} (c2 : w.cell? ⟨p, 2, none⟩ = some (.bool b)) : Calls Try.prog 33 #[.pointer (some ⟨p, 0, none⟩)] w fun e w' => e = .returned (.bool b) ∧ w = w' := by
  go_enter Try.func33, Try.ntmps33
  go_wp2
  go_ret
  exact ⟨rfl, rfl⟩
theorem down_nil {w : World} : Calls Try.prog 33 #[.pointer none] w fun e w' => e = .returned (.bool false) ∧ w = w' := by
  go_enter Try.func33, Try.ntmps33
  go_wp2
  go_ret
  exact ⟨rfl, rfl⟩
theorem start_nil {w : World} : Calls Try.prog 24 #[.pointer none] w fun e w' => e = .returned (.tuple #[]) ∧ w = w' := by
  go_enter Try.func24, Try.ntmps24
  go_wp2
  go_end0
  exact ⟨rfl, rfl⟩
theorem find_up {p bb n k : Nat} {w : World} (hn : n ≤ 4096) (hk : k < n) (c0 : w.cell? ⟨p, 0, none⟩ = some (.slice (some ⟨bb, 0, none⟩) (64 * n) (64 * n))) (c2 : w.cell? ⟨p, 2, none⟩ = some (.bool false)) :
    Calls Try.prog 47 #[.pointer (some ⟨p, 0, none⟩), .int .i64 (k : Int)] w fun e w' => e = .returned (.int .i64 0) ∧ w = w' := by
  have h1 : decide ((k : Int) < 0) = false := by simp
  have h2 : decide (n ≤ k) = false := by simp; omega
  have h3 : decide ((n : Int) ≤ (k : Int)) = false := by simp; omega
  go_enter Try.func47, Try.ntmps47
  go_wp2_with (first | (go_at_call 45; refine (ready_up c2).mono ?_; rintro e w' ⟨rfl, rfl⟩) | (go_at_call 32; refine (blocks_any hn c0).mono ?_; rintro e w' ⟨rfl, rfl⟩))
  go_ret
  exact ⟨rfl, rfl⟩
theorem find_place {p bb n : Nat} {z : Int} {w : World} (hn : n ≤ 4096) (hk : z < 0 ∨ (n : Int) ≤ z) (c0 : w.cell? ⟨p, 0, none⟩ = some (.slice (some ⟨bb, 0, none⟩) (64 * n) (64 * n))) (c2 : w.cell? ⟨p, 2, none⟩ = some (.bool false)) :
    Calls Try.prog 47 #[.pointer (some ⟨p, 0, none⟩), .int .i64 z] w fun e w' => e = .returned (.int .i64 61) ∧ w = w' := by
  by_cases h : z < 0
  · have h1 : decide (z < 0) = true := by simpa using h
    clear hk
    go_enter Try.func47, Try.ntmps47
    go_wp2_with (first | (go_at_call 45; refine (ready_up c2).mono ?_; rintro e w' ⟨rfl, rfl⟩) | (go_at_call 32; refine (blocks_any hn c0).mono ?_; rintro e w' ⟨rfl, rfl⟩))
    go_ret
    exact ⟨rfl, rfl⟩
  · have h1 : decide (z < 0) = false := by simpa using h
    have h2 : (n : Int) ≤ z := by omega
    have h3 : decide ((n : Int) ≤ z) = true := by simpa using h2
    clear hk
    go_enter Try.func47, Try.ntmps47
    go_wp2_with (first | (go_at_call 45; refine (ready_up c2).mono ?_; rintro e w' ⟨rfl, rfl⟩) | (go_at_call 32; refine (blocks_any hn c0).mono ?_; rintro e w' ⟨rfl, rfl⟩))
    go_ret
    exact ⟨rfl, rfl⟩
theorem find_down {p : Nat} {z : Int} {w : World} (c2 : w.cell? ⟨p, 2, none⟩ = some (.bool true)) :
    Calls Try.prog 47 #[.pointer (some ⟨p, 0, none⟩), .int .i64 z] w fun e w' => e = .returned (.int .i64 60) ∧ w = w' := by
  go_enter Try.func47, Try.ntmps47
  go_wp2_with (go_at_call 45; refine (ready_down c2).mono ?_; rintro e w' ⟨rfl, rfl⟩)
  go_ret
  exact ⟨rfl, rfl⟩
theorem find_nil {z : Int} {w : World} :
    Calls Try.prog 47 #[.pointer none, .int .i64 z] w fun e w' => e = .returned (.int .i64 1) ∧ w = w' := by
  go_enter Try.func47, Try.ntmps47
  go_wp2_with (go_at_call 45; refine ready_nil.mono ?_; rintro e w' ⟨rfl, rfl⟩)
  go_ret
  exact ⟨rfl, rfl⟩
end Go.Proofs.Ytfecobkpdmjaeaa
