/-
  The walk of New.
-/
import Derived.Test.YtfecobkpdmjaeaaZd
namespace Go.Proofs.Ytfecobkpdmjaeaa
open Go.RowKit
set_option linter.unusedVariables false
set_option maxRecDepth 20000
set_option linter.unusedSimpArgs false
def zeros (n : Nat) : List Int := List.replicate n 0
theorem zeros_len (n : Nat) : (zeros n).length = n := by simp [zeros]
theorem make_zeros (n : Nat) (hn : n ≤ 1000000) (w : World) : (Instr.makeSlice 37 (.int .i64 (n : Int)) (.int .i64 (n : Int))).run Try.prog w = .ok (.slice (some ⟨w.heap.size, 0, none⟩) n n) (w.alloc (.cells (nums (zeros n)).toArray 5)) := by
  have h := run_make_row' (P := Try.prog) 37 5 (.int .u8 0) 1 Try.underlying37 u8_info rfl .i64 .i64 n (by omega) (by omega) w
  have e : madeCells #[Value.int .u8 0] n = (nums (zeros n)).toArray := by
    apply Array.ext
    · simp [nums, zeros, size_madeCells]
    · intro i h1 h2
      simp [madeCells, nums, zeros, Nat.mod_one]
  rw [← e]
  exact h
def fresh (n : Nat) : Dm.A := ⟨zeros (64 * n), [], false⟩
theorem fresh_ok {n : Nat} (h : n ≤ 4096) : Dm.Ok (fresh n) n := ⟨zeros_len _, byt_zeros _, h, ⟨(fun x hx => by cases hx), List.nodup_nil⟩⟩
theorem new_ok {n : Nat} {w : World} (hn : n ≤ 4096) : Calls Try.prog 11 #[.int .i64 (n : Int)] w fun e w' => ∃ p bb mb, e = .returned (.tuple #[.pointer (some ⟨p, 0, none⟩), .int .i64 0]) ∧ Dk w' p bb mb (fresh n) n ∧ w.heap.size ≤ p ∧ w.heap.size ≤ bb ∧ w.heap.size ≤ mb ∧ Below w.heap.size w w' := by
  obtain ⟨N, hN⟩ : ∃ N, 64 * n = N := ⟨_, rfl⟩
  have h64 : (n : Int) * 64 = (N : Int) := by rw [← hN]; omega
  have hmk := make_zeros N (by omega)
  have hmm := @run_makeMap Try.prog
  have HN := Lib.hid hN
  clear hN
  go_enter Try.func11, Try.ntmps11
  go_wp2
  go_ret2
  refine ⟨w.heap.size + 1 + 1, w.heap.size, w.heap.size + 1, rfl, ?_, by omega, by omega, by omega, (((Below.refl _ _).alloc (Nat.le_refl _) _).alloc (by simp) _).alloc (by simp; omega) _⟩
  have hN := HN.out
  have k0 := Whole.new w 5 (nums (zeros N)).toArray
  have k1 := (k0.alloc (.map #[] 0))
  have z1 : (w.alloc (.cells (nums (zeros N)).toArray 5)).heap.size = w.heap.size + 1 := by simp
  have m0 := heap_alloc_new (w.alloc (.cells (nums (zeros N)).toArray 5)) (.map #[] 0)
  rw [z1] at m0
  have z2 : ((w.alloc (.cells (nums (zeros N)).toArray 5)).alloc (.map #[] 0)).heap.size = w.heap.size + 1 + 1 := by simp
  have k2 := Whole.new ((w.alloc (.cells (nums (zeros N)).toArray 5)).alloc (.map #[] 0)) 66 #[.slice (some ⟨w.heap.size, 0, none⟩) N N, .map (some (w.heap.size + 1)), .bool false]
  rw [z2] at k2
  refine ⟨?_, ?_, ⟨#[], 0, (Below.heap_alloc _ _ _ (by rw [z2]; omega)).trans m0, MapKept.stamped_empty 0, rfl⟩, fresh_ok hn⟩
  · rw [hN]; exact k2
  · show Whole _ _ _ (nums (zeros (64 * n))).toArray
    rw [hN]; exact k1.alloc _
theorem new_bad {z : Int} {w : World} (hz : z < 0 ∨ 4096 < z) : Calls Try.prog 11 #[.int .i64 z] w fun e w' => e = .returned (.tuple #[.pointer none, .int .i64 1]) ∧ w = w' := by
  by_cases h : z < 0
  · have h1 : decide (z < 0) = true := by simpa using h
    clear hz
    go_enter Try.func11, Try.ntmps11
    go_wp2
    go_ret2
    exact ⟨rfl, rfl⟩
  · have h1 : decide (z < 0) = false := by simpa using h
    have h2 : (4096 : Int) < z := by omega
    have h3 : decide ((4096 : Int) < z) = true := by simpa using h2
    clear hz
    go_enter Try.func11, Try.ntmps11
    go_wp2
    go_ret2
    exact ⟨rfl, rfl⟩
end Go.Proofs.Ytfecobkpdmjaeaa
