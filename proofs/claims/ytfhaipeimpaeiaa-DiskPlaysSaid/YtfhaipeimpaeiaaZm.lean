/-
  The walk of DiskNil.
-/
import Derived.Test.YtfhaipeimpaeiaaZl
namespace Go.Proofs.Ytfhaipeimpaeiaa
open Go.RowKit
set_option linter.unusedVariables false
set_option linter.unusedSimpArgs false
theorem flush_nil {w : World} : Calls Try.prog 22 #[.pointer none] w fun e w' => e = .returned (.int .i64 1) ∧ w = w' := flush_bad ready_nil (by omega)
theorem crash_nil {fs : Value} {w : World} : Calls Try.prog 23 #[.pointer none, fs] w fun e w' => e = .returned (.tuple #[]) ∧ w = w' := crash_bad ready_nil (by omega)
set_option maxHeartbeats 4000000 in
theorem nil_walk (z : Int) (w : World) (h0 : -9223372036854775808 ≤ z) (h1 : z ≤ 9223372036854775807) : Calls Try.prog 7 #[.int .i64 z] w fun e w' => e = .returned (.bool true) ∧ Below w.heap.size w w' := by
  go_enter Try.func7, Try.ntmps7
  go_wp2_with (first | (go_at_call 10; refine awake_any.mono ?_; rintro e w1 ⟨rfl, hb1⟩) | (go_at_call 23; refine crash_nil.mono ?_; rintro e w2 ⟨rfl, rfl⟩) | (go_at_call 18; refine start_nil.mono ?_; rintro e w2 ⟨rfl, rfl⟩) | fail)
  have hb2 : Below w.heap.size w (w1.alloc (.cells #[.int .i64 z] 3)) := hb1.trans (((Below.refl _ _).alloc (Nat.le_refl _) _).mono hb1.size)
  generalize w1.alloc (.cells #[.int .i64 z] 3) = w2 at *
  refine read_nil.mono ?_
  rintro e w3 ⟨rfl, hb3⟩
  have hb4 := hb2.trans (hb3.mono hb2.size)
  obtain ⟨w4, h4, k4, b4⟩ := boxed w3 z64
  have H4 := Lib.hid (And.intro h4 (And.intro k4 (hb4.trans (b4.mono hb4.size))))
  clear hb1 hb2 hb3 hb4 h4 k4 b4
  have hzb := zero_b
  go_wp2_with (first | ((with_reducible show wpList _ _ _ ((⟨_, Op.store 32 _ _, _, _, _, _⟩ : Oper) :: _) _ _); refine wpList_store_row rfl 32 (.tmp 5) (.tmp 20) rfl w3.heap.size (nums z64).toArray rfl rfl 32 zb (Whole.new w3 _ _) (info_bn z64_len) (size_bn z64_len) (all_nums _) ?_; rw [H4.out.1]; clear hzb) | ((with_reducible show wpList _ _ _ ((⟨_, Op.load 32 _, _, _, _, _⟩ : Oper) :: _) _ _); refine wpList_load_row rfl 32 (.tmp 5) rfl w3.heap.size rfl 32 (nums z64).toArray (0, 0) _ H4.out.2.1 und_b rfl (info_bn z64_len) ?_) | fail)
  refine write_nil.mono ?_
  rintro e w5 ⟨rfl, hb5⟩
  have H5 := Lib.hid (H4.out.2.2.trans (hb5.mono H4.out.2.2.size))
  clear hb5 H4
  go_wp2_with (first | (go_at_call 22; refine flush_nil.mono ?_; rintro e w6 ⟨rfl, rfl⟩) | (go_at_call 17; refine blocks_nil.mono ?_; rintro e w6 ⟨rfl, rfl⟩) | (go_at_call 15; refine dirty_nil.mono ?_; rintro e w6 ⟨rfl, rfl⟩) | (go_at_call 16; refine down_nil.mono ?_; rintro e w6 ⟨rfl, rfl⟩) | fail)
  go_ret
  exact ⟨rfl, H5.out⟩
end Go.Proofs.Ytfhaipeimpaeiaa
