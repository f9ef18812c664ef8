/-
  The walk of awake, and of CrcNone and CrcTells.
-/
import Derived.Test.YtiagblmnmknnfaaKc
import Derived.Lib.SlBytesConst
namespace Go.Proofs.Ytiagblmnmknnfaa
open Go.RowKit
def digits : List Int := [49, 50, 51, 52, 53, 54, 55, 56, 57]
theorem sum_digits : num (Cm.more 0#32 digits) = 3808858755 := by decide +kernel
theorem more5 : num (Cm.more 5#32 []) = 5 := by decide +kernel
theorem more0 : num (Cm.more 0#32 []) = 0 := by decide +kernel
def digCells : Array Value := #[.int .u8 49, .int .u8 50, .int .u8 51, .int .u8 52, .int .u8 53, .int .u8 54, .int .u8 55, .int .u8 56, .int .u8 57]
theorem digits_byt : Byt digits := by intro x hx; simp only [digits, List.mem_cons, List.not_mem_nil, or_false] at hx; omega
theorem txt_digits (w : World) : Txt (w.alloc (.cells digCells 5 (9, 10))) (fun _ => True) (some ⟨w.heap.size, 0, none⟩) 9 9 digits := by
  refine ⟨rfl, Nat.le_refl _, digits_byt, Or.inr ⟨w.heap.size, 0, rfl, trivial, by simp, fun k hk => ?_⟩⟩
  rw [Nat.zero_add, cell_of_row _ w.heap.size k digCells 5 (9, 10) (heap_alloc_new w _)]
  match k, hk with
  | 0, _ | 1, _ | 2, _ | 3, _ | 4, _ | 5, _ | 6, _ | 7, _ | 8, _ => rfl
set_option maxHeartbeats 1000000 in
theorem awake_any (w : World) : Calls Try.prog 9 #[] w fun e w' => e = .returned (.bool true) ∧ Below w.heap.size w w' := by
  have kc := fun (w : World) (C : Array Value) (n c : Nat) => Lib.run_convert_bytes_const (P := Try.prog) w 23 5 C n c Try.underlying23 Try.underlying5
  go_enter Try.func9, Try.ntmps9
  go_wp2_with fail
  refine (sum_any (txt_digits w) (by omega)).mono ?_
  rintro e w1 ⟨rfl, hb1⟩
  rw [sum_digits]
  have HB1 : Hid (Below w.heap.size w w1) := Lib.hid ((below_alloc w _).trans (hb1.mono (by simp)))
  clear hb1 kc
  go_wp2_with fail
  refine (sum_any (Txt.nil w1 (fun _ => True) none 0) (by omega)).mono ?_
  rintro e w2 ⟨rfl, hb2⟩
  rw [more0]
  have HB2 : Hid (Below w.heap.size w w2) := Lib.hid (HB1.out.trans (hb2.mono HB1.out.size))
  clear hb2 HB1
  go_wp2_with fail
  refine (more_any (w := w2) 5#32 (Txt.nil w2 (fun _ => True) none 0) (by omega)).mono ?_
  rintro e w3 ⟨rfl, hb3⟩
  rw [more5]
  have HB3 : Hid (Below w.heap.size w w3) := Lib.hid (HB2.out.trans (hb3.mono HB2.out.size))
  clear hb3 HB2
  go_wp2
  go_ret
  exact ⟨rfl, HB3.out⟩
theorem num_lt {n : Int} (h0 : 0 ≤ n) (h1 : n < 4294967296) : n = num (BitVec.ofNat 32 n.toNat) := by
  obtain ⟨m, rfl⟩ := Int.eq_ofNat_of_zero_le h0
  unfold num
  rw [BitVec.toNat_ofNat, Int.toNat_natCast]
  omega
def one (y : Int) : List Int := [y]
theorem txt_one {w w1 : World} {y : Int} (h0 : 0 ≤ y) (h1 : y < 256) (hw : w1 = w.alloc (.cells #[.int .u8 y] 5)) : Txt w1 (fun _ => True) (some ⟨w.heap.size, 0, none⟩) 1 1 (one y) := by
  subst hw
  refine ⟨rfl, Nat.le_refl _, byt_cons h0 h1 byt_nil, Or.inr ⟨w.heap.size, 0, rfl, trivial, by simp, fun k hk => ?_⟩⟩
  rw [Nat.zero_add, cell_of_row _ w.heap.size k #[.int .u8 y] 5 (0, 0) (heap_alloc_new w _)]
  match k, hk with
  | 0, _ => rfl
theorem num_beq (x y : BitVec 32) : (num x == num y) = (x == y) := by
  by_cases h : x = y
  · subst h; simp
  · have : ¬ num x = num y := fun e => h (num_inj e)
    rw [beq_false_of_ne h, beq_false_of_ne this]
set_option maxHeartbeats 1000000 in
theorem none_walk (a b : BitVec 32) (y : Int) (w : World) (h0 : 0 ≤ y) (h1 : y < 256) :
    Calls Try.prog 8 #[.int .u32 (num a), .int .u32 (num b), .int .u8 y] w fun e w' => e = .returned (.bool true) ∧ Below w.heap.size w w' := by
  go_enter Try.func8, Try.ntmps8
  go_wp2_with fail
  refine (awake_any w).mono ?_
  rintro e w1 ⟨rfl, hb1⟩
  go_wp2_with fail
  refine (more_any (w := w1) a (Txt.nil w1 (fun _ => True) none 0) (by omega)).mono ?_
  rintro e w2 ⟨rfl, hb2⟩
  rw [Cm.more_nil]
  have HB2 : Hid (Below w.heap.size w w2) := Lib.hid (hb1.trans (hb2.mono hb1.size))
  clear hb1 hb2
  go_wp2_with fail
  refine (more_any a (Txt.nil (w2.alloc (.cells #[] 5)) (fun _ => True) (some ⟨w2.heap.size, 0, none⟩) 0) (by omega)).mono ?_
  rintro e w3 ⟨rfl, hb3⟩
  rw [Cm.more_nil]
  have HB3 : Hid (Below w.heap.size w w3) := Lib.hid ((HB2.out.alloc HB2.out.size _).trans (hb3.mono (by have := HB2.out.size; simp; omega)))
  clear hb3 HB2
  go_wp2_with fail
  refine (more_any a (txt_one h0 h1 rfl) (by omega)).mono ?_
  rintro e w4 ⟨rfl, hb4⟩
  have HB4 : Hid (Below w.heap.size w w4) := Lib.hid ((HB3.out.alloc HB3.out.size _).trans (hb4.mono (by have := HB3.out.size; simp; omega)))
  clear hb4 HB3
  go_wp2_with fail
  refine (more_any b (txt_one h0 h1 rfl) (by omega)).mono ?_
  rintro e w5 ⟨rfl, hb5⟩
  have HB5 : Hid (Below w.heap.size w w5) := Lib.hid ((HB4.out.alloc HB4.out.size _).trans (hb5.mono (by have := HB4.out.size; simp; omega)))
  clear hb5 HB4
  have hE : (num (Cm.more a (one y)) == num (Cm.more b (one y))) = (num a == num b) := by
    rw [num_beq, num_beq]
    by_cases h : a = b
    · subst h; simp
    · rw [beq_false_of_ne h, beq_false_of_ne (fun e => h (Cm.more_inj e))]
  go_wp2
  go_ret
  exact ⟨rfl, HB5.out⟩
end Go.Proofs.Ytiagblmnmknnfaa
