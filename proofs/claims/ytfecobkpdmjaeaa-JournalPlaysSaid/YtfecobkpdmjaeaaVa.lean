/-
  The document's life and piece.
-/
import Derived.Test.YtfecobkpdmjaeaaQy
namespace Go.Proofs.Ytfecobkpdmjaeaa
open Go.RowKit
set_option linter.unusedVariables false
set_option linter.unusedSimpArgs false
set_option maxRecDepth 20000
/-- The life at a place of a block, as the document reads it. -/
def lfa (b : List Int) (at_ : Nat) : Nat := cap (Jl.num ((b.drop at_).take 8))
theorem lfa_lf (b : List Int) (k : Nat) : lfa b k = Jl.lf b k := by
  unfold lfa Jl.lf cap
  by_cases h : Jl.num ((b.drop k).take 8) ≤ 1099511627776
  · rw [if_pos h, if_neg (by omega)]
  · rw [if_neg h, if_pos (by omega)]
set_option maxHeartbeats 4000000 in
theorem rlife_any {C : Array Value} {b : List Int} {o : Nat} {w : World} (hb : KB C b) (ho : o ≤ 56) : Calls Try.prog 37 #[.agg C, .int .i64 (o : Int)] w fun e w' => e = .returned (.int .i64 ((lfa b o : Nat) : Int)) ∧ Below w.heap.size w w' := by
  have hw : Whole (w.alloc (.cells C 45)) w.heap.size 45 C := Whole.new w _ _
  have HW := Lib.hid (And.intro hw (below_alloc w (.cells C 45)))
  have HB := Lib.hid hb
  have HL : Hid (((b.drop o).take 8).length = 8 ∧ Byt ((b.drop o).take 8)) := Lib.hid ⟨by rw [List.length_take, List.length_drop, hb.2.1]; omega, byt_take (byt_drop hb.2.2 _) _⟩
  clear hw hb
  go_enter Try.func37, Try.ntmps37
  go_wp2
  obtain ⟨w0, h0⟩ : ∃ w0, w.alloc (.cells C 45) = w0 := ⟨_, rfl⟩
  rw [h0] at HW ⊢
  clear h0
  go_loop [5, 6] (fun v i => ∃ k : Nat, k ≤ 8 ∧ i = .int .i64 (k : Int) ∧ v = .int .u64 ((Jl.num (((b.drop o).take 8).take k) : Nat) : Int)) (fun _ i => 8 - (intOf i).toNat)
  case atStart => exact ⟨0, Nat.zero_le _, rfl, rfl⟩
  case round =>
    obtain ⟨k, hk, rfl, rfl⟩ := hrel
    by_cases hlt : k < 8
    · have q1 : (k : Int) < 8 := by omega
      have hc := HB.out.cell HW.out.1 (o + k) (by omega)
      obtain ⟨y, hy⟩ : ∃ y, Jl.byt b (o + k) = y := ⟨_, rfl⟩
      rw [hy] at hc
      obtain ⟨m, hm⟩ : ∃ m, Jl.num (((b.drop o).take 8).take k) = m := ⟨_, rfl⟩
      rw [hm]
      have hmb : m < 72057594037927936 := by
        have := num_lt (byt_take HL.out.2 k)
        rw [hm] at this
        refine Nat.lt_of_lt_of_le this ?_
        have : (((b.drop o).take 8).take k).length ≤ 7 := by rw [List.length_take]; omega
        exact Nat.pow_le_pow_right (by omega) this
      have hyb : y < 256 := by rw [← hy]; have := byt_getD HB.out.2.2 (o + k); unfold Jl.byt; omega
      have HM : Hid (Jl.num (((b.drop o).take 8).take (k + 1)) = m * 256 + y) := Lib.hid (by
        rw [take_snocI _ k (by rw [HL.out.1]; exact hlt), num_snoc, hm, ← hy]
        congr 1
        unfold Jl.byt
        rw [List.getD_eq_getElem?_getD, List.getElem?_take, if_pos hlt, List.getElem?_drop, ← List.getD_eq_getElem?_getD])
      have hor := or_byte m (y : Int) (by omega) (by omega) hmb
      clear hy hm
      go_wp2
      go_round
      case rel => exact ⟨k + 1, by omega, by go_num, by rw [HM.out]; congr 1⟩
      case measure => simp [intOf]; omega
    · obtain rfl : k = 8 := by omega
      have e8 : ((b.drop o).take 8).take 8 = (b.drop o).take 8 := List.take_of_length_le (by rw [HL.out.1]; exact Nat.le_refl _)
      rw [e8]
      obtain ⟨m, hm⟩ : ∃ m, Jl.num ((b.drop o).take 8) = m := ⟨_, rfl⟩
      have hmb : m < 18446744073709551616 := by rw [← hm]; exact bound8 HL.out.2 (by rw [HL.out.1]; exact Nat.le_refl _)
      have HC : Hid (lfa b o = cap m) := Lib.hid (by unfold lfa; rw [hm])
      rw [hm]
      clear hm e8
      by_cases q2 : m ≤ 1099511627776
      · have q2' : ¬ (1099511627776 : Int) < (m : Int) := by omega
        go_wp2
        go_ret
        exact ⟨by rw [HC.out]; unfold cap; rw [if_pos q2]; rfl, HW.out.2⟩
      · have q2' : (1099511627776 : Int) < (m : Int) := by omega
        go_wp2
        go_ret
        exact ⟨by rw [HC.out]; unfold cap; rw [if_neg q2]; rfl, HW.out.2⟩
end Go.Proofs.Ytfecobkpdmjaeaa
