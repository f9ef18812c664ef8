/-
  The walks of has, fits, Blocks, mayBe.
-/
import Derived.Test.YtjpgepodkeccmaaDoorUd
namespace Go.Proofs.YtjpgepodkeccmaaDoor
open Go.RowKit
set_option linter.unusedVariables false
set_option linter.unusedSimpArgs false
set_option maxRecDepth 20000
def I64 (z : Int) : Prop := -9223372036854775808 ≤ z ∧ z ≤ 9223372036854775807
def hasB (n : Nat) (fr bs : Int) : Bool := decide (0 ≤ fr ∧ 0 ≤ bs ∧ bs ≤ (n : Int) - fr)
theorem has_any {p bb mb n : Nat} {a : Dm.A} {fr bs : Int} {w : World} (h : Dk w p bb mb a n) (hfr : I64 fr) :
    Calls Tryd.prog 27 #[.pointer (some ⟨p, 0, none⟩), .int .i64 fr, .int .i64 bs] w fun e w' => e = .returned (.bool (hasB n fr bs)) ∧ w = w' := by
  have hb := blocks_any h.ok.small h.c0
  have HB := Lib.hid hb
  have hn := h.ok.small
  obtain ⟨r, hr⟩ : ∃ r, hasB n fr bs = r := ⟨_, rfl⟩
  rw [hr]
  have HR := Lib.hid hr
  obtain ⟨hf1, hf2⟩ := hfr
  clear hb h hr
  by_cases q0 : 0 ≤ fr
  · by_cases q1 : 0 ≤ bs
    · by_cases q2 : bs ≤ (n : Int) - fr
      · obtain rfl : r = true := by rw [← HR.out]; unfold hasB; exact decide_eq_true ⟨q0, q1, q2⟩
        go_enter Tryd.func27, Tryd.ntmps27
        go_wp2_with (go_at_call 38; refine HB.out.mono ?_; rintro e w' ⟨rfl, rfl⟩)
        go_ret
        exact ⟨rfl, rfl⟩
      · obtain rfl : r = false := by rw [← HR.out]; unfold hasB; exact decide_eq_false (fun h => q2 h.2.2)
        go_enter Tryd.func27, Tryd.ntmps27
        go_wp2_with (go_at_call 38; refine HB.out.mono ?_; rintro e w' ⟨rfl, rfl⟩)
        go_ret
        refine ⟨?_, rfl⟩
        show Ending.returned (Value.bool (decide (bs ≤ (n : Int) - fr))) = _
        rw [decide_eq_false (by omega)]
    · obtain rfl : r = false := by rw [← HR.out]; unfold hasB; exact decide_eq_false (fun h => q1 h.2.1)
      go_enter Tryd.func27, Tryd.ntmps27
      go_wp2
      go_ret
      exact ⟨rfl, rfl⟩
  · obtain rfl : r = false := by rw [← HR.out]; unfold hasB; exact decide_eq_false (fun h => q0 h.1)
    go_enter Tryd.func27, Tryd.ntmps27
    go_wp2
    go_ret
    exact ⟨rfl, rfl⟩
theorem has_nil {fr bs : Int} {w : World} : Calls Tryd.prog 27 #[.pointer none, .int .i64 fr, .int .i64 bs] w fun e w' => e = .returned (.bool false) ∧ w = w' := by
  go_enter Tryd.func27, Tryd.ntmps27
  go_wp2
  go_ret
  exact ⟨rfl, rfl⟩
def fitsB (n : Nat) (fr room at_ many : Int) : Bool := hasB n fr room && decide (0 ≤ at_ ∧ 0 ≤ many ∧ many ≤ room * 64 - at_)
theorem hasB_iff {n : Nat} {fr bs : Int} : hasB n fr bs = true ↔ 0 ≤ fr ∧ 0 ≤ bs ∧ bs ≤ (n : Int) - fr := by unfold hasB; exact decide_eq_true_iff
theorem fits_any {p bb mb n : Nat} {a : Dm.A} {fr room at_ many : Int} {w : World} (h : Dk w p bb mb a n) (hfr : I64 fr) (hat : I64 at_) (hm : I64 many) :
    Calls Tryd.prog 26 #[.pointer (some ⟨p, 0, none⟩), .int .i64 fr, .int .i64 room, .int .i64 at_, .int .i64 many] w fun e w' => e = .returned (.bool (fitsB n fr room at_ many)) ∧ w = w' := by
  have HB := Lib.hid (has_any (bs := room) h hfr)
  have hn := h.ok.small
  obtain ⟨r, hr⟩ : ∃ r, fitsB n fr room at_ many = r := ⟨_, rfl⟩
  rw [hr]
  have HR := Lib.hid hr
  obtain ⟨g, hg⟩ : ∃ g, hasB n fr room = g := ⟨_, rfl⟩
  rw [hg] at HB
  have HG := Lib.hid hg
  obtain ⟨ha1, ha2⟩ := hat
  obtain ⟨hm1, hm2⟩ := hm
  clear h hr hg
  cases g with
  | false =>
    obtain rfl : r = false := by rw [← HR.out]; unfold fitsB; rw [HG.out]; rfl
    go_enter Tryd.func26, Tryd.ntmps26
    go_wp2_with (go_at_call 27; refine HB.out.mono ?_; rintro e w' ⟨rfl, rfl⟩)
    go_ret
    exact ⟨rfl, rfl⟩
  | true =>
    obtain ⟨g1, g2, g3⟩ := hasB_iff.1 HG.out
    by_cases q0 : 0 ≤ at_
    · by_cases q1 : 0 ≤ many
      · have d0 : decide (at_ < 0) = false := by simp; omega
        have d1 : decide (many < 0) = false := by simp; omega
        have r1 : room ≤ 4096 := by omega
        obtain rfl : r = decide (many ≤ room * 64 - at_) := by
          rw [← HR.out]; unfold fitsB; rw [HG.out, Bool.true_and]
          by_cases q2 : many ≤ room * 64 - at_
          · rw [decide_eq_true q2, decide_eq_true ⟨q0, q1, q2⟩]
          · rw [decide_eq_false q2, decide_eq_false (fun h => q2 h.2.2)]
        clear g1 g3 HG HR hn
        go_enter Tryd.func26, Tryd.ntmps26
        go_wp2_with (go_at_call 27; refine HB.out.mono ?_; rintro e w' ⟨rfl, rfl⟩)
        go_ret
        exact ⟨rfl, rfl⟩
      · have d0 : decide (at_ < 0) = false := by simp; omega
        have d1 : decide (many < 0) = true := by simp; omega
        obtain rfl : r = false := by rw [← HR.out]; unfold fitsB; rw [HG.out, Bool.true_and]; exact decide_eq_false (fun h => q1 h.2.1)
        go_enter Tryd.func26, Tryd.ntmps26
        go_wp2_with (go_at_call 27; refine HB.out.mono ?_; rintro e w' ⟨rfl, rfl⟩)
        go_ret
        exact ⟨rfl, rfl⟩
    · have d0 : decide (at_ < 0) = true := by simp; omega
      obtain rfl : r = false := by rw [← HR.out]; unfold fitsB; rw [HG.out, Bool.true_and]; exact decide_eq_false (fun h => q0 h.1)
      go_enter Tryd.func26, Tryd.ntmps26
      go_wp2_with (go_at_call 27; refine HB.out.mono ?_; rintro e w' ⟨rfl, rfl⟩)
      go_ret
      exact ⟨rfl, rfl⟩
theorem fits_nil {fr room at_ many : Int} {w : World} : Calls Tryd.prog 26 #[.pointer none, .int .i64 fr, .int .i64 room, .int .i64 at_, .int .i64 many] w fun e w' => e = .returned (.bool false) ∧ w = w' := by
  go_enter Tryd.func26, Tryd.ntmps26
  go_wp2_with (go_at_call 27; refine has_nil.mono ?_; rintro e w' ⟨rfl, rfl⟩)
  go_ret
  exact ⟨rfl, rfl⟩
/-- How many blocks so many bytes have. -/
def blks (z : Int) : Nat := ((z + 63) / 64).toNat
theorem iblocks_any {z : Int} {w : World} (hz : I64 z) : Calls Tryd.prog 11 #[.int .i64 z] w fun e w' => e = .returned (.int .i64 (blks z : Int)) ∧ w = w' := by
  obtain ⟨z1, z2⟩ := hz
  obtain ⟨r, hr⟩ : ∃ r, blks z = r := ⟨_, rfl⟩
  rw [hr]
  have HR := Lib.hid hr
  clear hr
  by_cases q : z ≤ 0
  · obtain rfl : r = 0 := by rw [← HR.out]; unfold blks; omega
    go_enter Tryd.func11, Tryd.ntmps11
    go_wp2
    go_ret
    exact ⟨rfl, rfl⟩
  · have hq : (z - 1).tdiv 64 = (z - 1) / 64 := Int.tdiv_eq_ediv_of_nonneg (by omega)
    have e : (z - 1) / 64 + 1 = (r : Int) := by rw [← HR.out]; unfold blks; omega
    go_enter Tryd.func11, Tryd.ntmps11
    go_wp2
    go_ret
    refine ⟨?_, rfl⟩
    rw [← e]
    rfl
/-- The cells of a boot. -/
def bc (b : Im.Bt) : List Value := .int .i64 b.area :: .int .i64 b.epoch :: .int .i64 b.size :: nums b.whole
def KC (C : Array Value) (b : Im.Bt) : Prop := C = (bc b).toArray ∧ Im.W32 b
theorem KC.size {C : Array Value} {b : Im.Bt} (h : KC C b) : C.size = 35 := by rw [h.1, List.size_toArray]; simp [bc, nums_len, h.2.1]
theorem KC.all {C : Array Value} {b : Im.Bt} (h : KC C b) : C.all (·.oneCell') = true := by
  rw [h.1]
  refine Array.all_eq_true_iff_forall_mem.2 (fun v hv => ?_)
  have hv : v ∈ bc b := by simpa using hv
  unfold bc at hv
  simp only [List.mem_cons] at hv
  rcases hv with rfl | rfl | rfl | h
  · rfl
  · rfl
  · rfl
  · exact nums_one _ v h
theorem info_boot : (Tryd.prog.info? 41).map (·.size) = some 35 := by kernel_rfl
theorem KC.info {C : Array Value} {b : Im.Bt} (h : KC C b) : (Tryd.prog.info? 41).map (·.size) = some C.size := by rw [h.size]; exact info_boot
theorem KC.c0 {w : World} {g : Nat} {t : TypeId} {C : Array Value} {b : Im.Bt} (h : KC C b) (hw : Whole w g t C) : w.cell? ⟨g, 0, none⟩ = some (.int .i64 b.area) := by rw [hw.cell, h.1]; rfl
theorem KC.c1 {w : World} {g : Nat} {t : TypeId} {C : Array Value} {b : Im.Bt} (h : KC C b) (hw : Whole w g t C) : w.cell? ⟨g, 1, none⟩ = some (.int .i64 b.epoch) := by rw [hw.cell, h.1]; rfl
theorem KC.c2 {w : World} {g : Nat} {t : TypeId} {C : Array Value} {b : Im.Bt} (h : KC C b) (hw : Whole w g t C) : w.cell? ⟨g, 2, none⟩ = some (.int .i64 b.size) := by rw [hw.cell, h.1]; rfl
theorem may_any {C : Array Value} {b : Im.Bt} {w : World} (hb : KC C b) : Calls Tryd.prog 28 #[.agg C] w fun e w' => e = .returned (.bool (decide (Im.May b))) ∧ Below w.heap.size w w' := by
  have hw : Whole (w.alloc (.cells C 41)) w.heap.size 41 C := Whole.new w _ _
  have c0 := hb.c0 hw
  have c1 := hb.c1 hw
  have c2 := hb.c2 hw
  have HW := Lib.hid (below_alloc w (.cells C 41))
  obtain ⟨r, hr⟩ : ∃ r, decide (Im.May b) = r := ⟨_, rfl⟩
  rw [hr]
  have HR := Lib.hid hr
  obtain ⟨ar, ep, sz, wh⟩ := b
  simp only at c0 c1 c2
  clear hw hb hr
  go_enter Tryd.func28, Tryd.ntmps28
  by_cases q0 : ar = 0 ∨ ar = 1
  · by_cases q1 : 0 ≤ ep
    · by_cases q2 : ep ≤ 1099511627776
      · by_cases q3 : 1 ≤ sz
        · obtain rfl : r = decide (sz ≤ 65536) := by
            rw [← HR.out]; unfold Im.May
            by_cases q4 : sz ≤ 65536
            · rw [decide_eq_true q4]; exact decide_eq_true ⟨q0, q1, q2, q3, q4⟩
            · rw [decide_eq_false q4]; exact decide_eq_false (fun h => q4 h.2.2.2.2)
          rcases q0 with rfl | rfl
          · go_wp2
            go_ret
            exact ⟨rfl, HW.out⟩
          · go_wp2
            go_ret
            exact ⟨rfl, HW.out⟩
        · obtain rfl : r = false := by rw [← HR.out]; exact decide_eq_false (fun h => q3 h.2.2.2.1)
          rcases q0 with rfl | rfl
          · go_wp2
            go_ret
            exact ⟨rfl, HW.out⟩
          · go_wp2
            go_ret
            exact ⟨rfl, HW.out⟩
      · obtain rfl : r = false := by rw [← HR.out]; exact decide_eq_false (fun h => q2 h.2.2.1)
        rcases q0 with rfl | rfl
        · go_wp2
          go_ret
          exact ⟨rfl, HW.out⟩
        · go_wp2
          go_ret
          exact ⟨rfl, HW.out⟩
    · obtain rfl : r = false := by rw [← HR.out]; exact decide_eq_false (fun h => q1 h.2.1)
      rcases q0 with rfl | rfl
      · go_wp2
        go_ret
        exact ⟨rfl, HW.out⟩
      · go_wp2
        go_ret
        exact ⟨rfl, HW.out⟩
  · obtain rfl : r = false := by rw [← HR.out]; exact decide_eq_false (fun h => q0 h.1)
    have d0 : (ar == 0) = false := by simp; omega
    have d1 : (ar == 1) = false := by simp; omega
    go_wp2
    go_ret
    exact ⟨rfl, HW.out⟩
end Go.Proofs.YtjpgepodkeccmaaDoor
