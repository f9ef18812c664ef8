/-
  The walks of the document's Check, Join, Suspect, Bury and Speak of members.
-/
import Derived.Test.YtlcpiompmpccoaaCa
import Derived.Deep.QuietTactic
import Derived.BigQuiet
import Derived.Deep.Cut
import Derived.OrdersHeld
namespace Go.Proofs.Ytlcpiompmpccoaa
open Go.RowKit Go.Great
set_option linter.unusedVariables false
set_option linter.unusedSimpArgs false
set_option maxRecDepth 20000
open Mb
/-- A member in its block. -/
def Bx (w : World) (g : Nat) (m : M) : Prop := Whole w g 24 (mc m)
theorem Bx.c0 {w : World} {g : Nat} {m : M} (h : Bx w g m) : w.cell? ⟨g, 0, none⟩ = some (.int .i64 m.1) := h.cell 0
theorem Bx.c1 {w : World} {g : Nat} {m : M} (h : Bx w g m) : w.cell? ⟨g, 1, none⟩ = some (.int .i64 m.2) := h.cell 1
theorem Bx.f0 {w : World} {g : Nat} {m : M} (h : Bx w g m) : w.frozen? ⟨g, 0, none⟩ = false := h.frozen 0
theorem Bx.f1 {w : World} {g : Nat} {m : M} (h : Bx w g m) : w.frozen? ⟨g, 1, none⟩ = false := h.frozen 1
/-- Two members boxed, and a new one. -/
theorem two_boxes (a b : M) (w : World) : ∃ w1, ((w.alloc (.cells (mc a) 24)).alloc (.cells (mc b) 24)).alloc (.cells (mc nought) 24) = w1 ∧ Bx w1 w.heap.size a ∧ Bx w1 (w.heap.size + 1) b ∧ Bx w1 (w.heap.size + 1 + 1) nought ∧ Below w.heap.size w w1 := by
  refine ⟨_, rfl, ((Whole.new w 24 (mc a)).alloc _).alloc _, ?_, ?_, ((below_alloc w _).alloc (by simp) _).alloc (by simp; omega) _⟩
  · have := (Whole.new (w.alloc (.cells (mc a) 24)) 24 (mc b)).alloc (.cells (mc nought) 24)
    rw [size_alloc] at this
    exact this
  · have := Whole.new ((w.alloc (.cells (mc a) 24)).alloc (.cells (mc b) 24)) 24 (mc nought)
    rw [size_alloc, size_alloc] at this
    exact this
/-- One member boxed, and a new one. -/
theorem one_box (a : M) (w : World) : ∃ w1, (w.alloc (.cells (mc a) 24)).alloc (.cells (mc nought) 24) = w1 ∧ Bx w1 w.heap.size a ∧ Bx w1 (w.heap.size + 1) nought ∧ Below w.heap.size w w1 := by
  refine ⟨_, rfl, (Whole.new w 24 (mc a)).alloc _, ?_, (below_alloc w _).alloc (by simp) _⟩
  have := Whole.new (w.alloc (.cells (mc a) 24)) 24 (mc nought)
  rw [size_alloc] at this
  exact this
theorem built_m (x : Int) : Try.prog.built 24 [(0, .int .i64 x)] = some (mc (x, 0)) := by kernel_rfl
set_option maxHeartbeats 2000000 in
theorem rjoin_any (a b : M) (w : World) : Calls Try.prog 14 #[.agg (mc a), .agg (mc b)] w fun e w' => e = .returned (.agg (mc (join a b))) ∧ Below w.heap.size w w' := by
  obtain ⟨w1, hw1, hA, hB, hZ, hb3⟩ := two_boxes a b w
  have HW := Lib.hid hw1
  have H := Lib.hid (And.intro hA (And.intro hB (And.intro hZ hb3)))
  have a0 := hA.c0
  have a1 := hA.c1
  have b0 := hB.c0
  have b1 := hB.c1
  clear hw1 hA hB hZ hb3
  obtain ⟨r, hr⟩ : ∃ r, join a b = r := ⟨_, rfl⟩
  rw [hr]
  have HR := Lib.hid hr
  clear hr
  obtain ⟨x0, hx0⟩ : ∃ x, a.1 = x := ⟨_, rfl⟩
  obtain ⟨x1, hx1⟩ : ∃ x, a.2 = x := ⟨_, rfl⟩
  obtain ⟨y0, hy0⟩ : ∃ x, b.1 = x := ⟨_, rfl⟩
  obtain ⟨y1, hy1⟩ : ∃ x, b.2 = x := ⟨_, rfl⟩
  have HL : Hid (r = if x0 < y0 ∨ (x0 = y0 ∧ x1 < y1) then b else a) := Lib.hid (by rw [← hx0, ← hx1, ← hy0, ← hy1, ← HR.out]; rfl)
  rw [hx0] at a0
  rw [hx1] at a1
  rw [hy0] at b0
  rw [hy1] at b1
  clear hx0 hx1 hy0 hy1 HR
  go_enter Try.func14, Try.ntmps14
  go_upto_region 1 with fail
  rw [show #[Value.int .i64 0, Value.int .i64 0] = mc nought from rfl, HW.out]
  by_cases z : y0 > x0
  · have HV : Hid (r = b) := Lib.hid (by rw [HL.out, if_pos (Or.inl z)])
    go_wp2_with (first | ((with_reducible show wpList _ _ _ ((⟨_, Op.load 24 (.tmp 3), _, _, _, _⟩ : Oper) :: _) _ _); refine wpList_load_row rfl 24 (.tmp 3) rfl (w.heap.size + 1) rfl 24 (mc b) (0, 0) _ H.out.2.1 Try.underlying24 rfl info2 ?_) | ((with_reducible show wpList _ _ _ ((⟨_, Op.store 24 (.tmp 4) _, _, _, _, _⟩ : Oper) :: _) _ _); refine wpList_store_row rfl 24 (.tmp 4) (.tmp 24) rfl (w.heap.size + 1 + 1) (mc b) rfl rfl 24 (mc nought) H.out.2.2.1 info2 rfl (mc_one _) ?_) | fail)
    refine bodyPost_ret (results_one_cell rfl _ _ _ _ rfl (run_loadVar_row _ _ _ _ _ (0, 0) _ (H.out.2.2.1.row (mc b)) Try.underlying24 rfl info2)) rfl ?_
    exact ⟨ret_mc HV.out.symm, below_row H.out.2.2.2 (by omega) _⟩
  by_cases z1 : y0 = x0
  · have q1 : (y0 == x0) = true := by simp [z1]
    by_cases z2 : y1 > x1
    · have HV : Hid (r = b) := Lib.hid (by rw [HL.out, if_pos (Or.inr ⟨z1.symm, z2⟩)])
      clear z1
      go_wp2_with (first | ((with_reducible show wpList _ _ _ ((⟨_, Op.load 24 (.tmp 3), _, _, _, _⟩ : Oper) :: _) _ _); refine wpList_load_row rfl 24 (.tmp 3) rfl (w.heap.size + 1) rfl 24 (mc b) (0, 0) _ H.out.2.1 Try.underlying24 rfl info2 ?_) | ((with_reducible show wpList _ _ _ ((⟨_, Op.store 24 (.tmp 4) _, _, _, _, _⟩ : Oper) :: _) _ _); refine wpList_store_row rfl 24 (.tmp 4) (.tmp 24) rfl (w.heap.size + 1 + 1) (mc b) rfl rfl 24 (mc nought) H.out.2.2.1 info2 rfl (mc_one _) ?_) | fail)
      refine bodyPost_ret (results_one_cell rfl _ _ _ _ rfl (run_loadVar_row _ _ _ _ _ (0, 0) _ (H.out.2.2.1.row (mc b)) Try.underlying24 rfl info2)) rfl ?_
      exact ⟨ret_mc HV.out.symm, below_row H.out.2.2.2 (by omega) _⟩
    · have HV : Hid (r = a) := Lib.hid (by rw [HL.out, if_neg (by omega)])
      clear z1
      go_wp2_with (first | ((with_reducible show wpList _ _ _ ((⟨_, Op.load 24 (.tmp 2), _, _, _, _⟩ : Oper) :: _) _ _); refine wpList_load_row rfl 24 (.tmp 2) rfl w.heap.size rfl 24 (mc a) (0, 0) _ H.out.1 Try.underlying24 rfl info2 ?_) | ((with_reducible show wpList _ _ _ ((⟨_, Op.store 24 (.tmp 4) _, _, _, _, _⟩ : Oper) :: _) _ _); refine wpList_store_row rfl 24 (.tmp 4) (.tmp 25) rfl (w.heap.size + 1 + 1) (mc a) rfl rfl 24 (mc nought) H.out.2.2.1 info2 rfl (mc_one _) ?_) | fail)
      refine bodyPost_ret (results_one_cell rfl _ _ _ _ rfl (run_loadVar_row _ _ _ _ _ (0, 0) _ (H.out.2.2.1.row (mc a)) Try.underlying24 rfl info2)) rfl ?_
      exact ⟨ret_mc HV.out.symm, below_row H.out.2.2.2 (by omega) _⟩
  · have q1 : (y0 == x0) = false := by simp [z1]
    have HV : Hid (r = a) := Lib.hid (by rw [HL.out, if_neg (by omega)])
    clear z1
    go_wp2_with (first | ((with_reducible show wpList _ _ _ ((⟨_, Op.load 24 (.tmp 2), _, _, _, _⟩ : Oper) :: _) _ _); refine wpList_load_row rfl 24 (.tmp 2) rfl w.heap.size rfl 24 (mc a) (0, 0) _ H.out.1 Try.underlying24 rfl info2 ?_) | ((with_reducible show wpList _ _ _ ((⟨_, Op.store 24 (.tmp 4) _, _, _, _, _⟩ : Oper) :: _) _ _); refine wpList_store_row rfl 24 (.tmp 4) (.tmp 25) rfl (w.heap.size + 1 + 1) (mc a) rfl rfl 24 (mc nought) H.out.2.2.1 info2 rfl (mc_one _) ?_) | fail)
    refine bodyPost_ret (results_one_cell rfl _ _ _ _ rfl (run_loadVar_row _ _ _ _ _ (0, 0) _ (H.out.2.2.1.row (mc a)) Try.underlying24 rfl info2)) rfl ?_
    exact ⟨ret_mc HV.out.symm, below_row H.out.2.2.2 (by omega) _⟩
set_option maxHeartbeats 2000000 in
theorem rspeak_any (a b : M) (hb : Min b) (w : World) : Calls Try.prog 16 #[.agg (mc a), .agg (mc b)] w fun e w' => e = .returned (.agg (mc (speak a b))) ∧ Below w.heap.size w w' := by
  obtain ⟨w1, hw1, hA, hB, hZ, hb3⟩ := two_boxes a b w
  have HW := Lib.hid hw1
  have H := Lib.hid (And.intro hA (And.intro hB (And.intro hZ hb3)))
  have a0 := hA.c0
  have b0 := hB.c0
  have b1 := hB.c1
  clear hw1 hA hB hZ hb3
  obtain ⟨r, hr⟩ : ∃ r, speak a b = r := ⟨_, rfl⟩
  rw [hr]
  have HR := Lib.hid hr
  clear hr
  obtain ⟨x0, hx0⟩ : ∃ x, a.1 = x := ⟨_, rfl⟩
  obtain ⟨y0, hy0⟩ : ∃ x, b.1 = x := ⟨_, rfl⟩
  obtain ⟨y1, hy1⟩ : ∃ x, b.2 = x := ⟨_, rfl⟩
  have HL : Hid (r = if y0 < x0 ∨ y1 = 0 then a else if 1099511627776 ≤ y0 then (y0, 0) else (y0 + 1, 0)) := Lib.hid (by rw [← hx0, ← hy0, ← hy1, ← HR.out]; rfl)
  have HI : Hid (-9223372036854775808 ≤ y0) := Lib.hid (by rw [← hy0]; exact hb.1.1)
  rw [hx0] at a0
  rw [hy0] at b0
  rw [hy1] at b1
  clear hx0 hy0 hy1 HR hb
  go_enter Try.func16, Try.ntmps16
  go_upto_region 1 with fail
  rw [show #[Value.int .i64 0, Value.int .i64 0] = mc nought from rfl, HW.out]
  by_cases z : y0 < x0
  · have HV : Hid (r = a) := Lib.hid (by rw [HL.out, if_pos (Or.inl z)])
    go_wp2_with (first | ((with_reducible show wpList _ _ _ ((⟨_, Op.load 24 (.tmp 2), _, _, _, _⟩ : Oper) :: _) _ _); refine wpList_load_row rfl 24 (.tmp 2) rfl w.heap.size rfl 24 (mc a) (0, 0) _ H.out.1 Try.underlying24 rfl info2 ?_) | ((with_reducible show wpList _ _ _ ((⟨_, Op.store 24 (.tmp 4) _, _, _, _, _⟩ : Oper) :: _) _ _); refine wpList_store_row rfl 24 (.tmp 4) (.tmp 15) rfl (w.heap.size + 1 + 1) (mc a) rfl rfl 24 (mc nought) H.out.2.2.1 info2 rfl (mc_one _) ?_) | fail)
    refine bodyPost_ret (results_one_cell rfl _ _ _ _ rfl (run_loadVar_row _ _ _ _ _ (0, 0) _ (H.out.2.2.1.row (mc a)) Try.underlying24 rfl info2)) rfl ?_
    exact ⟨ret_mc HV.out.symm, below_row H.out.2.2.2 (by omega) _⟩
  by_cases z1 : y1 = 0
  · have q1 : (y1 == 0) = true := by simp [z1]
    have HV : Hid (r = a) := Lib.hid (by rw [HL.out, if_pos (Or.inr z1)])
    clear z1
    go_wp2_with (first | ((with_reducible show wpList _ _ _ ((⟨_, Op.load 24 (.tmp 2), _, _, _, _⟩ : Oper) :: _) _ _); refine wpList_load_row rfl 24 (.tmp 2) rfl w.heap.size rfl 24 (mc a) (0, 0) _ H.out.1 Try.underlying24 rfl info2 ?_) | ((with_reducible show wpList _ _ _ ((⟨_, Op.store 24 (.tmp 4) _, _, _, _, _⟩ : Oper) :: _) _ _); refine wpList_store_row rfl 24 (.tmp 4) (.tmp 15) rfl (w.heap.size + 1 + 1) (mc a) rfl rfl 24 (mc nought) H.out.2.2.1 info2 rfl (mc_one _) ?_) | fail)
    refine bodyPost_ret (results_one_cell rfl _ _ _ _ rfl (run_loadVar_row _ _ _ _ _ (0, 0) _ (H.out.2.2.1.row (mc a)) Try.underlying24 rfl info2)) rfl ?_
    exact ⟨ret_mc HV.out.symm, below_row H.out.2.2.2 (by omega) _⟩
  have q1 : (y1 == 0) = false := by simp [z1]
  by_cases z2 : 1099511627776 ≤ y0
  · have q2 : y0 ≥ 1099511627776 := z2
    have HV : Hid (r = (y0, 0)) := Lib.hid (by rw [HL.out, if_neg (by omega), if_pos z2])
    clear z1 z2
    go_wp2_with (first | ((with_reducible show wpList _ _ _ ((⟨_, Op.build 24 _, _, _, _, _⟩ : Oper) :: _) _ _); refine wpList_built rfl _ rfl [(0, .int .i64 y0)] rfl (mc (y0, 0)).toList (built_m y0) ?_) | ((with_reducible show wpList _ _ _ ((⟨_, Op.store 24 (.tmp 4) _, _, _, _, _⟩ : Oper) :: _) _ _); refine wpList_store_row rfl 24 (.tmp 4) (.tmp 21) rfl (w.heap.size + 1 + 1) (mc (y0, 0)) rfl rfl 24 (mc nought) H.out.2.2.1 info2 rfl (mc_one _) ?_) | fail)
    refine bodyPost_ret (results_one_cell rfl _ _ _ _ rfl (run_loadVar_row _ _ _ _ _ (0, 0) _ (H.out.2.2.1.row (mc (y0, 0))) Try.underlying24 rfl info2)) rfl ?_
    exact ⟨ret_mc HV.out.symm, below_row H.out.2.2.2 (by omega) _⟩
  · have q2 : ¬ (y0 ≥ 1099511627776) := z2
    have HV : Hid (r = (y0 + 1, 0)) := Lib.hid (by rw [HL.out, if_neg (by omega), if_neg z2])
    have hwr : IntKind.i64.wrap (y0 + 1) = y0 + 1 := by rw [IntKind.wrap_i64]; have := HI.out; omega
    clear z1 z2
    go_wp2_with (first | ((with_reducible show wpList _ _ _ ((⟨_, Op.build 24 _, _, _, _, _⟩ : Oper) :: _) _ _); refine wpList_built rfl _ rfl [(0, .int .i64 (y0 + 1))] rfl (mc (y0 + 1, 0)).toList (built_m (y0 + 1)) ?_) | ((with_reducible show wpList _ _ _ ((⟨_, Op.store 24 (.tmp 4) _, _, _, _, _⟩ : Oper) :: _) _ _); refine wpList_store_row rfl 24 (.tmp 4) (.tmp 25) rfl (w.heap.size + 1 + 1) (mc (y0 + 1, 0)) rfl rfl 24 (mc nought) H.out.2.2.1 info2 rfl (mc_one _) ?_) | fail)
    refine bodyPost_ret (results_one_cell rfl _ _ _ _ rfl (run_loadVar_row _ _ _ _ _ (0, 0) _ (H.out.2.2.1.row (mc (y0 + 1, 0))) Try.underlying24 rfl info2)) rfl ?_
    exact ⟨ret_mc HV.out.symm, below_row H.out.2.2.2 (by omega) _⟩
set_option maxHeartbeats 2000000 in
theorem rsuspect_any (a : M) (w : World) : Calls Try.prog 18 #[.agg (mc a)] w fun e w' => e = .returned (.agg (mc (suspect a))) ∧ Below w.heap.size w w' := by
  obtain ⟨w1, hw1, hA, hZ, hb2⟩ := one_box a w
  have HW := Lib.hid hw1
  have H := Lib.hid (And.intro hA (And.intro hZ hb2))
  have a1 := hA.c1
  have f1 := hA.f1
  clear hw1 hA hZ hb2
  obtain ⟨r, hr⟩ : ∃ r, suspect a = r := ⟨_, rfl⟩
  rw [hr]
  have HR := Lib.hid hr
  clear hr
  obtain ⟨x1, hx1⟩ : ∃ x, a.2 = x := ⟨_, rfl⟩
  have HL : Hid (r = if x1 = 0 then (a.1, 1) else a) := Lib.hid (by rw [← hx1, ← HR.out]; rfl)
  rw [hx1] at a1
  clear hx1 HR
  go_enter Try.func18, Try.ntmps18
  go_upto_region 1 with fail
  rw [show #[Value.int .i64 0, Value.int .i64 0] = mc nought from rfl, HW.out]
  by_cases z : x1 = 0
  · have q1 : (x1 == 0) = true := by simp [z]
    have HV : Hid (r = (a.1, 1)) := Lib.hid (by rw [HL.out, if_pos z])
    have hs2 : Bx (w1.setCell ⟨w.heap.size, 1, none⟩ (.int .i64 1)) w.heap.size (a.1, 1) := H.out.1.set 1 (.int .i64 1)
    have hz2 : Bx (w1.setCell ⟨w.heap.size, 1, none⟩ (.int .i64 1)) (w.heap.size + 1) nought := H.out.2.1.far (p := ⟨w.heap.size, 1, none⟩) (by show w.heap.size + 1 ≠ w.heap.size; omega) _
    have hb2 := H.out.2.2.setCell (p := ⟨w.heap.size, 1, none⟩) (Nat.le_refl w.heap.size) (.int .i64 1)
    have H2 := Lib.hid (And.intro hs2 (And.intro hz2 hb2))
    clear z hs2 hz2 hb2
    go_wp2_with (first | ((with_reducible show wpList _ _ _ ((⟨_, Op.load 24 (.tmp 1), _, _, _, _⟩ : Oper) :: _) _ _); refine wpList_load_row rfl 24 (.tmp 1) rfl w.heap.size rfl 24 (mc (a.1, 1)) (0, 0) _ H2.out.1 Try.underlying24 rfl info2 ?_) | ((with_reducible show wpList _ _ _ ((⟨_, Op.store 24 (.tmp 2) _, _, _, _, _⟩ : Oper) :: _) _ _); refine wpList_store_row rfl 24 (.tmp 2) (.tmp 7) rfl (w.heap.size + 1) (mc (a.1, 1)) rfl rfl 24 (mc nought) H2.out.2.1 info2 rfl (mc_one _) ?_) | fail)
    refine bodyPost_ret (results_one_cell rfl _ _ _ _ rfl (run_loadVar_row _ _ _ _ _ (0, 0) _ (H2.out.2.1.row (mc (a.1, 1))) Try.underlying24 rfl info2)) rfl ?_
    exact ⟨ret_mc HV.out.symm, below_row H2.out.2.2 (by omega) _⟩
  · have q1 : (x1 == 0) = false := by simp [z]
    have HV : Hid (r = a) := Lib.hid (by rw [HL.out, if_neg z])
    clear z
    go_wp2_with (first | ((with_reducible show wpList _ _ _ ((⟨_, Op.load 24 (.tmp 1), _, _, _, _⟩ : Oper) :: _) _ _); refine wpList_load_row rfl 24 (.tmp 1) rfl w.heap.size rfl 24 (mc a) (0, 0) _ H.out.1 Try.underlying24 rfl info2 ?_) | ((with_reducible show wpList _ _ _ ((⟨_, Op.store 24 (.tmp 2) _, _, _, _, _⟩ : Oper) :: _) _ _); refine wpList_store_row rfl 24 (.tmp 2) (.tmp 7) rfl (w.heap.size + 1) (mc a) rfl rfl 24 (mc nought) H.out.2.1 info2 rfl (mc_one _) ?_) | fail)
    refine bodyPost_ret (results_one_cell rfl _ _ _ _ rfl (run_loadVar_row _ _ _ _ _ (0, 0) _ (H.out.2.1.row (mc a)) Try.underlying24 rfl info2)) rfl ?_
    exact ⟨ret_mc HV.out.symm, below_row H.out.2.2 (by omega) _⟩
set_option maxHeartbeats 2000000 in
theorem rbury_any (a : M) (w : World) : Calls Try.prog 20 #[.agg (mc a)] w fun e w' => e = .returned (.agg (mc (bury a))) ∧ Below w.heap.size w w' := by
  obtain ⟨w1, hw1, hA, hZ, hb2⟩ := one_box a w
  have HW := Lib.hid hw1
  have H := Lib.hid (And.intro hA (And.intro hZ hb2))
  have a1 := hA.c1
  have f1 := hA.f1
  clear hw1 hA hZ hb2
  obtain ⟨r, hr⟩ : ∃ r, bury a = r := ⟨_, rfl⟩
  rw [hr]
  have HR := Lib.hid hr
  clear hr
  obtain ⟨x1, hx1⟩ : ∃ x, a.2 = x := ⟨_, rfl⟩
  have HL : Hid (r = if x1 = 1 then (a.1, 2) else a) := Lib.hid (by rw [← hx1, ← HR.out]; rfl)
  rw [hx1] at a1
  clear hx1 HR
  go_enter Try.func20, Try.ntmps20
  go_upto_region 1 with fail
  rw [show #[Value.int .i64 0, Value.int .i64 0] = mc nought from rfl, HW.out]
  by_cases z : x1 = 1
  · have q1 : (x1 == 1) = true := by simp [z]
    have HV : Hid (r = (a.1, 2)) := Lib.hid (by rw [HL.out, if_pos z])
    have hs2 : Bx (w1.setCell ⟨w.heap.size, 1, none⟩ (.int .i64 2)) w.heap.size (a.1, 2) := H.out.1.set 1 (.int .i64 2)
    have hz2 : Bx (w1.setCell ⟨w.heap.size, 1, none⟩ (.int .i64 2)) (w.heap.size + 1) nought := H.out.2.1.far (p := ⟨w.heap.size, 1, none⟩) (by show w.heap.size + 1 ≠ w.heap.size; omega) _
    have hb2 := H.out.2.2.setCell (p := ⟨w.heap.size, 1, none⟩) (Nat.le_refl w.heap.size) (.int .i64 2)
    have H2 := Lib.hid (And.intro hs2 (And.intro hz2 hb2))
    clear z hs2 hz2 hb2
    go_wp2_with (first | ((with_reducible show wpList _ _ _ ((⟨_, Op.load 24 (.tmp 1), _, _, _, _⟩ : Oper) :: _) _ _); refine wpList_load_row rfl 24 (.tmp 1) rfl w.heap.size rfl 24 (mc (a.1, 2)) (0, 0) _ H2.out.1 Try.underlying24 rfl info2 ?_) | ((with_reducible show wpList _ _ _ ((⟨_, Op.store 24 (.tmp 2) _, _, _, _, _⟩ : Oper) :: _) _ _); refine wpList_store_row rfl 24 (.tmp 2) (.tmp 7) rfl (w.heap.size + 1) (mc (a.1, 2)) rfl rfl 24 (mc nought) H2.out.2.1 info2 rfl (mc_one _) ?_) | fail)
    refine bodyPost_ret (results_one_cell rfl _ _ _ _ rfl (run_loadVar_row _ _ _ _ _ (0, 0) _ (H2.out.2.1.row (mc (a.1, 2))) Try.underlying24 rfl info2)) rfl ?_
    exact ⟨ret_mc HV.out.symm, below_row H2.out.2.2 (by omega) _⟩
  · have q1 : (x1 == 1) = false := by simp [z]
    have HV : Hid (r = a) := Lib.hid (by rw [HL.out, if_neg z])
    clear z
    go_wp2_with (first | ((with_reducible show wpList _ _ _ ((⟨_, Op.load 24 (.tmp 1), _, _, _, _⟩ : Oper) :: _) _ _); refine wpList_load_row rfl 24 (.tmp 1) rfl w.heap.size rfl 24 (mc a) (0, 0) _ H.out.1 Try.underlying24 rfl info2 ?_) | ((with_reducible show wpList _ _ _ ((⟨_, Op.store 24 (.tmp 2) _, _, _, _, _⟩ : Oper) :: _) _ _); refine wpList_store_row rfl 24 (.tmp 2) (.tmp 7) rfl (w.heap.size + 1) (mc a) rfl rfl 24 (mc nought) H.out.2.1 info2 rfl (mc_one _) ?_) | fail)
    refine bodyPost_ret (results_one_cell rfl _ _ _ _ rfl (run_loadVar_row _ _ _ _ _ (0, 0) _ (H.out.2.1.row (mc a)) Try.underlying24 rfl info2)) rfl ?_
    exact ⟨ret_mc HV.out.symm, below_row H.out.2.2 (by omega) _⟩
set_option maxHeartbeats 2000000 in
theorem rcheck_any (a : M) (w : World) : Calls Try.prog 12 #[.agg (mc a)] w fun e w' => e = .returned (.int .i64 (chk a)) ∧ Below w.heap.size w w' := by
  have hA : Bx (w.alloc (.cells (mc a) 24)) w.heap.size a := Whole.new w 24 (mc a)
  have HB := Lib.hid (below_alloc w (.cells (mc a) 24))
  have a0 := hA.c0
  have a1 := hA.c1
  clear hA
  obtain ⟨r, hr⟩ : ∃ r, chk a = r := ⟨_, rfl⟩
  rw [hr]
  have HR := Lib.hid hr
  clear hr
  obtain ⟨x0, hx0⟩ : ∃ x, a.1 = x := ⟨_, rfl⟩
  obtain ⟨x1, hx1⟩ : ∃ x, a.2 = x := ⟨_, rfl⟩
  have HL : Hid (r = if x0 < 0 ∨ 1099511627776 < x0 ∨ x1 < 0 ∨ 2 < x1 then 1 else 0) := Lib.hid (by rw [← hx0, ← hx1, ← HR.out]; rfl)
  rw [hx0] at a0
  rw [hx1] at a1
  clear hx0 hx1 HR
  generalize hw1 : w.alloc (.cells (mc a) 24) = w1 at *
  by_cases z0 : x0 < 0
  · have HV : Hid (r = 1) := Lib.hid (by rw [HL.out, if_pos (by omega)])
    go_enter Try.func12, Try.ntmps12
    go_wp2
    go_ret
    exact ⟨ret_i64 HV.out.symm, HB.out⟩
  by_cases z1 : x0 > 1099511627776
  · have HV : Hid (r = 1) := Lib.hid (by rw [HL.out, if_pos (by omega)])
    go_enter Try.func12, Try.ntmps12
    go_wp2
    go_ret
    exact ⟨ret_i64 HV.out.symm, HB.out⟩
  by_cases z2 : x1 < 0
  · have HV : Hid (r = 1) := Lib.hid (by rw [HL.out, if_pos (by omega)])
    go_enter Try.func12, Try.ntmps12
    go_wp2
    go_ret
    exact ⟨ret_i64 HV.out.symm, HB.out⟩
  by_cases z3 : x1 > 2
  · have HV : Hid (r = 1) := Lib.hid (by rw [HL.out, if_pos (by omega)])
    go_enter Try.func12, Try.ntmps12
    go_wp2
    go_ret
    exact ⟨ret_i64 HV.out.symm, HB.out⟩
  · have HV : Hid (r = 0) := Lib.hid (by rw [HL.out, if_neg (by omega)])
    go_enter Try.func12, Try.ntmps12
    go_wp2
    go_ret
    exact ⟨ret_i64 HV.out.symm, HB.out⟩
end Go.Proofs.Ytlcpiompmpccoaa
