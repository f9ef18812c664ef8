/-
  The walks of the package's Check, Join, Suspect, Bury and Speak of members.
-/
import Derived.Test.YtlcpiompmpccoaaCg
namespace Go.Proofs.Ytlcpiompmpccoaa
open Go.RowKit Go.Great
set_option linter.unusedVariables false
set_option linter.unusedSimpArgs false
set_option maxRecDepth 20000
open Mb
theorem yields_cmpM' {ops : Array Oper} {S : World → Prop} {o : Oper} {a : Act} (hw : Region.wanted o (yielded ops a.tmps) = true) (x y : Operand) (ty : TypeId) (ho : o.op = .binOp .eql 24 x y ty)
    (m k : M) (hx : a.eval x = .agg (mc m)) (hy : a.eval y = .agg (mc k)) {b : Bool} (h : decide (m = k) = b) : YieldsIf Try.prog ops S o (.bool b) a := by
  refine Or.inl ⟨hw, fun w _ => ?_⟩
  unfold execOp
  simp only [ho, hx, hy, Sem.run_bind, guard_m, eqM, h, Result.andThen_ok]
  rfl
theorem built_a (x : Int) : Try.prog.built 24 [(0, .int .i64 x), (1, .int .i64 0)] = some (mc (x, 0)) := by kernel_rfl
set_option maxHeartbeats 2000000 in
theorem check_any (a : M) (w : World) : Calls Try.prog 11 #[.agg (mc a)] w fun e w' => e = .returned (.int .i64 (chk a)) ∧ Below w.heap.size w w' := by
  have hA : Bx (w.alloc (.cells (mc a) 24)) w.heap.size a := Whole.new w 24 (mc a)
  have HB := Lib.hid (below_alloc w (.cells (mc a) 24))
  have a0 := hA.c0
  have a1 := hA.c1
  clear hA
  obtain ⟨r, hr⟩ : ∃ r, chk a = r := ⟨_, rfl⟩
  rw [hr]
  obtain ⟨x0, hx0⟩ : ∃ x, a.1 = x := ⟨_, rfl⟩
  obtain ⟨x1, hx1⟩ : ∃ x, a.2 = x := ⟨_, rfl⟩
  have HL : Hid (r = if x0 < 0 ∨ 1099511627776 < x0 ∨ x1 < 0 ∨ 2 < x1 then 1 else 0) := Lib.hid (by rw [← hx0, ← hx1, ← hr]; rfl)
  rw [hx0] at a0
  rw [hx1] at a1
  clear hx0 hx1 hr
  go_enter Try.func11, Try.ntmps11
  by_cases z0 : x0 < 0
  · have HV : Hid (r = 1) := Lib.hid (by rw [HL.out, if_pos (Or.inl z0)])
    go_wp2
    go_ret
    exact ⟨ret_i64 HV.out.symm, HB.out⟩
  by_cases z1 : x0 > 1099511627776
  · have HV : Hid (r = 1) := Lib.hid (by rw [HL.out, if_pos (Or.inr (Or.inl z1))])
    go_wp2
    go_ret
    exact ⟨ret_i64 HV.out.symm, HB.out⟩
  by_cases z2 : x1 < 0
  · have HV : Hid (r = 1) := Lib.hid (by rw [HL.out, if_pos (Or.inr (Or.inr (Or.inl z2)))])
    go_wp2
    go_ret
    exact ⟨ret_i64 HV.out.symm, HB.out⟩
  by_cases z3 : x1 > 2
  · have HV : Hid (r = 1) := Lib.hid (by rw [HL.out, if_pos (Or.inr (Or.inr (Or.inr z3)))])
    go_wp2
    go_ret
    exact ⟨ret_i64 HV.out.symm, HB.out⟩
  · have HV : Hid (r = 0) := Lib.hid (by rw [HL.out, if_neg (by omega)])
    go_wp2
    go_ret
    exact ⟨ret_i64 HV.out.symm, HB.out⟩
set_option maxHeartbeats 2000000 in
theorem join_any (a b : M) (w : World) : Calls Try.prog 13 #[.agg (mc a), .agg (mc b)] w fun e w' => e = .returned (.agg (mc (join a b))) ∧ Below w.heap.size w w' := by
  obtain ⟨w1, hw1, hA, hB, hZ, hb3⟩ := two_boxes a b w
  have HW := Lib.hid hw1
  have H := Lib.hid (And.intro hA (And.intro hB (And.intro hZ hb3)))
  have a0 := hA.c0
  have a1 := hA.c1
  have b0 := hB.c0
  have b1 := hB.c1
  clear hw1 hA hB hZ hb3
  obtain ⟨r, hr⟩ : ∃ r, join a b = r := ⟨_, rfl⟩
  rw [hr]
  have HR := Lib.hid hr
  clear hr
  obtain ⟨x0, hx0⟩ : ∃ x, a.1 = x := ⟨_, rfl⟩
  obtain ⟨x1, hx1⟩ : ∃ x, a.2 = x := ⟨_, rfl⟩
  obtain ⟨y0, hy0⟩ : ∃ x, b.1 = x := ⟨_, rfl⟩
  obtain ⟨y1, hy1⟩ : ∃ x, b.2 = x := ⟨_, rfl⟩
  have HE : Hid (x0 = y0 → x1 = y1 → a = b) := Lib.hid (fun e1 e2 => Prod.ext (by rw [hx0, hy0]; exact e1) (by rw [hx1, hy1]; exact e2))
  have HL : Hid (r = if x0 < y0 ∨ (x0 = y0 ∧ x1 < y1) then b else a) := Lib.hid (by rw [← hx0, ← hx1, ← hy0, ← hy1, ← HR.out]; rfl)
  rw [hx0] at a0
  rw [hx1] at a1
  rw [hy0] at b0
  rw [hy1] at b1
  clear hx0 hx1 hy0 hy1 HR
  go_enter Try.func13, Try.ntmps13
  go_upto_region 1 with fail
  rw [show #[Value.int .i64 0, Value.int .i64 0] = mc nought from rfl, HW.out]
  by_cases z : x0 > y0
  · have HV : Hid (r = a) := Lib.hid (by rw [HL.out, if_neg (by omega)])
    go_wp2_with (first | ((with_reducible show wpList _ _ _ ((⟨_, Op.load 24 (.tmp 2), _, _, _, _⟩ : Oper) :: _) _ _); refine wpList_load_row rfl 24 (.tmp 2) rfl w.heap.size rfl 24 (mc a) (0, 0) _ H.out.1 Try.underlying24 rfl info2 ?_) | ((with_reducible show wpList _ _ _ ((⟨_, Op.store 24 (.tmp 4) _, _, _, _, _⟩ : Oper) :: _) _ _); refine wpList_store_row rfl 24 (.tmp 4) (.tmp 24) rfl (w.heap.size + 1 + 1) (mc a) rfl rfl 24 (mc nought) H.out.2.2.1 info2 rfl (mc_one _) ?_) | fail)
    refine bodyPost_ret (results_one_cell rfl _ _ _ _ rfl (run_loadVar_row _ _ _ _ _ (0, 0) _ (H.out.2.2.1.row (mc a)) Try.underlying24 rfl info2)) rfl ?_
    exact ⟨ret_mc HV.out.symm, below_row H.out.2.2.2 (by omega) _⟩
  by_cases z1 : x0 = y0
  · have q1 : (x0 == y0) = true := by simp [z1]
    by_cases z2 : x1 > y1
    · have HV : Hid (r = a) := Lib.hid (by rw [HL.out, if_neg (by omega)])
      clear z1
      go_wp2_with (first | ((with_reducible show wpList _ _ _ ((⟨_, Op.load 24 (.tmp 2), _, _, _, _⟩ : Oper) :: _) _ _); refine wpList_load_row rfl 24 (.tmp 2) rfl w.heap.size rfl 24 (mc a) (0, 0) _ H.out.1 Try.underlying24 rfl info2 ?_) | ((with_reducible show wpList _ _ _ ((⟨_, Op.store 24 (.tmp 4) _, _, _, _, _⟩ : Oper) :: _) _ _); refine wpList_store_row rfl 24 (.tmp 4) (.tmp 24) rfl (w.heap.size + 1 + 1) (mc a) rfl rfl 24 (mc nought) H.out.2.2.1 info2 rfl (mc_one _) ?_) | fail)
      refine bodyPost_ret (results_one_cell rfl _ _ _ _ rfl (run_loadVar_row _ _ _ _ _ (0, 0) _ (H.out.2.2.1.row (mc a)) Try.underlying24 rfl info2)) rfl ?_
      exact ⟨ret_mc HV.out.symm, below_row H.out.2.2.2 (by omega) _⟩
    · have HV : Hid (r = b) := Lib.hid (by
        rw [HL.out]
        by_cases z3 : x1 = y1
        · rw [HE.out z1 z3]; split <;> rfl
        · rw [if_pos (Or.inr ⟨z1, by omega⟩)])
      clear z1
      go_wp2_with (first | ((with_reducible show wpList _ _ _ ((⟨_, Op.load 24 (.tmp 3), _, _, _, _⟩ : Oper) :: _) _ _); refine wpList_load_row rfl 24 (.tmp 3) rfl (w.heap.size + 1) rfl 24 (mc b) (0, 0) _ H.out.2.1 Try.underlying24 rfl info2 ?_) | ((with_reducible show wpList _ _ _ ((⟨_, Op.store 24 (.tmp 4) _, _, _, _, _⟩ : Oper) :: _) _ _); refine wpList_store_row rfl 24 (.tmp 4) (.tmp 25) rfl (w.heap.size + 1 + 1) (mc b) rfl rfl 24 (mc nought) H.out.2.2.1 info2 rfl (mc_one _) ?_) | fail)
      refine bodyPost_ret (results_one_cell rfl _ _ _ _ rfl (run_loadVar_row _ _ _ _ _ (0, 0) _ (H.out.2.2.1.row (mc b)) Try.underlying24 rfl info2)) rfl ?_
      exact ⟨ret_mc HV.out.symm, below_row H.out.2.2.2 (by omega) _⟩
  · have q1 : (x0 == y0) = false := by simp [z1]
    have HV : Hid (r = b) := Lib.hid (by rw [HL.out, if_pos (by omega)])
    clear z1
    go_wp2_with (first | ((with_reducible show wpList _ _ _ ((⟨_, Op.load 24 (.tmp 3), _, _, _, _⟩ : Oper) :: _) _ _); refine wpList_load_row rfl 24 (.tmp 3) rfl (w.heap.size + 1) rfl 24 (mc b) (0, 0) _ H.out.2.1 Try.underlying24 rfl info2 ?_) | ((with_reducible show wpList _ _ _ ((⟨_, Op.store 24 (.tmp 4) _, _, _, _, _⟩ : Oper) :: _) _ _); refine wpList_store_row rfl 24 (.tmp 4) (.tmp 25) rfl (w.heap.size + 1 + 1) (mc b) rfl rfl 24 (mc nought) H.out.2.2.1 info2 rfl (mc_one _) ?_) | fail)
    refine bodyPost_ret (results_one_cell rfl _ _ _ _ rfl (run_loadVar_row _ _ _ _ _ (0, 0) _ (H.out.2.2.1.row (mc b)) Try.underlying24 rfl info2)) rfl ?_
    exact ⟨ret_mc HV.out.symm, below_row H.out.2.2.2 (by omega) _⟩
set_option maxHeartbeats 2000000 in
theorem alive_any (x : Int) (w : World) : Calls Try.prog 24 #[.int .i64 x] w fun e w' => e = .returned (.agg (mc (x, 0))) ∧ Below w.heap.size w w' := by
  have hZ : Bx (w.alloc (.cells (mc nought) 24)) w.heap.size nought := Whole.new w 24 (mc nought)
  have H := Lib.hid (And.intro hZ (below_alloc w (.cells (mc nought) 24)))
  clear hZ
  go_enter Try.func24, Try.ntmps24
  go_upto_region 1 with fail
  rw [show #[Value.int .i64 0, Value.int .i64 0] = mc nought from rfl]
  go_wp2_with (first | ((with_reducible show wpList _ _ _ ((⟨_, Op.build 24 _, _, _, _, _⟩ : Oper) :: _) _ _); refine wpList_built rfl _ rfl [(0, .int .i64 x), (1, .int .i64 0)] rfl (mc (x, 0)).toList (built_a x) ?_) | ((with_reducible show wpList _ _ _ ((⟨_, Op.store 24 (.tmp 2) _, _, _, _, _⟩ : Oper) :: _) _ _); refine wpList_store_row rfl 24 (.tmp 2) (.tmp 4) rfl w.heap.size (mc (x, 0)) rfl rfl 24 (mc nought) H.out.1 info2 rfl (mc_one _) ?_) | fail)
  refine bodyPost_ret (results_one_cell rfl _ _ _ _ rfl (run_loadVar_row _ _ _ _ _ (0, 0) _ (H.out.1.row (mc (x, 0))) Try.underlying24 rfl info2)) rfl ?_
  exact ⟨rfl, below_row H.out.2 (by omega) _⟩
set_option maxHeartbeats 2000000 in
theorem bury_any (a : M) (w : World) : Calls Try.prog 19 #[.agg (mc a)] w fun e w' => e = .returned (.agg (mc (bury a))) ∧ Below w.heap.size w w' := by
  obtain ⟨w1, hw1, hA, hZ, hb2⟩ := one_box a w
  have HW := Lib.hid hw1
  have H := Lib.hid (And.intro hA (And.intro hZ hb2))
  have a1 := hA.c1
  have f1 := hA.f1
  clear hw1 hA hZ hb2
  obtain ⟨r, hr⟩ : ∃ r, bury a = r := ⟨_, rfl⟩
  rw [hr]
  have HR := Lib.hid hr
  clear hr
  obtain ⟨x1, hx1⟩ : ∃ x, a.2 = x := ⟨_, rfl⟩
  have HL : Hid (r = if x1 = 1 then (a.1, 2) else a) := Lib.hid (by rw [← hx1, ← HR.out]; rfl)
  rw [hx1] at a1
  clear hx1 HR
  go_enter Try.func19, Try.ntmps19
  go_upto_region 1 with fail
  rw [show #[Value.int .i64 0, Value.int .i64 0] = mc nought from rfl, HW.out]
  by_cases z : x1 = 1
  · have q1 : (x1 == 1) = true := by simp [z]
    have HV : Hid (r = (a.1, 2)) := Lib.hid (by rw [HL.out, if_pos z])
    have hs2 : Bx (w1.setCell ⟨w.heap.size, 1, none⟩ (.int .i64 2)) w.heap.size (a.1, 2) := H.out.1.set 1 (.int .i64 2)
    have hz2 : Bx (w1.setCell ⟨w.heap.size, 1, none⟩ (.int .i64 2)) (w.heap.size + 1) nought := H.out.2.1.far (p := ⟨w.heap.size, 1, none⟩) (by show w.heap.size + 1 ≠ w.heap.size; omega) _
    have hb2 := H.out.2.2.setCell (p := ⟨w.heap.size, 1, none⟩) (Nat.le_refl w.heap.size) (.int .i64 2)
    have H2 := Lib.hid (And.intro hs2 (And.intro hz2 hb2))
    clear z hs2 hz2 hb2
    go_wp2_with (first | ((with_reducible show wpList _ _ _ ((⟨_, Op.load 24 (.tmp 1), _, _, _, _⟩ : Oper) :: _) _ _); refine wpList_load_row rfl 24 (.tmp 1) rfl w.heap.size rfl 24 (mc (a.1, 2)) (0, 0) _ H2.out.1 Try.underlying24 rfl info2 ?_) | ((with_reducible show wpList _ _ _ ((⟨_, Op.store 24 (.tmp 2) _, _, _, _, _⟩ : Oper) :: _) _ _); refine wpList_store_row rfl 24 (.tmp 2) (.tmp 7) rfl (w.heap.size + 1) (mc (a.1, 2)) rfl rfl 24 (mc nought) H2.out.2.1 info2 rfl (mc_one _) ?_) | fail)
    refine bodyPost_ret (results_one_cell rfl _ _ _ _ rfl (run_loadVar_row _ _ _ _ _ (0, 0) _ (H2.out.2.1.row (mc (a.1, 2))) Try.underlying24 rfl info2)) rfl ?_
    exact ⟨ret_mc HV.out.symm, below_row H2.out.2.2 (by omega) _⟩
  · have q1 : (x1 == 1) = false := by simp [z]
    have HV : Hid (r = a) := Lib.hid (by rw [HL.out, if_neg z])
    clear z
    go_wp2_with (first | ((with_reducible show wpList _ _ _ ((⟨_, Op.load 24 (.tmp 1), _, _, _, _⟩ : Oper) :: _) _ _); refine wpList_load_row rfl 24 (.tmp 1) rfl w.heap.size rfl 24 (mc a) (0, 0) _ H.out.1 Try.underlying24 rfl info2 ?_) | ((with_reducible show wpList _ _ _ ((⟨_, Op.store 24 (.tmp 2) _, _, _, _, _⟩ : Oper) :: _) _ _); refine wpList_store_row rfl 24 (.tmp 2) (.tmp 7) rfl (w.heap.size + 1) (mc a) rfl rfl 24 (mc nought) H.out.2.1 info2 rfl (mc_one _) ?_) | fail)
    refine bodyPost_ret (results_one_cell rfl _ _ _ _ rfl (run_loadVar_row _ _ _ _ _ (0, 0) _ (H.out.2.1.row (mc a)) Try.underlying24 rfl info2)) rfl ?_
    exact ⟨ret_mc HV.out.symm, below_row H.out.2.2 (by omega) _⟩
set_option maxHeartbeats 2000000 in
theorem suspect_any (a : M) (w : World) : Calls Try.prog 17 #[.agg (mc a)] w fun e w' => e = .returned (.agg (mc (suspect a))) ∧ Below w.heap.size w w' := by
  obtain ⟨w1, hw1, hA, hZ, hb2⟩ := one_box a w
  have HW := Lib.hid hw1
  have H := Lib.hid (And.intro hA (And.intro hZ hb2))
  clear hw1 hA hZ hb2
  obtain ⟨r, hr⟩ : ∃ r, suspect a = r := ⟨_, rfl⟩
  rw [hr]
  have HR := Lib.hid hr
  clear hr
  obtain ⟨x0, hx0⟩ : ∃ x, a.1 = x := ⟨_, rfl⟩
  obtain ⟨x1, hx1⟩ : ∃ x, a.2 = x := ⟨_, rfl⟩
  have HL : Hid (r = if x1 = 0 then (x0, 1) else a) := Lib.hid (by rw [← hx0, ← hx1, ← HR.out]; rfl)
  obtain ⟨t, ht⟩ : ∃ t, decide (a = (x0, 0)) = t := ⟨_, rfl⟩
  have HT : Hid (decide (a = (x0, 0)) = t ∧ (t = true ↔ x1 = 0)) := Lib.hid ⟨ht, by
    rw [← ht, decide_eq_true_iff]
    constructor
    · intro e; rw [← hx1, e]
    · intro e; exact Prod.ext hx0 (by rw [hx1]; exact e)⟩
  have HX0 := Lib.hid hx0
  have hHeld0 : Bx w1.drew w.heap.size a ∧ w1.drew.cell? ⟨w.heap.size, 0, none⟩ = some (.int .i64 x0) := ⟨H.out.1, by rw [← hx0]; exact H.out.1.c0⟩
  clear hx0 hx1 HR ht
  go_enter Try.func17, Try.ntmps17
  go_upto_region 1 with fail
  rw [show #[Value.int .i64 0, Value.int .i64 0] = mc nought from rfl, HW.out]
  refine wp_region_held_drew (S := fun w' => Bx w' w.heap.size a ∧ w'.cell? ⟨w.heap.size, 0, none⟩ = some (.int .i64 x0)) (by kernel_rfl) hHeld0 (fun hHeld => ?_)
  refine wpAnyH_take (i := 0) (v := .agg (mc a)) rfl (by kernel_rfl) (by kernel_rfl) (by kernel_rfl) (fun _ _ _ h => h) (yields_bx (by rfl) _ rfl w.heap.size rfl a (fun wq hSw => hSw.1)) (by assumption) ?_
  try simp only [Act.put, List.getElem_toArray, List.getElem_cons_zero, List.getElem_cons_succ, List.setIfInBounds_toArray, List.set_cons_zero, List.set_cons_succ]
  refine wpAnyH_take (i := 1) (v := .pointer (some ⟨w.heap.size, 0, none⟩)) rfl (by kernel_rfl) (by kernel_rfl) (by kernel_rfl) (fun _ _ _ h => h) (Or.inl ⟨by rfl, (by intro w hSw; (try dsimp only at hSw); go_simp)⟩) (by assumption) ?_
  try simp only [Act.put, List.getElem_toArray, List.getElem_cons_zero, List.getElem_cons_succ, List.setIfInBounds_toArray, List.set_cons_zero, List.set_cons_succ]
  refine wpAnyH_take (i := 2) (v := .int .i64 x0) rfl (by kernel_rfl) (by kernel_rfl) (by kernel_rfl) (fun _ _ _ h => h) (Or.inl ⟨by rfl, (by intro w hSw; (try dsimp only at hSw); go_simp)⟩) (by assumption) ?_
  try simp only [Act.put, List.getElem_toArray, List.getElem_cons_zero, List.getElem_cons_succ, List.setIfInBounds_toArray, List.set_cons_zero, List.set_cons_succ]
  refine wpAnyH_ready (rs := [3]) (by kernel_rfl) (by simp) (AllReadyH.cons rfl (fun K hK => ?_) AllReadyH.nil)
  try simp only [List.getElem_toArray, List.getElem_cons_zero, List.getElem_cons_succ]
  go_simp
  refine (alive_any x0 _).mono ?_
  rintro e w2 ⟨rfl, hb⟩
  have hb' : Below w1.heap.size w1 w2 := below_drew hb
  have hA2 : Bx w2 w.heap.size a := H.out.1.below hb' H.out.1.lt
  have r2 : Bx w2 w.heap.size a ∧ w2.cell? ⟨w.heap.size, 0, none⟩ = some (.int .i64 x0) := ⟨hA2, by rw [← HX0.out]; exact hA2.c0⟩
  have H2 := Lib.hid (And.intro hA2 (And.intro (H.out.2.1.below hb' H.out.2.1.lt) (H.out.2.2.trans (hb'.mono H.out.2.2.size))))
  clear hb hb' hHeld hHeld0 H hA2
  go_wp2_with fail
  refine hK.out _ _ r2 (fun hHeld => ?_)
  clear hK K hHeld
  try simp only [Act.put, List.getElem_toArray, List.getElem_cons_zero, List.getElem_cons_succ, List.setIfInBounds_toArray, List.set_cons_zero, List.set_cons_succ]
  have hHeld := r2
  refine wpAnyH_take (i := 4) (v := .bool t) rfl (by kernel_rfl) (by kernel_rfl) (by kernel_rfl) (fun _ _ _ h => h) (yields_cmpM' (by rfl) _ _ _ rfl a (x0, 0) rfl rfl HT.out.1) (by assumption) ?_
  try simp only [Act.put, List.getElem_toArray, List.getElem_cons_zero, List.getElem_cons_succ, List.setIfInBounds_toArray, List.set_cons_zero, List.set_cons_succ]
  refine wpAnyH_done (by kernel_rfl) ?_ _
  clear hHeld r2
  cases t with
  | true =>
    have HV : Hid (r = (x0, 1)) := Lib.hid (by rw [HL.out, if_pos (HT.out.2.1 rfl)])
    have hs3 : Bx (w2.setCell ⟨w.heap.size, 1, none⟩ (.int .i64 1)) w.heap.size (x0, 1) := by
      have := H2.out.1.set 1 (.int .i64 1)
      rw [show (mc a).setIfInBounds 1 (.int .i64 1) = mc (x0, 1) by unfold mc; rw [HX0.out]; rfl] at this
      exact this
    have hz3 : Bx (w2.setCell ⟨w.heap.size, 1, none⟩ (.int .i64 1)) (w.heap.size + 1) nought := H2.out.2.1.far (p := ⟨w.heap.size, 1, none⟩) (by show w.heap.size + 1 ≠ w.heap.size; omega) _
    have hb3 := H2.out.2.2.setCell (p := ⟨w.heap.size, 1, none⟩) (Nat.le_refl w.heap.size) (.int .i64 1)
    have H3 := Lib.hid (And.intro hs3 (And.intro hz3 hb3))
    have a1 := H2.out.1.c1
    have f1 := H2.out.1.f1
    clear hs3 hz3 hb3
    go_wp2_with (first | ((with_reducible show wpList _ _ _ ((⟨_, Op.load 24 (.tmp 1), _, _, _, _⟩ : Oper) :: _) _ _); refine wpList_load_row rfl 24 (.tmp 1) rfl w.heap.size rfl 24 (mc (x0, 1)) (0, 0) _ H3.out.1 Try.underlying24 rfl info2 ?_) | ((with_reducible show wpList _ _ _ ((⟨_, Op.store 24 (.tmp 2) _, _, _, _, _⟩ : Oper) :: _) _ _); refine wpList_store_row rfl 24 (.tmp 2) (.tmp 9) rfl (w.heap.size + 1) (mc (x0, 1)) rfl rfl 24 (mc nought) H3.out.2.1 info2 rfl (mc_one _) ?_) | fail)
    refine bodyPost_ret (results_one_cell rfl _ _ _ _ rfl (run_loadVar_row _ _ _ _ _ (0, 0) _ (H3.out.2.1.row (mc (x0, 1))) Try.underlying24 rfl info2)) rfl ?_
    exact ⟨ret_mc HV.out.symm, below_row H3.out.2.2 (by omega) _⟩
  | false =>
    have HV : Hid (r = a) := Lib.hid (by rw [HL.out, if_neg (fun e => by have := HT.out.2.2 e; simp at this)])
    go_wp2_with (first | ((with_reducible show wpList _ _ _ ((⟨_, Op.load 24 (.tmp 1), _, _, _, _⟩ : Oper) :: _) _ _); refine wpList_load_row rfl 24 (.tmp 1) rfl w.heap.size rfl 24 (mc a) (0, 0) _ H2.out.1 Try.underlying24 rfl info2 ?_) | ((with_reducible show wpList _ _ _ ((⟨_, Op.store 24 (.tmp 2) _, _, _, _, _⟩ : Oper) :: _) _ _); refine wpList_store_row rfl 24 (.tmp 2) (.tmp 9) rfl (w.heap.size + 1) (mc a) rfl rfl 24 (mc nought) H2.out.2.1 info2 rfl (mc_one _) ?_) | fail)
    refine bodyPost_ret (results_one_cell rfl _ _ _ _ rfl (run_loadVar_row _ _ _ _ _ (0, 0) _ (H2.out.2.1.row (mc a)) Try.underlying24 rfl info2)) rfl ?_
    exact ⟨ret_mc HV.out.symm, below_row H2.out.2.2 (by omega) _⟩
set_option maxHeartbeats 4000000 in
theorem speak_any (a b : M) (hb : Min b) (w : World) : Calls Try.prog 15 #[.agg (mc a), .agg (mc b)] w fun e w' => e = .returned (.agg (mc (speak a b))) ∧ Below w.heap.size w w' := by
  obtain ⟨w1, hw1, hA, hB, hZ, hb3⟩ := two_boxes a b w
  have HW := Lib.hid hw1
  have H := Lib.hid (And.intro hA (And.intro hB (And.intro hZ hb3)))
  have a0 := hA.c0
  have b0 := hB.c0
  clear hw1 hA hB hZ hb3
  obtain ⟨r, hr⟩ : ∃ r, speak a b = r := ⟨_, rfl⟩
  rw [hr]
  have HR := Lib.hid hr
  clear hr
  obtain ⟨x0, hx0⟩ : ∃ x, a.1 = x := ⟨_, rfl⟩
  obtain ⟨y0, hy0⟩ : ∃ x, b.1 = x := ⟨_, rfl⟩
  obtain ⟨y1, hy1⟩ : ∃ x, b.2 = x := ⟨_, rfl⟩
  have HL : Hid (r = if y0 < x0 ∨ y1 = 0 then a else if 1099511627776 ≤ y0 then (y0, 0) else (y0 + 1, 0)) := Lib.hid (by rw [← hx0, ← hy0, ← hy1, ← HR.out]; rfl)
  have HI : Hid (-9223372036854775808 ≤ y0) := Lib.hid (by rw [← hy0]; exact hb.1.1)
  obtain ⟨t, ht⟩ : ∃ t, decide (b = (y0, 0)) = t := ⟨_, rfl⟩
  have HT : Hid (decide (b = (y0, 0)) = t ∧ (t = true ↔ y1 = 0)) := Lib.hid ⟨ht, by
    rw [← ht, decide_eq_true_iff]
    constructor
    · intro e; rw [← hy1, e]
    · intro e; exact Prod.ext hy0 (by rw [hy1]; exact e)⟩
  have HY0 := Lib.hid hy0
  rw [hx0] at a0
  rw [hy0] at b0
  clear hx0 hy0 hy1 HR hb ht
  go_enter Try.func15, Try.ntmps15
  go_upto_region 1 with fail
  rw [show #[Value.int .i64 0, Value.int .i64 0] = mc nought from rfl, HW.out]
  by_cases z : y0 < x0
  · have HV : Hid (r = a) := Lib.hid (by rw [HL.out, if_pos (Or.inl z)])
    go_wp2_with (first | ((with_reducible show wpList _ _ _ ((⟨_, Op.load 24 (.tmp 2), _, _, _, _⟩ : Oper) :: _) _ _); refine wpList_load_row rfl 24 (.tmp 2) rfl w.heap.size rfl 24 (mc a) (0, 0) _ H.out.1 Try.underlying24 rfl info2 ?_) | ((with_reducible show wpList _ _ _ ((⟨_, Op.store 24 (.tmp 4) _, _, _, _, _⟩ : Oper) :: _) _ _); refine wpList_store_row rfl 24 (.tmp 4) (.tmp 16) rfl (w.heap.size + 1 + 1) (mc a) rfl rfl 24 (mc nought) H.out.2.2.1 info2 rfl (mc_one _) ?_) | fail)
    refine bodyPost_ret (results_one_cell rfl _ _ _ _ rfl (run_loadVar_row _ _ _ _ _ (0, 0) _ (H.out.2.2.1.row (mc a)) Try.underlying24 rfl info2)) rfl ?_
    exact ⟨ret_mc HV.out.symm, below_row H.out.2.2.2 (by omega) _⟩
  go_upto_region 2 with fail
  have hHeld0 : Bx w1.drew (w.heap.size + 1) b ∧ w1.drew.cell? ⟨w.heap.size + 1, 0, none⟩ = some (.int .i64 y0) := ⟨H.out.2.1, by rw [← HY0.out]; exact H.out.2.1.c0⟩
  refine wp_region_held_drew (S := fun w' => Bx w' (w.heap.size + 1) b ∧ w'.cell? ⟨w.heap.size + 1, 0, none⟩ = some (.int .i64 y0)) (by kernel_rfl) hHeld0 (fun hHeld => ?_)
  clear a0 b0
  refine wpAnyH_take (i := 0) (v := .agg (mc b)) rfl (by kernel_rfl) (by kernel_rfl) (by kernel_rfl) (fun _ _ _ h => h) (yields_bx (by rfl) _ rfl (w.heap.size + 1) rfl b (fun wq hSw => hSw.1)) (by assumption) ?_
  try simp only [Act.put, List.getElem_toArray, List.getElem_cons_zero, List.getElem_cons_succ, List.setIfInBounds_toArray, List.set_cons_zero, List.set_cons_succ]
  refine wpAnyH_take (i := 1) (v := .pointer (some ⟨w.heap.size + 1, 0, none⟩)) rfl (by kernel_rfl) (by kernel_rfl) (by kernel_rfl) (fun _ _ _ h => h) (Or.inl ⟨by rfl, (by intro w hSw; (try dsimp only at hSw); go_simp)⟩) (by assumption) ?_
  try simp only [Act.put, List.getElem_toArray, List.getElem_cons_zero, List.getElem_cons_succ, List.setIfInBounds_toArray, List.set_cons_zero, List.set_cons_succ]
  refine wpAnyH_take (i := 2) (v := .int .i64 y0) rfl (by kernel_rfl) (by kernel_rfl) (by kernel_rfl) (fun _ _ _ h => h) (Or.inl ⟨by rfl, (by intro w hSw; (try dsimp only at hSw); go_simp)⟩) (by assumption) ?_
  try simp only [Act.put, List.getElem_toArray, List.getElem_cons_zero, List.getElem_cons_succ, List.setIfInBounds_toArray, List.set_cons_zero, List.set_cons_succ]
  refine wpAnyH_ready (rs := [3]) (by kernel_rfl) (by simp) (AllReadyH.cons rfl (fun K hK => ?_) AllReadyH.nil)
  try simp only [List.getElem_toArray, List.getElem_cons_zero, List.getElem_cons_succ]
  go_simp
  refine (alive_any y0 _).mono ?_
  rintro e w2 ⟨rfl, hb⟩
  have hb' : Below w1.heap.size w1 w2 := below_drew hb
  have hB2 : Bx w2 (w.heap.size + 1) b := H.out.2.1.below hb' H.out.2.1.lt
  have r2 : Bx w2 (w.heap.size + 1) b ∧ w2.cell? ⟨w.heap.size + 1, 0, none⟩ = some (.int .i64 y0) := ⟨hB2, by rw [← HY0.out]; exact hB2.c0⟩
  have H2 := Lib.hid (And.intro (H.out.1.below hb' H.out.1.lt) (And.intro hB2 (And.intro (H.out.2.2.1.below hb' H.out.2.2.1.lt) (H.out.2.2.2.trans (hb'.mono H.out.2.2.2.size)))))
  clear hb hb' hHeld hHeld0 H hB2
  go_wp2_with fail
  refine hK.out _ _ r2 (fun hHeld => ?_)
  clear hK K hHeld
  try simp only [Act.put, List.getElem_toArray, List.getElem_cons_zero, List.getElem_cons_succ, List.setIfInBounds_toArray, List.set_cons_zero, List.set_cons_succ]
  have hHeld := r2
  refine wpAnyH_take (i := 4) (v := .bool t) rfl (by kernel_rfl) (by kernel_rfl) (by kernel_rfl) (fun _ _ _ h => h) (yields_cmpM' (by rfl) _ _ _ rfl b (y0, 0) rfl rfl HT.out.1) (by assumption) ?_
  try simp only [Act.put, List.getElem_toArray, List.getElem_cons_zero, List.getElem_cons_succ, List.setIfInBounds_toArray, List.set_cons_zero, List.set_cons_succ]
  refine wpAnyH_take (i := 5) (v := .bool t) rfl (by kernel_rfl) (by kernel_rfl) (by kernel_rfl) (fun _ _ _ h => h) (Or.inl ⟨by rfl, (by intro w hSw; (try dsimp only at hSw); go_simp)⟩) (by assumption) ?_
  try simp only [Act.put, List.getElem_toArray, List.getElem_cons_zero, List.getElem_cons_succ, List.setIfInBounds_toArray, List.set_cons_zero, List.set_cons_succ]
  refine wpAnyH_done (by kernel_rfl) ?_ _
  have b0 := r2.2
  clear hHeld r2
  cases t with
  | true =>
    have HV : Hid (r = a) := Lib.hid (by rw [HL.out, if_pos (Or.inr (HT.out.2.1 rfl))])
    go_wp2_with (first | ((with_reducible show wpList _ _ _ ((⟨_, Op.load 24 (.tmp 2), _, _, _, _⟩ : Oper) :: _) _ _); refine wpList_load_row rfl 24 (.tmp 2) rfl w.heap.size rfl 24 (mc a) (0, 0) _ H2.out.1 Try.underlying24 rfl info2 ?_) | ((with_reducible show wpList _ _ _ ((⟨_, Op.store 24 (.tmp 4) _, _, _, _, _⟩ : Oper) :: _) _ _); refine wpList_store_row rfl 24 (.tmp 4) (.tmp 16) rfl (w.heap.size + 1 + 1) (mc a) rfl rfl 24 (mc nought) H2.out.2.2.1 info2 rfl (mc_one _) ?_) | fail)
    refine bodyPost_ret (results_one_cell rfl _ _ _ _ rfl (run_loadVar_row _ _ _ _ _ (0, 0) _ (H2.out.2.2.1.row (mc a)) Try.underlying24 rfl info2)) rfl ?_
    exact ⟨ret_mc HV.out.symm, below_row H2.out.2.2.2 (by omega) _⟩
  | false =>
    have z1 : ¬ (y1 = 0) := fun e => by have := HT.out.2.2 e; simp at this
    by_cases z2 : y0 ≥ 1099511627776
    · have HV : Hid (r = (y0, 0)) := Lib.hid (by rw [HL.out, if_neg (by omega), if_pos z2])
      clear z1
      go_wp2_with fail
      refine (alive_any y0 _).mono ?_
      rintro e w3 ⟨rfl, hb⟩
      have H3 := Lib.hid (And.intro (H2.out.2.2.1.below hb H2.out.2.2.1.lt) (H2.out.2.2.2.trans (hb.mono H2.out.2.2.2.size)))
      clear hb
      go_wp2_with (first | ((with_reducible show wpList _ _ _ ((⟨_, Op.store 24 (.tmp 4) _, _, _, _, _⟩ : Oper) :: _) _ _); refine wpList_store_row rfl 24 (.tmp 4) (.tmp 23) rfl (w.heap.size + 1 + 1) (mc (y0, 0)) rfl rfl 24 (mc nought) H3.out.1 info2 rfl (mc_one _) ?_) | fail)
      refine bodyPost_ret (results_one_cell rfl _ _ _ _ rfl (run_loadVar_row _ _ _ _ _ (0, 0) _ (H3.out.1.row (mc (y0, 0))) Try.underlying24 rfl info2)) rfl ?_
      exact ⟨ret_mc HV.out.symm, below_row H3.out.2 (by omega) _⟩
    · have HV : Hid (r = (y0 + 1, 0)) := Lib.hid (by rw [HL.out, if_neg (by omega), if_neg z2])
      have hwr : IntKind.i64.wrap (y0 + 1) = y0 + 1 := by rw [IntKind.wrap_i64]; have := HI.out; omega
      clear z1
      go_wp2_with fail
      refine (alive_any (y0 + 1) _).mono ?_
      rintro e w3 ⟨rfl, hb⟩
      have H3 := Lib.hid (And.intro (H2.out.2.2.1.below hb H2.out.2.2.1.lt) (H2.out.2.2.2.trans (hb.mono H2.out.2.2.2.size)))
      clear hb
      go_wp2_with (first | ((with_reducible show wpList _ _ _ ((⟨_, Op.store 24 (.tmp 4) _, _, _, _, _⟩ : Oper) :: _) _ _); refine wpList_store_row rfl 24 (.tmp 4) (.tmp 27) rfl (w.heap.size + 1 + 1) (mc (y0 + 1, 0)) rfl rfl 24 (mc nought) H3.out.1 info2 rfl (mc_one _) ?_) | fail)
      refine bodyPost_ret (results_one_cell rfl _ _ _ _ rfl (run_loadVar_row _ _ _ _ _ (0, 0) _ (H3.out.1.row (mc (y0 + 1, 0))) Try.underlying24 rfl info2)) rfl ?_
      exact ⟨ret_mc HV.out.symm, below_row H3.out.2 (by omega) _⟩
end Go.Proofs.Ytlcpiompmpccoaa
