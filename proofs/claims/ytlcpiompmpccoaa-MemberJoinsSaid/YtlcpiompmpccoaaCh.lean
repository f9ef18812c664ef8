/-
  The walks of the statements' awake and of MemberNames.
-/
import Derived.Test.YtlcpiompmpccoaaCg
namespace Go.Proofs.Ytlcpiompmpccoaa
open Go.RowKit Go.Great
set_option linter.unusedVariables false
set_option linter.unusedSimpArgs false
set_option maxRecDepth 20000
open Mb
theorem held_new {L : List (Nat × M)} {w0 w : World} (m : M) (h : Held L w) (hb : Below w0.heap.size w0 w) : Held ((w.heap.size, m) :: L) ((w.alloc (.cells (mc nought) 24)).setRow w.heap.size (mc m)) ∧ Below w0.heap.size w0 ((w.alloc (.cells (mc nought) 24)).setRow w.heap.size (mc m)) ∧ ((w.alloc (.cells (mc nought) 24)).setRow w.heap.size (mc m)).heap.size = w.heap.size + 1 := by
  refine ⟨fun q hq => ?_, below_row (hb.alloc hb.size _) hb.size _, by simp [World.setRow]⟩
  rcases List.mem_cons.1 hq with rfl | hq
  · exact (Whole.new w 24 (mc nought)).row _
  · exact ((h q hq).alloc _).rowFar (Nat.ne_of_lt (h q hq).lt) _
theorem held_nil (w : World) : Held [] w := fun q hq => by cases hq
theorem yields_bm {ops : Array Oper} {S : World → Prop} {o : Oper} {a : Act} (hw : Region.wanted o (yielded ops a.tmps) = true) (parts : List (Nat × Operand)) (ho : o.op = .build 24 parts.toArray)
    (vs : List (Nat × Value)) (hv : parts.map (fun q => (q.1, a.eval q.2)) = vs) (cells : Array Value) (hc : Try.prog.built 24 vs = some cells) : YieldsIf Try.prog ops S o (.agg cells) a := by
  have e : (parts.toArray.map fun (i, x) => (i, a.eval x)).toList = vs := by rw [← hv]; simp
  refine Or.inl ⟨hw, fun w _ => ?_⟩
  unfold execOp
  simp only [ho, Sem.run_bind, run_build w 24 _ cells (by rw [e, hc]), Result.andThen_ok]
  rfl
/-- A slice that is built of two members. -/
theorem wp_build2 {o : Oper} {a : Act} {w : World} {K : Act → World → Prop} {Q : Exit → Act → World → Prop} (ix iy : Nat) (ho : o.op = .buildSlice 30 2 #[(0, .tmp ix), (1, .tmp iy)]) (m k : M)
    (hev : a.eval (.tmp ix) = .agg (mc m)) (hev' : a.eval (.tmp iy) = .agg (mc k)) (h : K (a.put o.dst (.slice (some ⟨w.heap.size, 0, none⟩) 2 2)) (w.alloc (.cells (flatM [m, k]).toArray 24))) : o.wp Try.prog a w K Q := by
  obtain ⟨i, hi, hz, hsize, hby⟩ := info_parts mem_info
  refine wp_buildSlice 30 24 2 #[(0, .tmp ix), (1, .tmp iy)] ho (flatM [m, k]).toArray i _ members_und hi hz (by rw [hsize]; decide) (by rw [hsize]; decide) ?_ h
  rw [hsize]
  have e1 : ((#[(0, Operand.tmp ix), (1, Operand.tmp iy)] : Array (Nat × Operand)).map fun (i, x) => (i, a.eval x)).toList = (([Value.agg (mc m), Value.agg (mc k)] : List Value).zipIdx 0).map fun x => (x.2, x.1) := by
    simp only [List.map_toArray, List.map_cons, List.map_nil, hev, hev']
    rfl
  rw [e1]
  have h := Go.Great.fill_whole (s := 2) (by omega) [Value.agg (mc m), Value.agg (mc k)] ((Array.range (2 * 2)).map ((Value.agg #[Value.int .i64 0, Value.int .i64 0]).cells[· % (Value.agg #[Value.int .i64 0, Value.int .i64 0]).cells.size]!)) (by intro v hv; simp at hv; rcases hv with rfl | rfl <;> simp [Value.cells, mc]) (by simp)
  refine h.trans ?_
  simp [Value.cells, mc, flatM]
theorem ms_two {w : World} {S : Nat → Prop} {g : Nat} {m k : M} (h : Whole w g 24 (flatM [m, k]).toArray) (hS : S g) (hm : Min m) (hk : Min k) : Ms w S (some ⟨g, 0, none⟩) 2 [m, k] := by
  refine ⟨rfl, fun x hx => ?_, Or.inr ⟨g, 0, rfl, hS, h.lt, fun j hj => ?_⟩⟩
  · simp only [List.mem_cons, List.not_mem_nil, or_false] at hx
    rcases hx with rfl | rfl
    · exact hm
    · exact hk
  · match j, hj with
    | 0, _ => exact ⟨h.cell 0, h.cell 1⟩
    | 1, _ => exact ⟨h.cell 2, h.cell 3⟩
theorem Held.alloc {L : List (Nat × M)} {w : World} (h : Held L w) (o : Obj) : Held L (w.alloc o) := fun q hq => (h q hq).alloc o
theorem min_lit {a b : Int} (ha : I64 a) (hb : I64 b) : Min (a, b) := ⟨ha, hb⟩
set_option maxHeartbeats 4000000 in
theorem awake_walk (hm : Mem) : Awake := by
  intro w
  have HM := Lib.hid hm
  clear hm
  go_enter Try.func10, Try.ntmps10
  go_upto_region 2 with (first | ((with_reducible show wpList _ _ _ ((⟨_, Op.build 24 _, _, _, _, _⟩ : Oper) :: _) _ _); refine wpList_built rfl _ rfl [(0, .int .i64 1)] rfl (mc (1, 0)).toList (by kernel_rfl) ?_) | ((with_reducible show wpList _ _ _ ((⟨_, Op.store 24 (.tmp 1) _, _, _, _, _⟩ : Oper) :: _) _ _); refine wpList_store_row rfl 24 (.tmp 1) (.tmp 5) rfl w.heap.size (mc (1, 0)) rfl rfl 24 (mc nought) (Whole.new w 24 (mc nought)) info2 rfl (mc_one _) ?_) | fail)
  rw [show #[Value.int .i64 0, Value.int .i64 0] = mc nought from rfl]
  have H1 := Lib.hid (held_new (1, 0) (held_nil w) (Below.refl _ w))
  generalize (w.alloc (.cells (mc nought) 24)).setRow w.heap.size (mc (1, 0)) = w1 at *
  go_upto_region 3 with (first | ((with_reducible show wpList _ _ _ ((⟨_, Op.build 24 _, _, _, _, _⟩ : Oper) :: _) _ _); refine wpList_built rfl _ rfl [(0, .int .i64 1), (1, .int .i64 1)] rfl (mc (1, 1)).toList (by kernel_rfl) ?_) | ((with_reducible show wpList _ _ _ ((⟨_, Op.store 24 (.tmp 2) _, _, _, _, _⟩ : Oper) :: _) _ _); refine wpList_store_row rfl 24 (.tmp 2) (.tmp 6) rfl w1.heap.size (mc (1, 1)) rfl rfl 24 (mc nought) (Whole.new w1 24 (mc nought)) info2 rfl (mc_one _) ?_) | fail)
  rw [show #[Value.int .i64 0, Value.int .i64 0] = mc nought from rfl]
  have H2 := Lib.hid (held_new (1, 1) H1.out.1 H1.out.2.1)
  clear H1
  generalize (w1.alloc (.cells (mc nought) 24)).setRow w1.heap.size (mc (1, 1)) = w2 at *
  go_upto_region 4 with (first | ((with_reducible show wpList _ _ _ ((⟨_, Op.build 24 _, _, _, _, _⟩ : Oper) :: _) _ _); refine wpList_built rfl _ rfl [(0, .int .i64 1), (1, .int .i64 2)] rfl (mc (1, 2)).toList (by kernel_rfl) ?_) | ((with_reducible show wpList _ _ _ ((⟨_, Op.store 24 (.tmp 3) _, _, _, _, _⟩ : Oper) :: _) _ _); refine wpList_store_row rfl 24 (.tmp 3) (.tmp 7) rfl w2.heap.size (mc (1, 2)) rfl rfl 24 (mc nought) (Whole.new w2 24 (mc nought)) info2 rfl (mc_one _) ?_) | fail)
  rw [show #[Value.int .i64 0, Value.int .i64 0] = mc nought from rfl]
  have H3 := Lib.hid (held_new (1, 2) H2.out.1 H2.out.2.1)
  clear H2
  generalize (w2.alloc (.cells (mc nought) 24)).setRow w2.heap.size (mc (1, 2)) = w3 at *
  go_upto_region 5 with (first | ((with_reducible show wpList _ _ _ ((⟨_, Op.build 24 _, _, _, _, _⟩ : Oper) :: _) _ _); refine wpList_built rfl _ rfl [(0, .int .i64 2)] rfl (mc (2, 0)).toList (by kernel_rfl) ?_) | ((with_reducible show wpList _ _ _ ((⟨_, Op.store 24 (.tmp 4) _, _, _, _, _⟩ : Oper) :: _) _ _); refine wpList_store_row rfl 24 (.tmp 4) (.tmp 8) rfl w3.heap.size (mc (2, 0)) rfl rfl 24 (mc nought) (Whole.new w3 24 (mc nought)) info2 rfl (mc_one _) ?_) | fail)
  rw [show #[Value.int .i64 0, Value.int .i64 0] = mc nought from rfl]
  have h4 := held_new (2, 0) H3.out.1 H3.out.2.1
  have H4 := Lib.hid (And.intro h4.1 h4.2.1)
  clear H3 h4
  generalize (w3.alloc (.cells (mc nought) 24)).setRow w3.heap.size (mc (2, 0)) = w4 at *
  have hHeld0 : Held [(w3.heap.size, (2, 0)), (w2.heap.size, (1, 2)), (w1.heap.size, (1, 1)), (w.heap.size, (1, 0))] w4.drew := H4.out.1.drew
  refine wp_region_held_drew (S := Held [(w3.heap.size, (2, 0)), (w2.heap.size, (1, 2)), (w1.heap.size, (1, 1)), (w.heap.size, (1, 0))]) (by kernel_rfl) hHeld0 (fun hHeld => ?_)
  refine wpAnyH_take (i := 0) (v := .agg (mc (1, 0))) rfl (by kernel_rfl) (by kernel_rfl) (by kernel_rfl) (fun _ _ _ h => h) (yields_bx (by rfl) _ rfl w.heap.size rfl (1, 0) (fun wq hSw => hSw (w.heap.size, (1, 0)) (by simp))) (by assumption) ?_
  try simp only [Act.put, List.getElem_toArray, List.getElem_cons_zero, List.getElem_cons_succ, List.setIfInBounds_toArray, List.set_cons_zero, List.set_cons_succ]
  refine wpAnyH_take (i := 1) (v := .agg (mc (1, 1))) rfl (by kernel_rfl) (by kernel_rfl) (by kernel_rfl) (fun _ _ _ h => h) (yields_bx (by rfl) _ rfl w1.heap.size rfl (1, 1) (fun wq hSw => hSw (w1.heap.size, (1, 1)) (by simp))) (by assumption) ?_
  try simp only [Act.put, List.getElem_toArray, List.getElem_cons_zero, List.getElem_cons_succ, List.setIfInBounds_toArray, List.set_cons_zero, List.set_cons_succ]
  refine wpAnyH_take (i := 3) (v := .agg (mc (1, 1))) rfl (by kernel_rfl) (by kernel_rfl) (by kernel_rfl) (fun _ _ _ h => h) (yields_bx (by rfl) _ rfl w1.heap.size rfl (1, 1) (fun wq hSw => hSw (w1.heap.size, (1, 1)) (by simp))) (by assumption) ?_
  try simp only [Act.put, List.getElem_toArray, List.getElem_cons_zero, List.getElem_cons_succ, List.setIfInBounds_toArray, List.set_cons_zero, List.set_cons_succ]
  refine wpAnyH_ready (rs := [2]) (by kernel_rfl) (by simp) (AllReadyH.cons rfl (fun K hK => ?_) AllReadyH.nil)
  try simp only [List.getElem_toArray, List.getElem_cons_zero, List.getElem_cons_succ]
  go_simp
  refine (HM.out.join (1, 0) (1, 1) _).mono ?_
  rintro e v1 ⟨rfl, hb⟩
  have hb' : Below w4.heap.size w4 v1 := below_drew hb
  have HV1 := Lib.hid (And.intro (H4.out.1.below hb') (H4.out.2.trans (hb'.mono H4.out.2.size)))
  have r1 := HV1.out.1
  clear hb hb' hHeld hHeld0
  go_wp2_with fail
  refine hK.out _ _ r1 (fun hHeld => ?_)
  clear hK K hHeld
  try simp only [Act.put, List.getElem_toArray, List.getElem_cons_zero, List.getElem_cons_succ, List.setIfInBounds_toArray, List.set_cons_zero, List.set_cons_succ]
  have hHeld := r1
  refine wpAnyH_take (i := 4) (v := .bool true) rfl (by kernel_rfl) (by kernel_rfl) (by kernel_rfl) (fun _ _ _ h => h) (yields_cmpM (by rfl) _ _ _ rfl (join (1, 0) (1, 1)) (1, 1) rfl rfl (by decide)) (by assumption) ?_
  try simp only [Act.put, List.getElem_toArray, List.getElem_cons_zero, List.getElem_cons_succ, List.setIfInBounds_toArray, List.set_cons_zero, List.set_cons_succ]
  refine wpAnyH_take (i := 5) (v := .bool true) rfl (by kernel_rfl) (by kernel_rfl) (by kernel_rfl) (fun _ _ _ h => h) (Or.inl ⟨by rfl, (by intro w hSw; (try dsimp only at hSw); go_simp)⟩) (by assumption) ?_
  try simp only [Act.put, List.getElem_toArray, List.getElem_cons_zero, List.getElem_cons_succ, List.setIfInBounds_toArray, List.set_cons_zero, List.set_cons_succ]
  refine wpAnyH_take (i := 6) (v := .agg (mc (2, 0))) rfl (by kernel_rfl) (by kernel_rfl) (by kernel_rfl) (fun _ _ _ h => h) (yields_bx (by rfl) _ rfl w3.heap.size rfl (2, 0) (fun wq hSw => hSw (w3.heap.size, (2, 0)) (by simp))) (by assumption) ?_
  try simp only [Act.put, List.getElem_toArray, List.getElem_cons_zero, List.getElem_cons_succ, List.setIfInBounds_toArray, List.set_cons_zero, List.set_cons_succ]
  refine wpAnyH_take (i := 7) (v := .agg (mc (1, 2))) rfl (by kernel_rfl) (by kernel_rfl) (by kernel_rfl) (fun _ _ _ h => h) (yields_bx (by rfl) _ rfl w2.heap.size rfl (1, 2) (fun wq hSw => hSw (w2.heap.size, (1, 2)) (by simp))) (by assumption) ?_
  try simp only [Act.put, List.getElem_toArray, List.getElem_cons_zero, List.getElem_cons_succ, List.setIfInBounds_toArray, List.set_cons_zero, List.set_cons_succ]
  refine wpAnyH_take (i := 9) (v := .agg (mc (2, 0))) rfl (by kernel_rfl) (by kernel_rfl) (by kernel_rfl) (fun _ _ _ h => h) (yields_bx (by rfl) _ rfl w3.heap.size rfl (2, 0) (fun wq hSw => hSw (w3.heap.size, (2, 0)) (by simp))) (by assumption) ?_
  try simp only [Act.put, List.getElem_toArray, List.getElem_cons_zero, List.getElem_cons_succ, List.setIfInBounds_toArray, List.set_cons_zero, List.set_cons_succ]
  refine wpAnyH_ready (rs := [8]) (by kernel_rfl) (by simp) (AllReadyH.cons rfl (fun K hK => ?_) AllReadyH.nil)
  try simp only [List.getElem_toArray, List.getElem_cons_zero, List.getElem_cons_succ]
  go_simp
  refine (HM.out.join (2, 0) (1, 2) _).mono ?_
  rintro e v2 ⟨rfl, hb⟩
  have hb' := hb
  have HV2 := Lib.hid (And.intro (HV1.out.1.below hb') (HV1.out.2.trans (hb'.mono HV1.out.2.size)))
  have r2 := HV2.out.1
  clear hb hb' hHeld r1 HV1
  go_wp2_with fail
  refine hK.out _ _ r2 (fun hHeld => ?_)
  clear hK K hHeld
  try simp only [Act.put, List.getElem_toArray, List.getElem_cons_zero, List.getElem_cons_succ, List.setIfInBounds_toArray, List.set_cons_zero, List.set_cons_succ]
  have hHeld := r2
  refine wpAnyH_take (i := 10) (v := .bool true) rfl (by kernel_rfl) (by kernel_rfl) (by kernel_rfl) (fun _ _ _ h => h) (yields_cmpM (by rfl) _ _ _ rfl (join (2, 0) (1, 2)) (2, 0) rfl rfl (by decide)) (by assumption) ?_
  try simp only [Act.put, List.getElem_toArray, List.getElem_cons_zero, List.getElem_cons_succ, List.setIfInBounds_toArray, List.set_cons_zero, List.set_cons_succ]
  refine wpAnyH_take (i := 11) (v := .bool true) rfl (by kernel_rfl) (by kernel_rfl) (by kernel_rfl) (fun _ _ _ h => h) (Or.inl ⟨by rfl, (by intro w hSw; (try dsimp only at hSw); go_simp)⟩) (by assumption) ?_
  try simp only [Act.put, List.getElem_toArray, List.getElem_cons_zero, List.getElem_cons_succ, List.setIfInBounds_toArray, List.set_cons_zero, List.set_cons_succ]
  refine wpAnyH_take (i := 12) (v := .bool true) rfl (by kernel_rfl) (by kernel_rfl) (by kernel_rfl) (fun _ _ _ h => h) (Or.inl ⟨by rfl, (by intro w hSw; (try dsimp only at hSw); go_simp)⟩) (by assumption) ?_
  try simp only [Act.put, List.getElem_toArray, List.getElem_cons_zero, List.getElem_cons_succ, List.setIfInBounds_toArray, List.set_cons_zero, List.set_cons_succ]
  refine wpAnyH_take (i := 13) (v := .agg (mc (1, 0))) rfl (by kernel_rfl) (by kernel_rfl) (by kernel_rfl) (fun _ _ _ h => h) (yields_bx (by rfl) _ rfl w.heap.size rfl (1, 0) (fun wq hSw => hSw (w.heap.size, (1, 0)) (by simp))) (by assumption) ?_
  try simp only [Act.put, List.getElem_toArray, List.getElem_cons_zero, List.getElem_cons_succ, List.setIfInBounds_toArray, List.set_cons_zero, List.set_cons_succ]
  refine wpAnyH_take (i := 14) (v := .agg (mc (1, 1))) rfl (by kernel_rfl) (by kernel_rfl) (by kernel_rfl) (fun _ _ _ h => h) (yields_bx (by rfl) _ rfl w1.heap.size rfl (1, 1) (fun wq hSw => hSw (w1.heap.size, (1, 1)) (by simp))) (by assumption) ?_
  try simp only [Act.put, List.getElem_toArray, List.getElem_cons_zero, List.getElem_cons_succ, List.setIfInBounds_toArray, List.set_cons_zero, List.set_cons_succ]
  refine wpAnyH_take (i := 16) (v := .agg (mc (2, 0))) rfl (by kernel_rfl) (by kernel_rfl) (by kernel_rfl) (fun _ _ _ h => h) (yields_bx (by rfl) _ rfl w3.heap.size rfl (2, 0) (fun wq hSw => hSw (w3.heap.size, (2, 0)) (by simp))) (by assumption) ?_
  try simp only [Act.put, List.getElem_toArray, List.getElem_cons_zero, List.getElem_cons_succ, List.setIfInBounds_toArray, List.set_cons_zero, List.set_cons_succ]
  refine wpAnyH_ready (rs := [15]) (by kernel_rfl) (by simp) (AllReadyH.cons rfl (fun K hK => ?_) AllReadyH.nil)
  try simp only [List.getElem_toArray, List.getElem_cons_zero, List.getElem_cons_succ]
  go_simp
  refine (HM.out.speak (1, 0) (1, 1) _ (min_lit ⟨by decide, by decide⟩ ⟨by decide, by decide⟩) (min_lit ⟨by decide, by decide⟩ ⟨by decide, by decide⟩)).mono ?_
  rintro e v3 ⟨rfl, hb⟩
  have hb' := hb
  have HV3 := Lib.hid (And.intro (HV2.out.1.below hb') (HV2.out.2.trans (hb'.mono HV2.out.2.size)))
  have r3 := HV3.out.1
  clear hb hb' hHeld r2 HV2
  go_wp2_with fail
  refine hK.out _ _ r3 (fun hHeld => ?_)
  clear hK K hHeld
  try simp only [Act.put, List.getElem_toArray, List.getElem_cons_zero, List.getElem_cons_succ, List.setIfInBounds_toArray, List.set_cons_zero, List.set_cons_succ]
  have hHeld := r3
  refine wpAnyH_take (i := 17) (v := .bool true) rfl (by kernel_rfl) (by kernel_rfl) (by kernel_rfl) (fun _ _ _ h => h) (yields_cmpM (by rfl) _ _ _ rfl (speak (1, 0) (1, 1)) (2, 0) rfl rfl (by decide)) (by assumption) ?_
  try simp only [Act.put, List.getElem_toArray, List.getElem_cons_zero, List.getElem_cons_succ, List.setIfInBounds_toArray, List.set_cons_zero, List.set_cons_succ]
  refine wpAnyH_take (i := 18) (v := .bool true) rfl (by kernel_rfl) (by kernel_rfl) (by kernel_rfl) (fun _ _ _ h => h) (Or.inl ⟨by rfl, (by intro w hSw; (try dsimp only at hSw); go_simp)⟩) (by assumption) ?_
  try simp only [Act.put, List.getElem_toArray, List.getElem_cons_zero, List.getElem_cons_succ, List.setIfInBounds_toArray, List.set_cons_zero, List.set_cons_succ]
  refine wpAnyH_take (i := 19) (v := .bool true) rfl (by kernel_rfl) (by kernel_rfl) (by kernel_rfl) (fun _ _ _ h => h) (Or.inl ⟨by rfl, (by intro w hSw; (try dsimp only at hSw); go_simp)⟩) (by assumption) ?_
  try simp only [Act.put, List.getElem_toArray, List.getElem_cons_zero, List.getElem_cons_succ, List.setIfInBounds_toArray, List.set_cons_zero, List.set_cons_succ]
  refine wpAnyH_take (i := 20) (v := .agg (mc (1, 0))) rfl (by kernel_rfl) (by kernel_rfl) (by kernel_rfl) (fun _ _ _ h => h) (yields_bx (by rfl) _ rfl w.heap.size rfl (1, 0) (fun wq hSw => hSw (w.heap.size, (1, 0)) (by simp))) (by assumption) ?_
  try simp only [Act.put, List.getElem_toArray, List.getElem_cons_zero, List.getElem_cons_succ, List.setIfInBounds_toArray, List.set_cons_zero, List.set_cons_succ]
  refine wpAnyH_take (i := 22) (v := .agg (mc (1, 1))) rfl (by kernel_rfl) (by kernel_rfl) (by kernel_rfl) (fun _ _ _ h => h) (yields_bx (by rfl) _ rfl w1.heap.size rfl (1, 1) (fun wq hSw => hSw (w1.heap.size, (1, 1)) (by simp))) (by assumption) ?_
  try simp only [Act.put, List.getElem_toArray, List.getElem_cons_zero, List.getElem_cons_succ, List.setIfInBounds_toArray, List.set_cons_zero, List.set_cons_succ]
  refine wpAnyH_ready (rs := [21]) (by kernel_rfl) (by simp) (AllReadyH.cons rfl (fun K hK => ?_) AllReadyH.nil)
  try simp only [List.getElem_toArray, List.getElem_cons_zero, List.getElem_cons_succ]
  go_simp
  refine (HM.out.suspect (1, 0) _).mono ?_
  rintro e v4 ⟨rfl, hb⟩
  have hb' := hb
  have HV4 := Lib.hid (And.intro (HV3.out.1.below hb') (HV3.out.2.trans (hb'.mono HV3.out.2.size)))
  have r4 := HV4.out.1
  clear hb hb' hHeld r3 HV3
  go_wp2_with fail
  refine hK.out _ _ r4 (fun hHeld => ?_)
  clear hK K hHeld
  try simp only [Act.put, List.getElem_toArray, List.getElem_cons_zero, List.getElem_cons_succ, List.setIfInBounds_toArray, List.set_cons_zero, List.set_cons_succ]
  have hHeld := r4
  refine wpAnyH_take (i := 23) (v := .bool true) rfl (by kernel_rfl) (by kernel_rfl) (by kernel_rfl) (fun _ _ _ h => h) (yields_cmpM (by rfl) _ _ _ rfl (suspect (1, 0)) (1, 1) rfl rfl (by decide)) (by assumption) ?_
  try simp only [Act.put, List.getElem_toArray, List.getElem_cons_zero, List.getElem_cons_succ, List.setIfInBounds_toArray, List.set_cons_zero, List.set_cons_succ]
  refine wpAnyH_take (i := 24) (v := .bool true) rfl (by kernel_rfl) (by kernel_rfl) (by kernel_rfl) (fun _ _ _ h => h) (Or.inl ⟨by rfl, (by intro w hSw; (try dsimp only at hSw); go_simp)⟩) (by assumption) ?_
  try simp only [Act.put, List.getElem_toArray, List.getElem_cons_zero, List.getElem_cons_succ, List.setIfInBounds_toArray, List.set_cons_zero, List.set_cons_succ]
  refine wpAnyH_take (i := 25) (v := .bool true) rfl (by kernel_rfl) (by kernel_rfl) (by kernel_rfl) (fun _ _ _ h => h) (Or.inl ⟨by rfl, (by intro w hSw; (try dsimp only at hSw); go_simp)⟩) (by assumption) ?_
  try simp only [Act.put, List.getElem_toArray, List.getElem_cons_zero, List.getElem_cons_succ, List.setIfInBounds_toArray, List.set_cons_zero, List.set_cons_succ]
  refine wpAnyH_take (i := 26) (v := .agg (mc (1, 1))) rfl (by kernel_rfl) (by kernel_rfl) (by kernel_rfl) (fun _ _ _ h => h) (yields_bx (by rfl) _ rfl w1.heap.size rfl (1, 1) (fun wq hSw => hSw (w1.heap.size, (1, 1)) (by simp))) (by assumption) ?_
  try simp only [Act.put, List.getElem_toArray, List.getElem_cons_zero, List.getElem_cons_succ, List.setIfInBounds_toArray, List.set_cons_zero, List.set_cons_succ]
  refine wpAnyH_take (i := 28) (v := .agg (mc (1, 2))) rfl (by kernel_rfl) (by kernel_rfl) (by kernel_rfl) (fun _ _ _ h => h) (yields_bx (by rfl) _ rfl w2.heap.size rfl (1, 2) (fun wq hSw => hSw (w2.heap.size, (1, 2)) (by simp))) (by assumption) ?_
  try simp only [Act.put, List.getElem_toArray, List.getElem_cons_zero, List.getElem_cons_succ, List.setIfInBounds_toArray, List.set_cons_zero, List.set_cons_succ]
  refine wpAnyH_ready (rs := [27]) (by kernel_rfl) (by simp) (AllReadyH.cons rfl (fun K hK => ?_) AllReadyH.nil)
  try simp only [List.getElem_toArray, List.getElem_cons_zero, List.getElem_cons_succ]
  go_simp
  refine (HM.out.bury (1, 1) _).mono ?_
  rintro e v5 ⟨rfl, hb⟩
  have hb' := hb
  have HV5 := Lib.hid (And.intro (HV4.out.1.below hb') (HV4.out.2.trans (hb'.mono HV4.out.2.size)))
  have r5 := HV5.out.1
  clear hb hb' hHeld r4 HV4
  go_wp2_with fail
  refine hK.out _ _ r5 (fun hHeld => ?_)
  clear hK K hHeld
  try simp only [Act.put, List.getElem_toArray, List.getElem_cons_zero, List.getElem_cons_succ, List.setIfInBounds_toArray, List.set_cons_zero, List.set_cons_succ]
  have hHeld := r5
  refine wpAnyH_take (i := 29) (v := .bool true) rfl (by kernel_rfl) (by kernel_rfl) (by kernel_rfl) (fun _ _ _ h => h) (yields_cmpM (by rfl) _ _ _ rfl (bury (1, 1)) (1, 2) rfl rfl (by decide)) (by assumption) ?_
  try simp only [Act.put, List.getElem_toArray, List.getElem_cons_zero, List.getElem_cons_succ, List.setIfInBounds_toArray, List.set_cons_zero, List.set_cons_succ]
  refine wpAnyH_take (i := 30) (v := .bool true) rfl (by kernel_rfl) (by kernel_rfl) (by kernel_rfl) (fun _ _ _ h => h) (Or.inl ⟨by rfl, (by intro w hSw; (try dsimp only at hSw); go_simp)⟩) (by assumption) ?_
  try simp only [Act.put, List.getElem_toArray, List.getElem_cons_zero, List.getElem_cons_succ, List.setIfInBounds_toArray, List.set_cons_zero, List.set_cons_succ]
  refine wpAnyH_take (i := 31) (v := .bool true) rfl (by kernel_rfl) (by kernel_rfl) (by kernel_rfl) (fun _ _ _ h => h) (Or.inl ⟨by rfl, (by intro w hSw; (try dsimp only at hSw); go_simp)⟩) (by assumption) ?_
  try simp only [Act.put, List.getElem_toArray, List.getElem_cons_zero, List.getElem_cons_succ, List.setIfInBounds_toArray, List.set_cons_zero, List.set_cons_succ]
  refine wpAnyH_take (i := 32) (v := .agg (mc (1, 0))) rfl (by kernel_rfl) (by kernel_rfl) (by kernel_rfl) (fun _ _ _ h => h) (yields_bx (by rfl) _ rfl w.heap.size rfl (1, 0) (fun wq hSw => hSw (w.heap.size, (1, 0)) (by simp))) (by assumption) ?_
  try simp only [Act.put, List.getElem_toArray, List.getElem_cons_zero, List.getElem_cons_succ, List.setIfInBounds_toArray, List.set_cons_zero, List.set_cons_succ]
  refine wpAnyH_take (i := 34) (v := .agg (mc (1, 0))) rfl (by kernel_rfl) (by kernel_rfl) (by kernel_rfl) (fun _ _ _ h => h) (yields_bx (by rfl) _ rfl w.heap.size rfl (1, 0) (fun wq hSw => hSw (w.heap.size, (1, 0)) (by simp))) (by assumption) ?_
  try simp only [Act.put, List.getElem_toArray, List.getElem_cons_zero, List.getElem_cons_succ, List.setIfInBounds_toArray, List.set_cons_zero, List.set_cons_succ]
  refine wpAnyH_ready (rs := [33]) (by kernel_rfl) (by simp) (AllReadyH.cons rfl (fun K hK => ?_) AllReadyH.nil)
  try simp only [List.getElem_toArray, List.getElem_cons_zero, List.getElem_cons_succ]
  go_simp
  refine (HM.out.bury (1, 0) _).mono ?_
  rintro e v6 ⟨rfl, hb⟩
  have hb' := hb
  have HV6 := Lib.hid (And.intro (HV5.out.1.below hb') (HV5.out.2.trans (hb'.mono HV5.out.2.size)))
  have r6 := HV6.out.1
  clear hb hb' hHeld r5 HV5
  go_wp2_with fail
  refine hK.out _ _ r6 (fun hHeld => ?_)
  clear hK K hHeld
  try simp only [Act.put, List.getElem_toArray, List.getElem_cons_zero, List.getElem_cons_succ, List.setIfInBounds_toArray, List.set_cons_zero, List.set_cons_succ]
  have hHeld := r6
  refine wpAnyH_take (i := 35) (v := .bool true) rfl (by kernel_rfl) (by kernel_rfl) (by kernel_rfl) (fun _ _ _ h => h) (yields_cmpM (by rfl) _ _ _ rfl (bury (1, 0)) (1, 0) rfl rfl (by decide)) (by assumption) ?_
  try simp only [Act.put, List.getElem_toArray, List.getElem_cons_zero, List.getElem_cons_succ, List.setIfInBounds_toArray, List.set_cons_zero, List.set_cons_succ]
  refine wpAnyH_take (i := 36) (v := .bool true) rfl (by kernel_rfl) (by kernel_rfl) (by kernel_rfl) (fun _ _ _ h => h) (Or.inl ⟨by rfl, (by intro w hSw; (try dsimp only at hSw); go_simp)⟩) (by assumption) ?_
  try simp only [Act.put, List.getElem_toArray, List.getElem_cons_zero, List.getElem_cons_succ, List.setIfInBounds_toArray, List.set_cons_zero, List.set_cons_succ]
  refine wpAnyH_take (i := 37) (v := .bool true) rfl (by kernel_rfl) (by kernel_rfl) (by kernel_rfl) (fun _ _ _ h => h) (Or.inl ⟨by rfl, (by intro w hSw; (try dsimp only at hSw); go_simp)⟩) (by assumption) ?_
  try simp only [Act.put, List.getElem_toArray, List.getElem_cons_zero, List.getElem_cons_succ, List.setIfInBounds_toArray, List.set_cons_zero, List.set_cons_succ]
  refine wpAnyH_take (i := 38) (v := .agg (mc (1, 2))) rfl (by kernel_rfl) (by kernel_rfl) (by kernel_rfl) (fun _ _ _ h => h) (yields_bx (by rfl) _ rfl w2.heap.size rfl (1, 2) (fun wq hSw => hSw (w2.heap.size, (1, 2)) (by simp))) (by assumption) ?_
  try simp only [Act.put, List.getElem_toArray, List.getElem_cons_zero, List.getElem_cons_succ, List.setIfInBounds_toArray, List.set_cons_zero, List.set_cons_succ]
  refine wpAnyH_ready (rs := [39]) (by kernel_rfl) (by simp) (AllReadyH.cons rfl (fun K hK => ?_) AllReadyH.nil)
  try simp only [List.getElem_toArray, List.getElem_cons_zero, List.getElem_cons_succ]
  go_simp
  refine (HM.out.check (1, 2) _).mono ?_
  rintro e v7 ⟨rfl, hb⟩
  have hb' := hb
  have HV7 := Lib.hid (And.intro (HV6.out.1.below hb') (HV6.out.2.trans (hb'.mono HV6.out.2.size)))
  have r7 := HV7.out.1
  clear hb hb' hHeld r6 HV6
  rw [show chk (1, 2) = 0 from by decide]
  go_wp2_with fail
  refine hK.out _ _ r7 (fun hHeld => ?_)
  clear hK K hHeld
  try simp only [Act.put, List.getElem_toArray, List.getElem_cons_zero, List.getElem_cons_succ, List.setIfInBounds_toArray, List.set_cons_zero, List.set_cons_succ]
  have hHeld := r7
  refine wpAnyH_take (i := 40) (v := .bool true) rfl (by kernel_rfl) (by kernel_rfl) (by kernel_rfl) (fun _ _ _ h => h) (Or.inl ⟨by rfl, (by intro w hSw; (try dsimp only at hSw); go_simp)⟩) (by assumption) ?_
  try simp only [Act.put, List.getElem_toArray, List.getElem_cons_zero, List.getElem_cons_succ, List.setIfInBounds_toArray, List.set_cons_zero, List.set_cons_succ]
  refine wpAnyH_take (i := 41) (v := .bool true) rfl (by kernel_rfl) (by kernel_rfl) (by kernel_rfl) (fun _ _ _ h => h) (Or.inl ⟨by rfl, (by intro w hSw; (try dsimp only at hSw); go_simp)⟩) (by assumption) ?_
  try simp only [Act.put, List.getElem_toArray, List.getElem_cons_zero, List.getElem_cons_succ, List.setIfInBounds_toArray, List.set_cons_zero, List.set_cons_succ]
  refine wpAnyH_take (i := 42) (v := .bool true) rfl (by kernel_rfl) (by kernel_rfl) (by kernel_rfl) (fun _ _ _ h => h) (Or.inl ⟨by rfl, (by intro w hSw; (try dsimp only at hSw); go_simp)⟩) (by assumption) ?_
  try simp only [Act.put, List.getElem_toArray, List.getElem_cons_zero, List.getElem_cons_succ, List.setIfInBounds_toArray, List.set_cons_zero, List.set_cons_succ]
  refine wpAnyH_take (i := 43) (v := .agg (mc (0, 3))) rfl (by kernel_rfl) (by kernel_rfl) (by kernel_rfl) (fun _ _ _ h => h) (yields_bm (by rfl) [(1, .const (.int .i64 3))] rfl [(1, .int .i64 3)] rfl _ (by kernel_rfl)) (by assumption) ?_
  try simp only [Act.put, List.getElem_toArray, List.getElem_cons_zero, List.getElem_cons_succ, List.setIfInBounds_toArray, List.set_cons_zero, List.set_cons_succ]
  refine wpAnyH_ready (rs := [44]) (by kernel_rfl) (by simp) (AllReadyH.cons rfl (fun K hK => ?_) AllReadyH.nil)
  try simp only [List.getElem_toArray, List.getElem_cons_zero, List.getElem_cons_succ]
  go_simp
  refine (HM.out.check (0, 3) _).mono ?_
  rintro e v8 ⟨rfl, hb⟩
  have hb' := hb
  have HV8 := Lib.hid (And.intro (HV7.out.1.below hb') (HV7.out.2.trans (hb'.mono HV7.out.2.size)))
  have r8 := HV8.out.1
  clear hb hb' hHeld r7 HV7
  rw [show chk (0, 3) = 1 from by decide]
  go_wp2_with fail
  refine hK.out _ _ r8 (fun hHeld => ?_)
  clear hK K hHeld
  try simp only [Act.put, List.getElem_toArray, List.getElem_cons_zero, List.getElem_cons_succ, List.setIfInBounds_toArray, List.set_cons_zero, List.set_cons_succ]
  have hHeld := r8
  refine wpAnyH_take (i := 45) (v := .bool true) rfl (by kernel_rfl) (by kernel_rfl) (by kernel_rfl) (fun _ _ _ h => h) (Or.inl ⟨by rfl, (by intro w hSw; (try dsimp only at hSw); go_simp)⟩) (by assumption) ?_
  try simp only [Act.put, List.getElem_toArray, List.getElem_cons_zero, List.getElem_cons_succ, List.setIfInBounds_toArray, List.set_cons_zero, List.set_cons_succ]
  refine wpAnyH_take (i := 46) (v := .bool true) rfl (by kernel_rfl) (by kernel_rfl) (by kernel_rfl) (fun _ _ _ h => h) (Or.inl ⟨by rfl, (by intro w hSw; (try dsimp only at hSw); go_simp)⟩) (by assumption) ?_
  try simp only [Act.put, List.getElem_toArray, List.getElem_cons_zero, List.getElem_cons_succ, List.setIfInBounds_toArray, List.set_cons_zero, List.set_cons_succ]
  refine wpAnyH_take (i := 47) (v := .bool true) rfl (by kernel_rfl) (by kernel_rfl) (by kernel_rfl) (fun _ _ _ h => h) (Or.inl ⟨by rfl, (by intro w hSw; (try dsimp only at hSw); go_simp)⟩) (by assumption) ?_
  try simp only [Act.put, List.getElem_toArray, List.getElem_cons_zero, List.getElem_cons_succ, List.setIfInBounds_toArray, List.set_cons_zero, List.set_cons_succ]
  refine wpAnyH_take (i := 48) (v := .agg (mc (1, 0))) rfl (by kernel_rfl) (by kernel_rfl) (by kernel_rfl) (fun _ _ _ h => h) (yields_bx (by rfl) _ rfl w.heap.size rfl (1, 0) (fun wq hSw => hSw (w.heap.size, (1, 0)) (by simp))) (by assumption) ?_
  try simp only [Act.put, List.getElem_toArray, List.getElem_cons_zero, List.getElem_cons_succ, List.setIfInBounds_toArray, List.set_cons_zero, List.set_cons_succ]
  refine wpAnyH_take (i := 50) (v := .agg (mc (2, 0))) rfl (by kernel_rfl) (by kernel_rfl) (by kernel_rfl) (fun _ _ _ h => h) (yields_bx (by rfl) _ rfl w3.heap.size rfl (2, 0) (fun wq hSw => hSw (w3.heap.size, (2, 0)) (by simp))) (by assumption) ?_
  try simp only [Act.put, List.getElem_toArray, List.getElem_cons_zero, List.getElem_cons_succ, List.setIfInBounds_toArray, List.set_cons_zero, List.set_cons_succ]
  refine wpAnyH_take (i := 51) (v := .agg (mc (1, 2))) rfl (by kernel_rfl) (by kernel_rfl) (by kernel_rfl) (fun _ _ _ h => h) (yields_bx (by rfl) _ rfl w2.heap.size rfl (1, 2) (fun wq hSw => hSw (w2.heap.size, (1, 2)) (by simp))) (by assumption) ?_
  try simp only [Act.put, List.getElem_toArray, List.getElem_cons_zero, List.getElem_cons_succ, List.setIfInBounds_toArray, List.set_cons_zero, List.set_cons_succ]

  refine wpAnyH_ready (rs := [49, 52]) (by kernel_rfl) (by simp) (AllReadyH.cons rfl (fun K hK => ?_) (AllReadyH.cons rfl (fun K hK => ?_) AllReadyH.nil))
  · skip
    try simp only [Act.put, List.getElem_toArray, List.getElem_cons_zero, List.getElem_cons_succ, List.setIfInBounds_toArray, List.set_cons_zero, List.set_cons_succ]
    refine if_wanted (by rfl) ?_
    refine wp_build1 57 rfl (1, 0) rfl ?_
    have hA := Lib.hid (And.intro (HV8.out.1.alloc (.cells (mc (1, 0)) 24)) (And.intro (HV8.out.2.alloc HV8.out.2.size (.cells (mc (1, 0)) 24)) (ms_one (S := fun _ => True) (m := (1, 0)) (Whole.new v8 _ _) trivial (min_lit ⟨by decide, by decide⟩ ⟨by decide, by decide⟩))))
    clear hHeld r8 HV8
    generalize hva : v8.alloc (.cells (mc (1, 0)) 24) = va at *
    refine hK.out _ _ hA.out.1 (fun hHeld => ?_)
    clear hK K hHeld
    try simp only [Act.put, List.getElem_toArray, List.getElem_cons_zero, List.getElem_cons_succ, List.setIfInBounds_toArray, List.set_cons_zero, List.set_cons_succ]
    have hHeld := hA.out.1
    refine wpAnyH_ready (rs := [52]) (by kernel_rfl) (by simp) (AllReadyH.cons rfl (fun K hK => ?_) AllReadyH.nil)
    try simp only [List.getElem_toArray, List.getElem_cons_zero, List.getElem_cons_succ]
    refine if_wanted (by rfl) ?_
    refine wp_build2 59 60 rfl (2, 0) (1, 2) rfl rfl ?_
    have HZ := Lib.hid (And.intro (hA.out.1.alloc (.cells (flatM [(2, 0), (1, 2)]).toArray 24)) (And.intro (hA.out.2.1.alloc hA.out.2.1.size (.cells (flatM [(2, 0), (1, 2)]).toArray 24)) (And.intro ((hA.out.2.2.old).below (below_alloc va (.cells (flatM [(2, 0), (1, 2)]).toArray 24)) (fun _ _ h => h)) (ms_two (S := fun _ => True) (m := (2, 0)) (k := (1, 2)) (Whole.new va _ _) trivial (min_lit ⟨by decide, by decide⟩ ⟨by decide, by decide⟩) (min_lit ⟨by decide, by decide⟩ ⟨by decide, by decide⟩)))))
    clear hA hva
    clear hHeld
    generalize hwz : va.alloc (.cells (flatM [(2, 0), (1, 2)]).toArray 24) = wz at *
    clear hwz
    refine hK.out _ _ HZ.out.1 (fun hHeld => ?_)
    clear hK K hHeld
    try simp only [Act.put, List.getElem_toArray, List.getElem_cons_zero, List.getElem_cons_succ, List.setIfInBounds_toArray, List.set_cons_zero, List.set_cons_succ]
    have hHeld := HZ.out.1
    refine wpAnyH_ready (rs := [53]) (by kernel_rfl) (by simp) (AllReadyH.cons rfl (fun K hK => ?_) AllReadyH.nil)
    try simp only [List.getElem_toArray, List.getElem_cons_zero, List.getElem_cons_succ]
    go_simp
    refine (HM.out.all (w := wz) HZ.out.2.2.1 (by omega) HZ.out.2.2.2 (by omega) (by omega) (by omega)).mono ?_
    rintro e v9 ⟨a9, n9, c9, rfl, hm9, hb9⟩
    have hl9 : n9 = 2 := hm9.len.symm
    subst hl9
    have HT := Lib.hid (HZ.out.2.1.trans (hb9.mono HZ.out.2.1.size))
    have r9 := HZ.out.1.below hb9
    clear hm9 hb9 hHeld HZ
    go_wp2_with fail
    refine hK.out _ _ r9 (fun hHeld => ?_)
    clear hK K hHeld
    try simp only [Act.put, List.getElem_toArray, List.getElem_cons_zero, List.getElem_cons_succ, List.setIfInBounds_toArray, List.set_cons_zero, List.set_cons_succ]
    have hHeld := r9
    refine wpAnyH_take (i := 54) (v := .int .i64 2) rfl (by kernel_rfl) (by kernel_rfl) (by kernel_rfl) (fun _ _ _ h => h) (Or.inl ⟨by rfl, (by intro w hSw; (try dsimp only at hSw); go_simp)⟩) (by assumption) ?_
    try simp only [Act.put, List.getElem_toArray, List.getElem_cons_zero, List.getElem_cons_succ, List.setIfInBounds_toArray, List.set_cons_zero, List.set_cons_succ]
    refine wpAnyH_take (i := 55) (v := .bool true) rfl (by kernel_rfl) (by kernel_rfl) (by kernel_rfl) (fun _ _ _ h => h) (Or.inl ⟨by rfl, (by intro w hSw; (try dsimp only at hSw); go_simp)⟩) (by assumption) ?_
    try simp only [Act.put, List.getElem_toArray, List.getElem_cons_zero, List.getElem_cons_succ, List.setIfInBounds_toArray, List.set_cons_zero, List.set_cons_succ]
    refine wpAnyH_take (i := 56) (v := .bool true) rfl (by kernel_rfl) (by kernel_rfl) (by kernel_rfl) (fun _ _ _ h => h) (Or.inl ⟨by rfl, (by intro w hSw; (try dsimp only at hSw); go_simp)⟩) (by assumption) ?_
    try simp only [Act.put, List.getElem_toArray, List.getElem_cons_zero, List.getElem_cons_succ, List.setIfInBounds_toArray, List.set_cons_zero, List.set_cons_succ]
    refine wpAnyH_take (i := 57) (v := .bool true) rfl (by kernel_rfl) (by kernel_rfl) (by kernel_rfl) (fun _ _ _ h => h) (Or.inl ⟨by rfl, (by intro w hSw; (try dsimp only at hSw); go_simp)⟩) (by assumption) ?_
    try simp only [Act.put, List.getElem_toArray, List.getElem_cons_zero, List.getElem_cons_succ, List.setIfInBounds_toArray, List.set_cons_zero, List.set_cons_succ]
    refine wpAnyH_done (by kernel_rfl) ?_ _
    clear hHeld r9
    go_wp2
    go_ret
    exact ⟨rfl, HT.out⟩
  · skip
    try simp only [Act.put, List.getElem_toArray, List.getElem_cons_zero, List.getElem_cons_succ, List.setIfInBounds_toArray, List.set_cons_zero, List.set_cons_succ]
    refine if_wanted (by rfl) ?_
    refine wp_build2 59 60 rfl (2, 0) (1, 2) rfl rfl ?_
    have hA := Lib.hid (And.intro (HV8.out.1.alloc (.cells (flatM [(2, 0), (1, 2)]).toArray 24)) (And.intro (HV8.out.2.alloc HV8.out.2.size (.cells (flatM [(2, 0), (1, 2)]).toArray 24)) (ms_two (S := fun _ => True) (m := (2, 0)) (k := (1, 2)) (Whole.new v8 _ _) trivial (min_lit ⟨by decide, by decide⟩ ⟨by decide, by decide⟩) (min_lit ⟨by decide, by decide⟩ ⟨by decide, by decide⟩))))
    clear hHeld r8 HV8
    generalize hva : v8.alloc (.cells (flatM [(2, 0), (1, 2)]).toArray 24) = va at *
    refine hK.out _ _ hA.out.1 (fun hHeld => ?_)
    clear hK K hHeld
    try simp only [Act.put, List.getElem_toArray, List.getElem_cons_zero, List.getElem_cons_succ, List.setIfInBounds_toArray, List.set_cons_zero, List.set_cons_succ]
    have hHeld := hA.out.1
    refine wpAnyH_ready (rs := [49]) (by kernel_rfl) (by simp) (AllReadyH.cons rfl (fun K hK => ?_) AllReadyH.nil)
    try simp only [List.getElem_toArray, List.getElem_cons_zero, List.getElem_cons_succ]
    refine if_wanted (by rfl) ?_
    refine wp_build1 57 rfl (1, 0) rfl ?_
    have HZ := Lib.hid (And.intro (hA.out.1.alloc (.cells (mc (1, 0)) 24)) (And.intro (hA.out.2.1.alloc hA.out.2.1.size (.cells (mc (1, 0)) 24)) (And.intro (ms_one (S := fun _ => True) (m := (1, 0)) (Whole.new va _ _) trivial (min_lit ⟨by decide, by decide⟩ ⟨by decide, by decide⟩)) ((hA.out.2.2.old).below (below_alloc va (.cells (mc (1, 0)) 24)) (fun _ _ h => h)))))
    clear hA hva
    clear hHeld
    generalize hwz : va.alloc (.cells (mc (1, 0)) 24) = wz at *
    clear hwz
    refine hK.out _ _ HZ.out.1 (fun hHeld => ?_)
    clear hK K hHeld
    try simp only [Act.put, List.getElem_toArray, List.getElem_cons_zero, List.getElem_cons_succ, List.setIfInBounds_toArray, List.set_cons_zero, List.set_cons_succ]
    have hHeld := HZ.out.1
    refine wpAnyH_ready (rs := [53]) (by kernel_rfl) (by simp) (AllReadyH.cons rfl (fun K hK => ?_) AllReadyH.nil)
    try simp only [List.getElem_toArray, List.getElem_cons_zero, List.getElem_cons_succ]
    go_simp
    refine (HM.out.all (w := wz) HZ.out.2.2.1 (by omega) HZ.out.2.2.2 (by omega) (by omega) (by omega)).mono ?_
    rintro e v9 ⟨a9, n9, c9, rfl, hm9, hb9⟩
    have hl9 : n9 = 2 := hm9.len.symm
    subst hl9
    have HT := Lib.hid (HZ.out.2.1.trans (hb9.mono HZ.out.2.1.size))
    have r9 := HZ.out.1.below hb9
    clear hm9 hb9 hHeld HZ
    go_wp2_with fail
    refine hK.out _ _ r9 (fun hHeld => ?_)
    clear hK K hHeld
    try simp only [Act.put, List.getElem_toArray, List.getElem_cons_zero, List.getElem_cons_succ, List.setIfInBounds_toArray, List.set_cons_zero, List.set_cons_succ]
    have hHeld := r9
    refine wpAnyH_take (i := 54) (v := .int .i64 2) rfl (by kernel_rfl) (by kernel_rfl) (by kernel_rfl) (fun _ _ _ h => h) (Or.inl ⟨by rfl, (by intro w hSw; (try dsimp only at hSw); go_simp)⟩) (by assumption) ?_
    try simp only [Act.put, List.getElem_toArray, List.getElem_cons_zero, List.getElem_cons_succ, List.setIfInBounds_toArray, List.set_cons_zero, List.set_cons_succ]
    refine wpAnyH_take (i := 55) (v := .bool true) rfl (by kernel_rfl) (by kernel_rfl) (by kernel_rfl) (fun _ _ _ h => h) (Or.inl ⟨by rfl, (by intro w hSw; (try dsimp only at hSw); go_simp)⟩) (by assumption) ?_
    try simp only [Act.put, List.getElem_toArray, List.getElem_cons_zero, List.getElem_cons_succ, List.setIfInBounds_toArray, List.set_cons_zero, List.set_cons_succ]
    refine wpAnyH_take (i := 56) (v := .bool true) rfl (by kernel_rfl) (by kernel_rfl) (by kernel_rfl) (fun _ _ _ h => h) (Or.inl ⟨by rfl, (by intro w hSw; (try dsimp only at hSw); go_simp)⟩) (by assumption) ?_
    try simp only [Act.put, List.getElem_toArray, List.getElem_cons_zero, List.getElem_cons_succ, List.setIfInBounds_toArray, List.set_cons_zero, List.set_cons_succ]
    refine wpAnyH_take (i := 57) (v := .bool true) rfl (by kernel_rfl) (by kernel_rfl) (by kernel_rfl) (fun _ _ _ h => h) (Or.inl ⟨by rfl, (by intro w hSw; (try dsimp only at hSw); go_simp)⟩) (by assumption) ?_
    try simp only [Act.put, List.getElem_toArray, List.getElem_cons_zero, List.getElem_cons_succ, List.setIfInBounds_toArray, List.set_cons_zero, List.set_cons_succ]
    refine wpAnyH_done (by kernel_rfl) ?_ _
    clear hHeld r9
    go_wp2
    go_ret
    exact ⟨rfl, HT.out⟩
end Go.Proofs.Ytlcpiompmpccoaa
