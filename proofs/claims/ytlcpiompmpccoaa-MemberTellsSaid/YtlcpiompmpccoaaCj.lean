/-
  The walk of MemberSpeaks.
-/
import Derived.Test.YtlcpiompmpccoaaCi
import Derived.Test.YtlcpiompmpccoaaCe
namespace Mb
theorem chk_zero {m : M} (h : chk m = 0) : 0 ≤ m.1 ∧ m.1 ≤ 1099511627776 ∧ 0 ≤ m.2 ∧ m.2 ≤ 2 := by
  unfold chk at h
  split at h
  · cases h
  · omega
theorem chk_ok {m : M} (h : 0 ≤ m.1 ∧ m.1 ≤ 1099511627776 ∧ 0 ≤ m.2 ∧ m.2 ≤ 2) : chk m = 0 := by
  unfold chk
  rw [if_neg (by omega)]
theorem join_of {a b : M} (h : ¬ less a b) : join a b = a := if_neg h
theorem join_to {a b : M} (h : less a b) : join a b = b := if_pos h
theorem speak_alive {o0 : Int} (h : M) : ∃ s0, speak (o0, 0) h = (s0, 0) := by
  unfold speak
  split
  · exact ⟨_, rfl⟩
  · split <;> exact ⟨_, rfl⟩
/-- What MemberSpeaks says. -/
theorem speaks_law {o0 h0 h1 s0 : Int} (ho : 0 ≤ o0 ∧ o0 ≤ 1099511627776) (hh : 0 ≤ h0 ∧ h0 < 1099511627776 ∧ 0 ≤ h1 ∧ h1 ≤ 2) (hs : speak (o0, 0) (h0, h1) = (s0, 0)) :
    (join (s0, 0) (h0, h1) ≠ (s0, 0) → h1 = 0 ∧ join (s0, 0) (h0, h1) = (h0, h1)) ∧ join (s0, 0) (o0, 0) = (s0, 0) ∧ chk (s0, 0) = 0 := by
  unfold speak at hs
  simp only at hs
  by_cases z : h0 < o0 ∨ h1 = 0
  · rw [if_pos z] at hs
    simp only [Prod.mk.injEq, and_true] at hs
    subst hs
    refine ⟨fun hj => ?_, join_self _, chk_ok (by simp only; omega)⟩
    by_cases z1 : less (o0, 0) (h0, h1)
    · refine ⟨?_, join_to z1⟩
      unfold less at z1
      simp only at z1
      omega
    · exact absurd (join_of z1) hj
  · rw [if_neg z, if_neg (by omega)] at hs
    simp only [Prod.mk.injEq, and_true] at hs
    subst hs
    refine ⟨fun hj => absurd (join_of ?_) hj, join_of ?_, chk_ok (by simp only; omega)⟩
    · unfold less
      simp only
      omega
    · unfold less
      simp only
      omega
theorem suspect_at (h : M) : ∃ x1, suspect h = (h.1, x1) ∧ (h.2 ≤ x1) ∧ (0 ≤ h.2 → h.2 ≤ 2 → 0 ≤ x1 ∧ x1 ≤ 2) := by
  unfold suspect
  split
  · exact ⟨1, rfl, by omega, fun _ _ => by omega⟩
  · exact ⟨h.2, rfl, by omega, fun _ _ => by omega⟩
theorem bury_at (h : M) : ∃ x1, bury h = (h.1, x1) ∧ (h.2 ≤ x1) ∧ (0 ≤ h.2 → h.2 ≤ 2 → 0 ≤ x1 ∧ x1 ≤ 2) := by
  unfold bury
  split
  · exact ⟨2, rfl, by omega, fun _ _ => by omega⟩
  · exact ⟨h.2, rfl, by omega, fun _ _ => by omega⟩
theorem join_up {h0 h1 x1 : Int} (h : h1 ≤ x1) : join (h0, x1) (h0, h1) = (h0, x1) := join_of (by unfold less; simp only; omega)
end Mb
namespace Go.Proofs.Ytlcpiompmpccoaa
open Go.RowKit Go.Great
set_option linter.unusedVariables false
set_option linter.unusedSimpArgs false
set_option maxRecDepth 20000
open Mb
theorem wpList_load_rowG {P : Program} {ops : Array Oper} {rest : List Oper} {o : Oper} {a : Act} {w : World} {Q : Exit → Act → World → Prop} (hgd : Region.wanted o (yielded ops a.tmps) = true) (ty : TypeId) (x : Operand) (ho : o.op = .load ty x)
    (g : Nat) (hx : a.eval x = .pointer (some ⟨g, 0, none⟩)) (t : TypeId) (cs : Array Value) (fr : Nat × Nat) (d : TypeDesc) (hg : w.heap[g]? = some (.cells cs t fr))
    (hu : P.underlying ty = some d) (hd : (match d with | .struct _ | .array _ _ => true | _ => false) = true) (hi : (P.info? ty).map (·.size) = some cs.size)
    (h : wpList P ops Q rest (a.put o.dst (.agg cs)) w) : wpList P ops Q (o :: rest) a w :=
  wpList_step fun _ hK => by rw [if_pos hgd]; exact wp_load_row ty x ho g hx t cs fr d hg hu hd hi (hK _ _ h)
theorem yields_cmpMF {ops : Array Oper} {S : World → Prop} {o : Oper} {a : Act} (hw : Region.wanted o (yielded ops a.tmps) = true) (x y : Operand) (ty : TypeId) (ho : o.op = .binOp .eql 24 x y ty)
    (m k : M) (hx : a.eval x = .agg (mc m)) (hy : a.eval y = .agg (mc k)) (h : m ≠ k) : YieldsIf Try.prog ops S o (.bool false) a := by
  refine Or.inl ⟨hw, fun w _ => ?_⟩
  unfold execOp
  simp only [ho, hx, hy, Sem.run_bind, guard_m, eqM, decide_eq_false h, Result.andThen_ok]
  rfl
set_option maxHeartbeats 8000000 in
theorem speaks_walk (hm : Mem) (hw : Awake) (x y : M) (hx : Min x) (hy : Min y) (w : World) : Calls Try.prog 7 #[.agg (mc x), .agg (mc y)] w fun e w' => e = .returned (.bool true) ∧ Below w.heap.size w w' := by
  obtain ⟨o0, o1⟩ := x
  obtain ⟨h0, h1⟩ := y
  obtain ⟨w1, hw1, hh1, hb1⟩ := two_boxes' (o0, o1) (h0, h1) w
  have HW := Lib.hid hw1
  have H1 := Lib.hid (And.intro hh1 hb1)
  have HI := Lib.hid (And.intro hx hy)
  have HM := Lib.hid hm
  have HA := Lib.hid hw
  clear hw1 hh1 hb1 hx hy hm hw
  go_enter Try.func7, Try.ntmps7
  go_upto_region 1 with fail
  rw [HW.out]
  go_wp2_with fail
  refine (HA.out w1).mono ?_
  rintro e w2 ⟨rfl, hb2⟩
  have H2 := Lib.hid (And.intro (H1.out.1.below hb2) (H1.out.2.trans (hb2.mono H1.out.2.size)))
  clear hb2 H1
  go_wp2_with (first | ((with_reducible show wpList _ _ _ ((⟨some 12, Op.load 24 (.tmp 2), _, _, _, _⟩ : Oper) :: _) _ _); refine wpList_load_rowG (by rfl) 24 (.tmp 2) rfl w.heap.size rfl 24 (mc (o0, o1)) (0, 0) _ (H2.out.1 (w.heap.size, (o0, o1)) (by simp)) Try.underlying24 rfl info2 ?_) | fail)
  refine (HM.out.check (o0, o1) w2).mono ?_
  rintro e w3 ⟨rfl, hb3⟩
  have H3 := Lib.hid (And.intro (H2.out.1.below hb3) (H2.out.2.trans (hb3.mono H2.out.2.size)))
  clear hb3 H2
  by_cases z : chk (o0, o1) = 0
  case neg =>
    obtain ⟨r, hr⟩ : ∃ r, chk (o0, o1) = r := ⟨_, rfl⟩
    rw [hr] at z ⊢
    have q : (r != 0) = true := by simp [z]
    clear hr
    go_wp2
    go_ret
    exact ⟨rfl, H3.out.2⟩
  have HO := Lib.hid (chk_zero z)
  rw [z]
  clear z
  go_wp2_with (first | ((with_reducible show wpList _ _ _ ((⟨some 16, Op.load 24 (.tmp 3), _, _, _, _⟩ : Oper) :: _) _ _); refine wpList_load_rowG (by rfl) 24 (.tmp 3) rfl (w.heap.size + 1) rfl 24 (mc (h0, h1)) (0, 0) _ (H3.out.1 (w.heap.size + 1, (h0, h1)) (by simp)) Try.underlying24 rfl info2 ?_) | fail)
  refine (HM.out.check (h0, h1) w3).mono ?_
  rintro e w4 ⟨rfl, hb4⟩
  have H4 := Lib.hid (And.intro (H3.out.1.below hb4) (H3.out.2.trans (hb4.mono H3.out.2.size)))
  clear hb4 H3
  by_cases z : chk (h0, h1) = 0
  case neg =>
    obtain ⟨r, hr⟩ : ∃ r, chk (h0, h1) = r := ⟨_, rfl⟩
    rw [hr] at z ⊢
    have q : (r != 0) = true := by simp [z]
    clear hr
    go_wp2
    go_ret
    exact ⟨rfl, H4.out.2⟩
  have HH := Lib.hid (chk_zero z)
  rw [z]
  clear z
  have c0 : w4.cell? ⟨w.heap.size + 1, 0, none⟩ = some (.int .i64 h0) := (H4.out.1 (w.heap.size + 1, (h0, h1)) (by simp)).c0
  have c1 : w4.cell? ⟨w.heap.size, 1, none⟩ = some (.int .i64 o1) := (H4.out.1 (w.heap.size, (o0, o1)) (by simp)).c1
  by_cases z : h0 = 1099511627776
  · have q : (h0 == 1099511627776) = true := by simp [z]
    clear z
    go_wp2
    go_ret
    exact ⟨rfl, H4.out.2⟩
  have q : (h0 == 1099511627776) = false := by simp [z]
  by_cases z1 : o1 = 0
  case neg =>
    have q1 : (o1 != 0) = true := by simp [z1]
    clear z z1
    go_wp2
    go_ret
    exact ⟨rfl, H4.out.2⟩
  subst z1
  obtain ⟨s0, hs⟩ := speak_alive (o0 := o0) (h0, h1)
  obtain ⟨x1, hx, hx1, hx2⟩ := suspect_at (h0, h1)
  obtain ⟨y1, hy, hy1, hy2⟩ := bury_at (h0, h1)
  have hlaw := speaks_law ⟨HO.out.1, HO.out.2.1⟩ (by have := HH.out; simp only at this; exact ⟨this.1, by omega, this.2.2.1, this.2.2.2⟩) hs
  have HJ0 := Lib.hid hlaw.1
  have HX : Hid (join (s0, 0) (o0, 0) = (s0, 0) ∧ chk (s0, 0) = 0 ∧ join (h0, x1) (h0, h1) = (h0, x1) ∧ join (h0, y1) (h0, h1) = (h0, y1) ∧ chk (h0, x1) = 0 ∧ chk (h0, y1) = 0) := Lib.hid ⟨hlaw.2.1, hlaw.2.2, join_up hx1, join_up hy1,
    chk_ok (by have h := HH.out; simp only at h hx2 ⊢; have := hx2 h.2.2.1 h.2.2.2; exact ⟨h.1, h.2.1, this.1, this.2⟩), chk_ok (by have h := HH.out; simp only at h hy2 ⊢; have := hy2 h.2.2.1 h.2.2.2; exact ⟨h.1, h.2.1, this.1, this.2⟩)⟩
  have HS := Lib.hid (And.intro hs (And.intro hx hy))
  clear z hs hx hx1 hx2 hy hy1 hy2 hlaw
  go_wp2_with (first | ((with_reducible show wpList _ _ _ ((⟨some 31, Op.load 24 (.tmp 2), _, _, _, _⟩ : Oper) :: _) _ _); refine wpList_load_rowG (by rfl) 24 (.tmp 2) rfl w.heap.size rfl 24 (mc (o0, 0)) (0, 0) _ (H4.out.1 (w.heap.size, (o0, 0)) (by simp)) Try.underlying24 rfl info2 ?_) | ((with_reducible show wpList _ _ _ ((⟨some 32, Op.load 24 (.tmp 3), _, _, _, _⟩ : Oper) :: _) _ _); refine wpList_load_rowG (by rfl) 24 (.tmp 3) rfl (w.heap.size + 1) rfl 24 (mc (h0, h1)) (0, 0) _ (H4.out.1 (w.heap.size + 1, (h0, h1)) (by simp)) Try.underlying24 rfl info2 ?_) | fail)
  refine (HM.out.speak (o0, 0) (h0, h1) w4 HI.out.1 HI.out.2).mono ?_
  rintro e w5 ⟨rfl, hb5⟩
  have H5 := Lib.hid (And.intro (H4.out.1.below hb5) (H4.out.2.trans (hb5.mono H4.out.2.size)))
  clear hb5 H4 c0 c1
  rw [HS.out.1]
  go_upto_region 5 with (first | ((with_reducible show wpList _ _ _ ((⟨_, Op.store 24 (.tmp 6) _, _, _, _, _⟩ : Oper) :: _) _ _); refine wpList_store_row rfl 24 (.tmp 6) (.tmp 33) rfl w5.heap.size (mc (s0, 0)) rfl rfl 24 (mc nought) (Whole.new w5 24 (mc nought)) info2 rfl (mc_one _) ?_) | fail)
  rw [show #[Value.int .i64 0, Value.int .i64 0] = mc nought from rfl]
  have h6 := held_new (s0, 0) H5.out.1 H5.out.2
  have H6 := Lib.hid (And.intro h6.1 h6.2.1)
  clear H5 h6
  generalize (w5.alloc (.cells (mc nought) 24)).setRow w5.heap.size (mc (s0, 0)) = w6 at *
  go_wp2_with (first | ((with_reducible show wpList _ _ _ ((⟨some 34, Op.load 24 (.tmp 3), _, _, _, _⟩ : Oper) :: _) _ _); refine wpList_load_rowG (by rfl) 24 (.tmp 3) rfl (w.heap.size + 1) rfl 24 (mc (h0, h1)) (0, 0) _ (H6.out.1 (w.heap.size + 1, (h0, h1)) (by simp)) Try.underlying24 rfl info2 ?_) | fail)
  refine (HM.out.suspect (h0, h1) w6).mono ?_
  rintro e w7 ⟨rfl, hb7⟩
  have H7 := Lib.hid (And.intro (H6.out.1.below hb7) (H6.out.2.trans (hb7.mono H6.out.2.size)))
  clear hb7 H6
  rw [HS.out.2.1]
  go_upto_region 6 with (first | ((with_reducible show wpList _ _ _ ((⟨_, Op.store 24 (.tmp 7) _, _, _, _, _⟩ : Oper) :: _) _ _); refine wpList_store_row rfl 24 (.tmp 7) (.tmp 35) rfl w7.heap.size (mc (h0, x1)) rfl rfl 24 (mc nought) (Whole.new w7 24 (mc nought)) info2 rfl (mc_one _) ?_) | fail)
  rw [show #[Value.int .i64 0, Value.int .i64 0] = mc nought from rfl]
  have h8 := held_new (h0, x1) H7.out.1 H7.out.2
  have H8 := Lib.hid (And.intro h8.1 h8.2.1)
  clear H7 h8
  generalize (w7.alloc (.cells (mc nought) 24)).setRow w7.heap.size (mc (h0, x1)) = w8 at *
  go_wp2_with (first | ((with_reducible show wpList _ _ _ ((⟨some 36, Op.load 24 (.tmp 3), _, _, _, _⟩ : Oper) :: _) _ _); refine wpList_load_rowG (by rfl) 24 (.tmp 3) rfl (w.heap.size + 1) rfl 24 (mc (h0, h1)) (0, 0) _ (H8.out.1 (w.heap.size + 1, (h0, h1)) (by simp)) Try.underlying24 rfl info2 ?_) | fail)
  refine (HM.out.bury (h0, h1) w8).mono ?_
  rintro e w9 ⟨rfl, hb9⟩
  have H9 := Lib.hid (And.intro (H8.out.1.below hb9) (H8.out.2.trans (hb9.mono H8.out.2.size)))
  clear hb9 H8
  rw [HS.out.2.2]
  go_upto_region 7 with (first | ((with_reducible show wpList _ _ _ ((⟨_, Op.store 24 (.tmp 8) _, _, _, _, _⟩ : Oper) :: _) _ _); refine wpList_store_row rfl 24 (.tmp 8) (.tmp 37) rfl w9.heap.size (mc (h0, y1)) rfl rfl 24 (mc nought) (Whole.new w9 24 (mc nought)) info2 rfl (mc_one _) ?_) | fail)
  rw [show #[Value.int .i64 0, Value.int .i64 0] = mc nought from rfl]
  have h10 := held_new (h0, y1) H9.out.1 H9.out.2
  have H10 := Lib.hid (And.intro h10.1 h10.2.1)
  clear H9 h10
  generalize (w9.alloc (.cells (mc nought) 24)).setRow w9.heap.size (mc (h0, y1)) = w10 at *
  clear HW HO HH HI HS q
  by_cases z : join (s0, 0) (h0, h1) = (s0, 0)
  · clear HJ0
    have hHeld0 : Held [(w9.heap.size, (h0, y1)), (w7.heap.size, (h0, x1)), (w5.heap.size, (s0, 0)), (w.heap.size, (o0, 0)), (w.heap.size + 1, (h0, h1))] w10.drew := H10.out.1.drew
    refine wp_region_held_drew (S := Held [(w9.heap.size, (h0, y1)), (w7.heap.size, (h0, x1)), (w5.heap.size, (s0, 0)), (w.heap.size, (o0, 0)), (w.heap.size + 1, (h0, h1))]) (by kernel_rfl) hHeld0 (fun hHeld => ?_)
    refine wpAnyH_take (i := 0) (v := .agg (mc (s0, 0))) rfl (by kernel_rfl) (by kernel_rfl) (by kernel_rfl) (fun _ _ _ h => h) (yields_bx (by rfl) _ rfl w5.heap.size rfl (s0, 0) (fun wq hSw => hSw (w5.heap.size, (s0, 0)) (by simp))) (by assumption) ?_
    try simp only [Act.put, List.getElem_toArray, List.getElem_cons_zero, List.getElem_cons_succ, List.setIfInBounds_toArray, List.set_cons_zero, List.set_cons_succ]
    refine wpAnyH_take (i := 1) (v := .agg (mc (h0, h1))) rfl (by kernel_rfl) (by kernel_rfl) (by kernel_rfl) (fun _ _ _ h => h) (yields_bx (by rfl) _ rfl (w.heap.size + 1) rfl (h0, h1) (fun wq hSw => hSw ((w.heap.size + 1), (h0, h1)) (by simp))) (by assumption) ?_
    try simp only [Act.put, List.getElem_toArray, List.getElem_cons_zero, List.getElem_cons_succ, List.setIfInBounds_toArray, List.set_cons_zero, List.set_cons_succ]
    refine wpAnyH_take (i := 3) (v := .agg (mc (s0, 0))) rfl (by kernel_rfl) (by kernel_rfl) (by kernel_rfl) (fun _ _ _ h => h) (yields_bx (by rfl) _ rfl w5.heap.size rfl (s0, 0) (fun wq hSw => hSw (w5.heap.size, (s0, 0)) (by simp))) (by assumption) ?_
    try simp only [Act.put, List.getElem_toArray, List.getElem_cons_zero, List.getElem_cons_succ, List.setIfInBounds_toArray, List.set_cons_zero, List.set_cons_succ]
    refine wpAnyH_ready (rs := [2]) (by kernel_rfl) (by simp) (AllReadyH.cons rfl (fun K hK => ?_) AllReadyH.nil)
    try simp only [List.getElem_toArray, List.getElem_cons_zero, List.getElem_cons_succ]
    go_simp
    refine (HM.out.join (s0, 0) (h0, h1) _).mono ?_
    rintro e p1 ⟨rfl, hb⟩
    have hb' : Below w10.heap.size w10 p1 := below_drew hb
    have HP1 := Lib.hid (And.intro (H10.out.1.below hb') (H10.out.2.trans (hb'.mono H10.out.2.size)))
    have r1 := HP1.out.1
    clear hb hb' hHeld hHeld0
    rw [z]
    go_wp2_with fail
    refine hK.out _ _ r1 (fun hHeld => ?_)
    clear hK K hHeld
    try simp only [Act.put, List.getElem_toArray, List.getElem_cons_zero, List.getElem_cons_succ, List.setIfInBounds_toArray, List.set_cons_zero, List.set_cons_succ]
    have hHeld := r1
    refine wpAnyH_take (i := 4) (v := .bool true) rfl (by kernel_rfl) (by kernel_rfl) (by kernel_rfl) (fun _ _ _ h => h) (yields_cmpM (by rfl) _ _ _ rfl (s0, 0) (s0, 0) rfl rfl rfl) (by assumption) ?_
    try simp only [Act.put, List.getElem_toArray, List.getElem_cons_zero, List.getElem_cons_succ, List.setIfInBounds_toArray, List.set_cons_zero, List.set_cons_succ]
    refine wpAnyH_take (i := 5) (v := .bool true) rfl (by kernel_rfl) (by kernel_rfl) (by kernel_rfl) (fun _ _ _ h => h) (Or.inl ⟨by rfl, (by intro w hSw; (try dsimp only at hSw); go_simp)⟩) (by assumption) ?_
    try simp only [Act.put, List.getElem_toArray, List.getElem_cons_zero, List.getElem_cons_succ, List.setIfInBounds_toArray, List.set_cons_zero, List.set_cons_succ]
    refine wpAnyH_take (i := 6) (v := undef) rfl (by kernel_rfl) (by kernel_rfl) (by kernel_rfl) (fun _ _ _ h => h) (Or.inr ⟨by rfl, rfl⟩) (by assumption) ?_
    try simp only [Act.put, List.getElem_toArray, List.getElem_cons_zero, List.getElem_cons_succ, List.setIfInBounds_toArray, List.set_cons_zero, List.set_cons_succ]
    refine wpAnyH_take (i := 7) (v := undef) rfl (by kernel_rfl) (by kernel_rfl) (by kernel_rfl) (fun _ _ _ h => h) (Or.inr ⟨by rfl, rfl⟩) (by assumption) ?_
    try simp only [Act.put, List.getElem_toArray, List.getElem_cons_zero, List.getElem_cons_succ, List.setIfInBounds_toArray, List.set_cons_zero, List.set_cons_succ]
    refine wpAnyH_take (i := 8) (v := undef) rfl (by kernel_rfl) (by kernel_rfl) (by kernel_rfl) (fun _ _ _ h => h) (Or.inr ⟨by rfl, rfl⟩) (by assumption) ?_
    try simp only [Act.put, List.getElem_toArray, List.getElem_cons_zero, List.getElem_cons_succ, List.setIfInBounds_toArray, List.set_cons_zero, List.set_cons_succ]
    refine wpAnyH_take (i := 9) (v := undef) rfl (by kernel_rfl) (by kernel_rfl) (by kernel_rfl) (fun _ _ _ h => h) (Or.inr ⟨by rfl, rfl⟩) (by assumption) ?_
    try simp only [Act.put, List.getElem_toArray, List.getElem_cons_zero, List.getElem_cons_succ, List.setIfInBounds_toArray, List.set_cons_zero, List.set_cons_succ]
    refine wpAnyH_take (i := 10) (v := undef) rfl (by kernel_rfl) (by kernel_rfl) (by kernel_rfl) (fun _ _ _ h => h) (Or.inr ⟨by rfl, rfl⟩) (by assumption) ?_
    try simp only [Act.put, List.getElem_toArray, List.getElem_cons_zero, List.getElem_cons_succ, List.setIfInBounds_toArray, List.set_cons_zero, List.set_cons_succ]
    refine wpAnyH_take (i := 11) (v := undef) rfl (by kernel_rfl) (by kernel_rfl) (by kernel_rfl) (fun _ _ _ h => h) (Or.inr ⟨by rfl, rfl⟩) (by assumption) ?_
    try simp only [Act.put, List.getElem_toArray, List.getElem_cons_zero, List.getElem_cons_succ, List.setIfInBounds_toArray, List.set_cons_zero, List.set_cons_succ]
    refine wpAnyH_take (i := 12) (v := undef) rfl (by kernel_rfl) (by kernel_rfl) (by kernel_rfl) (fun _ _ _ h => h) (Or.inr ⟨by rfl, rfl⟩) (by assumption) ?_
    try simp only [Act.put, List.getElem_toArray, List.getElem_cons_zero, List.getElem_cons_succ, List.setIfInBounds_toArray, List.set_cons_zero, List.set_cons_succ]
    refine wpAnyH_take (i := 13) (v := undef) rfl (by kernel_rfl) (by kernel_rfl) (by kernel_rfl) (fun _ _ _ h => h) (Or.inr ⟨by rfl, rfl⟩) (by assumption) ?_
    try simp only [Act.put, List.getElem_toArray, List.getElem_cons_zero, List.getElem_cons_succ, List.setIfInBounds_toArray, List.set_cons_zero, List.set_cons_succ]
    refine wpAnyH_take (i := 14) (v := undef) rfl (by kernel_rfl) (by kernel_rfl) (by kernel_rfl) (fun _ _ _ h => h) (Or.inr ⟨by rfl, rfl⟩) (by assumption) ?_
    try simp only [Act.put, List.getElem_toArray, List.getElem_cons_zero, List.getElem_cons_succ, List.setIfInBounds_toArray, List.set_cons_zero, List.set_cons_succ]
    refine wpAnyH_take (i := 15) (v := undef) rfl (by kernel_rfl) (by kernel_rfl) (by kernel_rfl) (fun _ _ _ h => h) (Or.inr ⟨by rfl, rfl⟩) (by assumption) ?_
    try simp only [Act.put, List.getElem_toArray, List.getElem_cons_zero, List.getElem_cons_succ, List.setIfInBounds_toArray, List.set_cons_zero, List.set_cons_succ]
    refine wpAnyH_take (i := 16) (v := .bool true) rfl (by kernel_rfl) (by kernel_rfl) (by kernel_rfl) (fun _ _ _ h => h) (Or.inl ⟨by rfl, (by intro w hSw; (try dsimp only at hSw); go_simp)⟩) (by assumption) ?_
    try simp only [Act.put, List.getElem_toArray, List.getElem_cons_zero, List.getElem_cons_succ, List.setIfInBounds_toArray, List.set_cons_zero, List.set_cons_succ]
    refine wpAnyH_take (i := 17) (v := .bool true) rfl (by kernel_rfl) (by kernel_rfl) (by kernel_rfl) (fun _ _ _ h => h) (Or.inl ⟨by rfl, (by intro w hSw; (try dsimp only at hSw); go_simp)⟩) (by assumption) ?_
    try simp only [Act.put, List.getElem_toArray, List.getElem_cons_zero, List.getElem_cons_succ, List.setIfInBounds_toArray, List.set_cons_zero, List.set_cons_succ]
    refine wpAnyH_done (by kernel_rfl) ?_ _
    clear hHeld r1
    go_upto_region 8 with fail
    have hHeld0 : Held [(w9.heap.size, (h0, y1)), (w7.heap.size, (h0, x1)), (w5.heap.size, (s0, 0)), (w.heap.size, (o0, 0)), (w.heap.size + 1, (h0, h1))] p1.drew := HP1.out.1.drew
    refine wp_region_held_drew (S := Held [(w9.heap.size, (h0, y1)), (w7.heap.size, (h0, x1)), (w5.heap.size, (s0, 0)), (w.heap.size, (o0, 0)), (w.heap.size + 1, (h0, h1))]) (by kernel_rfl) hHeld0 (fun hHeld => ?_)
    refine wpAnyH_take (i := 0) (v := .agg (mc (s0, 0))) rfl (by kernel_rfl) (by kernel_rfl) (by kernel_rfl) (fun _ _ _ h => h) (yields_bx (by rfl) _ rfl w5.heap.size rfl (s0, 0) (fun wq hSw => hSw (w5.heap.size, (s0, 0)) (by simp))) (by assumption) ?_
    try simp only [Act.put, List.getElem_toArray, List.getElem_cons_zero, List.getElem_cons_succ, List.setIfInBounds_toArray, List.set_cons_zero, List.set_cons_succ]
    refine wpAnyH_take (i := 1) (v := .agg (mc (o0, 0))) rfl (by kernel_rfl) (by kernel_rfl) (by kernel_rfl) (fun _ _ _ h => h) (yields_bx (by rfl) _ rfl w.heap.size rfl (o0, 0) (fun wq hSw => hSw (w.heap.size, (o0, 0)) (by simp))) (by assumption) ?_
    try simp only [Act.put, List.getElem_toArray, List.getElem_cons_zero, List.getElem_cons_succ, List.setIfInBounds_toArray, List.set_cons_zero, List.set_cons_succ]
    refine wpAnyH_take (i := 3) (v := .agg (mc (s0, 0))) rfl (by kernel_rfl) (by kernel_rfl) (by kernel_rfl) (fun _ _ _ h => h) (yields_bx (by rfl) _ rfl w5.heap.size rfl (s0, 0) (fun wq hSw => hSw (w5.heap.size, (s0, 0)) (by simp))) (by assumption) ?_
    try simp only [Act.put, List.getElem_toArray, List.getElem_cons_zero, List.getElem_cons_succ, List.setIfInBounds_toArray, List.set_cons_zero, List.set_cons_succ]
    refine wpAnyH_ready (rs := [2]) (by kernel_rfl) (by simp) (AllReadyH.cons rfl (fun K hK => ?_) AllReadyH.nil)
    try simp only [List.getElem_toArray, List.getElem_cons_zero, List.getElem_cons_succ]
    go_simp
    refine (HM.out.join (s0, 0) (o0, 0) _).mono ?_
    rintro e q1 ⟨rfl, hb⟩
    have hb' : Below p1.heap.size p1 q1 := below_drew hb
    have HQ1 := Lib.hid (And.intro (HP1.out.1.below hb') (HP1.out.2.trans (hb'.mono HP1.out.2.size)))
    have r1 := HQ1.out.1
    clear hb hb' hHeld hHeld0
    rw [HX.out.1]
    go_wp2_with fail
    refine hK.out _ _ r1 (fun hHeld => ?_)
    clear hK K hHeld
    try simp only [Act.put, List.getElem_toArray, List.getElem_cons_zero, List.getElem_cons_succ, List.setIfInBounds_toArray, List.set_cons_zero, List.set_cons_succ]
    have hHeld := r1
    refine wpAnyH_take (i := 4) (v := .bool true) rfl (by kernel_rfl) (by kernel_rfl) (by kernel_rfl) (fun _ _ _ h => h) (yields_cmpM (by rfl) _ _ _ rfl (s0, 0) (s0, 0) rfl rfl rfl) (by assumption) ?_
    try simp only [Act.put, List.getElem_toArray, List.getElem_cons_zero, List.getElem_cons_succ, List.setIfInBounds_toArray, List.set_cons_zero, List.set_cons_succ]
    refine wpAnyH_take (i := 5) (v := .bool true) rfl (by kernel_rfl) (by kernel_rfl) (by kernel_rfl) (fun _ _ _ h => h) (Or.inl ⟨by rfl, (by intro w hSw; (try dsimp only at hSw); go_simp)⟩) (by assumption) ?_
    try simp only [Act.put, List.getElem_toArray, List.getElem_cons_zero, List.getElem_cons_succ, List.setIfInBounds_toArray, List.set_cons_zero, List.set_cons_succ]
    refine wpAnyH_take (i := 6) (v := .pointer (some ⟨w5.heap.size, 1, none⟩)) rfl (by kernel_rfl) (by kernel_rfl) (by kernel_rfl) (fun _ _ _ h => h) (Or.inl ⟨by rfl, (by intro w hSw; (try dsimp only at hSw); go_simp)⟩) (by assumption) ?_
    try simp only [Act.put, List.getElem_toArray, List.getElem_cons_zero, List.getElem_cons_succ, List.setIfInBounds_toArray, List.set_cons_zero, List.set_cons_succ]
    refine wpAnyH_take (i := 7) (v := .int .i64 0) rfl (by kernel_rfl) (by kernel_rfl) (by kernel_rfl) (fun _ _ _ h => h) (Or.inl ⟨by rfl, (by intro wq hSw; have hq : wq.cell? ⟨w5.heap.size, 1, none⟩ = some (.int .i64 0) := (hSw (w5.heap.size, (s0, 0)) (by simp)).c1; clear hSw; go_simp)⟩) (by assumption) ?_
    try simp only [Act.put, List.getElem_toArray, List.getElem_cons_zero, List.getElem_cons_succ, List.setIfInBounds_toArray, List.set_cons_zero, List.set_cons_succ]
    refine wpAnyH_take (i := 8) (v := .bool true) rfl (by kernel_rfl) (by kernel_rfl) (by kernel_rfl) (fun _ _ _ h => h) (Or.inl ⟨by rfl, (by intro w hSw; (try dsimp only at hSw); go_simp)⟩) (by assumption) ?_
    try simp only [Act.put, List.getElem_toArray, List.getElem_cons_zero, List.getElem_cons_succ, List.setIfInBounds_toArray, List.set_cons_zero, List.set_cons_succ]
    refine wpAnyH_take (i := 9) (v := .bool true) rfl (by kernel_rfl) (by kernel_rfl) (by kernel_rfl) (fun _ _ _ h => h) (Or.inl ⟨by rfl, (by intro w hSw; (try dsimp only at hSw); go_simp)⟩) (by assumption) ?_
    try simp only [Act.put, List.getElem_toArray, List.getElem_cons_zero, List.getElem_cons_succ, List.setIfInBounds_toArray, List.set_cons_zero, List.set_cons_succ]
    refine wpAnyH_take (i := 10) (v := .bool true) rfl (by kernel_rfl) (by kernel_rfl) (by kernel_rfl) (fun _ _ _ h => h) (Or.inl ⟨by rfl, (by intro w hSw; (try dsimp only at hSw); go_simp)⟩) (by assumption) ?_
    try simp only [Act.put, List.getElem_toArray, List.getElem_cons_zero, List.getElem_cons_succ, List.setIfInBounds_toArray, List.set_cons_zero, List.set_cons_succ]
    refine wpAnyH_take (i := 11) (v := .agg (mc (s0, 0))) rfl (by kernel_rfl) (by kernel_rfl) (by kernel_rfl) (fun _ _ _ h => h) (yields_bx (by rfl) _ rfl w5.heap.size rfl (s0, 0) (fun wq hSw => hSw (w5.heap.size, (s0, 0)) (by simp))) (by assumption) ?_
    try simp only [Act.put, List.getElem_toArray, List.getElem_cons_zero, List.getElem_cons_succ, List.setIfInBounds_toArray, List.set_cons_zero, List.set_cons_succ]
    refine wpAnyH_ready (rs := [12]) (by kernel_rfl) (by simp) (AllReadyH.cons rfl (fun K hK => ?_) AllReadyH.nil)
    try simp only [List.getElem_toArray, List.getElem_cons_zero, List.getElem_cons_succ]
    go_simp
    refine (HM.out.check (s0, 0) _).mono ?_
    rintro e q2 ⟨rfl, hb⟩
    have hb' := hb
    have HQ2 := Lib.hid (And.intro (HQ1.out.1.below hb') (HQ1.out.2.trans (hb'.mono HQ1.out.2.size)))
    have r2 := HQ2.out.1
    clear hb hb' hHeld r1 HQ1
    rw [HX.out.2.1]
    go_wp2_with fail
    refine hK.out _ _ r2 (fun hHeld => ?_)
    clear hK K hHeld
    try simp only [Act.put, List.getElem_toArray, List.getElem_cons_zero, List.getElem_cons_succ, List.setIfInBounds_toArray, List.set_cons_zero, List.set_cons_succ]
    have hHeld := r2
    refine wpAnyH_take (i := 13) (v := .bool true) rfl (by kernel_rfl) (by kernel_rfl) (by kernel_rfl) (fun _ _ _ h => h) (Or.inl ⟨by rfl, (by intro w hSw; (try dsimp only at hSw); go_simp)⟩) (by assumption) ?_
    try simp only [Act.put, List.getElem_toArray, List.getElem_cons_zero, List.getElem_cons_succ, List.setIfInBounds_toArray, List.set_cons_zero, List.set_cons_succ]
    refine wpAnyH_take (i := 14) (v := .bool true) rfl (by kernel_rfl) (by kernel_rfl) (by kernel_rfl) (fun _ _ _ h => h) (Or.inl ⟨by rfl, (by intro w hSw; (try dsimp only at hSw); go_simp)⟩) (by assumption) ?_
    try simp only [Act.put, List.getElem_toArray, List.getElem_cons_zero, List.getElem_cons_succ, List.setIfInBounds_toArray, List.set_cons_zero, List.set_cons_succ]
    refine wpAnyH_take (i := 15) (v := .bool true) rfl (by kernel_rfl) (by kernel_rfl) (by kernel_rfl) (fun _ _ _ h => h) (Or.inl ⟨by rfl, (by intro w hSw; (try dsimp only at hSw); go_simp)⟩) (by assumption) ?_
    try simp only [Act.put, List.getElem_toArray, List.getElem_cons_zero, List.getElem_cons_succ, List.setIfInBounds_toArray, List.set_cons_zero, List.set_cons_succ]
    refine wpAnyH_done (by kernel_rfl) ?_ _
    clear hHeld r2
    go_upto_region 9 with fail
    have hHeld0 : Held [(w9.heap.size, (h0, y1)), (w7.heap.size, (h0, x1)), (w5.heap.size, (s0, 0)), (w.heap.size, (o0, 0)), (w.heap.size + 1, (h0, h1))] q2.drew := HQ2.out.1.drew
    refine wp_region_held_drew (S := Held [(w9.heap.size, (h0, y1)), (w7.heap.size, (h0, x1)), (w5.heap.size, (s0, 0)), (w.heap.size, (o0, 0)), (w.heap.size + 1, (h0, h1))]) (by kernel_rfl) hHeld0 (fun hHeld => ?_)
    refine wpAnyH_take (i := 0) (v := .bool true) rfl (by kernel_rfl) (by kernel_rfl) (by kernel_rfl) (fun _ _ _ h => h) (Or.inl ⟨by rfl, (by intro w hSw; (try dsimp only at hSw); go_simp)⟩) (by assumption) ?_
    try simp only [Act.put, List.getElem_toArray, List.getElem_cons_zero, List.getElem_cons_succ, List.setIfInBounds_toArray, List.set_cons_zero, List.set_cons_succ]
    refine wpAnyH_take (i := 1) (v := .bool true) rfl (by kernel_rfl) (by kernel_rfl) (by kernel_rfl) (fun _ _ _ h => h) (Or.inl ⟨by rfl, (by intro w hSw; (try dsimp only at hSw); go_simp)⟩) (by assumption) ?_
    try simp only [Act.put, List.getElem_toArray, List.getElem_cons_zero, List.getElem_cons_succ, List.setIfInBounds_toArray, List.set_cons_zero, List.set_cons_succ]
    refine wpAnyH_take (i := 2) (v := .bool true) rfl (by kernel_rfl) (by kernel_rfl) (by kernel_rfl) (fun _ _ _ h => h) (Or.inl ⟨by rfl, (by intro w hSw; (try dsimp only at hSw); go_simp)⟩) (by assumption) ?_
    try simp only [Act.put, List.getElem_toArray, List.getElem_cons_zero, List.getElem_cons_succ, List.setIfInBounds_toArray, List.set_cons_zero, List.set_cons_succ]
    refine wpAnyH_take (i := 3) (v := .bool true) rfl (by kernel_rfl) (by kernel_rfl) (by kernel_rfl) (fun _ _ _ h => h) (Or.inl ⟨by rfl, (by intro w hSw; (try dsimp only at hSw); go_simp)⟩) (by assumption) ?_
    try simp only [Act.put, List.getElem_toArray, List.getElem_cons_zero, List.getElem_cons_succ, List.setIfInBounds_toArray, List.set_cons_zero, List.set_cons_succ]
    refine wpAnyH_take (i := 4) (v := .bool true) rfl (by kernel_rfl) (by kernel_rfl) (by kernel_rfl) (fun _ _ _ h => h) (Or.inl ⟨by rfl, (by intro w hSw; (try dsimp only at hSw); go_simp)⟩) (by assumption) ?_
    try simp only [Act.put, List.getElem_toArray, List.getElem_cons_zero, List.getElem_cons_succ, List.setIfInBounds_toArray, List.set_cons_zero, List.set_cons_succ]
    refine wpAnyH_take (i := 5) (v := .bool true) rfl (by kernel_rfl) (by kernel_rfl) (by kernel_rfl) (fun _ _ _ h => h) (Or.inl ⟨by rfl, (by intro w hSw; (try dsimp only at hSw); go_simp)⟩) (by assumption) ?_
    try simp only [Act.put, List.getElem_toArray, List.getElem_cons_zero, List.getElem_cons_succ, List.setIfInBounds_toArray, List.set_cons_zero, List.set_cons_succ]
    refine wpAnyH_take (i := 6) (v := .bool true) rfl (by kernel_rfl) (by kernel_rfl) (by kernel_rfl) (fun _ _ _ h => h) (Or.inl ⟨by rfl, (by intro w hSw; (try dsimp only at hSw); go_simp)⟩) (by assumption) ?_
    try simp only [Act.put, List.getElem_toArray, List.getElem_cons_zero, List.getElem_cons_succ, List.setIfInBounds_toArray, List.set_cons_zero, List.set_cons_succ]
    refine wpAnyH_take (i := 7) (v := .bool true) rfl (by kernel_rfl) (by kernel_rfl) (by kernel_rfl) (fun _ _ _ h => h) (Or.inl ⟨by rfl, (by intro w hSw; (try dsimp only at hSw); go_simp)⟩) (by assumption) ?_
    try simp only [Act.put, List.getElem_toArray, List.getElem_cons_zero, List.getElem_cons_succ, List.setIfInBounds_toArray, List.set_cons_zero, List.set_cons_succ]
    refine wpAnyH_take (i := 8) (v := .agg (mc (h0, x1))) rfl (by kernel_rfl) (by kernel_rfl) (by kernel_rfl) (fun _ _ _ h => h) (yields_bx (by rfl) _ rfl w7.heap.size rfl (h0, x1) (fun wq hSw => hSw (w7.heap.size, (h0, x1)) (by simp))) (by assumption) ?_
    try simp only [Act.put, List.getElem_toArray, List.getElem_cons_zero, List.getElem_cons_succ, List.setIfInBounds_toArray, List.set_cons_zero, List.set_cons_succ]
    refine wpAnyH_take (i := 9) (v := .agg (mc (h0, h1))) rfl (by kernel_rfl) (by kernel_rfl) (by kernel_rfl) (fun _ _ _ h => h) (yields_bx (by rfl) _ rfl (w.heap.size + 1) rfl (h0, h1) (fun wq hSw => hSw ((w.heap.size + 1), (h0, h1)) (by simp))) (by assumption) ?_
    try simp only [Act.put, List.getElem_toArray, List.getElem_cons_zero, List.getElem_cons_succ, List.setIfInBounds_toArray, List.set_cons_zero, List.set_cons_succ]
    refine wpAnyH_take (i := 11) (v := .agg (mc (h0, x1))) rfl (by kernel_rfl) (by kernel_rfl) (by kernel_rfl) (fun _ _ _ h => h) (yields_bx (by rfl) _ rfl w7.heap.size rfl (h0, x1) (fun wq hSw => hSw (w7.heap.size, (h0, x1)) (by simp))) (by assumption) ?_
    try simp only [Act.put, List.getElem_toArray, List.getElem_cons_zero, List.getElem_cons_succ, List.setIfInBounds_toArray, List.set_cons_zero, List.set_cons_succ]
    refine wpAnyH_ready (rs := [10]) (by kernel_rfl) (by simp) (AllReadyH.cons rfl (fun K hK => ?_) AllReadyH.nil)
    try simp only [List.getElem_toArray, List.getElem_cons_zero, List.getElem_cons_succ]
    go_simp
    refine (HM.out.join (h0, x1) (h0, h1) _).mono ?_
    rintro e u1 ⟨rfl, hb⟩
    have hb' : Below q2.heap.size q2 u1 := below_drew hb
    have HU1 := Lib.hid (And.intro (HQ2.out.1.below hb') (HQ2.out.2.trans (hb'.mono HQ2.out.2.size)))
    have r1 := HU1.out.1
    clear hb hb' hHeld hHeld0
    rw [HX.out.2.2.1]
    go_wp2_with fail
    refine hK.out _ _ r1 (fun hHeld => ?_)
    clear hK K hHeld
    try simp only [Act.put, List.getElem_toArray, List.getElem_cons_zero, List.getElem_cons_succ, List.setIfInBounds_toArray, List.set_cons_zero, List.set_cons_succ]
    have hHeld := r1
    refine wpAnyH_take (i := 12) (v := .bool true) rfl (by kernel_rfl) (by kernel_rfl) (by kernel_rfl) (fun _ _ _ h => h) (yields_cmpM (by rfl) _ _ _ rfl (h0, x1) (h0, x1) rfl rfl rfl) (by assumption) ?_
    try simp only [Act.put, List.getElem_toArray, List.getElem_cons_zero, List.getElem_cons_succ, List.setIfInBounds_toArray, List.set_cons_zero, List.set_cons_succ]
    refine wpAnyH_take (i := 13) (v := .bool true) rfl (by kernel_rfl) (by kernel_rfl) (by kernel_rfl) (fun _ _ _ h => h) (Or.inl ⟨by rfl, (by intro w hSw; (try dsimp only at hSw); go_simp)⟩) (by assumption) ?_
    try simp only [Act.put, List.getElem_toArray, List.getElem_cons_zero, List.getElem_cons_succ, List.setIfInBounds_toArray, List.set_cons_zero, List.set_cons_succ]
    refine wpAnyH_take (i := 14) (v := .bool true) rfl (by kernel_rfl) (by kernel_rfl) (by kernel_rfl) (fun _ _ _ h => h) (Or.inl ⟨by rfl, (by intro w hSw; (try dsimp only at hSw); go_simp)⟩) (by assumption) ?_
    try simp only [Act.put, List.getElem_toArray, List.getElem_cons_zero, List.getElem_cons_succ, List.setIfInBounds_toArray, List.set_cons_zero, List.set_cons_succ]
    refine wpAnyH_take (i := 15) (v := .agg (mc (h0, y1))) rfl (by kernel_rfl) (by kernel_rfl) (by kernel_rfl) (fun _ _ _ h => h) (yields_bx (by rfl) _ rfl w9.heap.size rfl (h0, y1) (fun wq hSw => hSw (w9.heap.size, (h0, y1)) (by simp))) (by assumption) ?_
    try simp only [Act.put, List.getElem_toArray, List.getElem_cons_zero, List.getElem_cons_succ, List.setIfInBounds_toArray, List.set_cons_zero, List.set_cons_succ]
    refine wpAnyH_take (i := 16) (v := .agg (mc (h0, h1))) rfl (by kernel_rfl) (by kernel_rfl) (by kernel_rfl) (fun _ _ _ h => h) (yields_bx (by rfl) _ rfl (w.heap.size + 1) rfl (h0, h1) (fun wq hSw => hSw ((w.heap.size + 1), (h0, h1)) (by simp))) (by assumption) ?_
    try simp only [Act.put, List.getElem_toArray, List.getElem_cons_zero, List.getElem_cons_succ, List.setIfInBounds_toArray, List.set_cons_zero, List.set_cons_succ]
    refine wpAnyH_take (i := 18) (v := .agg (mc (h0, y1))) rfl (by kernel_rfl) (by kernel_rfl) (by kernel_rfl) (fun _ _ _ h => h) (yields_bx (by rfl) _ rfl w9.heap.size rfl (h0, y1) (fun wq hSw => hSw (w9.heap.size, (h0, y1)) (by simp))) (by assumption) ?_
    try simp only [Act.put, List.getElem_toArray, List.getElem_cons_zero, List.getElem_cons_succ, List.setIfInBounds_toArray, List.set_cons_zero, List.set_cons_succ]
    refine wpAnyH_ready (rs := [17]) (by kernel_rfl) (by simp) (AllReadyH.cons rfl (fun K hK => ?_) AllReadyH.nil)
    try simp only [List.getElem_toArray, List.getElem_cons_zero, List.getElem_cons_succ]
    go_simp
    refine (HM.out.join (h0, y1) (h0, h1) _).mono ?_
    rintro e u2 ⟨rfl, hb⟩
    have hb' := hb
    have HU2 := Lib.hid (And.intro (HU1.out.1.below hb') (HU1.out.2.trans (hb'.mono HU1.out.2.size)))
    have r2 := HU2.out.1
    clear hb hb' hHeld r1 HU1
    rw [HX.out.2.2.2.1]
    go_wp2_with fail
    refine hK.out _ _ r2 (fun hHeld => ?_)
    clear hK K hHeld
    try simp only [Act.put, List.getElem_toArray, List.getElem_cons_zero, List.getElem_cons_succ, List.setIfInBounds_toArray, List.set_cons_zero, List.set_cons_succ]
    have hHeld := r2
    refine wpAnyH_take (i := 19) (v := .bool true) rfl (by kernel_rfl) (by kernel_rfl) (by kernel_rfl) (fun _ _ _ h => h) (yields_cmpM (by rfl) _ _ _ rfl (h0, y1) (h0, y1) rfl rfl rfl) (by assumption) ?_
    try simp only [Act.put, List.getElem_toArray, List.getElem_cons_zero, List.getElem_cons_succ, List.setIfInBounds_toArray, List.set_cons_zero, List.set_cons_succ]
    refine wpAnyH_take (i := 20) (v := .bool true) rfl (by kernel_rfl) (by kernel_rfl) (by kernel_rfl) (fun _ _ _ h => h) (Or.inl ⟨by rfl, (by intro w hSw; (try dsimp only at hSw); go_simp)⟩) (by assumption) ?_
    try simp only [Act.put, List.getElem_toArray, List.getElem_cons_zero, List.getElem_cons_succ, List.setIfInBounds_toArray, List.set_cons_zero, List.set_cons_succ]
    refine wpAnyH_take (i := 21) (v := .bool true) rfl (by kernel_rfl) (by kernel_rfl) (by kernel_rfl) (fun _ _ _ h => h) (Or.inl ⟨by rfl, (by intro w hSw; (try dsimp only at hSw); go_simp)⟩) (by assumption) ?_
    try simp only [Act.put, List.getElem_toArray, List.getElem_cons_zero, List.getElem_cons_succ, List.setIfInBounds_toArray, List.set_cons_zero, List.set_cons_succ]
    refine wpAnyH_take (i := 22) (v := .agg (mc (h0, x1))) rfl (by kernel_rfl) (by kernel_rfl) (by kernel_rfl) (fun _ _ _ h => h) (yields_bx (by rfl) _ rfl w7.heap.size rfl (h0, x1) (fun wq hSw => hSw (w7.heap.size, (h0, x1)) (by simp))) (by assumption) ?_
    try simp only [Act.put, List.getElem_toArray, List.getElem_cons_zero, List.getElem_cons_succ, List.setIfInBounds_toArray, List.set_cons_zero, List.set_cons_succ]
    refine wpAnyH_ready (rs := [23]) (by kernel_rfl) (by simp) (AllReadyH.cons rfl (fun K hK => ?_) AllReadyH.nil)
    try simp only [List.getElem_toArray, List.getElem_cons_zero, List.getElem_cons_succ]
    go_simp
    refine (HM.out.check (h0, x1) _).mono ?_
    rintro e u3 ⟨rfl, hb⟩
    have hb' := hb
    have HU3 := Lib.hid (And.intro (HU2.out.1.below hb') (HU2.out.2.trans (hb'.mono HU2.out.2.size)))
    have r3 := HU3.out.1
    clear hb hb' hHeld r2 HU2
    rw [HX.out.2.2.2.2.1]
    go_wp2_with fail
    refine hK.out _ _ r3 (fun hHeld => ?_)
    clear hK K hHeld
    try simp only [Act.put, List.getElem_toArray, List.getElem_cons_zero, List.getElem_cons_succ, List.setIfInBounds_toArray, List.set_cons_zero, List.set_cons_succ]
    have hHeld := r3
    refine wpAnyH_take (i := 24) (v := .bool true) rfl (by kernel_rfl) (by kernel_rfl) (by kernel_rfl) (fun _ _ _ h => h) (Or.inl ⟨by rfl, (by intro w hSw; (try dsimp only at hSw); go_simp)⟩) (by assumption) ?_
    try simp only [Act.put, List.getElem_toArray, List.getElem_cons_zero, List.getElem_cons_succ, List.setIfInBounds_toArray, List.set_cons_zero, List.set_cons_succ]
    refine wpAnyH_take (i := 25) (v := .bool true) rfl (by kernel_rfl) (by kernel_rfl) (by kernel_rfl) (fun _ _ _ h => h) (Or.inl ⟨by rfl, (by intro w hSw; (try dsimp only at hSw); go_simp)⟩) (by assumption) ?_
    try simp only [Act.put, List.getElem_toArray, List.getElem_cons_zero, List.getElem_cons_succ, List.setIfInBounds_toArray, List.set_cons_zero, List.set_cons_succ]
    refine wpAnyH_take (i := 26) (v := .bool true) rfl (by kernel_rfl) (by kernel_rfl) (by kernel_rfl) (fun _ _ _ h => h) (Or.inl ⟨by rfl, (by intro w hSw; (try dsimp only at hSw); go_simp)⟩) (by assumption) ?_
    try simp only [Act.put, List.getElem_toArray, List.getElem_cons_zero, List.getElem_cons_succ, List.setIfInBounds_toArray, List.set_cons_zero, List.set_cons_succ]
    refine wpAnyH_take (i := 27) (v := .agg (mc (h0, y1))) rfl (by kernel_rfl) (by kernel_rfl) (by kernel_rfl) (fun _ _ _ h => h) (yields_bx (by rfl) _ rfl w9.heap.size rfl (h0, y1) (fun wq hSw => hSw (w9.heap.size, (h0, y1)) (by simp))) (by assumption) ?_
    try simp only [Act.put, List.getElem_toArray, List.getElem_cons_zero, List.getElem_cons_succ, List.setIfInBounds_toArray, List.set_cons_zero, List.set_cons_succ]
    refine wpAnyH_ready (rs := [28]) (by kernel_rfl) (by simp) (AllReadyH.cons rfl (fun K hK => ?_) AllReadyH.nil)
    try simp only [List.getElem_toArray, List.getElem_cons_zero, List.getElem_cons_succ]
    go_simp
    refine (HM.out.check (h0, y1) _).mono ?_
    rintro e u4 ⟨rfl, hb⟩
    have hb' := hb
    have HU4 := Lib.hid (And.intro (HU3.out.1.below hb') (HU3.out.2.trans (hb'.mono HU3.out.2.size)))
    have r4 := HU4.out.1
    clear hb hb' hHeld r3 HU3
    rw [HX.out.2.2.2.2.2]
    go_wp2_with fail
    refine hK.out _ _ r4 (fun hHeld => ?_)
    clear hK K hHeld
    try simp only [Act.put, List.getElem_toArray, List.getElem_cons_zero, List.getElem_cons_succ, List.setIfInBounds_toArray, List.set_cons_zero, List.set_cons_succ]
    have hHeld := r4
    refine wpAnyH_take (i := 29) (v := .bool true) rfl (by kernel_rfl) (by kernel_rfl) (by kernel_rfl) (fun _ _ _ h => h) (Or.inl ⟨by rfl, (by intro w hSw; (try dsimp only at hSw); go_simp)⟩) (by assumption) ?_
    try simp only [Act.put, List.getElem_toArray, List.getElem_cons_zero, List.getElem_cons_succ, List.setIfInBounds_toArray, List.set_cons_zero, List.set_cons_succ]
    refine wpAnyH_take (i := 30) (v := .bool true) rfl (by kernel_rfl) (by kernel_rfl) (by kernel_rfl) (fun _ _ _ h => h) (Or.inl ⟨by rfl, (by intro w hSw; (try dsimp only at hSw); go_simp)⟩) (by assumption) ?_
    try simp only [Act.put, List.getElem_toArray, List.getElem_cons_zero, List.getElem_cons_succ, List.setIfInBounds_toArray, List.set_cons_zero, List.set_cons_succ]
    refine wpAnyH_take (i := 31) (v := .bool true) rfl (by kernel_rfl) (by kernel_rfl) (by kernel_rfl) (fun _ _ _ h => h) (Or.inl ⟨by rfl, (by intro w hSw; (try dsimp only at hSw); go_simp)⟩) (by assumption) ?_
    try simp only [Act.put, List.getElem_toArray, List.getElem_cons_zero, List.getElem_cons_succ, List.setIfInBounds_toArray, List.set_cons_zero, List.set_cons_succ]
    refine wpAnyH_done (by kernel_rfl) ?_ _
    clear hHeld r4
    go_wp2
    go_ret
    exact ⟨rfl, HU4.out.2⟩

  · have HJ := Lib.hid (HJ0.out z)
    have q1 : (h1 == 0) = true := by simp [HJ.out.1]
    clear HJ0
    have hHeld0 : Held [(w9.heap.size, (h0, y1)), (w7.heap.size, (h0, x1)), (w5.heap.size, (s0, 0)), (w.heap.size, (o0, 0)), (w.heap.size + 1, (h0, h1))] w10.drew := H10.out.1.drew
    refine wp_region_held_drew (S := Held [(w9.heap.size, (h0, y1)), (w7.heap.size, (h0, x1)), (w5.heap.size, (s0, 0)), (w.heap.size, (o0, 0)), (w.heap.size + 1, (h0, h1))]) (by kernel_rfl) hHeld0 (fun hHeld => ?_)
    refine wpAnyH_take (i := 0) (v := .agg (mc (s0, 0))) rfl (by kernel_rfl) (by kernel_rfl) (by kernel_rfl) (fun _ _ _ h => h) (yields_bx (by rfl) _ rfl w5.heap.size rfl (s0, 0) (fun wq hSw => hSw (w5.heap.size, (s0, 0)) (by simp))) (by assumption) ?_
    try simp only [Act.put, List.getElem_toArray, List.getElem_cons_zero, List.getElem_cons_succ, List.setIfInBounds_toArray, List.set_cons_zero, List.set_cons_succ]
    refine wpAnyH_take (i := 1) (v := .agg (mc (h0, h1))) rfl (by kernel_rfl) (by kernel_rfl) (by kernel_rfl) (fun _ _ _ h => h) (yields_bx (by rfl) _ rfl (w.heap.size + 1) rfl (h0, h1) (fun wq hSw => hSw ((w.heap.size + 1), (h0, h1)) (by simp))) (by assumption) ?_
    try simp only [Act.put, List.getElem_toArray, List.getElem_cons_zero, List.getElem_cons_succ, List.setIfInBounds_toArray, List.set_cons_zero, List.set_cons_succ]
    refine wpAnyH_take (i := 3) (v := .agg (mc (s0, 0))) rfl (by kernel_rfl) (by kernel_rfl) (by kernel_rfl) (fun _ _ _ h => h) (yields_bx (by rfl) _ rfl w5.heap.size rfl (s0, 0) (fun wq hSw => hSw (w5.heap.size, (s0, 0)) (by simp))) (by assumption) ?_
    try simp only [Act.put, List.getElem_toArray, List.getElem_cons_zero, List.getElem_cons_succ, List.setIfInBounds_toArray, List.set_cons_zero, List.set_cons_succ]
    refine wpAnyH_ready (rs := [2]) (by kernel_rfl) (by simp) (AllReadyH.cons rfl (fun K hK => ?_) AllReadyH.nil)
    try simp only [List.getElem_toArray, List.getElem_cons_zero, List.getElem_cons_succ]
    go_simp
    refine (HM.out.join (s0, 0) (h0, h1) _).mono ?_
    rintro e p1 ⟨rfl, hb⟩
    have hb' : Below w10.heap.size w10 p1 := below_drew hb
    have HP1 := Lib.hid (And.intro (H10.out.1.below hb') (H10.out.2.trans (hb'.mono H10.out.2.size)))
    have r1 := HP1.out.1
    clear hb hb' hHeld hHeld0
    go_wp2_with fail
    refine hK.out _ _ r1 (fun hHeld => ?_)
    clear hK K hHeld
    try simp only [Act.put, List.getElem_toArray, List.getElem_cons_zero, List.getElem_cons_succ, List.setIfInBounds_toArray, List.set_cons_zero, List.set_cons_succ]
    have hHeld := r1
    refine wpAnyH_take (i := 4) (v := .bool false) rfl (by kernel_rfl) (by kernel_rfl) (by kernel_rfl) (fun _ _ _ h => h) (yields_cmpMF (by rfl) _ _ _ rfl (join (s0, 0) (h0, h1)) (s0, 0) rfl rfl z) (by assumption) ?_
    try simp only [Act.put, List.getElem_toArray, List.getElem_cons_zero, List.getElem_cons_succ, List.setIfInBounds_toArray, List.set_cons_zero, List.set_cons_succ]
    refine wpAnyH_take (i := 5) (v := .bool false) rfl (by kernel_rfl) (by kernel_rfl) (by kernel_rfl) (fun _ _ _ h => h) (Or.inl ⟨by rfl, (by intro w hSw; (try dsimp only at hSw); go_simp)⟩) (by assumption) ?_
    try simp only [Act.put, List.getElem_toArray, List.getElem_cons_zero, List.getElem_cons_succ, List.setIfInBounds_toArray, List.set_cons_zero, List.set_cons_succ]
    refine wpAnyH_take (i := 6) (v := .pointer (some ⟨w.heap.size + 1, 1, none⟩)) rfl (by kernel_rfl) (by kernel_rfl) (by kernel_rfl) (fun _ _ _ h => h) (Or.inl ⟨by rfl, (by intro w hSw; (try dsimp only at hSw); go_simp)⟩) (by assumption) ?_
    try simp only [Act.put, List.getElem_toArray, List.getElem_cons_zero, List.getElem_cons_succ, List.setIfInBounds_toArray, List.set_cons_zero, List.set_cons_succ]
    refine wpAnyH_take (i := 7) (v := .int .i64 h1) rfl (by kernel_rfl) (by kernel_rfl) (by kernel_rfl) (fun _ _ _ h => h) (Or.inl ⟨by rfl, (by intro wq hSw; have hq : wq.cell? ⟨(w.heap.size + 1), 1, none⟩ = some (.int .i64 h1) := (hSw ((w.heap.size + 1), (h0, h1)) (by simp)).c1; clear hSw; go_simp)⟩) (by assumption) ?_
    try simp only [Act.put, List.getElem_toArray, List.getElem_cons_zero, List.getElem_cons_succ, List.setIfInBounds_toArray, List.set_cons_zero, List.set_cons_succ]
    refine wpAnyH_take (i := 8) (v := .bool true) rfl (by kernel_rfl) (by kernel_rfl) (by kernel_rfl) (fun _ _ _ h => h) (Or.inl ⟨by rfl, (by intro w hSw; (try dsimp only at hSw); go_simp)⟩) (by assumption) ?_
    try simp only [Act.put, List.getElem_toArray, List.getElem_cons_zero, List.getElem_cons_succ, List.setIfInBounds_toArray, List.set_cons_zero, List.set_cons_succ]
    refine wpAnyH_take (i := 9) (v := .bool true) rfl (by kernel_rfl) (by kernel_rfl) (by kernel_rfl) (fun _ _ _ h => h) (Or.inl ⟨by rfl, (by intro w hSw; (try dsimp only at hSw); go_simp)⟩) (by assumption) ?_
    try simp only [Act.put, List.getElem_toArray, List.getElem_cons_zero, List.getElem_cons_succ, List.setIfInBounds_toArray, List.set_cons_zero, List.set_cons_succ]
    refine wpAnyH_take (i := 10) (v := .agg (mc (s0, 0))) rfl (by kernel_rfl) (by kernel_rfl) (by kernel_rfl) (fun _ _ _ h => h) (yields_bx (by rfl) _ rfl w5.heap.size rfl (s0, 0) (fun wq hSw => hSw (w5.heap.size, (s0, 0)) (by simp))) (by assumption) ?_
    try simp only [Act.put, List.getElem_toArray, List.getElem_cons_zero, List.getElem_cons_succ, List.setIfInBounds_toArray, List.set_cons_zero, List.set_cons_succ]
    refine wpAnyH_take (i := 11) (v := .agg (mc (h0, h1))) rfl (by kernel_rfl) (by kernel_rfl) (by kernel_rfl) (fun _ _ _ h => h) (yields_bx (by rfl) _ rfl (w.heap.size + 1) rfl (h0, h1) (fun wq hSw => hSw ((w.heap.size + 1), (h0, h1)) (by simp))) (by assumption) ?_
    try simp only [Act.put, List.getElem_toArray, List.getElem_cons_zero, List.getElem_cons_succ, List.setIfInBounds_toArray, List.set_cons_zero, List.set_cons_succ]
    refine wpAnyH_take (i := 13) (v := .agg (mc (h0, h1))) rfl (by kernel_rfl) (by kernel_rfl) (by kernel_rfl) (fun _ _ _ h => h) (yields_bx (by rfl) _ rfl (w.heap.size + 1) rfl (h0, h1) (fun wq hSw => hSw ((w.heap.size + 1), (h0, h1)) (by simp))) (by assumption) ?_
    try simp only [Act.put, List.getElem_toArray, List.getElem_cons_zero, List.getElem_cons_succ, List.setIfInBounds_toArray, List.set_cons_zero, List.set_cons_succ]
    refine wpAnyH_ready (rs := [12]) (by kernel_rfl) (by simp) (AllReadyH.cons rfl (fun K hK => ?_) AllReadyH.nil)
    try simp only [List.getElem_toArray, List.getElem_cons_zero, List.getElem_cons_succ]
    go_simp
    refine (HM.out.join (s0, 0) (h0, h1) _).mono ?_
    rintro e p2 ⟨rfl, hb⟩
    have hb' := hb
    have HP2 := Lib.hid (And.intro (HP1.out.1.below hb') (HP1.out.2.trans (hb'.mono HP1.out.2.size)))
    have r2 := HP2.out.1
    clear hb hb' hHeld r1 HP1
    rw [HJ.out.2]
    go_wp2_with fail
    refine hK.out _ _ r2 (fun hHeld => ?_)
    clear hK K hHeld
    try simp only [Act.put, List.getElem_toArray, List.getElem_cons_zero, List.getElem_cons_succ, List.setIfInBounds_toArray, List.set_cons_zero, List.set_cons_succ]
    have hHeld := r2
    refine wpAnyH_take (i := 14) (v := .bool true) rfl (by kernel_rfl) (by kernel_rfl) (by kernel_rfl) (fun _ _ _ h => h) (yields_cmpM (by rfl) _ _ _ rfl (h0, h1) (h0, h1) rfl rfl rfl) (by assumption) ?_
    try simp only [Act.put, List.getElem_toArray, List.getElem_cons_zero, List.getElem_cons_succ, List.setIfInBounds_toArray, List.set_cons_zero, List.set_cons_succ]
    refine wpAnyH_take (i := 15) (v := .bool true) rfl (by kernel_rfl) (by kernel_rfl) (by kernel_rfl) (fun _ _ _ h => h) (Or.inl ⟨by rfl, (by intro w hSw; (try dsimp only at hSw); go_simp)⟩) (by assumption) ?_
    try simp only [Act.put, List.getElem_toArray, List.getElem_cons_zero, List.getElem_cons_succ, List.setIfInBounds_toArray, List.set_cons_zero, List.set_cons_succ]
    refine wpAnyH_take (i := 16) (v := .bool true) rfl (by kernel_rfl) (by kernel_rfl) (by kernel_rfl) (fun _ _ _ h => h) (Or.inl ⟨by rfl, (by intro w hSw; (try dsimp only at hSw); go_simp)⟩) (by assumption) ?_
    try simp only [Act.put, List.getElem_toArray, List.getElem_cons_zero, List.getElem_cons_succ, List.setIfInBounds_toArray, List.set_cons_zero, List.set_cons_succ]
    refine wpAnyH_take (i := 17) (v := .bool true) rfl (by kernel_rfl) (by kernel_rfl) (by kernel_rfl) (fun _ _ _ h => h) (Or.inl ⟨by rfl, (by intro w hSw; (try dsimp only at hSw); go_simp)⟩) (by assumption) ?_
    try simp only [Act.put, List.getElem_toArray, List.getElem_cons_zero, List.getElem_cons_succ, List.setIfInBounds_toArray, List.set_cons_zero, List.set_cons_succ]
    refine wpAnyH_done (by kernel_rfl) ?_ _
    clear hHeld r2
    go_upto_region 8 with fail
    have hHeld0 : Held [(w9.heap.size, (h0, y1)), (w7.heap.size, (h0, x1)), (w5.heap.size, (s0, 0)), (w.heap.size, (o0, 0)), (w.heap.size + 1, (h0, h1))] p2.drew := HP2.out.1.drew
    refine wp_region_held_drew (S := Held [(w9.heap.size, (h0, y1)), (w7.heap.size, (h0, x1)), (w5.heap.size, (s0, 0)), (w.heap.size, (o0, 0)), (w.heap.size + 1, (h0, h1))]) (by kernel_rfl) hHeld0 (fun hHeld => ?_)
    refine wpAnyH_take (i := 0) (v := .agg (mc (s0, 0))) rfl (by kernel_rfl) (by kernel_rfl) (by kernel_rfl) (fun _ _ _ h => h) (yields_bx (by rfl) _ rfl w5.heap.size rfl (s0, 0) (fun wq hSw => hSw (w5.heap.size, (s0, 0)) (by simp))) (by assumption) ?_
    try simp only [Act.put, List.getElem_toArray, List.getElem_cons_zero, List.getElem_cons_succ, List.setIfInBounds_toArray, List.set_cons_zero, List.set_cons_succ]
    refine wpAnyH_take (i := 1) (v := .agg (mc (o0, 0))) rfl (by kernel_rfl) (by kernel_rfl) (by kernel_rfl) (fun _ _ _ h => h) (yields_bx (by rfl) _ rfl w.heap.size rfl (o0, 0) (fun wq hSw => hSw (w.heap.size, (o0, 0)) (by simp))) (by assumption) ?_
    try simp only [Act.put, List.getElem_toArray, List.getElem_cons_zero, List.getElem_cons_succ, List.setIfInBounds_toArray, List.set_cons_zero, List.set_cons_succ]
    refine wpAnyH_take (i := 3) (v := .agg (mc (s0, 0))) rfl (by kernel_rfl) (by kernel_rfl) (by kernel_rfl) (fun _ _ _ h => h) (yields_bx (by rfl) _ rfl w5.heap.size rfl (s0, 0) (fun wq hSw => hSw (w5.heap.size, (s0, 0)) (by simp))) (by assumption) ?_
    try simp only [Act.put, List.getElem_toArray, List.getElem_cons_zero, List.getElem_cons_succ, List.setIfInBounds_toArray, List.set_cons_zero, List.set_cons_succ]
    refine wpAnyH_ready (rs := [2]) (by kernel_rfl) (by simp) (AllReadyH.cons rfl (fun K hK => ?_) AllReadyH.nil)
    try simp only [List.getElem_toArray, List.getElem_cons_zero, List.getElem_cons_succ]
    go_simp
    refine (HM.out.join (s0, 0) (o0, 0) _).mono ?_
    rintro e q1 ⟨rfl, hb⟩
    have hb' : Below p2.heap.size p2 q1 := below_drew hb
    have HQ1 := Lib.hid (And.intro (HP2.out.1.below hb') (HP2.out.2.trans (hb'.mono HP2.out.2.size)))
    have r1 := HQ1.out.1
    clear hb hb' hHeld hHeld0
    rw [HX.out.1]
    go_wp2_with fail
    refine hK.out _ _ r1 (fun hHeld => ?_)
    clear hK K hHeld
    try simp only [Act.put, List.getElem_toArray, List.getElem_cons_zero, List.getElem_cons_succ, List.setIfInBounds_toArray, List.set_cons_zero, List.set_cons_succ]
    have hHeld := r1
    refine wpAnyH_take (i := 4) (v := .bool true) rfl (by kernel_rfl) (by kernel_rfl) (by kernel_rfl) (fun _ _ _ h => h) (yields_cmpM (by rfl) _ _ _ rfl (s0, 0) (s0, 0) rfl rfl rfl) (by assumption) ?_
    try simp only [Act.put, List.getElem_toArray, List.getElem_cons_zero, List.getElem_cons_succ, List.setIfInBounds_toArray, List.set_cons_zero, List.set_cons_succ]
    refine wpAnyH_take (i := 5) (v := .bool true) rfl (by kernel_rfl) (by kernel_rfl) (by kernel_rfl) (fun _ _ _ h => h) (Or.inl ⟨by rfl, (by intro w hSw; (try dsimp only at hSw); go_simp)⟩) (by assumption) ?_
    try simp only [Act.put, List.getElem_toArray, List.getElem_cons_zero, List.getElem_cons_succ, List.setIfInBounds_toArray, List.set_cons_zero, List.set_cons_succ]
    refine wpAnyH_take (i := 6) (v := .pointer (some ⟨w5.heap.size, 1, none⟩)) rfl (by kernel_rfl) (by kernel_rfl) (by kernel_rfl) (fun _ _ _ h => h) (Or.inl ⟨by rfl, (by intro w hSw; (try dsimp only at hSw); go_simp)⟩) (by assumption) ?_
    try simp only [Act.put, List.getElem_toArray, List.getElem_cons_zero, List.getElem_cons_succ, List.setIfInBounds_toArray, List.set_cons_zero, List.set_cons_succ]
    refine wpAnyH_take (i := 7) (v := .int .i64 0) rfl (by kernel_rfl) (by kernel_rfl) (by kernel_rfl) (fun _ _ _ h => h) (Or.inl ⟨by rfl, (by intro wq hSw; have hq : wq.cell? ⟨w5.heap.size, 1, none⟩ = some (.int .i64 0) := (hSw (w5.heap.size, (s0, 0)) (by simp)).c1; clear hSw; go_simp)⟩) (by assumption) ?_
    try simp only [Act.put, List.getElem_toArray, List.getElem_cons_zero, List.getElem_cons_succ, List.setIfInBounds_toArray, List.set_cons_zero, List.set_cons_succ]
    refine wpAnyH_take (i := 8) (v := .bool true) rfl (by kernel_rfl) (by kernel_rfl) (by kernel_rfl) (fun _ _ _ h => h) (Or.inl ⟨by rfl, (by intro w hSw; (try dsimp only at hSw); go_simp)⟩) (by assumption) ?_
    try simp only [Act.put, List.getElem_toArray, List.getElem_cons_zero, List.getElem_cons_succ, List.setIfInBounds_toArray, List.set_cons_zero, List.set_cons_succ]
    refine wpAnyH_take (i := 9) (v := .bool true) rfl (by kernel_rfl) (by kernel_rfl) (by kernel_rfl) (fun _ _ _ h => h) (Or.inl ⟨by rfl, (by intro w hSw; (try dsimp only at hSw); go_simp)⟩) (by assumption) ?_
    try simp only [Act.put, List.getElem_toArray, List.getElem_cons_zero, List.getElem_cons_succ, List.setIfInBounds_toArray, List.set_cons_zero, List.set_cons_succ]
    refine wpAnyH_take (i := 10) (v := .bool true) rfl (by kernel_rfl) (by kernel_rfl) (by kernel_rfl) (fun _ _ _ h => h) (Or.inl ⟨by rfl, (by intro w hSw; (try dsimp only at hSw); go_simp)⟩) (by assumption) ?_
    try simp only [Act.put, List.getElem_toArray, List.getElem_cons_zero, List.getElem_cons_succ, List.setIfInBounds_toArray, List.set_cons_zero, List.set_cons_succ]
    refine wpAnyH_take (i := 11) (v := .agg (mc (s0, 0))) rfl (by kernel_rfl) (by kernel_rfl) (by kernel_rfl) (fun _ _ _ h => h) (yields_bx (by rfl) _ rfl w5.heap.size rfl (s0, 0) (fun wq hSw => hSw (w5.heap.size, (s0, 0)) (by simp))) (by assumption) ?_
    try simp only [Act.put, List.getElem_toArray, List.getElem_cons_zero, List.getElem_cons_succ, List.setIfInBounds_toArray, List.set_cons_zero, List.set_cons_succ]
    refine wpAnyH_ready (rs := [12]) (by kernel_rfl) (by simp) (AllReadyH.cons rfl (fun K hK => ?_) AllReadyH.nil)
    try simp only [List.getElem_toArray, List.getElem_cons_zero, List.getElem_cons_succ]
    go_simp
    refine (HM.out.check (s0, 0) _).mono ?_
    rintro e q2 ⟨rfl, hb⟩
    have hb' := hb
    have HQ2 := Lib.hid (And.intro (HQ1.out.1.below hb') (HQ1.out.2.trans (hb'.mono HQ1.out.2.size)))
    have r2 := HQ2.out.1
    clear hb hb' hHeld r1 HQ1
    rw [HX.out.2.1]
    go_wp2_with fail
    refine hK.out _ _ r2 (fun hHeld => ?_)
    clear hK K hHeld
    try simp only [Act.put, List.getElem_toArray, List.getElem_cons_zero, List.getElem_cons_succ, List.setIfInBounds_toArray, List.set_cons_zero, List.set_cons_succ]
    have hHeld := r2
    refine wpAnyH_take (i := 13) (v := .bool true) rfl (by kernel_rfl) (by kernel_rfl) (by kernel_rfl) (fun _ _ _ h => h) (Or.inl ⟨by rfl, (by intro w hSw; (try dsimp only at hSw); go_simp)⟩) (by assumption) ?_
    try simp only [Act.put, List.getElem_toArray, List.getElem_cons_zero, List.getElem_cons_succ, List.setIfInBounds_toArray, List.set_cons_zero, List.set_cons_succ]
    refine wpAnyH_take (i := 14) (v := .bool true) rfl (by kernel_rfl) (by kernel_rfl) (by kernel_rfl) (fun _ _ _ h => h) (Or.inl ⟨by rfl, (by intro w hSw; (try dsimp only at hSw); go_simp)⟩) (by assumption) ?_
    try simp only [Act.put, List.getElem_toArray, List.getElem_cons_zero, List.getElem_cons_succ, List.setIfInBounds_toArray, List.set_cons_zero, List.set_cons_succ]
    refine wpAnyH_take (i := 15) (v := .bool true) rfl (by kernel_rfl) (by kernel_rfl) (by kernel_rfl) (fun _ _ _ h => h) (Or.inl ⟨by rfl, (by intro w hSw; (try dsimp only at hSw); go_simp)⟩) (by assumption) ?_
    try simp only [Act.put, List.getElem_toArray, List.getElem_cons_zero, List.getElem_cons_succ, List.setIfInBounds_toArray, List.set_cons_zero, List.set_cons_succ]
    refine wpAnyH_done (by kernel_rfl) ?_ _
    clear hHeld r2
    go_upto_region 9 with fail
    have hHeld0 : Held [(w9.heap.size, (h0, y1)), (w7.heap.size, (h0, x1)), (w5.heap.size, (s0, 0)), (w.heap.size, (o0, 0)), (w.heap.size + 1, (h0, h1))] q2.drew := HQ2.out.1.drew
    refine wp_region_held_drew (S := Held [(w9.heap.size, (h0, y1)), (w7.heap.size, (h0, x1)), (w5.heap.size, (s0, 0)), (w.heap.size, (o0, 0)), (w.heap.size + 1, (h0, h1))]) (by kernel_rfl) hHeld0 (fun hHeld => ?_)
    refine wpAnyH_take (i := 0) (v := .bool true) rfl (by kernel_rfl) (by kernel_rfl) (by kernel_rfl) (fun _ _ _ h => h) (Or.inl ⟨by rfl, (by intro w hSw; (try dsimp only at hSw); go_simp)⟩) (by assumption) ?_
    try simp only [Act.put, List.getElem_toArray, List.getElem_cons_zero, List.getElem_cons_succ, List.setIfInBounds_toArray, List.set_cons_zero, List.set_cons_succ]
    refine wpAnyH_take (i := 1) (v := .bool true) rfl (by kernel_rfl) (by kernel_rfl) (by kernel_rfl) (fun _ _ _ h => h) (Or.inl ⟨by rfl, (by intro w hSw; (try dsimp only at hSw); go_simp)⟩) (by assumption) ?_
    try simp only [Act.put, List.getElem_toArray, List.getElem_cons_zero, List.getElem_cons_succ, List.setIfInBounds_toArray, List.set_cons_zero, List.set_cons_succ]
    refine wpAnyH_take (i := 2) (v := .bool true) rfl (by kernel_rfl) (by kernel_rfl) (by kernel_rfl) (fun _ _ _ h => h) (Or.inl ⟨by rfl, (by intro w hSw; (try dsimp only at hSw); go_simp)⟩) (by assumption) ?_
    try simp only [Act.put, List.getElem_toArray, List.getElem_cons_zero, List.getElem_cons_succ, List.setIfInBounds_toArray, List.set_cons_zero, List.set_cons_succ]
    refine wpAnyH_take (i := 3) (v := .bool true) rfl (by kernel_rfl) (by kernel_rfl) (by kernel_rfl) (fun _ _ _ h => h) (Or.inl ⟨by rfl, (by intro w hSw; (try dsimp only at hSw); go_simp)⟩) (by assumption) ?_
    try simp only [Act.put, List.getElem_toArray, List.getElem_cons_zero, List.getElem_cons_succ, List.setIfInBounds_toArray, List.set_cons_zero, List.set_cons_succ]
    refine wpAnyH_take (i := 4) (v := .bool true) rfl (by kernel_rfl) (by kernel_rfl) (by kernel_rfl) (fun _ _ _ h => h) (Or.inl ⟨by rfl, (by intro w hSw; (try dsimp only at hSw); go_simp)⟩) (by assumption) ?_
    try simp only [Act.put, List.getElem_toArray, List.getElem_cons_zero, List.getElem_cons_succ, List.setIfInBounds_toArray, List.set_cons_zero, List.set_cons_succ]
    refine wpAnyH_take (i := 5) (v := .bool true) rfl (by kernel_rfl) (by kernel_rfl) (by kernel_rfl) (fun _ _ _ h => h) (Or.inl ⟨by rfl, (by intro w hSw; (try dsimp only at hSw); go_simp)⟩) (by assumption) ?_
    try simp only [Act.put, List.getElem_toArray, List.getElem_cons_zero, List.getElem_cons_succ, List.setIfInBounds_toArray, List.set_cons_zero, List.set_cons_succ]
    refine wpAnyH_take (i := 6) (v := .bool true) rfl (by kernel_rfl) (by kernel_rfl) (by kernel_rfl) (fun _ _ _ h => h) (Or.inl ⟨by rfl, (by intro w hSw; (try dsimp only at hSw); go_simp)⟩) (by assumption) ?_
    try simp only [Act.put, List.getElem_toArray, List.getElem_cons_zero, List.getElem_cons_succ, List.setIfInBounds_toArray, List.set_cons_zero, List.set_cons_succ]
    refine wpAnyH_take (i := 7) (v := .bool true) rfl (by kernel_rfl) (by kernel_rfl) (by kernel_rfl) (fun _ _ _ h => h) (Or.inl ⟨by rfl, (by intro w hSw; (try dsimp only at hSw); go_simp)⟩) (by assumption) ?_
    try simp only [Act.put, List.getElem_toArray, List.getElem_cons_zero, List.getElem_cons_succ, List.setIfInBounds_toArray, List.set_cons_zero, List.set_cons_succ]
    refine wpAnyH_take (i := 8) (v := .agg (mc (h0, x1))) rfl (by kernel_rfl) (by kernel_rfl) (by kernel_rfl) (fun _ _ _ h => h) (yields_bx (by rfl) _ rfl w7.heap.size rfl (h0, x1) (fun wq hSw => hSw (w7.heap.size, (h0, x1)) (by simp))) (by assumption) ?_
    try simp only [Act.put, List.getElem_toArray, List.getElem_cons_zero, List.getElem_cons_succ, List.setIfInBounds_toArray, List.set_cons_zero, List.set_cons_succ]
    refine wpAnyH_take (i := 9) (v := .agg (mc (h0, h1))) rfl (by kernel_rfl) (by kernel_rfl) (by kernel_rfl) (fun _ _ _ h => h) (yields_bx (by rfl) _ rfl (w.heap.size + 1) rfl (h0, h1) (fun wq hSw => hSw ((w.heap.size + 1), (h0, h1)) (by simp))) (by assumption) ?_
    try simp only [Act.put, List.getElem_toArray, List.getElem_cons_zero, List.getElem_cons_succ, List.setIfInBounds_toArray, List.set_cons_zero, List.set_cons_succ]
    refine wpAnyH_take (i := 11) (v := .agg (mc (h0, x1))) rfl (by kernel_rfl) (by kernel_rfl) (by kernel_rfl) (fun _ _ _ h => h) (yields_bx (by rfl) _ rfl w7.heap.size rfl (h0, x1) (fun wq hSw => hSw (w7.heap.size, (h0, x1)) (by simp))) (by assumption) ?_
    try simp only [Act.put, List.getElem_toArray, List.getElem_cons_zero, List.getElem_cons_succ, List.setIfInBounds_toArray, List.set_cons_zero, List.set_cons_succ]
    refine wpAnyH_ready (rs := [10]) (by kernel_rfl) (by simp) (AllReadyH.cons rfl (fun K hK => ?_) AllReadyH.nil)
    try simp only [List.getElem_toArray, List.getElem_cons_zero, List.getElem_cons_succ]
    go_simp
    refine (HM.out.join (h0, x1) (h0, h1) _).mono ?_
    rintro e u1 ⟨rfl, hb⟩
    have hb' : Below q2.heap.size q2 u1 := below_drew hb
    have HU1 := Lib.hid (And.intro (HQ2.out.1.below hb') (HQ2.out.2.trans (hb'.mono HQ2.out.2.size)))
    have r1 := HU1.out.1
    clear hb hb' hHeld hHeld0
    rw [HX.out.2.2.1]
    go_wp2_with fail
    refine hK.out _ _ r1 (fun hHeld => ?_)
    clear hK K hHeld
    try simp only [Act.put, List.getElem_toArray, List.getElem_cons_zero, List.getElem_cons_succ, List.setIfInBounds_toArray, List.set_cons_zero, List.set_cons_succ]
    have hHeld := r1
    refine wpAnyH_take (i := 12) (v := .bool true) rfl (by kernel_rfl) (by kernel_rfl) (by kernel_rfl) (fun _ _ _ h => h) (yields_cmpM (by rfl) _ _ _ rfl (h0, x1) (h0, x1) rfl rfl rfl) (by assumption) ?_
    try simp only [Act.put, List.getElem_toArray, List.getElem_cons_zero, List.getElem_cons_succ, List.setIfInBounds_toArray, List.set_cons_zero, List.set_cons_succ]
    refine wpAnyH_take (i := 13) (v := .bool true) rfl (by kernel_rfl) (by kernel_rfl) (by kernel_rfl) (fun _ _ _ h => h) (Or.inl ⟨by rfl, (by intro w hSw; (try dsimp only at hSw); go_simp)⟩) (by assumption) ?_
    try simp only [Act.put, List.getElem_toArray, List.getElem_cons_zero, List.getElem_cons_succ, List.setIfInBounds_toArray, List.set_cons_zero, List.set_cons_succ]
    refine wpAnyH_take (i := 14) (v := .bool true) rfl (by kernel_rfl) (by kernel_rfl) (by kernel_rfl) (fun _ _ _ h => h) (Or.inl ⟨by rfl, (by intro w hSw; (try dsimp only at hSw); go_simp)⟩) (by assumption) ?_
    try simp only [Act.put, List.getElem_toArray, List.getElem_cons_zero, List.getElem_cons_succ, List.setIfInBounds_toArray, List.set_cons_zero, List.set_cons_succ]
    refine wpAnyH_take (i := 15) (v := .agg (mc (h0, y1))) rfl (by kernel_rfl) (by kernel_rfl) (by kernel_rfl) (fun _ _ _ h => h) (yields_bx (by rfl) _ rfl w9.heap.size rfl (h0, y1) (fun wq hSw => hSw (w9.heap.size, (h0, y1)) (by simp))) (by assumption) ?_
    try simp only [Act.put, List.getElem_toArray, List.getElem_cons_zero, List.getElem_cons_succ, List.setIfInBounds_toArray, List.set_cons_zero, List.set_cons_succ]
    refine wpAnyH_take (i := 16) (v := .agg (mc (h0, h1))) rfl (by kernel_rfl) (by kernel_rfl) (by kernel_rfl) (fun _ _ _ h => h) (yields_bx (by rfl) _ rfl (w.heap.size + 1) rfl (h0, h1) (fun wq hSw => hSw ((w.heap.size + 1), (h0, h1)) (by simp))) (by assumption) ?_
    try simp only [Act.put, List.getElem_toArray, List.getElem_cons_zero, List.getElem_cons_succ, List.setIfInBounds_toArray, List.set_cons_zero, List.set_cons_succ]
    refine wpAnyH_take (i := 18) (v := .agg (mc (h0, y1))) rfl (by kernel_rfl) (by kernel_rfl) (by kernel_rfl) (fun _ _ _ h => h) (yields_bx (by rfl) _ rfl w9.heap.size rfl (h0, y1) (fun wq hSw => hSw (w9.heap.size, (h0, y1)) (by simp))) (by assumption) ?_
    try simp only [Act.put, List.getElem_toArray, List.getElem_cons_zero, List.getElem_cons_succ, List.setIfInBounds_toArray, List.set_cons_zero, List.set_cons_succ]
    refine wpAnyH_ready (rs := [17]) (by kernel_rfl) (by simp) (AllReadyH.cons rfl (fun K hK => ?_) AllReadyH.nil)
    try simp only [List.getElem_toArray, List.getElem_cons_zero, List.getElem_cons_succ]
    go_simp
    refine (HM.out.join (h0, y1) (h0, h1) _).mono ?_
    rintro e u2 ⟨rfl, hb⟩
    have hb' := hb
    have HU2 := Lib.hid (And.intro (HU1.out.1.below hb') (HU1.out.2.trans (hb'.mono HU1.out.2.size)))
    have r2 := HU2.out.1
    clear hb hb' hHeld r1 HU1
    rw [HX.out.2.2.2.1]
    go_wp2_with fail
    refine hK.out _ _ r2 (fun hHeld => ?_)
    clear hK K hHeld
    try simp only [Act.put, List.getElem_toArray, List.getElem_cons_zero, List.getElem_cons_succ, List.setIfInBounds_toArray, List.set_cons_zero, List.set_cons_succ]
    have hHeld := r2
    refine wpAnyH_take (i := 19) (v := .bool true) rfl (by kernel_rfl) (by kernel_rfl) (by kernel_rfl) (fun _ _ _ h => h) (yields_cmpM (by rfl) _ _ _ rfl (h0, y1) (h0, y1) rfl rfl rfl) (by assumption) ?_
    try simp only [Act.put, List.getElem_toArray, List.getElem_cons_zero, List.getElem_cons_succ, List.setIfInBounds_toArray, List.set_cons_zero, List.set_cons_succ]
    refine wpAnyH_take (i := 20) (v := .bool true) rfl (by kernel_rfl) (by kernel_rfl) (by kernel_rfl) (fun _ _ _ h => h) (Or.inl ⟨by rfl, (by intro w hSw; (try dsimp only at hSw); go_simp)⟩) (by assumption) ?_
    try simp only [Act.put, List.getElem_toArray, List.getElem_cons_zero, List.getElem_cons_succ, List.setIfInBounds_toArray, List.set_cons_zero, List.set_cons_succ]
    refine wpAnyH_take (i := 21) (v := .bool true) rfl (by kernel_rfl) (by kernel_rfl) (by kernel_rfl) (fun _ _ _ h => h) (Or.inl ⟨by rfl, (by intro w hSw; (try dsimp only at hSw); go_simp)⟩) (by assumption) ?_
    try simp only [Act.put, List.getElem_toArray, List.getElem_cons_zero, List.getElem_cons_succ, List.setIfInBounds_toArray, List.set_cons_zero, List.set_cons_succ]
    refine wpAnyH_take (i := 22) (v := .agg (mc (h0, x1))) rfl (by kernel_rfl) (by kernel_rfl) (by kernel_rfl) (fun _ _ _ h => h) (yields_bx (by rfl) _ rfl w7.heap.size rfl (h0, x1) (fun wq hSw => hSw (w7.heap.size, (h0, x1)) (by simp))) (by assumption) ?_
    try simp only [Act.put, List.getElem_toArray, List.getElem_cons_zero, List.getElem_cons_succ, List.setIfInBounds_toArray, List.set_cons_zero, List.set_cons_succ]
    refine wpAnyH_ready (rs := [23]) (by kernel_rfl) (by simp) (AllReadyH.cons rfl (fun K hK => ?_) AllReadyH.nil)
    try simp only [List.getElem_toArray, List.getElem_cons_zero, List.getElem_cons_succ]
    go_simp
    refine (HM.out.check (h0, x1) _).mono ?_
    rintro e u3 ⟨rfl, hb⟩
    have hb' := hb
    have HU3 := Lib.hid (And.intro (HU2.out.1.below hb') (HU2.out.2.trans (hb'.mono HU2.out.2.size)))
    have r3 := HU3.out.1
    clear hb hb' hHeld r2 HU2
    rw [HX.out.2.2.2.2.1]
    go_wp2_with fail
    refine hK.out _ _ r3 (fun hHeld => ?_)
    clear hK K hHeld
    try simp only [Act.put, List.getElem_toArray, List.getElem_cons_zero, List.getElem_cons_succ, List.setIfInBounds_toArray, List.set_cons_zero, List.set_cons_succ]
    have hHeld := r3
    refine wpAnyH_take (i := 24) (v := .bool true) rfl (by kernel_rfl) (by kernel_rfl) (by kernel_rfl) (fun _ _ _ h => h) (Or.inl ⟨by rfl, (by intro w hSw; (try dsimp only at hSw); go_simp)⟩) (by assumption) ?_
    try simp only [Act.put, List.getElem_toArray, List.getElem_cons_zero, List.getElem_cons_succ, List.setIfInBounds_toArray, List.set_cons_zero, List.set_cons_succ]
    refine wpAnyH_take (i := 25) (v := .bool true) rfl (by kernel_rfl) (by kernel_rfl) (by kernel_rfl) (fun _ _ _ h => h) (Or.inl ⟨by rfl, (by intro w hSw; (try dsimp only at hSw); go_simp)⟩) (by assumption) ?_
    try simp only [Act.put, List.getElem_toArray, List.getElem_cons_zero, List.getElem_cons_succ, List.setIfInBounds_toArray, List.set_cons_zero, List.set_cons_succ]
    refine wpAnyH_take (i := 26) (v := .bool true) rfl (by kernel_rfl) (by kernel_rfl) (by kernel_rfl) (fun _ _ _ h => h) (Or.inl ⟨by rfl, (by intro w hSw; (try dsimp only at hSw); go_simp)⟩) (by assumption) ?_
    try simp only [Act.put, List.getElem_toArray, List.getElem_cons_zero, List.getElem_cons_succ, List.setIfInBounds_toArray, List.set_cons_zero, List.set_cons_succ]
    refine wpAnyH_take (i := 27) (v := .agg (mc (h0, y1))) rfl (by kernel_rfl) (by kernel_rfl) (by kernel_rfl) (fun _ _ _ h => h) (yields_bx (by rfl) _ rfl w9.heap.size rfl (h0, y1) (fun wq hSw => hSw (w9.heap.size, (h0, y1)) (by simp))) (by assumption) ?_
    try simp only [Act.put, List.getElem_toArray, List.getElem_cons_zero, List.getElem_cons_succ, List.setIfInBounds_toArray, List.set_cons_zero, List.set_cons_succ]
    refine wpAnyH_ready (rs := [28]) (by kernel_rfl) (by simp) (AllReadyH.cons rfl (fun K hK => ?_) AllReadyH.nil)
    try simp only [List.getElem_toArray, List.getElem_cons_zero, List.getElem_cons_succ]
    go_simp
    refine (HM.out.check (h0, y1) _).mono ?_
    rintro e u4 ⟨rfl, hb⟩
    have hb' := hb
    have HU4 := Lib.hid (And.intro (HU3.out.1.below hb') (HU3.out.2.trans (hb'.mono HU3.out.2.size)))
    have r4 := HU4.out.1
    clear hb hb' hHeld r3 HU3
    rw [HX.out.2.2.2.2.2]
    go_wp2_with fail
    refine hK.out _ _ r4 (fun hHeld => ?_)
    clear hK K hHeld
    try simp only [Act.put, List.getElem_toArray, List.getElem_cons_zero, List.getElem_cons_succ, List.setIfInBounds_toArray, List.set_cons_zero, List.set_cons_succ]
    have hHeld := r4
    refine wpAnyH_take (i := 29) (v := .bool true) rfl (by kernel_rfl) (by kernel_rfl) (by kernel_rfl) (fun _ _ _ h => h) (Or.inl ⟨by rfl, (by intro w hSw; (try dsimp only at hSw); go_simp)⟩) (by assumption) ?_
    try simp only [Act.put, List.getElem_toArray, List.getElem_cons_zero, List.getElem_cons_succ, List.setIfInBounds_toArray, List.set_cons_zero, List.set_cons_succ]
    refine wpAnyH_take (i := 30) (v := .bool true) rfl (by kernel_rfl) (by kernel_rfl) (by kernel_rfl) (fun _ _ _ h => h) (Or.inl ⟨by rfl, (by intro w hSw; (try dsimp only at hSw); go_simp)⟩) (by assumption) ?_
    try simp only [Act.put, List.getElem_toArray, List.getElem_cons_zero, List.getElem_cons_succ, List.setIfInBounds_toArray, List.set_cons_zero, List.set_cons_succ]
    refine wpAnyH_take (i := 31) (v := .bool true) rfl (by kernel_rfl) (by kernel_rfl) (by kernel_rfl) (fun _ _ _ h => h) (Or.inl ⟨by rfl, (by intro w hSw; (try dsimp only at hSw); go_simp)⟩) (by assumption) ?_
    try simp only [Act.put, List.getElem_toArray, List.getElem_cons_zero, List.getElem_cons_succ, List.setIfInBounds_toArray, List.set_cons_zero, List.set_cons_succ]
    refine wpAnyH_done (by kernel_rfl) ?_ _
    clear hHeld r4
    go_wp2
    go_ret
    exact ⟨rfl, HU4.out.2⟩

end Go.Proofs.Ytlcpiompmpccoaa
