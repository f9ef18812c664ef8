/-
  The walk of MemberEnds.
-/
import Derived.Test.YtlcpiompmpccoaaCj
namespace Mb
/-- What MemberEnds says. -/
theorem ends_law {m0 m1 : Int} (h : 0 ≤ m1 ∧ m1 ≤ 2) : ∃ s1 p0, suspect (m0, m1) = (m0, s1) ∧ (s1 != 0) = true ∧ bury (m0, s1) = (m0, 2) ∧ suspect (m0, 2) = (m0, 2) ∧ bury (m0, 2) = (m0, 2) ∧ speak (m0, m1) (m0, 2) = (p0, 0) := by
  have hsp : ∃ p0, speak (m0, m1) (m0, 2) = (p0, 0) := by
    unfold speak
    rw [if_neg (by simp only; omega)]
    split <;> exact ⟨_, rfl⟩
  obtain ⟨p0, hp⟩ := hsp
  by_cases z : m1 = 0
  · refine ⟨1, p0, by unfold suspect; rw [if_pos z], by decide, by unfold bury; rw [if_pos rfl], rfl, rfl, hp⟩
  · refine ⟨m1, p0, by unfold suspect; rw [if_neg z], by simp [z], ?_, rfl, rfl, hp⟩
    unfold bury
    by_cases z1 : m1 = 1
    · rw [if_pos z1]
    · rw [if_neg z1]
      simp only [Prod.mk.injEq, true_and]
      omega
end Mb
namespace Go.Proofs.Ytlcpiompmpccoaa
open Go.RowKit Go.Great
set_option linter.unusedVariables false
set_option linter.unusedSimpArgs false
set_option maxRecDepth 20000
open Mb
theorem held_one (m : M) (w : World) : Held [(w.heap.size, m)] (w.alloc (.cells (mc m) 24)) ∧ Below w.heap.size w (w.alloc (.cells (mc m) 24)) := by
  refine ⟨fun q hq => ?_, below_alloc w _⟩
  rw [List.mem_singleton.1 hq]
  exact Whole.new w 24 (mc m)
/-- Boxes that are kept, beside a row that came in. -/
def Wit (L : List (Nat × M)) (w0 w : World) (a : Option Addr) (n : Nat) (l : List M) : Prop := Held L w ∧ Ms w Any a n l ∧ Below w0.heap.size w0 w
theorem Wit.on {L : List (Nat × M)} {w0 w w' : World} {a : Option Addr} {n : Nat} {l : List M} (h : Wit L w0 w a n l) (hb : Below w.heap.size w w') : Wit L w0 w' a n l := ⟨h.1.below hb, h.2.1.on hb, h.2.2.trans (hb.mono h.2.2.size)⟩
theorem wit_new {L : List (Nat × M)} {w0 w : World} {a : Option Addr} {n : Nat} {l : List M} (m : M) (h : Wit L w0 w a n l) : Wit ((w.heap.size, m) :: L) w0 ((w.alloc (.cells (mc nought) 24)).setRow w.heap.size (mc m)) a n l := by
  have := held_new m h.1 h.2.2
  refine ⟨this.1, ?_, this.2.1⟩
  exact h.2.1.on (below_row (below_alloc w _) (Nat.le_refl _) _)
theorem nil_any (w : World) : Ms w Any none 0 [] := Ms.nil _ _ _
set_option maxHeartbeats 8000000 in
theorem ends_walk (hm : Mem) (hw : Awake) (x : M) (hx : Min x) {w : World} {S : Nat → Prop} {a : Option Addr} {n c : Nat} {l : List M} (h : Ms w S a n l) (hc : n ≤ c) : Calls Try.prog 8 #[.agg (mc x), .slice a n c] w fun e w' => e = .returned (.bool true) ∧ Below w.heap.size w w' := by
  obtain ⟨m0, m1⟩ := x
  have H1 : Hid (Wit [(w.heap.size, (m0, m1))] w (w.alloc (.cells (mc (m0, m1)) 24)) a n l) := Lib.hid ⟨(held_one _ w).1, h.any.on (below_alloc w _), (held_one _ w).2⟩
  have HI := Lib.hid (And.intro hx hc)
  have HM := Lib.hid hm
  have HA := Lib.hid hw
  clear hx hm hw h hc
  go_enter Try.func8, Try.ntmps8
  go_upto_region 1 with fail
  generalize w.alloc (.cells (mc (m0, m1)) 24) = w1 at *
  go_wp2_with fail
  refine (HA.out w1).mono ?_
  rintro e w2 ⟨rfl, hb2⟩
  have H2 := Lib.hid (H1.out.on hb2)
  clear hb2 H1
  by_cases z : (n : Int) > 50
  · go_wp2
    go_ret
    exact ⟨rfl, H2.out.2.2⟩
  have HN : Hid (n ≤ 50) := Lib.hid (by omega)
  have q0 : decide ((50 : Int) < (n : Int)) = false := by simp; omega
  go_wp2_with (first | ((with_reducible show wpList _ _ _ ((⟨some 16, Op.load 24 (.tmp 2), _, _, _, _⟩ : Oper) :: _) _ _); refine wpList_load_rowG (by rfl) 24 (.tmp 2) rfl w.heap.size rfl 24 (mc (m0, m1)) (0, 0) _ (H2.out.1 (w.heap.size, (m0, m1)) (by simp)) Try.underlying24 rfl info2 ?_) | fail)
  refine (HM.out.check (m0, m1) w2).mono ?_
  rintro e w3 ⟨rfl, hb3⟩
  have H3 := Lib.hid (H2.out.on hb3)
  clear hb3 H2
  by_cases z1 : chk (m0, m1) = 0
  case neg =>
    obtain ⟨r, hr⟩ : ∃ r, chk (m0, m1) = r := ⟨_, rfl⟩
    rw [hr] at z1 ⊢
    have q : (r != 0) = true := by simp [z1]
    clear hr
    go_wp2
    go_ret
    exact ⟨rfl, H3.out.2.2⟩
  obtain ⟨s1, p0, hs, q1, hs2, hs3, hs4, hs5⟩ := ends_law (m0 := m0) (m1 := m1) (by have := chk_zero z1; exact ⟨this.2.2.1, this.2.2.2⟩)
  have HS := Lib.hid (And.intro hs (And.intro hs2 (And.intro hs3 (And.intro hs4 hs5))))
  clear hs hs2 hs3 hs4 hs5
  rw [z1]
  clear z1
  go_wp2_with (first | ((with_reducible show wpList _ _ _ ((⟨some 21, Op.load 24 (.tmp 2), _, _, _, _⟩ : Oper) :: _) _ _); refine wpList_load_rowG (by rfl) 24 (.tmp 2) rfl w.heap.size rfl 24 (mc (m0, m1)) (0, 0) _ (H3.out.1 (w.heap.size, (m0, m1)) (by simp)) Try.underlying24 rfl info2 ?_) | fail)
  refine (HM.out.suspect (m0, m1) w3).mono ?_
  rintro e w4 ⟨rfl, hb4⟩
  have H4 := Lib.hid (H3.out.on hb4)
  clear hb4 H3
  rw [HS.out.1]
  go_upto_region 5 with (first | ((with_reducible show wpList _ _ _ ((⟨_, Op.store 24 (.tmp 6) _, _, _, _, _⟩ : Oper) :: _) _ _); refine wpList_store_row rfl 24 (.tmp 6) (.tmp 22) rfl w4.heap.size (mc (m0, s1)) rfl rfl 24 (mc nought) (Whole.new w4 24 (mc nought)) info2 rfl (mc_one _) ?_) | fail)
  rw [show #[Value.int .i64 0, Value.int .i64 0] = mc nought from rfl]
  have H5 := Lib.hid (wit_new (m0, s1) H4.out)
  clear H4
  generalize (w4.alloc (.cells (mc nought) 24)).setRow w4.heap.size (mc (m0, s1)) = w5 at *
  go_wp2_with (first | ((with_reducible show wpList _ _ _ ((⟨some 23, Op.load 24 (.tmp 6), _, _, _, _⟩ : Oper) :: _) _ _); refine wpList_load_rowG (by rfl) 24 (.tmp 6) rfl w4.heap.size rfl 24 (mc (m0, s1)) (0, 0) _ (H5.out.1 (w4.heap.size, (m0, s1)) (by simp)) Try.underlying24 rfl info2 ?_) | fail)
  refine (HM.out.bury (m0, s1) w5).mono ?_
  rintro e w6 ⟨rfl, hb6⟩
  have H6 := Lib.hid (H5.out.on hb6)
  clear hb6 H5
  rw [HS.out.2.1]
  go_upto_region 6 with (first | ((with_reducible show wpList _ _ _ ((⟨_, Op.store 24 (.tmp 7) _, _, _, _, _⟩ : Oper) :: _) _ _); refine wpList_store_row rfl 24 (.tmp 7) (.tmp 24) rfl w6.heap.size (mc (m0, 2)) rfl rfl 24 (mc nought) (Whole.new w6 24 (mc nought)) info2 rfl (mc_one _) ?_) | fail)
  rw [show #[Value.int .i64 0, Value.int .i64 0] = mc nought from rfl]
  have H7 := Lib.hid (wit_new (m0, 2) H6.out)
  clear H6
  generalize (w6.alloc (.cells (mc nought) 24)).setRow w6.heap.size (mc (m0, 2)) = w7 at *
  have HR := Lib.hid (And.intro H7.out.1 (Below.refl w7.heap.size w7))
  have hHeld0 : Held [(w6.heap.size, (m0, 2)), (w4.heap.size, (m0, s1)), (w.heap.size, (m0, m1))] w7.drew := HR.out.1.drew
  refine wp_region_held_drew (S := Held [(w6.heap.size, (m0, 2)), (w4.heap.size, (m0, s1)), (w.heap.size, (m0, m1))]) (by kernel_rfl) hHeld0 (fun hHeld => ?_)
  refine wpAnyH_take (i := 0) (v := .agg (mc (m0, 2))) rfl (by kernel_rfl) (by kernel_rfl) (by kernel_rfl) (fun _ _ _ h => h) (yields_bx (by rfl) _ rfl w6.heap.size rfl (m0, 2) (fun wq hSw => hSw (w6.heap.size, (m0, 2)) (by simp))) (by assumption) ?_
  try simp only [Act.put, List.getElem_toArray, List.getElem_cons_zero, List.getElem_cons_succ, List.setIfInBounds_toArray, List.set_cons_zero, List.set_cons_succ]
  refine wpAnyH_take (i := 2) (v := .agg (mc (m0, 2))) rfl (by kernel_rfl) (by kernel_rfl) (by kernel_rfl) (fun _ _ _ h => h) (yields_bx (by rfl) _ rfl w6.heap.size rfl (m0, 2) (fun wq hSw => hSw (w6.heap.size, (m0, 2)) (by simp))) (by assumption) ?_
  try simp only [Act.put, List.getElem_toArray, List.getElem_cons_zero, List.getElem_cons_succ, List.setIfInBounds_toArray, List.set_cons_zero, List.set_cons_succ]
  refine wpAnyH_ready (rs := [1]) (by kernel_rfl) (by simp) (AllReadyH.cons rfl (fun K hK => ?_) AllReadyH.nil)
  try simp only [List.getElem_toArray, List.getElem_cons_zero, List.getElem_cons_succ]
  go_simp
  refine (HM.out.suspect (m0, 2) _).mono ?_
  rintro e p1 ⟨rfl, hb⟩
  have hb' : Below w7.heap.size w7 p1 := below_drew hb
  have HP1 := Lib.hid (And.intro (HR.out.1.below hb') (HR.out.2.trans (hb'.mono HR.out.2.size)))
  have r1 := HP1.out.1
  clear hb hb' hHeld hHeld0
  rw [HS.out.2.2.1]
  go_wp2_with fail
  refine hK.out _ _ r1 (fun hHeld => ?_)
  clear hK K hHeld
  try simp only [Act.put, List.getElem_toArray, List.getElem_cons_zero, List.getElem_cons_succ, List.setIfInBounds_toArray, List.set_cons_zero, List.set_cons_succ]
  have hHeld := r1
  refine wpAnyH_take (i := 3) (v := .bool true) rfl (by kernel_rfl) (by kernel_rfl) (by kernel_rfl) (fun _ _ _ h => h) (yields_cmpM (by rfl) _ _ _ rfl (m0, 2) (m0, 2) rfl rfl rfl) (by assumption) ?_
  try simp only [Act.put, List.getElem_toArray, List.getElem_cons_zero, List.getElem_cons_succ, List.setIfInBounds_toArray, List.set_cons_zero, List.set_cons_succ]
  refine wpAnyH_take (i := 4) (v := .bool true) rfl (by kernel_rfl) (by kernel_rfl) (by kernel_rfl) (fun _ _ _ h => h) (Or.inl ⟨by rfl, (by intro w hSw; (try dsimp only at hSw); go_simp)⟩) (by assumption) ?_
  try simp only [Act.put, List.getElem_toArray, List.getElem_cons_zero, List.getElem_cons_succ, List.setIfInBounds_toArray, List.set_cons_zero, List.set_cons_succ]
  refine wpAnyH_take (i := 5) (v := .agg (mc (m0, 2))) rfl (by kernel_rfl) (by kernel_rfl) (by kernel_rfl) (fun _ _ _ h => h) (yields_bx (by rfl) _ rfl w6.heap.size rfl (m0, 2) (fun wq hSw => hSw (w6.heap.size, (m0, 2)) (by simp))) (by assumption) ?_
  try simp only [Act.put, List.getElem_toArray, List.getElem_cons_zero, List.getElem_cons_succ, List.setIfInBounds_toArray, List.set_cons_zero, List.set_cons_succ]
  refine wpAnyH_take (i := 7) (v := .agg (mc (m0, 2))) rfl (by kernel_rfl) (by kernel_rfl) (by kernel_rfl) (fun _ _ _ h => h) (yields_bx (by rfl) _ rfl w6.heap.size rfl (m0, 2) (fun wq hSw => hSw (w6.heap.size, (m0, 2)) (by simp))) (by assumption) ?_
  try simp only [Act.put, List.getElem_toArray, List.getElem_cons_zero, List.getElem_cons_succ, List.setIfInBounds_toArray, List.set_cons_zero, List.set_cons_succ]
  refine wpAnyH_ready (rs := [6]) (by kernel_rfl) (by simp) (AllReadyH.cons rfl (fun K hK => ?_) AllReadyH.nil)
  try simp only [List.getElem_toArray, List.getElem_cons_zero, List.getElem_cons_succ]
  go_simp
  refine (HM.out.bury (m0, 2) _).mono ?_
  rintro e p2 ⟨rfl, hb⟩
  have hb' := hb
  have HP2 := Lib.hid (And.intro (HP1.out.1.below hb') (HP1.out.2.trans (hb'.mono HP1.out.2.size)))
  have r2 := HP2.out.1
  clear hb hb' hHeld r1 HP1
  rw [HS.out.2.2.2.1]
  go_wp2_with fail
  refine hK.out _ _ r2 (fun hHeld => ?_)
  clear hK K hHeld
  try simp only [Act.put, List.getElem_toArray, List.getElem_cons_zero, List.getElem_cons_succ, List.setIfInBounds_toArray, List.set_cons_zero, List.set_cons_succ]
  have hHeld := r2
  refine wpAnyH_take (i := 8) (v := .bool true) rfl (by kernel_rfl) (by kernel_rfl) (by kernel_rfl) (fun _ _ _ h => h) (yields_cmpM (by rfl) _ _ _ rfl (m0, 2) (m0, 2) rfl rfl rfl) (by assumption) ?_
  try simp only [Act.put, List.getElem_toArray, List.getElem_cons_zero, List.getElem_cons_succ, List.setIfInBounds_toArray, List.set_cons_zero, List.set_cons_succ]
  refine wpAnyH_take (i := 9) (v := .bool true) rfl (by kernel_rfl) (by kernel_rfl) (by kernel_rfl) (fun _ _ _ h => h) (Or.inl ⟨by rfl, (by intro w hSw; (try dsimp only at hSw); go_simp)⟩) (by assumption) ?_
  try simp only [Act.put, List.getElem_toArray, List.getElem_cons_zero, List.getElem_cons_succ, List.setIfInBounds_toArray, List.set_cons_zero, List.set_cons_succ]
  refine wpAnyH_take (i := 10) (v := .bool true) rfl (by kernel_rfl) (by kernel_rfl) (by kernel_rfl) (fun _ _ _ h => h) (Or.inl ⟨by rfl, (by intro w hSw; (try dsimp only at hSw); go_simp)⟩) (by assumption) ?_
  try simp only [Act.put, List.getElem_toArray, List.getElem_cons_zero, List.getElem_cons_succ, List.setIfInBounds_toArray, List.set_cons_zero, List.set_cons_succ]
  refine wpAnyH_take (i := 11) (v := .pointer (some ⟨w6.heap.size, 1, none⟩)) rfl (by kernel_rfl) (by kernel_rfl) (by kernel_rfl) (fun _ _ _ h => h) (Or.inl ⟨by rfl, (by intro w hSw; (try dsimp only at hSw); go_simp)⟩) (by assumption) ?_
  try simp only [Act.put, List.getElem_toArray, List.getElem_cons_zero, List.getElem_cons_succ, List.setIfInBounds_toArray, List.set_cons_zero, List.set_cons_succ]
  refine wpAnyH_take (i := 12) (v := .int .i64 2) rfl (by kernel_rfl) (by kernel_rfl) (by kernel_rfl) (fun _ _ _ h => h) (Or.inl ⟨by rfl, (by intro wq hSw; have hq : wq.cell? ⟨w6.heap.size, 1, none⟩ = some (.int .i64 2) := (hSw (w6.heap.size, (m0, 2)) (by simp)).c1; clear hSw; go_simp)⟩) (by assumption) ?_
  try simp only [Act.put, List.getElem_toArray, List.getElem_cons_zero, List.getElem_cons_succ, List.setIfInBounds_toArray, List.set_cons_zero, List.set_cons_succ]
  refine wpAnyH_take (i := 13) (v := .bool true) rfl (by kernel_rfl) (by kernel_rfl) (by kernel_rfl) (fun _ _ _ h => h) (Or.inl ⟨by rfl, (by intro w hSw; (try dsimp only at hSw); go_simp)⟩) (by assumption) ?_
  try simp only [Act.put, List.getElem_toArray, List.getElem_cons_zero, List.getElem_cons_succ, List.setIfInBounds_toArray, List.set_cons_zero, List.set_cons_succ]
  refine wpAnyH_take (i := 14) (v := .bool true) rfl (by kernel_rfl) (by kernel_rfl) (by kernel_rfl) (fun _ _ _ h => h) (Or.inl ⟨by rfl, (by intro w hSw; (try dsimp only at hSw); go_simp)⟩) (by assumption) ?_
  try simp only [Act.put, List.getElem_toArray, List.getElem_cons_zero, List.getElem_cons_succ, List.setIfInBounds_toArray, List.set_cons_zero, List.set_cons_succ]
  refine wpAnyH_take (i := 15) (v := .bool true) rfl (by kernel_rfl) (by kernel_rfl) (by kernel_rfl) (fun _ _ _ h => h) (Or.inl ⟨by rfl, (by intro w hSw; (try dsimp only at hSw); go_simp)⟩) (by assumption) ?_
  try simp only [Act.put, List.getElem_toArray, List.getElem_cons_zero, List.getElem_cons_succ, List.setIfInBounds_toArray, List.set_cons_zero, List.set_cons_succ]
  refine wpAnyH_take (i := 16) (v := .pointer (some ⟨w6.heap.size, 0, none⟩)) rfl (by kernel_rfl) (by kernel_rfl) (by kernel_rfl) (fun _ _ _ h => h) (Or.inl ⟨by rfl, (by intro w hSw; (try dsimp only at hSw); go_simp)⟩) (by assumption) ?_
  try simp only [Act.put, List.getElem_toArray, List.getElem_cons_zero, List.getElem_cons_succ, List.setIfInBounds_toArray, List.set_cons_zero, List.set_cons_succ]
  refine wpAnyH_take (i := 17) (v := .int .i64 m0) rfl (by kernel_rfl) (by kernel_rfl) (by kernel_rfl) (fun _ _ _ h => h) (Or.inl ⟨by rfl, (by intro wq hSw; have hq : wq.cell? ⟨w6.heap.size, 0, none⟩ = some (.int .i64 m0) := (hSw (w6.heap.size, (m0, 2)) (by simp)).c0; clear hSw; go_simp)⟩) (by assumption) ?_
  try simp only [Act.put, List.getElem_toArray, List.getElem_cons_zero, List.getElem_cons_succ, List.setIfInBounds_toArray, List.set_cons_zero, List.set_cons_succ]
  refine wpAnyH_take (i := 18) (v := .pointer (some ⟨w.heap.size, 0, none⟩)) rfl (by kernel_rfl) (by kernel_rfl) (by kernel_rfl) (fun _ _ _ h => h) (Or.inl ⟨by rfl, (by intro w hSw; (try dsimp only at hSw); go_simp)⟩) (by assumption) ?_
  try simp only [Act.put, List.getElem_toArray, List.getElem_cons_zero, List.getElem_cons_succ, List.setIfInBounds_toArray, List.set_cons_zero, List.set_cons_succ]
  refine wpAnyH_take (i := 19) (v := .int .i64 m0) rfl (by kernel_rfl) (by kernel_rfl) (by kernel_rfl) (fun _ _ _ h => h) (Or.inl ⟨by rfl, (by intro wq hSw; have hq : wq.cell? ⟨w.heap.size, 0, none⟩ = some (.int .i64 m0) := (hSw (w.heap.size, (m0, m1)) (by simp)).c0; clear hSw; go_simp)⟩) (by assumption) ?_
  try simp only [Act.put, List.getElem_toArray, List.getElem_cons_zero, List.getElem_cons_succ, List.setIfInBounds_toArray, List.set_cons_zero, List.set_cons_succ]
  refine wpAnyH_take (i := 20) (v := .bool true) rfl (by kernel_rfl) (by kernel_rfl) (by kernel_rfl) (fun _ _ _ h => h) (Or.inl ⟨by rfl, (by intro w hSw; (try dsimp only at hSw); go_simp)⟩) (by assumption) ?_
  try simp only [Act.put, List.getElem_toArray, List.getElem_cons_zero, List.getElem_cons_succ, List.setIfInBounds_toArray, List.set_cons_zero, List.set_cons_succ]
  refine wpAnyH_take (i := 21) (v := .bool true) rfl (by kernel_rfl) (by kernel_rfl) (by kernel_rfl) (fun _ _ _ h => h) (Or.inl ⟨by rfl, (by intro w hSw; (try dsimp only at hSw); go_simp)⟩) (by assumption) ?_
  try simp only [Act.put, List.getElem_toArray, List.getElem_cons_zero, List.getElem_cons_succ, List.setIfInBounds_toArray, List.set_cons_zero, List.set_cons_succ]
  refine wpAnyH_take (i := 22) (v := .bool true) rfl (by kernel_rfl) (by kernel_rfl) (by kernel_rfl) (fun _ _ _ h => h) (Or.inl ⟨by rfl, (by intro w hSw; (try dsimp only at hSw); go_simp)⟩) (by assumption) ?_
  try simp only [Act.put, List.getElem_toArray, List.getElem_cons_zero, List.getElem_cons_succ, List.setIfInBounds_toArray, List.set_cons_zero, List.set_cons_succ]
  refine wpAnyH_take (i := 23) (v := .pointer (some ⟨w4.heap.size, 1, none⟩)) rfl (by kernel_rfl) (by kernel_rfl) (by kernel_rfl) (fun _ _ _ h => h) (Or.inl ⟨by rfl, (by intro w hSw; (try dsimp only at hSw); go_simp)⟩) (by assumption) ?_
  try simp only [Act.put, List.getElem_toArray, List.getElem_cons_zero, List.getElem_cons_succ, List.setIfInBounds_toArray, List.set_cons_zero, List.set_cons_succ]
  refine wpAnyH_take (i := 24) (v := .int .i64 s1) rfl (by kernel_rfl) (by kernel_rfl) (by kernel_rfl) (fun _ _ _ h => h) (Or.inl ⟨by rfl, (by intro wq hSw; have hq : wq.cell? ⟨w4.heap.size, 1, none⟩ = some (.int .i64 s1) := (hSw (w4.heap.size, (m0, s1)) (by simp)).c1; clear hSw; go_simp)⟩) (by assumption) ?_
  try simp only [Act.put, List.getElem_toArray, List.getElem_cons_zero, List.getElem_cons_succ, List.setIfInBounds_toArray, List.set_cons_zero, List.set_cons_succ]
  refine wpAnyH_take (i := 25) (v := .bool true) rfl (by kernel_rfl) (by kernel_rfl) (by kernel_rfl) (fun _ _ _ h => h) (Or.inl ⟨by rfl, (by intro w hSw; (try dsimp only at hSw); go_simp)⟩) (by assumption) ?_
  try simp only [Act.put, List.getElem_toArray, List.getElem_cons_zero, List.getElem_cons_succ, List.setIfInBounds_toArray, List.set_cons_zero, List.set_cons_succ]
  refine wpAnyH_take (i := 26) (v := .bool true) rfl (by kernel_rfl) (by kernel_rfl) (by kernel_rfl) (fun _ _ _ h => h) (Or.inl ⟨by rfl, (by intro w hSw; (try dsimp only at hSw); go_simp)⟩) (by assumption) ?_
  try simp only [Act.put, List.getElem_toArray, List.getElem_cons_zero, List.getElem_cons_succ, List.setIfInBounds_toArray, List.set_cons_zero, List.set_cons_succ]
  refine wpAnyH_take (i := 27) (v := .bool true) rfl (by kernel_rfl) (by kernel_rfl) (by kernel_rfl) (fun _ _ _ h => h) (Or.inl ⟨by rfl, (by intro w hSw; (try dsimp only at hSw); go_simp)⟩) (by assumption) ?_
  try simp only [Act.put, List.getElem_toArray, List.getElem_cons_zero, List.getElem_cons_succ, List.setIfInBounds_toArray, List.set_cons_zero, List.set_cons_succ]
  refine wpAnyH_done (by kernel_rfl) ?_ _
  clear hHeld r2
  have H8 := Lib.hid (H7.out.on HP2.out.2)
  clear HP2 H7
  go_wp2_with (first | ((with_reducible show wpList _ _ _ ((⟨some 52, Op.load 24 (.tmp 2), _, _, _, _⟩ : Oper) :: _) _ _); refine wpList_load_rowG (by rfl) 24 (.tmp 2) rfl w.heap.size rfl 24 (mc (m0, m1)) (0, 0) _ (H8.out.1 (w.heap.size, (m0, m1)) (by simp)) Try.underlying24 rfl info2 ?_) | ((with_reducible show wpList _ _ _ ((⟨some 53, Op.load 24 (.tmp 7), _, _, _, _⟩ : Oper) :: _) _ _); refine wpList_load_rowG (by rfl) 24 (.tmp 7) rfl w6.heap.size rfl 24 (mc (m0, 2)) (0, 0) _ (H8.out.1 (w6.heap.size, (m0, 2)) (by simp)) Try.underlying24 rfl info2 ?_) | fail)
  refine (HM.out.speak (m0, m1) (m0, 2) p2 HI.out.1 ⟨HI.out.1.1, by simp only; omega, by simp only; omega⟩).mono ?_
  rintro e w8 ⟨rfl, hb8⟩
  have H9 := Lib.hid (H8.out.on hb8)
  clear hb8 H8
  rw [HS.out.2.2.2.2]
  go_upto_region 8 with (first | ((with_reducible show wpList _ _ _ ((⟨_, Op.store 24 (.tmp 9) _, _, _, _, _⟩ : Oper) :: _) _ _); refine wpList_store_row rfl 24 (.tmp 9) (.tmp 54) rfl w8.heap.size (mc (p0, 0)) rfl rfl 24 (mc nought) (Whole.new w8 24 (mc nought)) info2 rfl (mc_one _) ?_) | fail)
  rw [show #[Value.int .i64 0, Value.int .i64 0] = mc nought from rfl]
  have H10 := Lib.hid (wit_new (p0, 0) H9.out)
  clear H9
  generalize (w8.alloc (.cells (mc nought) 24)).setRow w8.heap.size (mc (p0, 0)) = w9 at *
  clear HS q1
  go_wp2_with fail
  refine (HM.out.all (w := w9) H10.out.2.1 HI.out.2 (nil_any w9) (Nat.le_refl 0) HN.out (by omega)).mono ?_
  rintro e w10 ⟨a10, n10, c10, rfl, hm10, hb10⟩
  have H11 := Lib.hid (And.intro (H10.out.on hb10) hm10)
  have HN10 : Hid (n10 ≤ 1000) := Lib.hid (by have h1 := hm10.len; have h2 := H10.out.2.1.1; have h3 := HN.out; rw [all_nil] at h1; omega)
  clear hm10 hb10 H10
  go_wp2_with fail
  refine (rsame_any (w := w10) H11.out.2.any H11.out.1.2.1 (by have := HN10.out; omega)).mono ?_
  rintro e w11 ⟨rfl, hb11⟩
  have H12 := Lib.hid (H11.out.1.on hb11)
  rw [decide_eq_true (all_nil l)]
  clear hb11 H11 HN10
  go_wp2_with fail
  refine (HM.out.all (w := w11) (nil_any w11) (Nat.le_refl 0) H12.out.2.1 HI.out.2 (by omega) HN.out).mono ?_
  rintro e w12 ⟨a12, n12, c12, rfl, hm12, hb12⟩
  have H13 := Lib.hid (And.intro (H12.out.on hb12) hm12)
  have HN12 : Hid (n12 ≤ 1000) := Lib.hid (by have h1 := hm12.len; have h2 := H12.out.2.1.1; have h3 := HN.out; rw [show all [] l = l from rfl] at h1; omega)
  clear hm12 hb12 H12
  go_wp2_with fail
  refine (rsame_any (w := w12) H13.out.2.any H13.out.1.2.1 (by have := HN12.out; omega)).mono ?_
  rintro e w13 ⟨rfl, hb13⟩
  have H14 := Lib.hid (H13.out.1.on hb13)
  rw [decide_eq_true (show all [] l = l from rfl)]
  clear hb13 H13 HN12
  have c1 : w13.cell? ⟨w8.heap.size, 1, none⟩ = some (.int .i64 0) := (H14.out.1 (w8.heap.size, (p0, 0)) (by simp)).c1
  go_wp2
  go_ret
  exact ⟨rfl, H14.out.2.2⟩
end Go.Proofs.Ytlcpiompmpccoaa
