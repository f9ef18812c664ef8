/-
  What the package's functions are to answer of members (Mem); boxes that a walk keeps; the walk of MemberTells.
-/
import Derived.Test.YtlcpiompmpccoaaCe
namespace Go.Proofs.Ytlcpiompmpccoaa
open Go.RowKit Go.Great
set_option linter.unusedVariables false
set_option linter.unusedSimpArgs false
set_option maxRecDepth 20000
open Mb
/-- Boxes that are kept. -/
def Held (L : List (Nat × M)) (w : World) : Prop := ∀ q ∈ L, Bx w q.1 q.2
theorem Held.below {L : List (Nat × M)} {w w' : World} (h : Held L w) (hb : Below w.heap.size w w') : Held L w' := fun q hq => (h q hq).below hb (h q hq).lt
theorem Held.drew {L : List (Nat × M)} {w : World} (h : Held L w) : Held L w.drew := h
/-- What the package's functions are to answer. -/
structure Mem : Prop where
  check : ∀ (m : M) (w : World), Calls Try.prog 11 #[.agg (mc m)] w fun e w' => e = .returned (.int .i64 (chk m)) ∧ Below w.heap.size w w'
  join : ∀ (a b : M) (w : World), Calls Try.prog 13 #[.agg (mc a), .agg (mc b)] w fun e w' => e = .returned (.agg (mc (join a b))) ∧ Below w.heap.size w w'
  speak : ∀ (a b : M) (w : World), Min a → Min b → Calls Try.prog 15 #[.agg (mc a), .agg (mc b)] w fun e w' => e = .returned (.agg (mc (speak a b))) ∧ Below w.heap.size w w'
  suspect : ∀ (m : M) (w : World), Calls Try.prog 17 #[.agg (mc m)] w fun e w' => e = .returned (.agg (mc (suspect m))) ∧ Below w.heap.size w w'
  bury : ∀ (m : M) (w : World), Calls Try.prog 19 #[.agg (mc m)] w fun e w' => e = .returned (.agg (mc (bury m))) ∧ Below w.heap.size w w'
  all : ∀ {w : World} {S S' : Nat → Prop} {a a' : Option Addr} {n n' c c' : Nat} {l l' : List M}, Ms w S a n l → n ≤ c → Ms w S' a' n' l' → n' ≤ c' → n ≤ 50 → n' ≤ 50 →
    Calls Try.prog 22 #[.slice a n c, .slice a' n' c'] w (RowQ w (Mb.all l l'))
/-- Two members boxed. -/
theorem two_boxes' (a b : M) (w : World) : ∃ w1, (w.alloc (.cells (mc a) 24)).alloc (.cells (mc b) 24) = w1 ∧ Held [(w.heap.size, a), (w.heap.size + 1, b)] w1 ∧ Below w.heap.size w w1 := by
  refine ⟨_, rfl, fun q hq => ?_, (below_alloc w _).alloc (by simp) _⟩
  rcases List.mem_cons.1 hq with rfl | hq
  · exact (Whole.new w 24 (mc a)).alloc _
  · rw [List.mem_singleton.1 hq]
    have := Whole.new (w.alloc (.cells (mc a) 24)) 24 (mc b)
    rw [size_alloc] at this
    exact this
/-- At the head of all statements. -/
def Awake : Prop := ∀ w : World, Calls Try.prog 10 #[] w fun e w' => e = .returned (.bool true) ∧ Below w.heap.size w w'
set_option maxHeartbeats 4000000 in
theorem tells_walk (hm : Mem) (hw : Awake) (x y : M) (hx : Min x) (hy : Min y) (w : World) : Calls Try.prog 4 #[.agg (mc x), .agg (mc y)] w fun e w' => e = .returned (.bool true) ∧ Below w.heap.size w w' := by
  obtain ⟨w1, hw1, hh1, hb1⟩ := two_boxes' x y w
  have HW := Lib.hid hw1
  have H1 := Lib.hid (And.intro hh1 hb1)
  have HI := Lib.hid (And.intro hx hy)
  have HM := Lib.hid hm
  have HA := Lib.hid hw
  clear hw1 hh1 hb1 hx hy hm hw
  go_enter Try.func4, Try.ntmps4
  go_upto_region 1 with fail
  rw [HW.out]
  go_wp2_with fail
  refine (HA.out w1).mono ?_
  rintro e w2 ⟨rfl, hb2⟩
  have H2 := Lib.hid (And.intro (H1.out.1.below hb2) (H1.out.2.trans (hb2.mono H1.out.2.size)))
  clear hb2 H1
  go_upto_region 2 with fail
  have hHeld0 : Held [(w.heap.size, x), (w.heap.size + 1, y)] w2.drew := H2.out.1.drew
  refine wp_region_held_drew (S := Held [(w.heap.size, x), (w.heap.size + 1, y)]) (by kernel_rfl) hHeld0 (fun hHeld => ?_)
  refine wpAnyH_take (i := 0) (v := .agg (mc x)) rfl (by kernel_rfl) (by kernel_rfl) (by kernel_rfl) (fun _ _ _ h => h) (yields_bx (by rfl) _ rfl w.heap.size rfl x (fun wq hSw => hSw (w.heap.size, x) (by simp))) (by assumption) ?_
  try simp only [Act.put, List.getElem_toArray, List.getElem_cons_zero, List.getElem_cons_succ, List.setIfInBounds_toArray, List.set_cons_zero, List.set_cons_succ]
  refine wpAnyH_take (i := 2) (v := .agg (mc x)) rfl (by kernel_rfl) (by kernel_rfl) (by kernel_rfl) (fun _ _ _ h => h) (yields_bx (by rfl) _ rfl w.heap.size rfl x (fun wq hSw => hSw (w.heap.size, x) (by simp))) (by assumption) ?_
  try simp only [Act.put, List.getElem_toArray, List.getElem_cons_zero, List.getElem_cons_succ, List.setIfInBounds_toArray, List.set_cons_zero, List.set_cons_succ]
  refine wpAnyH_ready (rs := [1]) (by kernel_rfl) (by simp) (AllReadyH.cons rfl (fun K hK => ?_) AllReadyH.nil)
  try simp only [List.getElem_toArray, List.getElem_cons_zero, List.getElem_cons_succ]
  go_simp
  refine (HM.out.check x _).mono ?_
  rintro e v1 ⟨rfl, hb⟩
  have hb' : Below w2.heap.size w2 v1 := below_drew hb
  have HV1 := Lib.hid (And.intro (H2.out.1.below hb') (H2.out.2.trans (hb'.mono H2.out.2.size)))
  have r1 := HV1.out.1
  clear hb hb' hHeld hHeld0
  go_wp2_with fail
  refine hK.out _ _ r1 (fun hHeld => ?_)
  clear hK K hHeld
  try simp only [Act.put, List.getElem_toArray, List.getElem_cons_zero, List.getElem_cons_succ, List.setIfInBounds_toArray, List.set_cons_zero, List.set_cons_succ]
  have hHeld := r1
  refine wpAnyH_ready (rs := [3]) (by kernel_rfl) (by simp) (AllReadyH.cons rfl (fun K hK => ?_) AllReadyH.nil)
  try simp only [List.getElem_toArray, List.getElem_cons_zero, List.getElem_cons_succ]
  go_simp
  refine (rcheck_any x _).mono ?_
  rintro e v2 ⟨rfl, hb⟩
  have hb' := hb
  have HV2 := Lib.hid (And.intro (HV1.out.1.below hb') (HV1.out.2.trans (hb'.mono HV1.out.2.size)))
  have r2 := HV2.out.1
  clear hb hb' hHeld r1 HV1
  go_wp2_with fail
  refine hK.out _ _ r2 (fun hHeld => ?_)
  clear hK K hHeld
  try simp only [Act.put, List.getElem_toArray, List.getElem_cons_zero, List.getElem_cons_succ, List.setIfInBounds_toArray, List.set_cons_zero, List.set_cons_succ]
  have hHeld := r2
  refine wpAnyH_take (i := 4) (v := .bool true) rfl (by kernel_rfl) (by kernel_rfl) (by kernel_rfl) (fun _ _ _ h => h) (Or.inl ⟨by rfl, (by intro w hSw; (try dsimp only at hSw); go_simp)⟩) (by assumption) ?_
  try simp only [Act.put, List.getElem_toArray, List.getElem_cons_zero, List.getElem_cons_succ, List.setIfInBounds_toArray, List.set_cons_zero, List.set_cons_succ]
  refine wpAnyH_take (i := 5) (v := .bool true) rfl (by kernel_rfl) (by kernel_rfl) (by kernel_rfl) (fun _ _ _ h => h) (Or.inl ⟨by rfl, (by intro w hSw; (try dsimp only at hSw); go_simp)⟩) (by assumption) ?_
  try simp only [Act.put, List.getElem_toArray, List.getElem_cons_zero, List.getElem_cons_succ, List.setIfInBounds_toArray, List.set_cons_zero, List.set_cons_succ]
  refine wpAnyH_take (i := 6) (v := .agg (mc x)) rfl (by kernel_rfl) (by kernel_rfl) (by kernel_rfl) (fun _ _ _ h => h) (yields_bx (by rfl) _ rfl w.heap.size rfl x (fun wq hSw => hSw (w.heap.size, x) (by simp))) (by assumption) ?_
  try simp only [Act.put, List.getElem_toArray, List.getElem_cons_zero, List.getElem_cons_succ, List.setIfInBounds_toArray, List.set_cons_zero, List.set_cons_succ]
  refine wpAnyH_take (i := 7) (v := .agg (mc y)) rfl (by kernel_rfl) (by kernel_rfl) (by kernel_rfl) (fun _ _ _ h => h) (yields_bx (by rfl) _ rfl (w.heap.size + 1) rfl y (fun wq hSw => hSw ((w.heap.size + 1), y) (by simp))) (by assumption) ?_
  try simp only [Act.put, List.getElem_toArray, List.getElem_cons_zero, List.getElem_cons_succ, List.setIfInBounds_toArray, List.set_cons_zero, List.set_cons_succ]
  refine wpAnyH_take (i := 9) (v := .agg (mc x)) rfl (by kernel_rfl) (by kernel_rfl) (by kernel_rfl) (fun _ _ _ h => h) (yields_bx (by rfl) _ rfl w.heap.size rfl x (fun wq hSw => hSw (w.heap.size, x) (by simp))) (by assumption) ?_
  try simp only [Act.put, List.getElem_toArray, List.getElem_cons_zero, List.getElem_cons_succ, List.setIfInBounds_toArray, List.set_cons_zero, List.set_cons_succ]
  refine wpAnyH_take (i := 10) (v := .agg (mc y)) rfl (by kernel_rfl) (by kernel_rfl) (by kernel_rfl) (fun _ _ _ h => h) (yields_bx (by rfl) _ rfl (w.heap.size + 1) rfl y (fun wq hSw => hSw ((w.heap.size + 1), y) (by simp))) (by assumption) ?_
  try simp only [Act.put, List.getElem_toArray, List.getElem_cons_zero, List.getElem_cons_succ, List.setIfInBounds_toArray, List.set_cons_zero, List.set_cons_succ]
  refine wpAnyH_ready (rs := [8]) (by kernel_rfl) (by simp) (AllReadyH.cons rfl (fun K hK => ?_) AllReadyH.nil)
  try simp only [List.getElem_toArray, List.getElem_cons_zero, List.getElem_cons_succ]
  go_simp
  refine (HM.out.join x y _).mono ?_
  rintro e v3 ⟨rfl, hb⟩
  have hb' := hb
  have HV3 := Lib.hid (And.intro (HV2.out.1.below hb') (HV2.out.2.trans (hb'.mono HV2.out.2.size)))
  have r3 := HV3.out.1
  clear hb hb' hHeld r2 HV2
  go_wp2_with fail
  refine hK.out _ _ r3 (fun hHeld => ?_)
  clear hK K hHeld
  try simp only [Act.put, List.getElem_toArray, List.getElem_cons_zero, List.getElem_cons_succ, List.setIfInBounds_toArray, List.set_cons_zero, List.set_cons_succ]
  have hHeld := r3
  refine wpAnyH_ready (rs := [11]) (by kernel_rfl) (by simp) (AllReadyH.cons rfl (fun K hK => ?_) AllReadyH.nil)
  try simp only [List.getElem_toArray, List.getElem_cons_zero, List.getElem_cons_succ]
  go_simp
  refine (rjoin_any x y _).mono ?_
  rintro e v4 ⟨rfl, hb⟩
  have hb' := hb
  have HV4 := Lib.hid (And.intro (HV3.out.1.below hb') (HV3.out.2.trans (hb'.mono HV3.out.2.size)))
  have r4 := HV4.out.1
  clear hb hb' hHeld r3 HV3
  go_wp2_with fail
  refine hK.out _ _ r4 (fun hHeld => ?_)
  clear hK K hHeld
  try simp only [Act.put, List.getElem_toArray, List.getElem_cons_zero, List.getElem_cons_succ, List.setIfInBounds_toArray, List.set_cons_zero, List.set_cons_succ]
  have hHeld := r4
  refine wpAnyH_take (i := 12) (v := .bool true) rfl (by kernel_rfl) (by kernel_rfl) (by kernel_rfl) (fun _ _ _ h => h) (yields_cmpM (by rfl) _ _ _ rfl (join x y) (join x y) rfl rfl rfl) (by assumption) ?_
  try simp only [Act.put, List.getElem_toArray, List.getElem_cons_zero, List.getElem_cons_succ, List.setIfInBounds_toArray, List.set_cons_zero, List.set_cons_succ]
  refine wpAnyH_take (i := 13) (v := .bool true) rfl (by kernel_rfl) (by kernel_rfl) (by kernel_rfl) (fun _ _ _ h => h) (Or.inl ⟨by rfl, (by intro w hSw; (try dsimp only at hSw); go_simp)⟩) (by assumption) ?_
  try simp only [Act.put, List.getElem_toArray, List.getElem_cons_zero, List.getElem_cons_succ, List.setIfInBounds_toArray, List.set_cons_zero, List.set_cons_succ]
  refine wpAnyH_take (i := 14) (v := .bool true) rfl (by kernel_rfl) (by kernel_rfl) (by kernel_rfl) (fun _ _ _ h => h) (Or.inl ⟨by rfl, (by intro w hSw; (try dsimp only at hSw); go_simp)⟩) (by assumption) ?_
  try simp only [Act.put, List.getElem_toArray, List.getElem_cons_zero, List.getElem_cons_succ, List.setIfInBounds_toArray, List.set_cons_zero, List.set_cons_succ]
  refine wpAnyH_take (i := 15) (v := .agg (mc x)) rfl (by kernel_rfl) (by kernel_rfl) (by kernel_rfl) (fun _ _ _ h => h) (yields_bx (by rfl) _ rfl w.heap.size rfl x (fun wq hSw => hSw (w.heap.size, x) (by simp))) (by assumption) ?_
  try simp only [Act.put, List.getElem_toArray, List.getElem_cons_zero, List.getElem_cons_succ, List.setIfInBounds_toArray, List.set_cons_zero, List.set_cons_succ]
  refine wpAnyH_take (i := 16) (v := .agg (mc y)) rfl (by kernel_rfl) (by kernel_rfl) (by kernel_rfl) (fun _ _ _ h => h) (yields_bx (by rfl) _ rfl (w.heap.size + 1) rfl y (fun wq hSw => hSw ((w.heap.size + 1), y) (by simp))) (by assumption) ?_
  try simp only [Act.put, List.getElem_toArray, List.getElem_cons_zero, List.getElem_cons_succ, List.setIfInBounds_toArray, List.set_cons_zero, List.set_cons_succ]
  refine wpAnyH_take (i := 18) (v := .agg (mc x)) rfl (by kernel_rfl) (by kernel_rfl) (by kernel_rfl) (fun _ _ _ h => h) (yields_bx (by rfl) _ rfl w.heap.size rfl x (fun wq hSw => hSw (w.heap.size, x) (by simp))) (by assumption) ?_
  try simp only [Act.put, List.getElem_toArray, List.getElem_cons_zero, List.getElem_cons_succ, List.setIfInBounds_toArray, List.set_cons_zero, List.set_cons_succ]
  refine wpAnyH_take (i := 19) (v := .agg (mc y)) rfl (by kernel_rfl) (by kernel_rfl) (by kernel_rfl) (fun _ _ _ h => h) (yields_bx (by rfl) _ rfl (w.heap.size + 1) rfl y (fun wq hSw => hSw ((w.heap.size + 1), y) (by simp))) (by assumption) ?_
  try simp only [Act.put, List.getElem_toArray, List.getElem_cons_zero, List.getElem_cons_succ, List.setIfInBounds_toArray, List.set_cons_zero, List.set_cons_succ]
  refine wpAnyH_ready (rs := [17]) (by kernel_rfl) (by simp) (AllReadyH.cons rfl (fun K hK => ?_) AllReadyH.nil)
  try simp only [List.getElem_toArray, List.getElem_cons_zero, List.getElem_cons_succ]
  go_simp
  refine (HM.out.speak x y _ HI.out.1 HI.out.2).mono ?_
  rintro e v5 ⟨rfl, hb⟩
  have hb' := hb
  have HV5 := Lib.hid (And.intro (HV4.out.1.below hb') (HV4.out.2.trans (hb'.mono HV4.out.2.size)))
  have r5 := HV5.out.1
  clear hb hb' hHeld r4 HV4
  go_wp2_with fail
  refine hK.out _ _ r5 (fun hHeld => ?_)
  clear hK K hHeld
  try simp only [Act.put, List.getElem_toArray, List.getElem_cons_zero, List.getElem_cons_succ, List.setIfInBounds_toArray, List.set_cons_zero, List.set_cons_succ]
  have hHeld := r5
  refine wpAnyH_ready (rs := [20]) (by kernel_rfl) (by simp) (AllReadyH.cons rfl (fun K hK => ?_) AllReadyH.nil)
  try simp only [List.getElem_toArray, List.getElem_cons_zero, List.getElem_cons_succ]
  go_simp
  refine (rspeak_any x y HI.out.2 _).mono ?_
  rintro e v6 ⟨rfl, hb⟩
  have hb' := hb
  have HV6 := Lib.hid (And.intro (HV5.out.1.below hb') (HV5.out.2.trans (hb'.mono HV5.out.2.size)))
  have r6 := HV6.out.1
  clear hb hb' hHeld r5 HV5
  go_wp2_with fail
  refine hK.out _ _ r6 (fun hHeld => ?_)
  clear hK K hHeld
  try simp only [Act.put, List.getElem_toArray, List.getElem_cons_zero, List.getElem_cons_succ, List.setIfInBounds_toArray, List.set_cons_zero, List.set_cons_succ]
  have hHeld := r6
  refine wpAnyH_take (i := 21) (v := .bool true) rfl (by kernel_rfl) (by kernel_rfl) (by kernel_rfl) (fun _ _ _ h => h) (yields_cmpM (by rfl) _ _ _ rfl (speak x y) (speak x y) rfl rfl rfl) (by assumption) ?_
  try simp only [Act.put, List.getElem_toArray, List.getElem_cons_zero, List.getElem_cons_succ, List.setIfInBounds_toArray, List.set_cons_zero, List.set_cons_succ]
  refine wpAnyH_take (i := 22) (v := .bool true) rfl (by kernel_rfl) (by kernel_rfl) (by kernel_rfl) (fun _ _ _ h => h) (Or.inl ⟨by rfl, (by intro w hSw; (try dsimp only at hSw); go_simp)⟩) (by assumption) ?_
  try simp only [Act.put, List.getElem_toArray, List.getElem_cons_zero, List.getElem_cons_succ, List.setIfInBounds_toArray, List.set_cons_zero, List.set_cons_succ]
  refine wpAnyH_take (i := 23) (v := .bool true) rfl (by kernel_rfl) (by kernel_rfl) (by kernel_rfl) (fun _ _ _ h => h) (Or.inl ⟨by rfl, (by intro w hSw; (try dsimp only at hSw); go_simp)⟩) (by assumption) ?_
  try simp only [Act.put, List.getElem_toArray, List.getElem_cons_zero, List.getElem_cons_succ, List.setIfInBounds_toArray, List.set_cons_zero, List.set_cons_succ]
  refine wpAnyH_done (by kernel_rfl) ?_ _
  clear hHeld r6

  go_upto_region 3 with fail
  have hHeld0 : Held [(w.heap.size, x), (w.heap.size + 1, y)] v6.drew := HV6.out.1.drew
  refine wp_region_held_drew (S := Held [(w.heap.size, x), (w.heap.size + 1, y)]) (by kernel_rfl) hHeld0 (fun hHeld => ?_)
  refine wpAnyH_take (i := 0) (v := .bool true) rfl (by kernel_rfl) (by kernel_rfl) (by kernel_rfl) (fun _ _ _ h => h) (Or.inl ⟨by rfl, (by intro w hSw; (try dsimp only at hSw); go_simp)⟩) (by assumption) ?_
  try simp only [Act.put, List.getElem_toArray, List.getElem_cons_zero, List.getElem_cons_succ, List.setIfInBounds_toArray, List.set_cons_zero, List.set_cons_succ]
  refine wpAnyH_take (i := 1) (v := .bool true) rfl (by kernel_rfl) (by kernel_rfl) (by kernel_rfl) (fun _ _ _ h => h) (Or.inl ⟨by rfl, (by intro w hSw; (try dsimp only at hSw); go_simp)⟩) (by assumption) ?_
  try simp only [Act.put, List.getElem_toArray, List.getElem_cons_zero, List.getElem_cons_succ, List.setIfInBounds_toArray, List.set_cons_zero, List.set_cons_succ]
  refine wpAnyH_take (i := 2) (v := .bool true) rfl (by kernel_rfl) (by kernel_rfl) (by kernel_rfl) (fun _ _ _ h => h) (Or.inl ⟨by rfl, (by intro w hSw; (try dsimp only at hSw); go_simp)⟩) (by assumption) ?_
  try simp only [Act.put, List.getElem_toArray, List.getElem_cons_zero, List.getElem_cons_succ, List.setIfInBounds_toArray, List.set_cons_zero, List.set_cons_succ]
  refine wpAnyH_take (i := 3) (v := .bool true) rfl (by kernel_rfl) (by kernel_rfl) (by kernel_rfl) (fun _ _ _ h => h) (Or.inl ⟨by rfl, (by intro w hSw; (try dsimp only at hSw); go_simp)⟩) (by assumption) ?_
  try simp only [Act.put, List.getElem_toArray, List.getElem_cons_zero, List.getElem_cons_succ, List.setIfInBounds_toArray, List.set_cons_zero, List.set_cons_succ]
  refine wpAnyH_take (i := 4) (v := .bool true) rfl (by kernel_rfl) (by kernel_rfl) (by kernel_rfl) (fun _ _ _ h => h) (Or.inl ⟨by rfl, (by intro w hSw; (try dsimp only at hSw); go_simp)⟩) (by assumption) ?_
  try simp only [Act.put, List.getElem_toArray, List.getElem_cons_zero, List.getElem_cons_succ, List.setIfInBounds_toArray, List.set_cons_zero, List.set_cons_succ]
  refine wpAnyH_take (i := 5) (v := .agg (mc x)) rfl (by kernel_rfl) (by kernel_rfl) (by kernel_rfl) (fun _ _ _ h => h) (yields_bx (by rfl) _ rfl w.heap.size rfl x (fun wq hSw => hSw (w.heap.size, x) (by simp))) (by assumption) ?_
  try simp only [Act.put, List.getElem_toArray, List.getElem_cons_zero, List.getElem_cons_succ, List.setIfInBounds_toArray, List.set_cons_zero, List.set_cons_succ]
  refine wpAnyH_take (i := 7) (v := .agg (mc x)) rfl (by kernel_rfl) (by kernel_rfl) (by kernel_rfl) (fun _ _ _ h => h) (yields_bx (by rfl) _ rfl w.heap.size rfl x (fun wq hSw => hSw (w.heap.size, x) (by simp))) (by assumption) ?_
  try simp only [Act.put, List.getElem_toArray, List.getElem_cons_zero, List.getElem_cons_succ, List.setIfInBounds_toArray, List.set_cons_zero, List.set_cons_succ]
  refine wpAnyH_ready (rs := [6]) (by kernel_rfl) (by simp) (AllReadyH.cons rfl (fun K hK => ?_) AllReadyH.nil)
  try simp only [List.getElem_toArray, List.getElem_cons_zero, List.getElem_cons_succ]
  go_simp
  refine (HM.out.suspect x _).mono ?_
  rintro e u1 ⟨rfl, hb⟩
  have hb' : Below v6.heap.size v6 u1 := below_drew hb
  have HU1 := Lib.hid (And.intro (HV6.out.1.below hb') (HV6.out.2.trans (hb'.mono HV6.out.2.size)))
  have r1 := HU1.out.1
  clear hb hb' hHeld hHeld0
  go_wp2_with fail
  refine hK.out _ _ r1 (fun hHeld => ?_)
  clear hK K hHeld
  try simp only [Act.put, List.getElem_toArray, List.getElem_cons_zero, List.getElem_cons_succ, List.setIfInBounds_toArray, List.set_cons_zero, List.set_cons_succ]
  have hHeld := r1
  refine wpAnyH_ready (rs := [8]) (by kernel_rfl) (by simp) (AllReadyH.cons rfl (fun K hK => ?_) AllReadyH.nil)
  try simp only [List.getElem_toArray, List.getElem_cons_zero, List.getElem_cons_succ]
  go_simp
  refine (rsuspect_any x _).mono ?_
  rintro e u2 ⟨rfl, hb⟩
  have hb' := hb
  have HU2 := Lib.hid (And.intro (HU1.out.1.below hb') (HU1.out.2.trans (hb'.mono HU1.out.2.size)))
  have r2 := HU2.out.1
  clear hb hb' hHeld r1 HU1
  go_wp2_with fail
  refine hK.out _ _ r2 (fun hHeld => ?_)
  clear hK K hHeld
  try simp only [Act.put, List.getElem_toArray, List.getElem_cons_zero, List.getElem_cons_succ, List.setIfInBounds_toArray, List.set_cons_zero, List.set_cons_succ]
  have hHeld := r2
  refine wpAnyH_take (i := 9) (v := .bool true) rfl (by kernel_rfl) (by kernel_rfl) (by kernel_rfl) (fun _ _ _ h => h) (yields_cmpM (by rfl) _ _ _ rfl (suspect x) (suspect x) rfl rfl rfl) (by assumption) ?_
  try simp only [Act.put, List.getElem_toArray, List.getElem_cons_zero, List.getElem_cons_succ, List.setIfInBounds_toArray, List.set_cons_zero, List.set_cons_succ]
  refine wpAnyH_take (i := 10) (v := .bool true) rfl (by kernel_rfl) (by kernel_rfl) (by kernel_rfl) (fun _ _ _ h => h) (Or.inl ⟨by rfl, (by intro w hSw; (try dsimp only at hSw); go_simp)⟩) (by assumption) ?_
  try simp only [Act.put, List.getElem_toArray, List.getElem_cons_zero, List.getElem_cons_succ, List.setIfInBounds_toArray, List.set_cons_zero, List.set_cons_succ]
  refine wpAnyH_take (i := 11) (v := .bool true) rfl (by kernel_rfl) (by kernel_rfl) (by kernel_rfl) (fun _ _ _ h => h) (Or.inl ⟨by rfl, (by intro w hSw; (try dsimp only at hSw); go_simp)⟩) (by assumption) ?_
  try simp only [Act.put, List.getElem_toArray, List.getElem_cons_zero, List.getElem_cons_succ, List.setIfInBounds_toArray, List.set_cons_zero, List.set_cons_succ]
  refine wpAnyH_take (i := 12) (v := .agg (mc x)) rfl (by kernel_rfl) (by kernel_rfl) (by kernel_rfl) (fun _ _ _ h => h) (yields_bx (by rfl) _ rfl w.heap.size rfl x (fun wq hSw => hSw (w.heap.size, x) (by simp))) (by assumption) ?_
  try simp only [Act.put, List.getElem_toArray, List.getElem_cons_zero, List.getElem_cons_succ, List.setIfInBounds_toArray, List.set_cons_zero, List.set_cons_succ]
  refine wpAnyH_take (i := 14) (v := .agg (mc x)) rfl (by kernel_rfl) (by kernel_rfl) (by kernel_rfl) (fun _ _ _ h => h) (yields_bx (by rfl) _ rfl w.heap.size rfl x (fun wq hSw => hSw (w.heap.size, x) (by simp))) (by assumption) ?_
  try simp only [Act.put, List.getElem_toArray, List.getElem_cons_zero, List.getElem_cons_succ, List.setIfInBounds_toArray, List.set_cons_zero, List.set_cons_succ]
  refine wpAnyH_ready (rs := [13]) (by kernel_rfl) (by simp) (AllReadyH.cons rfl (fun K hK => ?_) AllReadyH.nil)
  try simp only [List.getElem_toArray, List.getElem_cons_zero, List.getElem_cons_succ]
  go_simp
  refine (HM.out.bury x _).mono ?_
  rintro e u3 ⟨rfl, hb⟩
  have hb' := hb
  have HU3 := Lib.hid (And.intro (HU2.out.1.below hb') (HU2.out.2.trans (hb'.mono HU2.out.2.size)))
  have r3 := HU3.out.1
  clear hb hb' hHeld r2 HU2
  go_wp2_with fail
  refine hK.out _ _ r3 (fun hHeld => ?_)
  clear hK K hHeld
  try simp only [Act.put, List.getElem_toArray, List.getElem_cons_zero, List.getElem_cons_succ, List.setIfInBounds_toArray, List.set_cons_zero, List.set_cons_succ]
  have hHeld := r3
  refine wpAnyH_ready (rs := [15]) (by kernel_rfl) (by simp) (AllReadyH.cons rfl (fun K hK => ?_) AllReadyH.nil)
  try simp only [List.getElem_toArray, List.getElem_cons_zero, List.getElem_cons_succ]
  go_simp
  refine (rbury_any x _).mono ?_
  rintro e u4 ⟨rfl, hb⟩
  have hb' := hb
  have HU4 := Lib.hid (And.intro (HU3.out.1.below hb') (HU3.out.2.trans (hb'.mono HU3.out.2.size)))
  have r4 := HU4.out.1
  clear hb hb' hHeld r3 HU3
  go_wp2_with fail
  refine hK.out _ _ r4 (fun hHeld => ?_)
  clear hK K hHeld
  try simp only [Act.put, List.getElem_toArray, List.getElem_cons_zero, List.getElem_cons_succ, List.setIfInBounds_toArray, List.set_cons_zero, List.set_cons_succ]
  have hHeld := r4
  refine wpAnyH_take (i := 16) (v := .bool true) rfl (by kernel_rfl) (by kernel_rfl) (by kernel_rfl) (fun _ _ _ h => h) (yields_cmpM (by rfl) _ _ _ rfl (bury x) (bury x) rfl rfl rfl) (by assumption) ?_
  try simp only [Act.put, List.getElem_toArray, List.getElem_cons_zero, List.getElem_cons_succ, List.setIfInBounds_toArray, List.set_cons_zero, List.set_cons_succ]
  refine wpAnyH_take (i := 17) (v := .bool true) rfl (by kernel_rfl) (by kernel_rfl) (by kernel_rfl) (fun _ _ _ h => h) (Or.inl ⟨by rfl, (by intro w hSw; (try dsimp only at hSw); go_simp)⟩) (by assumption) ?_
  try simp only [Act.put, List.getElem_toArray, List.getElem_cons_zero, List.getElem_cons_succ, List.setIfInBounds_toArray, List.set_cons_zero, List.set_cons_succ]
  refine wpAnyH_take (i := 18) (v := .bool true) rfl (by kernel_rfl) (by kernel_rfl) (by kernel_rfl) (fun _ _ _ h => h) (Or.inl ⟨by rfl, (by intro w hSw; (try dsimp only at hSw); go_simp)⟩) (by assumption) ?_
  try simp only [Act.put, List.getElem_toArray, List.getElem_cons_zero, List.getElem_cons_succ, List.setIfInBounds_toArray, List.set_cons_zero, List.set_cons_succ]
  refine wpAnyH_done (by kernel_rfl) ?_ _
  clear hHeld r4

  go_wp2
  go_ret
  exact ⟨rfl, HU4.out.2⟩
end Go.Proofs.Ytlcpiompmpccoaa
