/-
  The walk of FactMore.
-/
import Derived.Test.YtcfchkffanfehaaIn
import Derived.BigQuiet
namespace Go.Proofs.Ytcfchkffanfehaa
set_option maxRecDepth 20000
set_option linter.unusedSimpArgs false
set_option linter.unusedVariables false
open Go.RowKit
/-- A fact in its block, and what was there before. -/
def One (w0 w : World) (A : Nat) (P : Array Value) (M : List Value) (f : Ft.Fact) : Prop := FB w A P M f ∧ Below w0.heap.size w0 w
theorem One.below {w0 w w' : World} {A : Nat} {P : Array Value} {M : List Value} {f : Ft.Fact} (t : One w0 w A P M f) (hb : Below w.heap.size w w') : One w0 w' A P M f :=
  ⟨t.1.below hb, t.2.trans (hb.mono t.2.size)⟩
set_option maxHeartbeats 8000000 in
theorem more_walk (p : Int) (C : Array Value) (f : Ft.Fact) (w : World) (hp0 : 0 ≤ p) (hp1 : p < 256) (h1 : Fv w (fun b => b < w.heap.size) (.agg C) f) :
    Calls Try.prog 10 #[.int .u8 p, .agg C] w fun e w' => e = .returned (.bool true) ∧ Below w.heap.size w w' := by
  obtain ⟨k, ep, n, m⟩ := f
  obtain ⟨P, M, e0, hb⟩ := fv_box h1
  injection e0 with e0
  subst e0
  have HT := Lib.hid (show One w (w.alloc (.cells C 28)) w.heap.size C M ⟨k, ep, n, m⟩ from ⟨hb, below_alloc _ _⟩)
  clear h1 hb
  obtain ⟨N, hN⟩ : ∃ N, p.tmod 10 = N := ⟨_, rfl⟩
  have hN' : p % 10 = N := by rw [← Int.tmod_eq_emod_of_nonneg hp0]; exact hN
  have rN : 0 ≤ N ∧ N < 10 := by omega
  have t1 : IntKind.i64.wrap p = p := IntWalk.i64_in _ (by omega)
  obtain ⟨rN0, rN1⟩ := rN
  clear hN'
  go_enter Try.func10, Try.ntmps10
  go_wp2_with fail
  generalize w.alloc (.cells C 28) = w1 at *
  refine (awake_any _).mono ?_
  rintro e w2 ⟨rfl, hb2⟩
  have HT2 := Lib.hid (HT.out.below hb2)
  clear hb2 HT
  go_wp2_with (first | ((with_reducible show wpList _ _ _ ((⟨_, Op.load 28 (.tmp 3), _, _, _, _⟩ : Oper) :: _) _ _); refine fb_load HT2.out.1 (by rfl) (.tmp 3) rfl rfl ?_) | fail)
  try rw [hN]
  clear hN t1 hp0 hp1
  refine (few_any HT2.out.1.val).mono ?_
  rintro e w3 ⟨rfl, hb3⟩
  have HT3 := Lib.hid (HT2.out.below hb3)
  clear hb3 HT2
  by_cases hf : m.ds.length ≤ 100
  case neg =>
    rw [show decide ((Ft.Fact.mk k ep n m).man.ds.length ≤ 100) = false from decide_eq_false hf]
    clear hf
    go_wp2_with (first | ((with_reducible show wpList _ _ _ ((⟨_, Op.load 28 (.tmp 3), _, _, _, _⟩ : Oper) :: _) _ _); refine fb_load HT3.out.1 (by rfl) (.tmp 3) rfl rfl ?_) | fail)
    refine (fcheck_any HT3.out.1.val 0).mono ?_
    rintro e w4 ⟨rfl, hb4⟩
    rw [Ft.chk_no (show ¬ Ft.Fact.ok ⟨k, ep, n, m⟩ 0 from fun h => by have := h.1; omega)]
    have HT4 := Lib.hid (HT3.out.below hb4)
    clear hb4 HT3
    go_wp2_with (first | ((with_reducible show wpList _ _ _ ((⟨_, Op.load 28 (.tmp 3), _, _, _, _⟩ : Oper) :: _) _ _); refine fb_load HT4.out.1 (by rfl) (.tmp 3) rfl rfl ?_) | fail)
    refine (fcheck_any HT4.out.1.val 10).mono ?_
    rintro e w5 ⟨rfl, hb5⟩
    rw [Ft.chk_no (show ¬ Ft.Fact.ok ⟨k, ep, n, m⟩ 10 from fun h => by have := h.2.1; omega)]
    have HT5 := Lib.hid (HT4.out.below hb5)
    clear hb5 HT4
    go_wp2
    go_ret
    exact ⟨rfl, HT5.out.2⟩
  rw [show decide ((Ft.Fact.mk k ep n m).man.ds.length ≤ 100) = true from decide_eq_true hf]
  clear hf
  go_wp2_with (first | ((with_reducible show wpList _ _ _ ((⟨_, Op.load 28 (.tmp 3), _, _, _, _⟩ : Oper) :: _) _ _); refine fb_load HT3.out.1 (by rfl) (.tmp 3) rfl rfl ?_) | fail)
  refine (fcheck_any HT3.out.1.val N).mono ?_
  rintro e w3 ⟨rfl, hb3⟩
  have HTa := HT3
  have HT3 := Lib.hid (HTa.out.below hb3)
  clear hb3 HTa
  by_cases hok : Ft.Fact.ok ⟨k, ep, n, m⟩ N
  case neg =>
    rw [Ft.chk_no hok]
    clear hok
    go_wp2_with (first | ((with_reducible show wpList _ _ _ ((⟨_, Op.load 28 (.tmp 3), _, _, _, _⟩ : Oper) :: _) _ _); refine fb_load HT3.out.1 (by rfl) (.tmp 3) rfl rfl ?_) | fail)
    refine (fcheck_any HT3.out.1.val 0).mono ?_
    rintro e w4 ⟨rfl, hb4⟩
    rw [Ft.chk_no (show ¬ Ft.Fact.ok ⟨k, ep, n, m⟩ 0 from fun h => by have := h.1; omega)]
    have HT4 := Lib.hid (HT3.out.below hb4)
    clear hb4 HT3
    go_wp2_with (first | ((with_reducible show wpList _ _ _ ((⟨_, Op.load 28 (.tmp 3), _, _, _, _⟩ : Oper) :: _) _ _); refine fb_load HT4.out.1 (by rfl) (.tmp 3) rfl rfl ?_) | fail)
    refine (fcheck_any HT4.out.1.val 10).mono ?_
    rintro e w5 ⟨rfl, hb5⟩
    rw [Ft.chk_no (show ¬ Ft.Fact.ok ⟨k, ep, n, m⟩ 10 from fun h => by have := h.2.1; omega)]
    have HT5 := Lib.hid (HT4.out.below hb5)
    clear hb5 HT4
    go_wp2
    go_ret
    exact ⟨rfl, HT5.out.2⟩
  rw [Ft.chk_ok hok]
  have HOK := Lib.hid hok
  clear hok
  go_wp2
  go_loopw [7] (fun i wr => ∃ j : Int, N ≤ j ∧ j ≤ 10 ∧ i = .int .i64 j ∧ Hid (One w wr w.heap.size C M ⟨k, ep, n, m⟩)) (fun i _ => 10 - (intOf i).toNat)
  case atStart => exact ⟨N, by omega, by omega, rfl, HT3⟩
  case round =>
    clear HT3
    obtain ⟨j, hj0, hj1, rfl, HK⟩ := hrel
    by_cases hlt : j ≤ 9
    · have q1 : decide (j ≤ (9 : Int)) = true := decide_eq_true hlt
      have HCK := Lib.hid (Ft.chk_ok (Ft.ok_more HOK.out hj0 hlt))
      have q2 : IntKind.i64.wrap (j + 1) = j + 1 := IntWalk.i64_in _ (by omega)
      go_wp2_with (first | ((with_reducible show wpList _ _ _ ((⟨_, Op.load 28 (.tmp 3), _, _, _, _⟩ : Oper) :: _) _ _); refine fb_load HK.out.1 (by rfl) (.tmp 3) rfl rfl ?_) | fail)
      refine (fcheck_any HK.out.1.val j).mono ?_
      rintro e w5 ⟨rfl, hb5⟩
      rw [HCK.out]
      have HK5 := Lib.hid (HK.out.below hb5)
      clear hb5
      go_wp2
      exact ⟨⟨j + 1, by omega, by omega, rfl, HK5⟩, by simp [intOf]; omega⟩
    · have q1 : decide (j ≤ (9 : Int)) = false := decide_eq_false hlt
      obtain ⟨x, hx⟩ : ∃ x, ep % 16 = x := ⟨_, rfl⟩
      obtain ⟨K, hK⟩ : ∃ K, ep / 16 = K := ⟨_, rfl⟩
      have hin := Ft.ok_in HOK.out
      have hep : Ft.isEp ep := HOK.out.2.2.2.2.1
      have HO := Lib.hid (And.intro (show Ft.ofN ep = x by unfold Ft.ofN; rw [if_pos hep]; exact hx) (show Ft.ofK ep = K by unfold Ft.ofK; rw [if_pos hep]; exact hK))
      have hxN : x < N := by rw [← hx]; exact HOK.out.2.2.2.2.2.1
      have hnN : n < N := HOK.out.2.2.2.1
      have HE := Lib.hid (show Ft.ep x K = ep by unfold Ft.ep; rw [if_pos ⟨by omega, by omega, by dsimp only at hin; omega, by dsimp only at hin; omega⟩]; omega)
      have r1 : decide (n < N) = true := decide_eq_true hnN
      have r2 : decide (x < N) = true := decide_eq_true hxN
      have r3 : decide ((1 : Int) ≤ K) = true := decide_eq_true (by dsimp only at hin; omega)
      have k1 : wr.cell? ⟨w.heap.size, 1, none⟩ = some (.int .i64 ep) := HK.out.1.c1
      have k2 : wr.cell? ⟨w.heap.size, 2, none⟩ = some (.int .i64 n) := HK.out.1.c2
      have HB := Lib.hid HK.out.2
      clear hx hK hin hep hxN hnN hlt hj0 hj1 HK
      go_wp2_with (first | (go_at_call 15; refine (of_any _ _).mono ?_; rintro e w' ⟨rfl, rfl⟩; rw [HO.out.1, HO.out.2]) | fail)
      go_wp2
      have k1 : wr.drew.cell? ⟨w.heap.size, 1, none⟩ = some (.int .i64 ep) := k1
      have k2 : wr.drew.cell? ⟨w.heap.size, 2, none⟩ = some (.int .i64 n) := k2
      have HB := Lib.hid (show Below w.heap.size w wr.drew from HB.out.drew)
      refine wp_region_held_drew (S := fun z => z.cell? ⟨w.heap.size, 1, none⟩ = some (.int .i64 ep) ∧ z.cell? ⟨w.heap.size, 2, none⟩ = some (.int .i64 n)) (by kernel_rfl) ⟨k1, k2⟩ (fun hHeld => ?_)
      generalize wr.drew = w6 at *
      refine wpAnyH_take (i := 0) (v := .bool true) rfl (by kernel_rfl) (by kernel_rfl) (by kernel_rfl) (fun _ _ _ h => h) (Or.inl ⟨by rfl, (by intro w hSw; (try dsimp only at hSw); go_simp)⟩) (by assumption) ?_
      try simp only [Act.put, List.getElem_toArray, List.getElem_cons_zero, List.getElem_cons_succ, List.setIfInBounds_toArray, List.set_cons_zero, List.set_cons_succ]
      refine wpAnyH_take (i := 1) (v := .bool true) rfl (by kernel_rfl) (by kernel_rfl) (by kernel_rfl) (fun _ _ _ h => h) (Or.inl ⟨by rfl, (by intro w hSw; (try dsimp only at hSw); go_simp)⟩) (by assumption) ?_
      try simp only [Act.put, List.getElem_toArray, List.getElem_cons_zero, List.getElem_cons_succ, List.setIfInBounds_toArray, List.set_cons_zero, List.set_cons_succ]
      refine wpAnyH_take (i := 2) (v := .pointer (some ⟨w.heap.size, 2, none⟩)) rfl (by kernel_rfl) (by kernel_rfl) (by kernel_rfl) (fun _ _ _ h => h) (Or.inl ⟨by rfl, (by intro w hSw; (try dsimp only at hSw); go_simp)⟩) (by assumption) ?_
      try simp only [Act.put, List.getElem_toArray, List.getElem_cons_zero, List.getElem_cons_succ, List.setIfInBounds_toArray, List.set_cons_zero, List.set_cons_succ]
      refine wpAnyH_take (i := 3) (v := .int .i64 n) rfl (by kernel_rfl) (by kernel_rfl) (by kernel_rfl) (fun _ _ _ h => h) (Or.inl ⟨by rfl, (by intro w hSw; (try dsimp only at hSw); go_simp)⟩) (by assumption) ?_
      try simp only [Act.put, List.getElem_toArray, List.getElem_cons_zero, List.getElem_cons_succ, List.setIfInBounds_toArray, List.set_cons_zero, List.set_cons_succ]
      refine wpAnyH_take (i := 4) (v := .int .i64 N) rfl (by kernel_rfl) (by kernel_rfl) (by kernel_rfl) (fun _ _ _ h => h) (Or.inl ⟨by rfl, (by intro w hSw; (try dsimp only at hSw); go_simp)⟩) (by assumption) ?_
      try simp only [Act.put, List.getElem_toArray, List.getElem_cons_zero, List.getElem_cons_succ, List.setIfInBounds_toArray, List.set_cons_zero, List.set_cons_succ]
      refine wpAnyH_take (i := 5) (v := .bool true) rfl (by kernel_rfl) (by kernel_rfl) (by kernel_rfl) (fun _ _ _ h => h) (Or.inl ⟨by rfl, (by intro w hSw; (try dsimp only at hSw); go_simp)⟩) (by assumption) ?_
      try simp only [Act.put, List.getElem_toArray, List.getElem_cons_zero, List.getElem_cons_succ, List.setIfInBounds_toArray, List.set_cons_zero, List.set_cons_succ]
      refine wpAnyH_take (i := 6) (v := .bool true) rfl (by kernel_rfl) (by kernel_rfl) (by kernel_rfl) (fun _ _ _ h => h) (Or.inl ⟨by rfl, (by intro w hSw; (try dsimp only at hSw); go_simp)⟩) (by assumption) ?_
      try simp only [Act.put, List.getElem_toArray, List.getElem_cons_zero, List.getElem_cons_succ, List.setIfInBounds_toArray, List.set_cons_zero, List.set_cons_succ]
      refine wpAnyH_take (i := 7) (v := .bool true) rfl (by kernel_rfl) (by kernel_rfl) (by kernel_rfl) (fun _ _ _ h => h) (Or.inl ⟨by rfl, (by intro w hSw; (try dsimp only at hSw); go_simp)⟩) (by assumption) ?_
      try simp only [Act.put, List.getElem_toArray, List.getElem_cons_zero, List.getElem_cons_succ, List.setIfInBounds_toArray, List.set_cons_zero, List.set_cons_succ]
      refine wpAnyH_take (i := 8) (v := .int .i64 x) rfl (by kernel_rfl) (by kernel_rfl) (by kernel_rfl) (fun _ _ _ h => h) (Or.inl ⟨by rfl, (by intro w hSw; (try dsimp only at hSw); go_simp)⟩) (by assumption) ?_
      try simp only [Act.put, List.getElem_toArray, List.getElem_cons_zero, List.getElem_cons_succ, List.setIfInBounds_toArray, List.set_cons_zero, List.set_cons_succ]
      refine wpAnyH_take (i := 9) (v := .int .i64 N) rfl (by kernel_rfl) (by kernel_rfl) (by kernel_rfl) (fun _ _ _ h => h) (Or.inl ⟨by rfl, (by intro w hSw; (try dsimp only at hSw); go_simp)⟩) (by assumption) ?_
      try simp only [Act.put, List.getElem_toArray, List.getElem_cons_zero, List.getElem_cons_succ, List.setIfInBounds_toArray, List.set_cons_zero, List.set_cons_succ]
      refine wpAnyH_take (i := 10) (v := .bool true) rfl (by kernel_rfl) (by kernel_rfl) (by kernel_rfl) (fun _ _ _ h => h) (Or.inl ⟨by rfl, (by intro w hSw; (try dsimp only at hSw); go_simp)⟩) (by assumption) ?_
      try simp only [Act.put, List.getElem_toArray, List.getElem_cons_zero, List.getElem_cons_succ, List.setIfInBounds_toArray, List.set_cons_zero, List.set_cons_succ]
      refine wpAnyH_take (i := 11) (v := .bool true) rfl (by kernel_rfl) (by kernel_rfl) (by kernel_rfl) (fun _ _ _ h => h) (Or.inl ⟨by rfl, (by intro w hSw; (try dsimp only at hSw); go_simp)⟩) (by assumption) ?_
      try simp only [Act.put, List.getElem_toArray, List.getElem_cons_zero, List.getElem_cons_succ, List.setIfInBounds_toArray, List.set_cons_zero, List.set_cons_succ]
      refine wpAnyH_take (i := 12) (v := .bool true) rfl (by kernel_rfl) (by kernel_rfl) (by kernel_rfl) (fun _ _ _ h => h) (Or.inl ⟨by rfl, (by intro w hSw; (try dsimp only at hSw); go_simp)⟩) (by assumption) ?_
      try simp only [Act.put, List.getElem_toArray, List.getElem_cons_zero, List.getElem_cons_succ, List.setIfInBounds_toArray, List.set_cons_zero, List.set_cons_succ]
      refine wpAnyH_take (i := 13) (v := .int .i64 K) rfl (by kernel_rfl) (by kernel_rfl) (by kernel_rfl) (fun _ _ _ h => h) (Or.inl ⟨by rfl, (by intro w hSw; (try dsimp only at hSw); go_simp)⟩) (by assumption) ?_
      try simp only [Act.put, List.getElem_toArray, List.getElem_cons_zero, List.getElem_cons_succ, List.setIfInBounds_toArray, List.set_cons_zero, List.set_cons_succ]
      refine wpAnyH_take (i := 14) (v := .bool true) rfl (by kernel_rfl) (by kernel_rfl) (by kernel_rfl) (fun _ _ _ h => h) (Or.inl ⟨by rfl, (by intro w hSw; (try dsimp only at hSw); go_simp)⟩) (by assumption) ?_
      try simp only [Act.put, List.getElem_toArray, List.getElem_cons_zero, List.getElem_cons_succ, List.setIfInBounds_toArray, List.set_cons_zero, List.set_cons_succ]
      refine wpAnyH_take (i := 15) (v := .bool true) rfl (by kernel_rfl) (by kernel_rfl) (by kernel_rfl) (fun _ _ _ h => h) (Or.inl ⟨by rfl, (by intro w hSw; (try dsimp only at hSw); go_simp)⟩) (by assumption) ?_
      try simp only [Act.put, List.getElem_toArray, List.getElem_cons_zero, List.getElem_cons_succ, List.setIfInBounds_toArray, List.set_cons_zero, List.set_cons_succ]
      refine wpAnyH_take (i := 16) (v := .bool true) rfl (by kernel_rfl) (by kernel_rfl) (by kernel_rfl) (fun _ _ _ h => h) (Or.inl ⟨by rfl, (by intro w hSw; (try dsimp only at hSw); go_simp)⟩) (by assumption) ?_
      try simp only [Act.put, List.getElem_toArray, List.getElem_cons_zero, List.getElem_cons_succ, List.setIfInBounds_toArray, List.set_cons_zero, List.set_cons_succ]
      refine wpAnyH_take (i := 17) (v := .int .i64 x) rfl (by kernel_rfl) (by kernel_rfl) (by kernel_rfl) (fun _ _ _ h => h) (Or.inl ⟨by rfl, (by intro w hSw; (try dsimp only at hSw); go_simp)⟩) (by assumption) ?_
      try simp only [Act.put, List.getElem_toArray, List.getElem_cons_zero, List.getElem_cons_succ, List.setIfInBounds_toArray, List.set_cons_zero, List.set_cons_succ]
      refine wpAnyH_take (i := 18) (v := .int .i64 K) rfl (by kernel_rfl) (by kernel_rfl) (by kernel_rfl) (fun _ _ _ h => h) (Or.inl ⟨by rfl, (by intro w hSw; (try dsimp only at hSw); go_simp)⟩) (by assumption) ?_
      try simp only [Act.put, List.getElem_toArray, List.getElem_cons_zero, List.getElem_cons_succ, List.setIfInBounds_toArray, List.set_cons_zero, List.set_cons_succ]
      refine wpAnyH_take (i := 20) (v := .pointer (some ⟨w.heap.size, 1, none⟩)) rfl (by kernel_rfl) (by kernel_rfl) (by kernel_rfl) (fun _ _ _ h => h) (Or.inl ⟨by rfl, (by intro w hSw; (try dsimp only at hSw); go_simp)⟩) (by assumption) ?_
      try simp only [Act.put, List.getElem_toArray, List.getElem_cons_zero, List.getElem_cons_succ, List.setIfInBounds_toArray, List.set_cons_zero, List.set_cons_succ]
      refine wpAnyH_take (i := 21) (v := .int .i64 ep) rfl (by kernel_rfl) (by kernel_rfl) (by kernel_rfl) (fun _ _ _ h => h) (Or.inl ⟨by rfl, (by intro w hSw; (try dsimp only at hSw); go_simp)⟩) (by assumption) ?_
      try simp only [Act.put, List.getElem_toArray, List.getElem_cons_zero, List.getElem_cons_succ, List.setIfInBounds_toArray, List.set_cons_zero, List.set_cons_succ]
      refine wpAnyH_ready (rs := [19]) (by kernel_rfl) (by simp) (AllReadyH.cons rfl (fun K hK => ?_) AllReadyH.nil)
      try simp only [List.getElem_toArray, List.getElem_cons_zero, List.getElem_cons_succ]
      go_simp
      go_at_call 21
      refine (epoch_any _ _ _).mono ?_
      rintro e w' ⟨rfl, rfl⟩
      rw [HE.out]
      refine hK.out _ _ ⟨k1, k2⟩ (fun hHeld => ?_)
      clear hK K
      try simp only [Act.put, List.getElem_toArray, List.getElem_cons_zero, List.getElem_cons_succ, List.setIfInBounds_toArray, List.set_cons_zero, List.set_cons_succ]
      refine wpAnyH_take (i := 22) (v := .bool true) rfl (by kernel_rfl) (by kernel_rfl) (by kernel_rfl) (fun _ _ _ h => h) (Or.inl ⟨by rfl, (by intro w hSw; (try dsimp only at hSw); go_simp)⟩) (by assumption) ?_
      try simp only [Act.put, List.getElem_toArray, List.getElem_cons_zero, List.getElem_cons_succ, List.setIfInBounds_toArray, List.set_cons_zero, List.set_cons_succ]
      refine wpAnyH_take (i := 23) (v := .bool true) rfl (by kernel_rfl) (by kernel_rfl) (by kernel_rfl) (fun _ _ _ h => h) (Or.inl ⟨by rfl, (by intro w hSw; (try dsimp only at hSw); go_simp)⟩) (by assumption) ?_
      try simp only [Act.put, List.getElem_toArray, List.getElem_cons_zero, List.getElem_cons_succ, List.setIfInBounds_toArray, List.set_cons_zero, List.set_cons_succ]
      refine wpAnyH_take (i := 24) (v := .bool true) rfl (by kernel_rfl) (by kernel_rfl) (by kernel_rfl) (fun _ _ _ h => h) (Or.inl ⟨by rfl, (by intro w hSw; (try dsimp only at hSw); go_simp)⟩) (by assumption) ?_
      try simp only [Act.put, List.getElem_toArray, List.getElem_cons_zero, List.getElem_cons_succ, List.setIfInBounds_toArray, List.set_cons_zero, List.set_cons_succ]
      refine wpAnyH_done (by kernel_rfl) ?_ _
      go_wp2
      go_ret
      exact ⟨rfl, HB.out⟩
end Go.Proofs.Ytcfchkffanfehaa
