/-
  The walk of ManifestVerifies.
-/
import Derived.Test.YtdjibhpjdhpcgaaDoorOm
set_option maxRecDepth 20000
namespace Go.Proofs.YtdjibhpjdhpcgaaDoor
set_option linter.unusedSimpArgs false
open Go.RowKit
theorem has_range {w : World} {A : Nat} {P : Array Value} {m : Mf.Man} (h : Has w A P m) : w.rangeAt A 0 P.toList := fun j v hv => by
  rw [h.1.cell, Nat.zero_add]
  simpa using hv
theorem has_len {w : World} {A : Nat} {P : Array Value} {m : Mf.Man} (h : Has w A P m) : (Tryd.prog.info? 27).map (·.size) = some P.toList.length := by
  obtain ⟨P', e, hs, _⟩ := mv_agg h.2
  injection e with e
  subst e
  rw [Array.length_toList, hs]
  exact info35
theorem has_box {w : World} {S : Nat → Prop} {P : Array Value} {m : Mf.Man} (h : Mv w S (.agg P) m) : Has (w.alloc (.cells P 27)) w.heap.size P m :=
  ⟨Whole.new _ _ _, (h.old.below (below_alloc w _) (fun _ _ h => h)).old⟩
set_option maxHeartbeats 8000000 in
theorem verifies_walk (v : Value) (m : Mf.Man) (i : Int) (a0 : Option Addr) (n0 c0 : Nat) (l0 : List Int) (w : World) (hR : Roots w) (hv : Mv w (fun b => b < w.heap.size) v m) (hi : -9223372036854775808 ≤ i ∧ i ≤ 9223372036854775807) (h0 : Txt w (· < w.heap.size) a0 n0 c0 l0) :
    Calls Tryd.prog 6 #[v, .int .i64 i, .slice a0 n0 c0] w fun e w' => e = .returned (.bool true) ∧ Below w.heap.size w w' := by
  obtain ⟨P, rfl, hPs, hPa⟩ := mv_agg hv
  have HB0 := Lib.hid (has_box hv)
  have HBA := Lib.hid (below_alloc w (.cells P 27))
  have HR := Lib.hid (hR.below (below_alloc w (.cells P 27)) hR.two)
  have HR0 := Lib.hid hR
  have H0 := Lib.hid h0
  have HI := Lib.hid hi
  have hl := has_len HB0.out
  have hMu := Tryd.underlying27
  have hszA : w.heap.size ≤ (w.alloc (.cells P 27)).heap.size := by rw [size_alloc]; omega
  clear hR hv hi h0 hPs hPa
  obtain ⟨f, hf⟩ : ∃ f, decide (m.ds.length ≤ 100) = f := ⟨_, rfl⟩
  have HF := Lib.hid hf
  clear hf
  cases f
  · go_enter Tryd.func6, Tryd.ntmps6
    go_wp2_with (first | (go_at_call 12; refine (awake_any _ HR.out).mono ?_; rintro e w1 ⟨rfl, hb⟩; have HB1 := Lib.hid hb; have HP1 := Lib.hid (HB0.out.below hb); clear hb) | ((with_reducible show wpList _ _ _ ((⟨_, Op.load 27 (.tmp 3), _, _, _, _⟩ : Oper) :: _) _ _); refine has_load HP1.out (by rfl) (.tmp 3) rfl rfl ?_))
    refine (few_any HP1.out.2).mono ?_
    rintro e w2 ⟨rfl, hb2⟩
    rw [HF.out]
    have HB2 := Lib.hid ((HBA.out.trans (HB1.out.mono hszA)).trans (hb2.mono (Nat.le_trans hszA HB1.out.size)))
    clear hb2
    go_wp2
    go_ret
    exact ⟨rfl, HB2.out⟩
  by_cases hbig : 2000 < n0
  · have d0 : decide ((2000 : Int) < (n0 : Int)) = true := decide_eq_true (by omega)
    go_enter Tryd.func6, Tryd.ntmps6
    go_wp2_with (first | (go_at_call 12; refine (awake_any _ HR.out).mono ?_; rintro e w1 ⟨rfl, hb⟩; have HB1 := Lib.hid hb; have HP1 := Lib.hid (HB0.out.below hb); clear hb) | ((with_reducible show wpList _ _ _ ((⟨_, Op.load 27 (.tmp 3), _, _, _, _⟩ : Oper) :: _) _ _); refine has_load HP1.out (by rfl) (.tmp 3) rfl rfl ?_))
    refine (few_any HP1.out.2).mono ?_
    rintro e w2 ⟨rfl, hb2⟩
    rw [HF.out]
    have HB2 := Lib.hid ((HBA.out.trans (HB1.out.mono hszA)).trans (hb2.mono (Nat.le_trans hszA HB1.out.size)))
    clear hb2
    go_wp2
    go_ret
    exact ⟨rfl, HB2.out⟩
  have d0 : decide ((2000 : Int) < (n0 : Int)) = false := decide_eq_false (by omega)
  go_enter Tryd.func6, Tryd.ntmps6
  go_wp2_with (first | (go_at_call 12; refine (awake_any _ HR.out).mono ?_; rintro e w1 ⟨rfl, hb⟩; have HB1 := Lib.hid hb; have HP1 := Lib.hid (HB0.out.below hb); clear hb) | ((with_reducible show wpList _ _ _ ((⟨_, Op.load 27 (.tmp 3), _, _, _, _⟩ : Oper) :: _) _ _); refine has_load HP1.out (by rfl) (.tmp 3) rfl rfl ?_))
  refine (few_any HP1.out.2).mono ?_
  rintro e w2 ⟨rfl, hb2⟩
  rw [HF.out]
  have hb : Below w.heap.size w w2 := (HBA.out.trans (HB1.out.mono hszA)).trans (hb2.mono (Nat.le_trans hszA HB1.out.size))
  have HU := Lib.hid (show Has w2.drew w.heap.size P m ∧ Below w.heap.size w w2.drew from ⟨(HP1.out.below hb2).below (w' := w2.drew) (Below.refl _ _).drew, hb.drew⟩)
  clear hb hb2 HB1 HP1 HB0 HBA HR hszA
  obtain ⟨x, hx⟩ : ∃ x, Mf.ver m i l0 = x := ⟨_, rfl⟩
  obtain ⟨y, hy⟩ : ∃ y, Mf.who m l0 = y := ⟨_, rfl⟩
  have HX := Lib.hid (And.intro hx hy)
  clear hx hy
  go_wp2_with fail
  refine wp_region_held_drew (S := fun w' => w'.rangeAt w.heap.size 0 P.toList) (by kernel_rfl) (has_range HU.out.1) (fun hHeld => ?_)
  generalize w2.drew = v0 at *
  refine wpAnyH_take (i := 0) (v := .bool true) rfl (by kernel_rfl) (by kernel_rfl) (by kernel_rfl) (fun _ _ _ h => h) (Or.inl ⟨by rfl, (by intro w hSw; (try dsimp only at hSw); go_simp)⟩) (by assumption) ?_
  try simp only [Act.put, List.getElem_toArray, List.getElem_cons_zero, List.getElem_cons_succ, List.setIfInBounds_toArray, List.set_cons_zero, List.set_cons_succ]
  refine wpAnyH_take (i := 1) (v := .bool true) rfl (by kernel_rfl) (by kernel_rfl) (by kernel_rfl) (fun _ _ _ h => h) (Or.inl ⟨by rfl, (by intro w hSw; (try dsimp only at hSw); go_simp)⟩) (by assumption) ?_
  try simp only [Act.put, List.getElem_toArray, List.getElem_cons_zero, List.getElem_cons_succ, List.setIfInBounds_toArray, List.set_cons_zero, List.set_cons_succ]
  refine wpAnyH_take (i := 2) (v := .agg P.toList.toArray) rfl (by kernel_rfl) (by kernel_rfl) (by kernel_rfl) (fun _ _ _ h => h) (yieldsIf_load_mid (by rfl) _ _ rfl _ _ rfl _ _ (fun w hSw => hSw) hMu rfl hl) (by assumption) ?_
  try simp only [Act.put, List.getElem_toArray, List.getElem_cons_zero, List.getElem_cons_succ, List.setIfInBounds_toArray, List.set_cons_zero, List.set_cons_succ]
  refine wpAnyH_take (i := 3) (v := .int .i64 i) rfl (by kernel_rfl) (by kernel_rfl) (by kernel_rfl) (fun _ _ _ h => h) (Or.inl ⟨by rfl, (by intro w hSw; (try dsimp only at hSw); go_simp)⟩) (by assumption) ?_
  try simp only [Act.put, List.getElem_toArray, List.getElem_cons_zero, List.getElem_cons_succ, List.setIfInBounds_toArray, List.set_cons_zero, List.set_cons_succ]
  refine wpAnyH_take (i := 4) (v := .slice a0 n0 c0) rfl (by kernel_rfl) (by kernel_rfl) (by kernel_rfl) (fun _ _ _ h => h) (Or.inl ⟨by rfl, (by intro w hSw; (try dsimp only at hSw); go_simp)⟩) (by assumption) ?_
  try simp only [Act.put, List.getElem_toArray, List.getElem_cons_zero, List.getElem_cons_succ, List.setIfInBounds_toArray, List.set_cons_zero, List.set_cons_succ]
  refine wpAnyH_take (i := 6) (v := .agg P.toList.toArray) rfl (by kernel_rfl) (by kernel_rfl) (by kernel_rfl) (fun _ _ _ h => h) (yieldsIf_load_mid (by rfl) _ _ rfl _ _ rfl _ _ (fun w hSw => hSw) hMu rfl hl) (by assumption) ?_
  try simp only [Act.put, List.getElem_toArray, List.getElem_cons_zero, List.getElem_cons_succ, List.setIfInBounds_toArray, List.set_cons_zero, List.set_cons_succ]
  refine wpAnyH_take (i := 7) (v := .int .i64 i) rfl (by kernel_rfl) (by kernel_rfl) (by kernel_rfl) (fun _ _ _ h => h) (Or.inl ⟨by rfl, (by intro w hSw; (try dsimp only at hSw); go_simp)⟩) (by assumption) ?_
  try simp only [Act.put, List.getElem_toArray, List.getElem_cons_zero, List.getElem_cons_succ, List.setIfInBounds_toArray, List.set_cons_zero, List.set_cons_succ]
  refine wpAnyH_take (i := 8) (v := .slice a0 n0 c0) rfl (by kernel_rfl) (by kernel_rfl) (by kernel_rfl) (fun _ _ _ h => h) (Or.inl ⟨by rfl, (by intro w hSw; (try dsimp only at hSw); go_simp)⟩) (by assumption) ?_
  try simp only [Act.put, List.getElem_toArray, List.getElem_cons_zero, List.getElem_cons_succ, List.setIfInBounds_toArray, List.set_cons_zero, List.set_cons_succ]
  refine wpAnyH_ready (rs := [5]) (by kernel_rfl) (by simp) (AllReadyH.cons rfl (fun K hK => ?_) AllReadyH.nil)
  try simp only [List.getElem_toArray, List.getElem_cons_zero, List.getElem_cons_succ]
  go_simp
  go_at_call 25
  try simp only [Array.toArray_toList]
  refine (verify_any HU.out.1.2 HI.out (H0.out.below HU.out.2 (fun _ _ h => h)) (by omega) (HR0.out.below HU.out.2 HR0.out.two)).mono ?_
  rintro e v1 ⟨rfl, hb⟩
  rw [HX.out.1]
  have HV := HU.out
  clear HU
  have HU := Lib.hid (And.intro (HV.1.below hb) (HV.2.trans (hb.mono HV.2.size)))
  clear hb HV
  go_wp2_with fail
  refine hK.out _ _ (has_range HU.out.1) (fun hHeld => ?_)
  clear hK K
  try simp only [Act.put, List.getElem_toArray, List.getElem_cons_zero, List.getElem_cons_succ, List.setIfInBounds_toArray, List.set_cons_zero, List.set_cons_succ]
  refine wpAnyH_ready (rs := [9]) (by kernel_rfl) (by simp) (AllReadyH.cons rfl (fun K hK => ?_) AllReadyH.nil)
  try simp only [List.getElem_toArray, List.getElem_cons_zero, List.getElem_cons_succ]
  go_simp
  go_at_call 26
  try simp only [Array.toArray_toList]
  refine (rverify_any HU.out.1.2 HI.out (H0.out.below HU.out.2 (fun _ _ h => h)) (by omega)).mono ?_
  rintro e v2 ⟨rfl, hb⟩
  rw [HX.out.1]
  have HV := HU.out
  clear HU
  have HU := Lib.hid (And.intro (HV.1.below hb) (HV.2.trans (hb.mono HV.2.size)))
  clear hb HV
  go_wp2_with fail
  refine hK.out _ _ (has_range HU.out.1) (fun hHeld => ?_)
  clear hK K
  try simp only [Act.put, List.getElem_toArray, List.getElem_cons_zero, List.getElem_cons_succ, List.setIfInBounds_toArray, List.set_cons_zero, List.set_cons_succ]
  refine wpAnyH_take (i := 10) (v := .bool true) rfl (by kernel_rfl) (by kernel_rfl) (by kernel_rfl) (fun _ _ _ h => h) (Or.inl ⟨by rfl, (by intro w hSw; (try dsimp only at hSw); go_simp)⟩) (by assumption) ?_
  try simp only [Act.put, List.getElem_toArray, List.getElem_cons_zero, List.getElem_cons_succ, List.setIfInBounds_toArray, List.set_cons_zero, List.set_cons_succ]
  refine wpAnyH_take (i := 11) (v := .bool true) rfl (by kernel_rfl) (by kernel_rfl) (by kernel_rfl) (fun _ _ _ h => h) (Or.inl ⟨by rfl, (by intro w hSw; (try dsimp only at hSw); go_simp)⟩) (by assumption) ?_
  try simp only [Act.put, List.getElem_toArray, List.getElem_cons_zero, List.getElem_cons_succ, List.setIfInBounds_toArray, List.set_cons_zero, List.set_cons_succ]
  refine wpAnyH_take (i := 12) (v := .bool true) rfl (by kernel_rfl) (by kernel_rfl) (by kernel_rfl) (fun _ _ _ h => h) (Or.inl ⟨by rfl, (by intro w hSw; (try dsimp only at hSw); go_simp)⟩) (by assumption) ?_
  try simp only [Act.put, List.getElem_toArray, List.getElem_cons_zero, List.getElem_cons_succ, List.setIfInBounds_toArray, List.set_cons_zero, List.set_cons_succ]
  refine wpAnyH_take (i := 13) (v := .agg P.toList.toArray) rfl (by kernel_rfl) (by kernel_rfl) (by kernel_rfl) (fun _ _ _ h => h) (yieldsIf_load_mid (by rfl) _ _ rfl _ _ rfl _ _ (fun w hSw => hSw) hMu rfl hl) (by assumption) ?_
  try simp only [Act.put, List.getElem_toArray, List.getElem_cons_zero, List.getElem_cons_succ, List.setIfInBounds_toArray, List.set_cons_zero, List.set_cons_succ]
  refine wpAnyH_take (i := 14) (v := .slice a0 n0 c0) rfl (by kernel_rfl) (by kernel_rfl) (by kernel_rfl) (fun _ _ _ h => h) (Or.inl ⟨by rfl, (by intro w hSw; (try dsimp only at hSw); go_simp)⟩) (by assumption) ?_
  try simp only [Act.put, List.getElem_toArray, List.getElem_cons_zero, List.getElem_cons_succ, List.setIfInBounds_toArray, List.set_cons_zero, List.set_cons_succ]
  refine wpAnyH_take (i := 16) (v := .agg P.toList.toArray) rfl (by kernel_rfl) (by kernel_rfl) (by kernel_rfl) (fun _ _ _ h => h) (yieldsIf_load_mid (by rfl) _ _ rfl _ _ rfl _ _ (fun w hSw => hSw) hMu rfl hl) (by assumption) ?_
  try simp only [Act.put, List.getElem_toArray, List.getElem_cons_zero, List.getElem_cons_succ, List.setIfInBounds_toArray, List.set_cons_zero, List.set_cons_succ]
  refine wpAnyH_take (i := 17) (v := .slice a0 n0 c0) rfl (by kernel_rfl) (by kernel_rfl) (by kernel_rfl) (fun _ _ _ h => h) (Or.inl ⟨by rfl, (by intro w hSw; (try dsimp only at hSw); go_simp)⟩) (by assumption) ?_
  try simp only [Act.put, List.getElem_toArray, List.getElem_cons_zero, List.getElem_cons_succ, List.setIfInBounds_toArray, List.set_cons_zero, List.set_cons_succ]
  refine wpAnyH_ready (rs := [15]) (by kernel_rfl) (by simp) (AllReadyH.cons rfl (fun K hK => ?_) AllReadyH.nil)
  try simp only [List.getElem_toArray, List.getElem_cons_zero, List.getElem_cons_succ]
  go_simp
  go_at_call 27
  try simp only [Array.toArray_toList]
  refine (whole_any HU.out.1.2 (H0.out.below HU.out.2 (fun _ _ h => h)) (by omega) (HR0.out.below HU.out.2 HR0.out.two)).mono ?_
  rintro e v3 ⟨rfl, hb⟩
  rw [HX.out.2]
  have HV := HU.out
  clear HU
  have HU := Lib.hid (And.intro (HV.1.below hb) (HV.2.trans (hb.mono HV.2.size)))
  clear hb HV
  go_wp2_with fail
  refine hK.out _ _ (has_range HU.out.1) (fun hHeld => ?_)
  clear hK K
  try simp only [Act.put, List.getElem_toArray, List.getElem_cons_zero, List.getElem_cons_succ, List.setIfInBounds_toArray, List.set_cons_zero, List.set_cons_succ]
  refine wpAnyH_ready (rs := [18]) (by kernel_rfl) (by simp) (AllReadyH.cons rfl (fun K hK => ?_) AllReadyH.nil)
  try simp only [List.getElem_toArray, List.getElem_cons_zero, List.getElem_cons_succ]
  go_simp
  go_at_call 28
  try simp only [Array.toArray_toList]
  refine (rwhole_any HU.out.1.2 (H0.out.below HU.out.2 (fun _ _ h => h)) (by omega)).mono ?_
  rintro e v4 ⟨rfl, hb⟩
  rw [HX.out.2]
  have HV := HU.out
  clear HU
  have HU := Lib.hid (And.intro (HV.1.below hb) (HV.2.trans (hb.mono HV.2.size)))
  clear hb HV
  go_wp2_with fail
  refine hK.out _ _ (has_range HU.out.1) (fun hHeld => ?_)
  clear hK K
  try simp only [Act.put, List.getElem_toArray, List.getElem_cons_zero, List.getElem_cons_succ, List.setIfInBounds_toArray, List.set_cons_zero, List.set_cons_succ]
  refine wpAnyH_take (i := 19) (v := .bool true) rfl (by kernel_rfl) (by kernel_rfl) (by kernel_rfl) (fun _ _ _ h => h) (Or.inl ⟨by rfl, (by intro w hSw; (try dsimp only at hSw); go_simp)⟩) (by assumption) ?_
  try simp only [Act.put, List.getElem_toArray, List.getElem_cons_zero, List.getElem_cons_succ, List.setIfInBounds_toArray, List.set_cons_zero, List.set_cons_succ]
  refine wpAnyH_take (i := 20) (v := .bool true) rfl (by kernel_rfl) (by kernel_rfl) (by kernel_rfl) (fun _ _ _ h => h) (Or.inl ⟨by rfl, (by intro w hSw; (try dsimp only at hSw); go_simp)⟩) (by assumption) ?_
  try simp only [Act.put, List.getElem_toArray, List.getElem_cons_zero, List.getElem_cons_succ, List.setIfInBounds_toArray, List.set_cons_zero, List.set_cons_succ]
  refine wpAnyH_ready (rs := [21]) (by kernel_rfl) (by simp) (AllReadyH.cons rfl (fun K hK => ?_) AllReadyH.nil)
  try simp only [List.getElem_toArray, List.getElem_cons_zero, List.getElem_cons_succ]
  go_simp
  refine hK.out _ _ (has_range HU.out.1) (fun hHeld => ?_)
  clear hK K
  try simp only [Act.put, List.getElem_toArray, List.getElem_cons_zero, List.getElem_cons_succ, List.setIfInBounds_toArray, List.set_cons_zero, List.set_cons_succ]
  refine wpAnyH_done (by kernel_rfl) ?_ _
  have HB := Lib.hid HU.out.2
  clear HU
  go_wp2
  go_ret
  exact ⟨rfl, HB.out⟩
end Go.Proofs.YtdjibhpjdhpcgaaDoor
