/-
  The walk of count: a boot block's, 0 if it is not good.
-/
import Derived.Test.YtjpgepodkeccmaaDoorUh
namespace Go.Proofs.YtjpgepodkeccmaaDoor
open Go.RowKit
set_option linter.unusedVariables false
set_option linter.unusedSimpArgs false
set_option maxRecDepth 20000
set_option maxHeartbeats 8000000 in
theorem icount_any {C : Array Value} {l : List Int} {w : World} (hb : KB C l) : Calls Tryd.prog 30 #[.agg C] w fun e w' => e = .returned (.int .i64 ((Im.cnt l : Nat) : Int)) ∧ Below w.heap.size w w' := by
  have hw0 : Whole (w.alloc (.cells C 66)) w.heap.size 66 C := Whole.new w _ _
  have hb0 := below_alloc w (.cells C 66)
  obtain ⟨c, hc⟩ : ∃ c, Im.cnt l = c := ⟨_, rfl⟩
  rw [hc]
  have h0 := bound8 (byt_take (byt_drop hb.2.2 0) 8) (by simp; omega)
  have h1 := bound8 (byt_take (byt_drop hb.2.2 56) 8) (by simp; omega)
  have h2 := bound3 (byt_take (byt_drop hb.2.2 53) 3) (by simp; omega)
  obtain ⟨H, hH⟩ : ∃ H, Jl.num ((l.drop 0).take 8) = H := ⟨_, rfl⟩
  obtain ⟨T, hT⟩ : ∃ T, Jl.num ((l.drop 56).take 8) = T := ⟨_, rfl⟩
  obtain ⟨L, hL⟩ : ∃ L, Jl.num ((l.drop 53).take 3) = L := ⟨_, rfl⟩
  rw [hH] at h0
  rw [hT] at h1
  rw [hL] at h2
  have HC := Lib.hid hc
  have HN := Lib.hid (And.intro hH (And.intro hT hL))
  have HB := Lib.hid hb
  clear hb hc hH hT hL
  go_enter Tryd.func30, Tryd.ntmps30
  go_wp2_with fail
  generalize w.alloc (.cells C 66) = w1 at *
  have hwd : Whole w1.drew w.heap.size 66 C := hw0
  have hbd : Below w.heap.size w w1.drew := ⟨hb0.os, hb0.tape, hb0.output, hb0.size, hb0.block⟩
  clear hw0 hb0
  obtain ⟨B, hB⟩ : ∃ B, w.heap.size = B := ⟨_, rfl⟩
  have HBB : Hid (Below w.heap.size w w1.drew) := Lib.hid hbd
  rw [hB] at hwd
  have HT0 := Lib.hid (HB.out.txt (fun _ => True) trivial hwd 0 8 64 (by omega) (by omega))
  have HT56 := Lib.hid (HB.out.txt (fun _ => True) trivial hwd 56 8 8 (by omega) (by omega))
  have HT53 := Lib.hid (HB.out.txt (fun _ => True) trivial hwd 53 3 11 (by omega) (by omega))
  have HF := Lib.hid (And.intro hwd HBB.out)
  clear hwd hbd HBB
  rw [hB]
  refine wp_region_held_drew (S := fun _ => True) (by kernel_rfl) trivial (fun hHeld => ?_)
  generalize w1.drew = w2 at *
  refine wpAnyH_take (i := 0) (v := .slice (some ⟨B, 0, none⟩) 8 64) rfl (by kernel_rfl) (by kernel_rfl) (by kernel_rfl) (fun _ _ _ h => h) (Or.inl ⟨by rfl, (by intro w hSw; (try dsimp only at hSw); go_simp)⟩) (by assumption) ?_
  try simp only [Act.put, List.getElem_toArray, List.getElem_cons_zero, List.getElem_cons_succ, List.setIfInBounds_toArray, List.set_cons_zero, List.set_cons_succ]
  refine wpAnyH_take (i := 2) (v := .slice (some ⟨B, 56, none⟩) 8 8) rfl (by kernel_rfl) (by kernel_rfl) (by kernel_rfl) (fun _ _ _ h => h) (Or.inl ⟨by rfl, (by intro w hSw; (try dsimp only at hSw); go_simp)⟩) (by assumption) ?_
  try simp only [Act.put, List.getElem_toArray, List.getElem_cons_zero, List.getElem_cons_succ, List.setIfInBounds_toArray, List.set_cons_zero, List.set_cons_succ]
  refine wpAnyH_ready (rs := [1]) (by kernel_rfl) (by simp) (AllReadyH.cons rfl (fun K hK => ?_) AllReadyH.nil)
  try simp only [List.getElem_toArray, List.getElem_cons_zero, List.getElem_cons_succ]
  go_simp
  refine (number_any HT0.out (by omega)).mono ?_
  rintro e w' ⟨rfl, rfl⟩
  rw [HN.out.1]
  go_wp2_with fail
  refine hK.out _ _ trivial (fun hHeld => ?_)
  clear hK K
  try simp only [Act.put, List.getElem_toArray, List.getElem_cons_zero, List.getElem_cons_succ, List.setIfInBounds_toArray, List.set_cons_zero, List.set_cons_succ]
  refine wpAnyH_ready (rs := [3]) (by kernel_rfl) (by simp) (AllReadyH.cons rfl (fun K hK => ?_) AllReadyH.nil)
  try simp only [List.getElem_toArray, List.getElem_cons_zero, List.getElem_cons_succ]
  go_simp
  refine (number_any HT56.out (by omega)).mono ?_
  rintro e w' ⟨rfl, rfl⟩
  rw [HN.out.2.1]
  go_wp2_with fail
  refine hK.out _ _ trivial (fun hHeld => ?_)
  clear hK K
  try simp only [Act.put, List.getElem_toArray, List.getElem_cons_zero, List.getElem_cons_succ, List.setIfInBounds_toArray, List.set_cons_zero, List.set_cons_succ]
  refine wpAnyH_ready (rs := [4]) (by kernel_rfl) (by simp) (AllReadyH.cons rfl (fun K hK => ?_) AllReadyH.nil)
  try simp only [List.getElem_toArray, List.getElem_cons_zero, List.getElem_cons_succ]
  go_simp
  refine hK.out _ _ trivial (fun hHeld => ?_)
  clear hK K
  try simp only [Act.put, List.getElem_toArray, List.getElem_cons_zero, List.getElem_cons_succ, List.setIfInBounds_toArray, List.set_cons_zero, List.set_cons_succ]
  refine wpAnyH_ready (rs := [5]) (by kernel_rfl) (by simp) (AllReadyH.cons rfl (fun K hK => ?_) AllReadyH.nil)
  try simp only [List.getElem_toArray, List.getElem_cons_zero, List.getElem_cons_succ]
  go_simp
  refine hK.out _ _ trivial (fun hHeld => ?_)
  clear hK K
  try simp only [Act.put, List.getElem_toArray, List.getElem_cons_zero, List.getElem_cons_succ, List.setIfInBounds_toArray, List.set_cons_zero, List.set_cons_succ]
  refine wpAnyH_done (by kernel_rfl) ?_ _
  go_wp2_with fail
  refine (number_any HT53.out (by omega)).mono ?_
  rintro e w' ⟨rfl, rfl⟩
  rw [HN.out.2.2]
  clear hHeld
  by_cases q1 : H = T
  · subst q1
    by_cases q2 : H ≤ 1099511627776
    · have q2' : decide ((1099511627776 : Int) < (H : Int)) = false := by simp; omega
      by_cases q3 : L = 0
      · subst q3
        go_wp2_with (first | ((with_reducible show wpList _ _ _ ((⟨_, Op.load 66 _, _, _, _, _⟩ : Oper) :: _) _ _); refine wpList_load_rowG (by rfl) 66 (.tmp 1) rfl B rfl 66 C (0, 0) _ HF.out.1 und_k rfl HB.out.info ?_) | fail)
        refine (iboot_any HB.out).mono ?_
        rintro e w3 ⟨D, rfl, hD, hb3⟩
        have HD := Lib.hid (And.intro hD (HF.out.2.trans (hb3.mono HF.out.2.size)))
        clear hD hb3
        obtain ⟨y, hy⟩ : ∃ y, decide (Im.May (Im.bt l)) = y := ⟨_, rfl⟩
        have HM := Lib.hid (may_any (w := w3) HD.out.1)
        rw [hy] at HM
        have HY := Lib.hid hy
        clear hy
        cases y with
        | true =>
          obtain rfl : c = H := by
            rw [← HC.out]
            unfold Im.cnt Im.hd Im.tl Im.bl
            rw [HN.out.1, HN.out.2.1, HN.out.2.2]
            rw [if_neg]
            rintro (h | h | h | h)
            · exact h rfl
            · omega
            · exact h rfl
            · exact h (of_decide_eq_true HY.out)
          have e1 : IntKind.i64.wrap (c : Int) = (c : Int) := IntWalk.i64_in _ (by omega)
          go_wp2_with fail
          refine HM.out.mono ?_
          rintro e w4 ⟨rfl, hb4⟩
          have H4 := Lib.hid (HD.out.2.trans (hb4.mono HD.out.2.size))
          clear hb4
          go_wp2
          go_ret
          exact ⟨rfl, H4.out⟩
        | false =>
          obtain rfl : c = 0 := by
            rw [← HC.out]
            unfold Im.cnt
            rw [if_pos (Or.inr (Or.inr (Or.inr (of_decide_eq_false HY.out))))]
          go_wp2_with fail
          refine HM.out.mono ?_
          rintro e w4 ⟨rfl, hb4⟩
          have H4 := Lib.hid (HD.out.2.trans (hb4.mono HD.out.2.size))
          clear hb4
          go_wp2
          go_ret
          exact ⟨rfl, H4.out⟩
      · obtain rfl : c = 0 := by
          rw [← HC.out]
          unfold Im.cnt Im.bl
          rw [HN.out.2.2, if_pos (Or.inr (Or.inr (Or.inl q3)))]
        have q3' : ((L : Int) != 0) = true := by simp; omega
        go_wp2
        go_ret
        exact ⟨rfl, HF.out.2⟩
    · have q2' : decide ((1099511627776 : Int) < (H : Int)) = true := by simp; omega
      have q2'' : (1099511627776 : Int) < (H : Int) := by omega
      obtain rfl : c = 0 := by
        rw [← HC.out]
        unfold Im.cnt Im.hd
        rw [HN.out.1, if_pos (Or.inr (Or.inl (by omega)))]
      go_wp2
      go_ret
      exact ⟨rfl, HF.out.2⟩
  · have q1' : ((H : Int) != (T : Int)) = true := by simp; omega
    obtain rfl : c = 0 := by
      rw [← HC.out]
      unfold Im.cnt Im.hd Im.tl
      rw [HN.out.1, HN.out.2.1, if_pos (Or.inl q1)]
    go_wp2
    go_ret
    exact ⟨rfl, HF.out.2⟩
end Go.Proofs.YtjpgepodkeccmaaDoor
