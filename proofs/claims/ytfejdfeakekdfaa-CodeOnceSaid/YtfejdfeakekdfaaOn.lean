/-
  The walk of CodeOnce.
-/
import Derived.Test.YtfejdfeakekdfaaLo
import Derived.Deep.RegionHeld3
namespace Go.Proofs.Ytfejdfeakekdfaa
open Go.RowKit
set_option linter.unusedSimpArgs false

set_option maxHeartbeats 400000 in
set_option maxRecDepth 100000 in
theorem once_walk (a0 : Option Addr) (len0 cap0 : Nat) (z0 : List Int) (w : World) (w0 : Row .u8 w a0 len0 cap0 z0) :
    Calls Try.prog 7 #[.slice a0 len0 cap0] w fun e w' => e = .returned (.bool true) ∧ Below w.heap.size w w' := by
  obtain ⟨l, ht⟩ := row_txt w0
  have HT := Lib.hid ht
  clear w0 ht
  by_cases h20 : 20 < len0
  · go_enter Try.func7, Try.ntmps7
    go_wp2_with fail
    refine (awake_any _).mono ?_; rintro e w1 ⟨rfl, hg⟩
    have HG := Lib.hid hg
    clear hg
    go_wp2
    go_ret
    exact ⟨rfl, HG.out⟩
  · go_enter Try.func7, Try.ntmps7
    go_wp2_with fail
    refine (awake_any _).mono ?_; rintro e w1 ⟨rfl, hg⟩
    have HB1 := Lib.hid hg
    clear hg
    go_wp2_with (first
      | ((with_reducible show wpList _ _ _ ((⟨_, Op.build 28 _, _, _, _, _⟩ : Oper) :: _) _ _); refine wpList_part rfl _ rfl [(0, .int .i64 _), (2, .int .i64 _), (3, .int .i64 _)] rfl _ (built_klm _ _ _) ?_)
      | ((with_reducible show wpList _ _ _ ((⟨_, Op.buildSlice 23 _ _, _, _, _, _⟩ : Oper) :: _) _ _); refine wpList_build1 rfl 13 rfl _ (psize zero_len) rfl ?_))
    have HT1 : Hid (Txt (w1.alloc (.cells (pcells 1 0 (-9223372036854775808) 9223372036854775807 nilv zero32).toArray 28)) (· < w.heap.size) a0 len0 cap0 l) := Lib.hid ((HT.out.below HB1.out (fun _ _ h => h)).keep (by simp) (fun b hb _ => Below.heap_alloc _ _ _ hb))
    refine (read_any HT1.out (one_prts (w := w1) rfl askAll_ok) (by omega) (by omega)).mono ?_
    rintro e w2 ⟨qs, v, rfl, hout, hmap, hbl⟩
    have HB2 : Hid (Below w.heap.size w w2) := Lib.hid ((HB1.out.alloc HB1.out.size _).trans (hbl.mono (by have := HB1.out.size; simp; omega)))
    have hr := once_read l HT.out.2.2.1
    obtain ⟨a2, c2, rfl, hpr⟩ := out_prts hout
    have hql : qs.length = 1 := by rw [← List.length_map (f := (·.1)), hmap]; exact hr.1
    rw [hql] at hpr
    rw [hql]
    rcases hr.2 with hd | ⟨hd, hwr, hfew⟩
    · rw [show (reads [(⟨1, 0, -9223372036854775808, 9223372036854775807, [], zero32⟩ : Prt)] l) = reads [askAll] l from rfl, hd]
      clear hout hmap hbl hr hql hpr hd
      go_wp2
      go_ret
      exact ⟨rfl, HB2.out⟩
    · rw [show (reads [(⟨1, 0, -9223372036854775808, 9223372036854775807, [], zero32⟩ : Prt)] l) = reads [askAll] l from rfl, hd]
      rw [hmap] at hpr
      have HPR : Hid (Prts w2.drew (fun _ => True) a2 1 (reads [askAll] l).1) := Lib.hid ((hpr.weak (fun _ _ _ => trivial)).keep (Nat.le_refl _) (fun _ _ _ => rfl))
      have HW := Lib.hid hwr
      have HF := Lib.hid hfew
      clear hout hmap hbl hr hql hpr hd hwr hfew HT1
      have hcb := convert_txt (HT.out.below HB2.out (fun _ _ h => h)).old
      have hcb2 : ∀ k, (convert 25 9 (.slice a0 len0 cap0)).run Try.prog (w2.drewN k) = .ok (.string (strOfNums l)) (w2.drewN k) := fun k => convert_txt (w := w2.drewN k) (S := fun _ => True) ((HT.out.below HB2.out (fun _ _ h => h)).weak (fun _ _ _ => trivial))
      have hcb3 : (convert 25 9 (.slice a0 len0 cap0)).run Try.prog w2.drew = .ok (.string (strOfNums l)) w2.drew := convert_txt (w := w2.drew) (S := fun _ => True) ((HT.out.below HB2.out (fun _ _ h => h)).weak (fun _ _ _ => trivial))
      have HBY := Lib.hid HT.out.2.2.1
      generalize hs : strOfNums l = s at *
      have HS := Lib.hid hs
      clear hs
      go_wp2
      refine wp_region_held_drew (S := fun w' => (convert 25 9 (.slice a0 len0 cap0)).run Try.prog w' = .ok (.string s) w') (by kernel_rfl) hcb3 (fun hHeld => ?_)
      refine wpAnyH_take (i := 0) (v := .bool true) rfl (by kernel_rfl) (by kernel_rfl) (by kernel_rfl) (fun _ _ _ h => h) (Or.inl ⟨by rfl, (by intro w hSw; (try dsimp only at hSw); go_simp)⟩) (by assumption) ?_
      try simp only [Act.put, List.getElem_toArray, List.getElem_cons_zero, List.getElem_cons_succ, List.setIfInBounds_toArray, List.set_cons_zero, List.set_cons_succ]
      refine wpAnyH_take (i := 1) (v := .bool true) rfl (by kernel_rfl) (by kernel_rfl) (by kernel_rfl) (fun _ _ _ h => h) (Or.inl ⟨by rfl, (by intro w hSw; (try dsimp only at hSw); go_simp)⟩) (by assumption) ?_
      try simp only [Act.put, List.getElem_toArray, List.getElem_cons_zero, List.getElem_cons_succ, List.setIfInBounds_toArray, List.set_cons_zero, List.set_cons_succ]
      refine wpAnyH_take (i := 2) (v := .slice a2 1 c2) rfl (by kernel_rfl) (by kernel_rfl) (by kernel_rfl) (fun _ _ _ h => h) (Or.inl ⟨by rfl, (by intro w hSw; (try dsimp only at hSw); go_simp)⟩) (by assumption) ?_
      try simp only [Act.put, List.getElem_toArray, List.getElem_cons_zero, List.getElem_cons_succ, List.setIfInBounds_toArray, List.set_cons_zero, List.set_cons_succ]
      refine wpAnyH_take (i := 3) (v := .int .i64 1) rfl (by kernel_rfl) (by kernel_rfl) (by kernel_rfl) (fun _ _ _ h => h) (Or.inl ⟨by rfl, (by intro w hSw; (try dsimp only at hSw); go_simp)⟩) (by assumption) ?_
      try simp only [Act.put, List.getElem_toArray, List.getElem_cons_zero, List.getElem_cons_succ, List.setIfInBounds_toArray, List.set_cons_zero, List.set_cons_succ]
      refine wpAnyH_take (i := 4) (v := .bool true) rfl (by kernel_rfl) (by kernel_rfl) (by kernel_rfl) (fun _ _ _ h => h) (Or.inl ⟨by rfl, (by intro w hSw; (try dsimp only at hSw); go_simp)⟩) (by assumption) ?_
      try simp only [Act.put, List.getElem_toArray, List.getElem_cons_zero, List.getElem_cons_succ, List.setIfInBounds_toArray, List.set_cons_zero, List.set_cons_succ]
      refine wpAnyH_take (i := 5) (v := .bool true) rfl (by kernel_rfl) (by kernel_rfl) (by kernel_rfl) (fun _ _ _ h => h) (Or.inl ⟨by rfl, (by intro w hSw; (try dsimp only at hSw); go_simp)⟩) (by assumption) ?_
      try simp only [Act.put, List.getElem_toArray, List.getElem_cons_zero, List.getElem_cons_succ, List.setIfInBounds_toArray, List.set_cons_zero, List.set_cons_succ]
      refine wpAnyH_take (i := 6) (v := .bool true) rfl (by kernel_rfl) (by kernel_rfl) (by kernel_rfl) (fun _ _ _ h => h) (Or.inl ⟨by rfl, (by intro w hSw; (try dsimp only at hSw); go_simp)⟩) (by assumption) ?_
      try simp only [Act.put, List.getElem_toArray, List.getElem_cons_zero, List.getElem_cons_succ, List.setIfInBounds_toArray, List.set_cons_zero, List.set_cons_succ]
      refine wpAnyH_take (i := 7) (v := .slice a2 1 c2) rfl (by kernel_rfl) (by kernel_rfl) (by kernel_rfl) (fun _ _ _ h => h) (Or.inl ⟨by rfl, (by intro w hSw; (try dsimp only at hSw); go_simp)⟩) (by assumption) ?_
      try simp only [Act.put, List.getElem_toArray, List.getElem_cons_zero, List.getElem_cons_succ, List.setIfInBounds_toArray, List.set_cons_zero, List.set_cons_succ]
      refine wpAnyH_take (i := 10) (v := .slice a0 len0 cap0) rfl (by kernel_rfl) (by kernel_rfl) (by kernel_rfl) (fun _ _ _ h => h) (Or.inl ⟨by rfl, (by intro w hSw; (try dsimp only at hSw); go_simp)⟩) (by assumption) ?_
      try simp only [Act.put, List.getElem_toArray, List.getElem_cons_zero, List.getElem_cons_succ, List.setIfInBounds_toArray, List.set_cons_zero, List.set_cons_succ]
      refine wpAnyH_take (i := 11) (v := .string s) rfl (by kernel_rfl) (by kernel_rfl) (by kernel_rfl) (fun _ _ _ h => h) (Or.inl ⟨by rfl, (by intro w hSw; (try dsimp only at hSw); go_simp)⟩) (by assumption) ?_
      try simp only [Act.put, List.getElem_toArray, List.getElem_cons_zero, List.getElem_cons_succ, List.setIfInBounds_toArray, List.set_cons_zero, List.set_cons_succ]
      refine wpAnyH_ready (rs := [8]) (by kernel_rfl) (by simp) (AllReadyH.cons rfl (fun K hK => ?_) AllReadyH.nil)
      try simp only [List.getElem_toArray, List.getElem_cons_zero, List.getElem_cons_succ]
      go_simp
      go_at_call 15
      refine (written_any (S := fun _ => True) (ps := (reads [askAll] l).1) (by exact HPR.out) HF.out).mono ?_
      rintro e w3 ⟨v3, rfl, hown, hbl3⟩
      rw [HW.out] at hown
      obtain ⟨a3, c3, rfl, htx3⟩ := Txt.own hown HBY.out
      have hcv3 := convert_txt htx3
      have HB3 : Hid (Below w.heap.size w w3) := Lib.hid (Below.trans (b := w2) HB2.out ⟨hbl3.os, hbl3.tape, hbl3.output, hbl3.size, fun k hk => hbl3.block k (Nat.lt_of_lt_of_le hk HB2.out.size)⟩)
      have hcb4 := convert_txt (HT.out.below HB3.out (fun _ _ h => h))
      rw [HS.out] at hcv3 hcb4
      clear hown hbl3 htx3
      go_wp2_with fail
      refine hK.out _ _ hcb4 (fun hHeld => ?_)
      clear hK K
      try simp only [Act.put, List.getElem_toArray, List.getElem_cons_zero, List.getElem_cons_succ, List.setIfInBounds_toArray, List.set_cons_zero, List.set_cons_succ]
      refine wpAnyH_ready (rs := [9]) (by kernel_rfl) (by simp) (AllReadyH.cons rfl (fun K hK => ?_) AllReadyH.nil)
      try simp only [List.getElem_toArray, List.getElem_cons_zero, List.getElem_cons_succ]
      go_simp
      refine hK.out _ _ hcb4 (fun hHeld => ?_)
      clear hK K
      try simp only [Act.put, List.getElem_toArray, List.getElem_cons_zero, List.getElem_cons_succ, List.setIfInBounds_toArray, List.set_cons_zero, List.set_cons_succ]
      refine wpAnyH_take (i := 12) (v := .bool true) rfl (by kernel_rfl) (by kernel_rfl) (by kernel_rfl) (fun _ _ _ h => h) (Or.inl ⟨by rfl, (by intro w hSw; (try dsimp only at hSw); go_simp)⟩) (by assumption) ?_
      try simp only [Act.put, List.getElem_toArray, List.getElem_cons_zero, List.getElem_cons_succ, List.setIfInBounds_toArray, List.set_cons_zero, List.set_cons_succ]
      refine wpAnyH_take (i := 13) (v := .bool true) rfl (by kernel_rfl) (by kernel_rfl) (by kernel_rfl) (fun _ _ _ h => h) (Or.inl ⟨by rfl, (by intro w hSw; (try dsimp only at hSw); go_simp)⟩) (by assumption) ?_
      try simp only [Act.put, List.getElem_toArray, List.getElem_cons_zero, List.getElem_cons_succ, List.setIfInBounds_toArray, List.set_cons_zero, List.set_cons_succ]
      refine wpAnyH_take (i := 14) (v := .bool true) rfl (by kernel_rfl) (by kernel_rfl) (by kernel_rfl) (fun _ _ _ h => h) (Or.inl ⟨by rfl, (by intro w hSw; (try dsimp only at hSw); go_simp)⟩) (by assumption) ?_
      try simp only [Act.put, List.getElem_toArray, List.getElem_cons_zero, List.getElem_cons_succ, List.setIfInBounds_toArray, List.set_cons_zero, List.set_cons_succ]
      refine wpAnyH_done (by kernel_rfl) ?_ _
      go_wp2
      go_ret
      exact ⟨rfl, HB3.out⟩
end Go.Proofs.Ytfejdfeakekdfaa
