/-
  The walk of the document's Encode of facts.
-/
import Derived.Test.YtcfchkffanfehaaIi
namespace Go.Proofs.Ytcfchkffanfehaa
set_option maxRecDepth 20000
set_option linter.unusedSimpArgs false
set_option linter.unusedVariables false
open Go.RowKit
set_option maxHeartbeats 4000000 in
theorem rfencode_any {w : World} {S : Nat → Prop} {v : Value} {f : Ft.Fact} (h : Fv w S v f) :
    Calls Try.prog 14 #[v] w (Fenc w f) := by
  obtain ⟨k, ep, n, m⟩ := f
  have HWF := Lib.hid h.wf
  obtain ⟨j0, hj0, hz0, hz1, hz2⟩ := info_parts u8_info
  have HI := Lib.hid (And.intro hj0 (And.intro hz0 (And.intro hz1 hz2)))
  clear hj0 hz0 hz1 hz2
  obtain ⟨P, M, rfl, hb⟩ := fv_box h
  clear h
  have HF := Lib.hid hb
  have HB := Lib.hid (below_alloc w (.cells P 28))
  clear hb
  by_cases hok : Ft.Fact.ok ⟨k, ep, n, m⟩ 9
  case neg =>
    have HK := Lib.hid (Ft.chk_no hok)
    have HN := Lib.hid hok
    clear hok
    go_enter Try.func14, Try.ntmps14
    go_wp2_with (first | ((with_reducible show wpList _ _ _ ((⟨_, Op.load 28 (.tmp 1), _, _, _, _⟩ : Oper) :: _) _ _); refine fb_load HF.out (by rfl) (.tmp 1) rfl rfl ?_) | fail)
    refine (rfcheck_any HF.out.val 9).mono ?_
    rintro e w2 ⟨rfl, hb2⟩
    rw [HK.out]
    have HB2 := Lib.hid (below_box hb2)
    clear hb2
    go_wp2
    go_ret2
    exact ⟨Or.inl ⟨HN.out, rfl⟩, HB2.out⟩
  have HK := Lib.hid (Ft.chk_ok hok)
  obtain ⟨i1, i2, i3, i4, i5, i6⟩ := Ft.ok_in hok
  dsimp only at i1 i2 i3 i4 i5 i6
  have HN := Lib.hid hok
  clear hok
  have hl1 : (Cd.num k).length ≤ 10 := Cd.num_len (by omega) (by omega)
  have hl2 : (Cd.num ep).length ≤ 10 := Cd.num_len (by omega) (by omega)
  have hl3 : (Cd.num n).length ≤ 10 := Cd.num_len (by omega) (by omega)
  have HL := Lib.hid (And.intro hl1 (And.intro hl2 hl3))
  clear hl1 hl2 hl3
  go_enter Try.func14, Try.ntmps14
  go_wp2_with (first | ((with_reducible show wpList _ _ _ ((⟨_, Op.load 28 (.tmp 1), _, _, _, _⟩ : Oper) :: _) _ _); refine fb_load HF.out (by rfl) (.tmp 1) rfl rfl ?_) | fail)
  refine (rfcheck_any HF.out.val 9).mono ?_
  rintro e w1 ⟨rfl, hb2⟩
  rw [HK.out]
  have HB1 := Lib.hid (below_box hb2)
  have HF1 := Lib.hid (HF.out.below hb2)
  clear hb2 HF HB
  go_wp2
  have HBD := Lib.hid (show Below w.heap.size w w1.drew from HB1.out.drew)
  have HFD : Hid (FB w1.drew w.heap.size P M ⟨k, ep, n, m⟩) := Lib.hid (HF1.out.below (Below.refl _ _).drew)
  clear HB1 HF1
  refine wp_region_held_drew (S := fun w' => w'.cell? ⟨w.heap.size, 0, none⟩ = some (.int .i64 k) ∧ w'.cell? ⟨w.heap.size, 1, none⟩ = some (.int .i64 ep)) (by kernel_rfl) ⟨HFD.out.c0, HFD.out.c1⟩ (fun hHeld => ?_)
  generalize w1.drew = v0 at *
  obtain ⟨B, hB⟩ : ∃ B, v0.heap.size = B := ⟨_, rfl⟩
  have HFB : Hid (∀ w', Below v0.heap.size v0 w' → FB w' w.heap.size P M ⟨k, ep, n, m⟩) := Lib.hid (fun w' h => HFD.out.below h)
  have HBB := Lib.hid HBD.out.size
  refine wpAnyH_take (i := 0) (v := .pointer (some ⟨w.heap.size, 0, none⟩)) rfl (by kernel_rfl) (by kernel_rfl) (by kernel_rfl) (fun _ _ _ h => h) (Or.inl ⟨by rfl, (by intro w hSw; (try dsimp only at hSw); go_simp)⟩) (by assumption) ?_
  try simp only [Act.put, List.getElem_toArray, List.getElem_cons_zero, List.getElem_cons_succ, List.setIfInBounds_toArray, List.set_cons_zero, List.set_cons_succ]
  refine wpAnyH_take (i := 1) (v := .int .i64 k) rfl (by kernel_rfl) (by kernel_rfl) (by kernel_rfl) (fun _ _ _ h => h) (Or.inl ⟨by rfl, (by intro w hSw; (try dsimp only at hSw); go_simp)⟩) (by assumption) ?_
  try simp only [Act.put, List.getElem_toArray, List.getElem_cons_zero, List.getElem_cons_succ, List.setIfInBounds_toArray, List.set_cons_zero, List.set_cons_succ]
  refine wpAnyH_take (i := 3) (v := .pointer (some ⟨w.heap.size, 1, none⟩)) rfl (by kernel_rfl) (by kernel_rfl) (by kernel_rfl) (fun _ _ _ h => h) (Or.inl ⟨by rfl, (by intro w hSw; (try dsimp only at hSw); go_simp)⟩) (by assumption) ?_
  try simp only [Act.put, List.getElem_toArray, List.getElem_cons_zero, List.getElem_cons_succ, List.setIfInBounds_toArray, List.set_cons_zero, List.set_cons_succ]
  refine wpAnyH_take (i := 4) (v := .int .i64 ep) rfl (by kernel_rfl) (by kernel_rfl) (by kernel_rfl) (fun _ _ _ h => h) (Or.inl ⟨by rfl, (by intro w hSw; (try dsimp only at hSw); go_simp)⟩) (by assumption) ?_
  try simp only [Act.put, List.getElem_toArray, List.getElem_cons_zero, List.getElem_cons_succ, List.setIfInBounds_toArray, List.set_cons_zero, List.set_cons_succ]
  refine wpAnyH_ready (rs := [2]) (by kernel_rfl) (by simp) (AllReadyH.cons rfl (fun K hK => ?_) AllReadyH.nil)
  try simp only [List.getElem_toArray, List.getElem_cons_zero, List.getElem_cons_succ]
  go_simp
  go_at_call 30
  refine (Co.rint_ref k _ (by omega) (by omega)).mono ?_
  rintro e v1 ⟨x1, rfl, hown1, hb1⟩
  have H1 := Lib.hid (And.intro hown1 (show Below v0.heap.size v0 v1 from hb1))
  clear hown1 hb1
  refine hK.out _ _ ⟨(HFB.out _ H1.out.2).c0, (HFB.out _ H1.out.2).c1⟩ (fun hHeld => ?_)
  clear hK K
  try simp only [Act.put, List.getElem_toArray, List.getElem_cons_zero, List.getElem_cons_succ, List.setIfInBounds_toArray, List.set_cons_zero, List.set_cons_succ]
  refine wpAnyH_ready (rs := [5]) (by kernel_rfl) (by simp) (AllReadyH.cons rfl (fun K hK => ?_) AllReadyH.nil)
  try simp only [List.getElem_toArray, List.getElem_cons_zero, List.getElem_cons_succ]
  go_simp
  go_at_call 30
  refine (Co.rint_ref ep _ (by omega) (by omega)).mono ?_
  rintro e v2 ⟨x2, rfl, hown2, hb2⟩
  obtain ⟨a2, c2', rfl, ht2⟩ := Txt.own hown2 (Cd.byt_num ep)
  have hown1 : v2.ownsRow v0.heap.size 5 1 x1 (Cd.num k).length (nums (Cd.num k)) := own_keep H1.out.1 (fun b hb => hb2.block b (own_lt H1.out.1 b hb))
  have H2 := Lib.hid (And.intro hown1 (And.intro (H1.out.2.trans (hb2.mono H1.out.2.size)) ht2))
  have hgv2 : v0.heap.size ≤ v2.heap.size := H2.out.2.1.size
  clear hown2 hb2 ht2 hown1
  refine hK.out _ _ ⟨(HFB.out _ H2.out.2.1).c0, (HFB.out _ H2.out.2.1).c1⟩ (fun hHeld => ?_)
  clear hK K
  try simp only [Act.put, List.getElem_toArray, List.getElem_cons_zero, List.getElem_cons_succ, List.setIfInBounds_toArray, List.set_cons_zero, List.set_cons_succ]
  refine wpAnyH_ready (rs := [6]) (by kernel_rfl) (by simp) (AllReadyH.cons rfl (fun K hK => ?_) AllReadyH.nil)
  try simp only [List.getElem_toArray, List.getElem_cons_zero, List.getElem_cons_succ]
  refine if_wanted (by rfl) ?_
  refine wp_append_txt _ (.tmp 12) (.tmp 15) 30 rfl v0.heap.size 5 j0 (.int .u8 0) 1 Try.underlying30 HI.out.1 HI.out.2.1 HI.out.2.2.1 HI.out.2.2.2 rfl _ (Cd.num k).length (nums (Cd.num k)) rfl H2.out.1 _ a2 (Cd.num ep).length c2' (Cd.num ep) rfl H2.out.2.2 (by have := HL.out; unfold maxLen; omega) (by have := HL.out; omega) hgv2 ?_
  intro x3 v3 hown3 hg3 _
  rw [← nums_append, ← List.length_append] at hown3
  have hb3 : Below v0.heap.size v0 v3 := H2.out.2.1.grown hg3 hgv2 (fun b hb => own_ge H2.out.1 b hb)
  have H3 := Lib.hid (And.intro hown3 hb3)
  clear hown3 hb3 hg3
  refine hK.out _ _ ⟨(HFB.out _ H3.out.2).c0, (HFB.out _ H3.out.2).c1⟩ (fun hHeld => ?_)
  clear hK K
  try simp only [Act.put, List.getElem_toArray, List.getElem_cons_zero, List.getElem_cons_succ, List.setIfInBounds_toArray, List.set_cons_zero, List.set_cons_succ]
  refine wpAnyH_ready (rs := [7]) (by kernel_rfl) (by simp) (AllReadyH.cons rfl (fun K hK => ?_) AllReadyH.nil)
  try simp only [List.getElem_toArray, List.getElem_cons_zero, List.getElem_cons_succ]
  go_simp
  refine hK.out _ _ ⟨(HFB.out _ H3.out.2).c0, (HFB.out _ H3.out.2).c1⟩ (fun hHeld => ?_)
  clear hK K
  try simp only [Act.put, List.getElem_toArray, List.getElem_cons_zero, List.getElem_cons_succ, List.setIfInBounds_toArray, List.set_cons_zero, List.set_cons_succ]
  refine wpAnyH_done (by kernel_rfl) ?_ _
  obtain ⟨h3, hh3⟩ : ∃ h3, Cd.num k ++ Cd.num ep = h3 := ⟨_, rfl⟩
  rw [hh3] at H3
  have HH3 := Lib.hid (And.intro hh3 (show h3.length ≤ 20 by have := HL.out; rw [← hh3, List.length_append]; omega))
  have k2 : v3.cell? ⟨w.heap.size, 2, none⟩ = some (.int .i64 n) := (HFB.out _ H3.out.2).c2
  have hgv3 : v0.heap.size ≤ v3.heap.size := H3.out.2.size
  clear hh3 H1 H2 hgv2
  have HBY := Lib.hid (And.intro (Ft.bytes_byt HWF.out) (Ft.bytes_le HWF.out HN.out))
  go_wp2_with fail
  refine (Co.rint_ref n _ (by omega) (by omega)).mono ?_
  rintro e v4 ⟨x4, rfl, hown4, hb4⟩
  obtain ⟨a4, c4, rfl, ht4⟩ := Txt.own hown4 (Cd.byt_num n)
  have hown3 : v4.ownsRow v0.heap.size 5 1 x3 h3.length (nums h3) := own_keep H3.out.1 (fun b hb => hb4.block b (own_lt H3.out.1 b hb))
  have hb04 := H3.out.2.trans (hb4.mono H3.out.2.size)
  have H4 := Lib.hid (And.intro hown3 (And.intro hb04 ht4))
  have hgv4 : v0.heap.size ≤ v4.heap.size := hb04.size
  have k0 : v4.cell? ⟨w.heap.size, 0, none⟩ = some (.int .i64 k) := (HFB.out _ hb04).c0
  clear hown4 hb4 ht4 hown3 hb04 k2 hgv3 H3
  go_upto_region 5 with (at_builtin; refine wpList_append_txt _ rfl (.tmp 17) (.tmp 20) 30 rfl v0.heap.size 5 j0 (.int .u8 0) 1 Try.underlying30 HI.out.1 HI.out.2.1 HI.out.2.2.1 HI.out.2.2.2 rfl _ h3.length (nums h3) rfl H4.out.1 _ a4 (Cd.num n).length c4 (Cd.num n) rfl H4.out.2.2 (by have := HL.out; have := HH3.out.2; unfold maxLen; omega) (by have := HL.out; have := HH3.out.2; omega) hgv4 ?_; intro x5 v5 hown5 hg5 _)
  rw [← nums_append, ← List.length_append] at hown5
  have hb5 : Below v0.heap.size v0 v5 := H4.out.2.1.grown hg5 hgv4 (fun b hb => own_ge H4.out.1 b hb)
  obtain ⟨h5, hh5⟩ : ∃ h5, h3 ++ Cd.num n = h5 := ⟨_, rfl⟩
  rw [hh5] at hown5
  have HH5 := Lib.hid (And.intro hh5 (show h5.length ≤ 30 by have := HL.out; have := HH3.out.2; rw [← hh5, List.length_append]; omega))
  have H5 := Lib.hid (And.intro hown5 hb5)
  have k0 : v5.cell? ⟨w.heap.size, 0, none⟩ = some (.int .i64 k) := (HFB.out _ hb5).c0
  have hgv5 : v0.heap.size ≤ v5.heap.size := hb5.size
  clear hown5 hb5 hg5 hh5 H4 hgv4
  by_cases hk : k = 1
  · have d1 : (k == 1) = true := by simp [hk]
    have HBAD := Lib.hid (Ft.ok_one HN.out hk)
    have HE : Hid (Ft.Fact.bytes ⟨k, ep, n, m⟩ = h5 ++ (Cd.num ((Mf.body m).length : Nat) ++ Mf.body m)) := Lib.hid (by
      unfold Ft.Fact.bytes Ft.Fact.tail
      dsimp only
      rw [if_pos hk, ← HH5.out.1, ← HH3.out.1]
      simp only [List.append_assoc])
    have HLB := Lib.hid (Ft.body_le HBAD.out HWF.out.1 HWF.out.2)
    have HF5 := Lib.hid (HFB.out _ H5.out.2)
    clear hk
    go_wp2_with (first | ((with_reducible show wpList _ _ _ ((⟨_, Op.load 26 (.tmp 26), _, _, _, _⟩ : Oper) :: _) _ _); refine fb_man HF5.out (by rfl) (.tmp 26) rfl rfl ?_) | fail)
    refine (rencode_any HF5.out.mv).mono ?_
    rintro e v6 ⟨he, hb6⟩
    rcases he with ⟨hbad, _⟩ | ⟨_, a6, n6, c6, rfl, ht6⟩
    · exact absurd hbad HBAD.out
    have hown6 : v6.ownsRow v0.heap.size 5 1 x5 h5.length (nums h5) := own_keep H5.out.1 (fun b hb => hb6.block b (own_lt H5.out.1 b hb))
    have H6 := Lib.hid (And.intro hown6 (And.intro (H5.out.2.trans (hb6.mono H5.out.2.size)) ht6))
    have hn6 : n6 ≤ 2100 := by rw [← ht6.1]; exact HLB.out
    clear hown6 hb6 ht6 HF5 hgv5 k0
    go_wp2_with fail
    refine (Co.rtext_ref H6.out.2.2 (by omega)).mono ?_
    rintro e v7 ⟨x7, rfl, hown7, hb7⟩
    have hbt : Byt (Cd.num ((Mf.body m).length : Nat) ++ Mf.body m) := byt_append (Cd.byt_num _) (Ft.body_byt HWF.out.1 HWF.out.2)
    obtain ⟨a7, c7, rfl, ht7⟩ := Txt.own hown7 hbt
    have hlt : (Cd.num ((Mf.body m).length : Nat) ++ Mf.body m).length ≤ 2110 := by
      have h1 := HLB.out
      have h2 := Cd.num_len (n := ((Mf.body m).length : Nat)) (by omega) (by omega)
      rw [List.length_append]; omega
    have hown6 : v7.ownsRow v0.heap.size 5 1 x5 h5.length (nums h5) := own_keep H6.out.1 (fun b hb => hb7.block b (own_lt H6.out.1 b hb))
    have hb07 := H6.out.2.1.trans (hb7.mono H6.out.2.1.size)
    have hgv7 : v0.heap.size ≤ v7.heap.size := hb07.size
    obtain ⟨T, hT⟩ : ∃ T, Cd.num ((Mf.body m).length : Nat) ++ Mf.body m = T := ⟨_, rfl⟩
    rw [hT] at ht7 hlt HE
    have H7 := Lib.hid (And.intro hown6 (And.intro hb07 (And.intro ht7 hlt)))
    rw [show (Cd.num ((Mf.body m).length : Nat) ++ Mf.body m).length = T.length by rw [hT]]
    clear hown6 hown7 hb7 hb07 ht7 hlt hT H6 hbt
    go_upto_region 8 with (at_builtin; refine wpList_append_txt _ rfl (.tmp 31) (.tmp 33) 30 rfl v0.heap.size 5 j0 (.int .u8 0) 1 Try.underlying30 HI.out.1 HI.out.2.1 HI.out.2.2.1 HI.out.2.2.2 rfl _ h5.length (nums h5) rfl H7.out.1 _ a7 T.length c7 T rfl H7.out.2.2.1 (by have := H7.out.2.2.2; have := HH5.out.2; unfold maxLen; omega) (by have := H7.out.2.2.2; have := HH5.out.2; omega) hgv7 ?_; intro x8 v8 hown8 hg8 _)
    rw [← nums_append, ← List.length_append, ← HE.out] at hown8
    have hb8 : Below v0.heap.size v0 v8 := H7.out.2.1.grown hg8 hgv7 (fun b hb => own_ge H7.out.1 b hb)
    obtain ⟨a8, c8, rfl, ht8⟩ := Txt.own hown8 HBY.out.1
    have H8 := Lib.hid (And.intro (ht8.weak (S' := (w.heap.size ≤ ·)) (fun b _ h => Nat.le_trans HBB.out h)) (HBD.out.trans (hb8.mono HBB.out)))
    clear hown8 hb8 ht8 hg8
    go_wp2
    go_ret2
    exact ⟨Or.inr ⟨HN.out, _, _, _, rfl, H8.out.1⟩, H8.out.2⟩
  · have d1 : (k == 1) = false := by simp [hk]
    have HE : Hid (Ft.Fact.bytes ⟨k, ep, n, m⟩ = h5) := Lib.hid (by
      unfold Ft.Fact.bytes Ft.Fact.tail
      dsimp only
      rw [if_neg hk, ← HH5.out.1, ← HH3.out.1]
      simp only [List.append_assoc, List.append_nil])
    have hown8 := H5.out.1
    rw [← HE.out] at hown8
    obtain ⟨a8, c8, rfl, ht8⟩ := Txt.own hown8 HBY.out.1
    have H8 := Lib.hid (And.intro (ht8.weak (S' := (w.heap.size ≤ ·)) (fun b _ h => Nat.le_trans HBB.out h)) (HBD.out.trans (H5.out.2.mono HBB.out)))
    clear hown8 ht8 hk
    have HQ := Lib.hid (show h5.length = (Ft.Fact.bytes ⟨k, ep, n, m⟩).length by rw [HE.out])
    go_wp2
    go_ret2
    exact ⟨Or.inr ⟨HN.out, _, _, _, rfl, H8.out.1⟩, H8.out.2⟩
end Go.Proofs.Ytcfchkffanfehaa
