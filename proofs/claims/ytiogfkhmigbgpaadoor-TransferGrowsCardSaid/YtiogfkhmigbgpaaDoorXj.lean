/-
  Rows of bytes as rows of any kind; the walk of TransferFinds.
-/
import Derived.Test.YtiogfkhmigbgpaaDoorXi
namespace Go.Proofs.YtiogfkhmigbgpaaDoor
open Go.RowKit Go.Great
set_option linter.unusedVariables false
set_option linter.unusedSimpArgs false
set_option maxRecDepth 20000
theorem mod_nat (z : Int) (hz : 0 ≤ z) (n : Nat) : ∃ t : Nat, z.tmod ((n : Int) + 1) = (t : Int) ∧ t ≤ n := by
  have h1 := Int.emod_nonneg z (show (n : Int) + 1 ≠ 0 by omega)
  have h2 := Int.emod_lt_of_pos z (show (0 : Int) < (n : Int) + 1 by omega)
  refine ⟨(z % ((n : Int) + 1)).toNat, ?_, by omega⟩
  rw [Int.tmod_eq_emod_of_nonneg hz]
  omega
def U8 : Elem Int where
  K := 1
  T := 5
  TS := 35
  enc := fun x => [.int .u8 x]
  z := 0
  ok := fun x => 0 ≤ x ∧ x < 256
  bytes := 1
  zero := .int .u8 0
  hK := by omega
  len := fun x => rfl
  one := fun x v hv => by rw [List.mem_singleton.1 hv]; rfl
  und := Tryd.underlying35
  info := by kernel_rfl
  zs := rfl
  hb := by omega
  hKs := by omega
theorem txt_row {w : World} {S : Nat → Prop} {a : Option Addr} {n c : Nat} {l : List Int} (h : Txt w S a n c l) : U8.Row w S a n l := by
  obtain ⟨h1, _, h2, h3⟩ := h
  refine ⟨h1, h2, ?_⟩
  rcases h3 with h | ⟨b, off, rfl, hs, hb, hc⟩
  · exact Or.inl h
  · refine Or.inr ⟨b, off, rfl, hs, hb, fun k hk j v hv => ?_⟩
    match j, hv with
    | 0, hv =>
      have hv' : v = .int .u8 (l.getD k 0) := (Option.some.inj hv).symm
      rw [show U8.K = 1 from rfl, Nat.mul_one, Nat.add_zero, hc k hk, hv']
    | j + 1, hv => cases hv
theorem row_of {w : World} {S : Nat → Prop} {a : Option Addr} {n c : Nat} {l : List Int} (h : U8.Row w S a n l) (hc : n ≤ c) : Txt w S a n c l := by
  obtain ⟨h1, h2, h3⟩ := h
  refine ⟨h1, hc, h2, ?_⟩
  rcases h3 with h | ⟨b, off, rfl, hs, hb, hcc⟩
  · exact Or.inl h
  · refine Or.inr ⟨b, off, rfl, hs, hb, fun k hk => ?_⟩
    have := hcc k hk 0 _ rfl
    rw [show U8.K = 1 from rfl, Nat.mul_one, Nat.add_zero] at this
    exact this
set_option maxHeartbeats 16000000 in
theorem finds_walk (hg : Trn) (hw : Awake) {w : World} {S1 S3 : Nat → Prop} {a1 : Option Addr} {n1 p1 : Nat} {l1 : List Int} (hb1 : Txt w S1 a1 n1 p1 l1) (ch : Int) (hch : In64 ch) (nn : Int) (hnn : In64 nn) {a0 : Option Addr} {n0 p0 : Nat} {l0 : List Int} (hb0 : Txt w S3 a0 n0 p0 l0) (hR : Roots w) :
    Calls Tryd.prog 7 #[.slice a1 n1 p1, .int .i64 ch, .int .i64 nn, .slice a0 n0 p0] w fun e w' => e = .returned (.bool true) ∧ Below w.heap.size w w' := by
  have HG := Lib.hid hg
  have HA := Lib.hid hw
  have HI := Lib.hid (And.intro hnn hch)
  have HN := Lib.hid (And.intro hb1.1 hb1.2.1)
  have HK : Hid (Txt w Any a1 n1 p1 l1 ∧ Txt w Any a0 n0 p0 l0 ∧ Roots w ∧ Below w.heap.size w w) := Lib.hid ⟨txt_any hb1, txt_any hb0, hR, Below.refl _ _⟩
  clear hg hw hnn hch hb0 hb1 hR
  go_enter Tryd.func7, Tryd.ntmps7
  go_wp2_with fail
  refine (HA.out w HK.out.2.2.1).mono ?_
  rintro e w1 ⟨rfl, hb⟩
  have HK := Lib.hid (And.intro (txt_on HK.out.1 hb) (And.intro (txt_on HK.out.2.1 hb) (keeps HK.out.2.2 hb)))
  clear hb
  by_cases z1 : n1 > 600
  · have z1' : (n1 : Int) > 600 := by omega
    go_wp2
    go_ret
    exact ⟨rfl, HK.out.2.2.2⟩
  have z1' : ¬ ((n1 : Int) > 600) := by omega
  by_cases z2 : n0 > 100
  · have z2' : (n0 : Int) > 100 := by omega
    go_wp2
    go_ret
    exact ⟨rfl, HK.out.2.2.2⟩
  have z2' : ¬ ((n0 : Int) > 100) := by omega
  go_wp2_with fail
  clear z1' z2'
  refine (build_any HK.out.1 HI.out.2 (by omega) HK.out.2.2.1).mono ?_
  rintro e w2 ⟨⟨v, rfl, hmv⟩, hb⟩
  have HK := Lib.hid (And.intro (txt_on HK.out.1 hb) (And.intro (txt_on HK.out.2.1 hb) (keeps HK.out.2.2 hb)))
  clear hb
  obtain ⟨P, rfl, hP, hPa⟩ := mv_agg' hmv
  have hb : Below w2.heap.size w2 ((w2.alloc (.cells zm 34)).setRow w2.heap.size P) := below_row (below_alloc w2 _) (Nat.le_refl _) _
  have HM := Lib.hid (mb_put hmv).any
  have HK := Lib.hid (And.intro (txt_on HK.out.1 hb) (And.intro (txt_on HK.out.2.1 hb) (keeps HK.out.2.2 hb)))
  clear hb hmv
  by_cases hN : Mf.cnt l1.length ch = 0
  · have he := (bld_zero hN).2
    have he' : (Mf.berr l1 ch != 0) = true := by rw [he]; rfl
    clear he hN
    go_wp2_with (first | ((with_reducible show wpList _ _ _ ((⟨_, Op.store 34 _ _, _, _, _, _⟩ : Oper) :: _) _ _); rw [zeroM, show (mcs 0 0 (.slice none 0 0) (zs 32)).toArray = zm from rfl]; refine wpList_store_row rfl _ (.tmp 10) (.tmp 31) rfl w2.heap.size P rfl rfl 34 _ (Whole.new w2 _ _) (by rw [hP]; exact info35) (by rw [hP]; rfl) hPa ?_) | fail)
    go_ret
    exact ⟨rfl, HK.out.2.2.2⟩
  have he := (bld_made hN).2
  have hmade := (bld_made hN).1
  rw [hmade] at HM
  obtain ⟨cc, N, hcc, hNN, hbt⟩ := Tr.bt_of hN
  obtain ⟨m, hm⟩ : ∃ m, Mf.made l1 ch = m := ⟨_, rfl⟩
  rw [hm] at HM hbt
  have HBT := Lib.hid (And.intro hcc hbt)
  rw [he]
  clear he hmade hN hcc hNN hbt hm
  go_upto_region 5 with (first | ((with_reducible show wpList _ _ _ ((⟨_, Op.store 34 _ _, _, _, _, _⟩ : Oper) :: _) _ _); rw [zeroM, show (mcs 0 0 (.slice none 0 0) (zs 32)).toArray = zm from rfl]; refine wpList_store_row rfl _ (.tmp 10) (.tmp 31) rfl w2.heap.size P rfl rfl 34 _ (Whole.new w2 _ _) (by rw [hP]; exact info35) (by rw [hP]; rfl) hPa ?_) | fail)
  clear hPa
  obtain ⟨g, hgq⟩ : ∃ g, w2.heap.size = g := ⟨_, rfl⟩
  rw [hgq] at HM HK ⊢
  clear hgq
  generalize (w2.alloc (.cells zm 34)).setRow g P = w3 at *
  try simp only [Act.put, List.getElem_toArray, List.getElem_cons_zero, List.getElem_cons_succ, List.setIfInBounds_toArray, List.set_cons_zero, List.set_cons_succ]
  have hw1 : IntKind.i64.wrap ((n1 : Int) + 1) = (n1 : Int) + 1 := by rw [IntKind.wrap_i64]; omega
  by_cases hneg : nn < 0
  · have hn1 : IntKind.i64.wrap (nn + 1) = nn + 1 := by have := HI.out.1; unfold In64 at this; rw [IntKind.wrap_i64]; omega
    have hn2 : IntKind.i64.wrap (-(nn + 1)) = -(nn + 1) := by have := HI.out.1; unfold In64 at this; rw [IntKind.wrap_i64]; omega
    obtain ⟨t, hmod, htl⟩ := mod_nat (-(nn + 1)) (by omega) n1
    have HTL := Lib.hid htl
    go_upto_region 10 with fail
    clear hmod
    go_cut [12] (fun v wx => ∃ a c, v = .slice a N c ∧ BE.Row wx Any a N ((List.range N).map fun k => decide (Mf.til m (k : Nat) ≤ (t : Int))) ∧ MB wx Any g P m ∧ Txt wx Any a1 n1 p1 l1 ∧ Txt wx Any a0 n0 p0 l0 ∧ Roots wx ∧ Below w.heap.size w wx)
    case first => as_aux_lemma =>
      have hb : Below w3.heap.size w3 w3.drew := (Below.refl _ w3).drew
      have HM := Lib.hid (mb_on HM.out hb)
      have HK := Lib.hid (And.intro (txt_on HK.out.1 hb) (And.intro (txt_on HK.out.2.1 hb) (keeps HK.out.2.2 hb)))
      clear hb
      have hk0 := HM.out.1
      refine wp_region_held_drew (S := fun wq => Whole wq g 34 P) (by kernel_rfl) hk0 (fun hHeld => ?_)
      generalize w3.drew = wd at *
      clear hk0
      have hsl := Co.slice_to (a := a1) (n := n1) (c := p1) (k := t) (by have := HN.out.2; have := HTL.out; omega)
      refine wpAnyH_take (i := 0) (v := .agg P) rfl (by kernel_rfl) (by kernel_rfl) (by kernel_rfl) (fun _ _ _ h => h) (yields_mb (by rfl) _ rfl g rfl P hP (fun wq hSw => hSw)) (by assumption) ?_
      try simp only [Act.put, List.getElem_toArray, List.getElem_cons_zero, List.getElem_cons_succ, List.setIfInBounds_toArray, List.set_cons_zero, List.set_cons_succ]
      refine wpAnyH_take (i := 1) (v := .slice a1 n1 p1) rfl (by kernel_rfl) (by kernel_rfl) (by kernel_rfl) (fun _ _ _ h => h) (Or.inl ⟨by rfl, (by intro w hSw; (try dsimp only at hSw); go_simp)⟩) (by assumption) ?_
      try simp only [Act.put, List.getElem_toArray, List.getElem_cons_zero, List.getElem_cons_succ, List.setIfInBounds_toArray, List.set_cons_zero, List.set_cons_succ]
      refine wpAnyH_take (i := 2) (v := .int .i64 (t : Int)) rfl (by kernel_rfl) (by kernel_rfl) (by kernel_rfl) (fun _ _ _ h => h) (Or.inl ⟨by rfl, (by intro w hSw; (try dsimp only at hSw); go_simp)⟩) (by assumption) ?_
      try simp only [Act.put, List.getElem_toArray, List.getElem_cons_zero, List.getElem_cons_succ, List.setIfInBounds_toArray, List.set_cons_zero, List.set_cons_succ]
      refine wpAnyH_take (i := 3) (v := .slice a1 t p1) rfl (by kernel_rfl) (by kernel_rfl) (by kernel_rfl) (fun _ _ _ h => h) (Or.inl ⟨by rfl, (by intro w hSw; (try dsimp only at hSw); go_simp)⟩) (by assumption) ?_
      try simp only [Act.put, List.getElem_toArray, List.getElem_cons_zero, List.getElem_cons_succ, List.setIfInBounds_toArray, List.set_cons_zero, List.set_cons_succ]
      clear hsl
      refine wpAnyH_ready (rs := [4]) (by kernel_rfl) (by simp) (AllReadyH.cons rfl (fun K hK => ?_) AllReadyH.nil)
      try simp only [List.getElem_toArray, List.getElem_cons_zero, List.getElem_cons_succ]
      go_simp
      refine (HG.out.find HM.out.2 (by rw [HBT.out.2.len]; have := HBT.out.2.n64; omega) (HK.out.1.take t HTL.out) (by omega) HK.out.2.2.1).mono ?_
      rintro e wa ⟨aF, nF, cF, rfl, ho, hb⟩
      rw [HBT.out.2.begins (by rw [HN.out.1]; exact HTL.out)] at ho
      obtain rfl : nF = N := by rw [← ho.len]; simp
      have HF := Lib.hid ho.any
      have HM := Lib.hid (mb_on HM.out hb)
      have HK := Lib.hid (And.intro (txt_on HK.out.1 hb) (And.intro (txt_on HK.out.2.1 hb) (keeps HK.out.2.2 hb)))
      clear ho hb hHeld
      have hk := HM.out.1
      go_wp2_with fail
      refine hK.out _ _ hk (fun hHeld => ?_)
      clear hK K hHeld
      try simp only [Act.put, List.getElem_toArray, List.getElem_cons_zero, List.getElem_cons_succ, List.setIfInBounds_toArray, List.set_cons_zero, List.set_cons_succ]
      have hHeld := hk
      clear hk
      refine wpAnyH_take (i := 5) (v := .slice aF nF cF) rfl (by kernel_rfl) (by kernel_rfl) (by kernel_rfl) (fun _ _ _ h => h) (Or.inl ⟨by rfl, (by intro w hSw; (try dsimp only at hSw); go_simp)⟩) (by assumption) ?_
      try simp only [Act.put, List.getElem_toArray, List.getElem_cons_zero, List.getElem_cons_succ, List.setIfInBounds_toArray, List.set_cons_zero, List.set_cons_succ]
      refine wpAnyH_done (by kernel_rfl) ?_ _
      go_wp2
      go_meet
      case rel => exact ⟨aF, cF, rfl, HF.out, HM.out, HK.out⟩
    clear HM HK
    obtain ⟨sa, cs, rfl, hs, hm, hk⟩ := hcut
    have HSO := Lib.hid hs
    have HM := Lib.hid hm
    have HK := Lib.hid hk
    clear hs hm hk
    go_upto_region 11 with fail
    go_cut [13] (fun v wx => ∃ a c, v = .slice a N c ∧ BE.Row wx Any a N (List.replicate N true) ∧ BE.Row wx Any sa N ((List.range N).map fun k => decide (Mf.til m (k : Nat) ≤ (t : Int))) ∧ MB wx Any g P m ∧ Txt wx Any a1 n1 p1 l1 ∧ Txt wx Any a0 n0 p0 l0 ∧ Roots wx ∧ Below w.heap.size w wx)
    case first => as_aux_lemma =>
      have hb : Below wc.heap.size wc wc.drew := (Below.refl _ wc).drew
      have HM := Lib.hid (mb_on HM.out hb)
      have HK := Lib.hid (And.intro (txt_on HK.out.1 hb) (And.intro (txt_on HK.out.2.1 hb) (keeps HK.out.2.2 hb)))
      have HSO := Lib.hid (HSO.out.on hb)
      clear hb
      have hk0 := HM.out.1
      refine wp_region_held_drew (S := fun wq => Whole wq g 34 P) (by kernel_rfl) hk0 (fun hHeld => ?_)
      generalize wc.drew = wd at *
      clear hk0
      refine wpAnyH_take (i := 0) (v := .agg P) rfl (by kernel_rfl) (by kernel_rfl) (by kernel_rfl) (fun _ _ _ h => h) (yields_mb (by rfl) _ rfl g rfl P hP (fun wq hSw => hSw)) (by assumption) ?_
      try simp only [Act.put, List.getElem_toArray, List.getElem_cons_zero, List.getElem_cons_succ, List.setIfInBounds_toArray, List.set_cons_zero, List.set_cons_succ]
      refine wpAnyH_take (i := 2) (v := .slice a1 n1 p1) rfl (by kernel_rfl) (by kernel_rfl) (by kernel_rfl) (fun _ _ _ h => h) (Or.inl ⟨by rfl, (by intro w hSw; (try dsimp only at hSw); go_simp)⟩) (by assumption) ?_
      try simp only [Act.put, List.getElem_toArray, List.getElem_cons_zero, List.getElem_cons_succ, List.setIfInBounds_toArray, List.set_cons_zero, List.set_cons_succ]
      refine wpAnyH_take (i := 4) (v := .slice a0 n0 p0) rfl (by kernel_rfl) (by kernel_rfl) (by kernel_rfl) (fun _ _ _ h => h) (Or.inl ⟨by rfl, (by intro w hSw; (try dsimp only at hSw); go_simp)⟩) (by assumption) ?_
      try simp only [Act.put, List.getElem_toArray, List.getElem_cons_zero, List.getElem_cons_succ, List.setIfInBounds_toArray, List.set_cons_zero, List.set_cons_succ]
      refine wpAnyH_ready (rs := [1]) (by kernel_rfl) (by simp) (AllReadyH.cons rfl (fun K hK => ?_) AllReadyH.nil)
      try simp only [List.getElem_toArray, List.getElem_cons_zero, List.getElem_cons_succ]
      go_simp
      have hown : (wd.alloc (.cells #[] 5)).ownsRow wd.heap.size 5 1 (.slice (some ⟨wd.heap.size, 0, none⟩) 0 0) 0 [] := U8.empty_own wd
      have hb : Below wd.heap.size wd (wd.alloc (.cells #[] 5)) := below_alloc _ _
      have hsz : wd.heap.size ≤ (wd.alloc (.cells #[] 5)).heap.size := hb.size
      have HO := Lib.hid (And.intro hown (And.intro hb hsz))
      clear hown hb hsz hHeld
      generalize wd.alloc (.cells #[] 5) = we at *
      obtain ⟨gl, hgl⟩ : ∃ gl, wd.heap.size = gl := ⟨_, rfl⟩
      have HGL := Lib.hid hgl
      rw [hgl] at HO ⊢
      clear hgl
      have hk := HM.out.1.below HO.out.2.1 (by rw [← HGL.out]; exact HM.out.1.lt)
      refine hK.out _ _ hk (fun hHeld => ?_)
      clear hK K hHeld
      try simp only [Act.put, List.getElem_toArray, List.getElem_cons_zero, List.getElem_cons_succ, List.setIfInBounds_toArray, List.set_cons_zero, List.set_cons_succ]
      have hHeld := hk
      clear hk
      refine wpAnyH_ready (rs := [3]) (by kernel_rfl) (by simp) (AllReadyH.cons rfl (fun K hK => ?_) AllReadyH.nil)
      try simp only [List.getElem_toArray, List.getElem_cons_zero, List.getElem_cons_succ]
      refine if_wanted (by rfl) ?_
      refine U8.wp_append _ _ _ rfl gl (.slice (some ⟨gl, 0, none⟩) 0 0) 0 [] rfl HO.out.1 Any a1 n1 p1 l1 rfl (txt_row (txt_on HK.out.1 (by rw [HGL.out]; exact HO.out.2.1))) (by omega) (by omega) HO.out.2.2 ?_
      intro v1 wf hown1 hgr1 _
      rw [Nat.zero_add, List.nil_append] at hown1
      have hb2 : Below gl wd wf := HO.out.2.1.trans ((Below.refl gl we).grown hgr1 HO.out.2.2 (Elem.own_ge HO.out.1))
      obtain ⟨aV, cV, rfl, hV⟩ := Elem.own_of hown1 (HK.out.1.2.2.1) HK.out.1.1
      have HO := Lib.hid (And.intro hown1 (And.intro hb2 (Nat.le_trans HO.out.2.2 hgr1.size)))
      have hk := HM.out.1.below HO.out.2.1 (by rw [← HGL.out]; exact HM.out.1.lt)
      clear hown1 hgr1 hb2 hHeld hV
      refine hK.out _ _ hk (fun hHeld => ?_)
      clear hK K hHeld
      try simp only [Act.put, List.getElem_toArray, List.getElem_cons_zero, List.getElem_cons_succ, List.setIfInBounds_toArray, List.set_cons_zero, List.set_cons_succ]
      have hHeld := hk
      clear hk
      refine wpAnyH_ready (rs := [5]) (by kernel_rfl) (by simp) (AllReadyH.cons rfl (fun K hK => ?_) AllReadyH.nil)
      try simp only [List.getElem_toArray, List.getElem_cons_zero, List.getElem_cons_succ]
      refine if_wanted (by rfl) ?_
      refine U8.wp_append _ _ _ rfl gl (.slice aV n1 cV) n1 (U8.flat l1) rfl HO.out.1 Any a0 n0 p0 l0 rfl (txt_row (txt_on HK.out.2.1 (by rw [HGL.out]; exact HO.out.2.1))) (by omega) (by omega) HO.out.2.2 ?_
      intro v2 wh hown2 hgr2 _
      rw [← Elem.flat_append] at hown2
      have hb3 : Below gl wd wh := HO.out.2.1.trans ((Below.refl gl wf).grown hgr2 HO.out.2.2 (Elem.own_ge HO.out.1))
      obtain ⟨aW, cW, rfl, hW⟩ := Elem.own_of hown2 (fun x hx => by rcases List.mem_append.1 hx with h | h; exact HK.out.1.2.2.1 x h; exact HK.out.2.1.2.2.1 x h) (by rw [List.length_append, HK.out.1.1, HK.out.2.1.1])
      have HT := Lib.hid (row_of hW.any hW.cap)
      have hb : Below wd.heap.size wd wh := by rw [HGL.out]; exact hb3
      have HM := Lib.hid (mb_on HM.out hb)
      have HK := Lib.hid (And.intro (txt_on HK.out.1 hb) (And.intro (txt_on HK.out.2.1 hb) (keeps HK.out.2.2 hb)))
      have HSO := Lib.hid (HSO.out.on hb)
      clear hown2 hgr2 hb3 hHeld hW hb HO
      have hk := HM.out.1
      refine hK.out _ _ hk (fun hHeld => ?_)
      clear hK K hHeld
      try simp only [Act.put, List.getElem_toArray, List.getElem_cons_zero, List.getElem_cons_succ, List.setIfInBounds_toArray, List.set_cons_zero, List.set_cons_succ]
      have hHeld := hk
      clear hk
      refine wpAnyH_ready (rs := [6]) (by kernel_rfl) (by simp) (AllReadyH.cons rfl (fun K hK => ?_) AllReadyH.nil)
      try simp only [List.getElem_toArray, List.getElem_cons_zero, List.getElem_cons_succ]
      go_simp
      refine (HG.out.find HM.out.2 (by rw [HBT.out.2.len]; have := HBT.out.2.n64; omega) HT.out (by omega) HK.out.2.2.1).mono ?_
      rintro e wa ⟨aF, nF, cF, rfl, ho, hb⟩
      rw [HBT.out.2.full] at ho
      obtain rfl : nF = N := by rw [← ho.len]; simp
      have HF := Lib.hid ho.any
      have HM := Lib.hid (mb_on HM.out hb)
      have HK := Lib.hid (And.intro (txt_on HK.out.1 hb) (And.intro (txt_on HK.out.2.1 hb) (keeps HK.out.2.2 hb)))
      have HSO := Lib.hid (HSO.out.on hb)
      clear ho hb hHeld HT
      have hk := HM.out.1
      go_wp2_with fail
      refine hK.out _ _ hk (fun hHeld => ?_)
      clear hK K hHeld
      try simp only [Act.put, List.getElem_toArray, List.getElem_cons_zero, List.getElem_cons_succ, List.setIfInBounds_toArray, List.set_cons_zero, List.set_cons_succ]
      have hHeld := hk
      clear hk
      refine wpAnyH_take (i := 7) (v := .slice aF nF cF) rfl (by kernel_rfl) (by kernel_rfl) (by kernel_rfl) (fun _ _ _ h => h) (Or.inl ⟨by rfl, (by intro w hSw; (try dsimp only at hSw); go_simp)⟩) (by assumption) ?_
      try simp only [Act.put, List.getElem_toArray, List.getElem_cons_zero, List.getElem_cons_succ, List.setIfInBounds_toArray, List.set_cons_zero, List.set_cons_succ]
      refine wpAnyH_done (by kernel_rfl) ?_ _
      go_wp2
      go_meet
      case rel => exact ⟨aF, cF, rfl, HF.out, HSO.out, HM.out, HK.out⟩
    clear HM HK HSO
    obtain ⟨fa, cf, rfl, hf, hs, hm, hk⟩ := hcut
    obtain ⟨ad, cd, hP2⟩ := mv_ds hm.2
    rw [HBT.out.2.len] at hP2
    have HQ := Lib.hid (And.intro hf (And.intro hs (And.intro hm hk.2.2)))
    have c2 : wc.cell? ⟨g, 2, none⟩ = some (.slice ad N cd) := by rw [hm.1.cell]; exact hP2
    have q1 : ((N : Int) != (N : Int)) = false := by simp
    have hN1 : N ≤ 64 := HBT.out.2.n64
    clear hf hs hm hk
    go_wp2
    clear c2 q1
    go_loopw [8, 14, 15, 16] (fun r v _ _ wr => ∃ k : Nat, k ≤ N ∧ r = .bool false ∧ v = .int .i64 (k : Int) ∧ Hid (BE.Row wr Any fa N (List.replicate N true) ∧ BE.Row wr Any sa N ((List.range N).map fun k => decide (Mf.til m (k : Nat) ≤ (t : Int))) ∧ MB wr Any g P m ∧ Roots wr ∧ Below w.heap.size w wr)) (fun _ v _ _ _ => N - (intOf v).toNat)
    case atStart => exact ⟨0, Nat.zero_le _, rfl, rfl, HQ⟩
    case round =>
      clear HQ
      obtain ⟨k, hk, rfl, rfl, HQ⟩ := hrel
      by_cases hlt : k < N
      case neg =>
        have q1 : ¬ ((k : Int) < (N : Int)) := by omega
        go_wp2_with fail
        refine (HG.out.done HQ.out.1 (by omega)).mono ?_
        rintro e w5 ⟨rfl, hb⟩
        rw [done_is, Tr.missing_rep_true, List.length_replicate, decide_eq_true (show 0 < N from HBT.out.2.one)]
        have HQ := Lib.hid (And.intro (HQ.out.1.on hb) (keeps HQ.out.2.2.2 hb))
        clear hb
        go_wp2_with fail
        refine (HG.out.missing HQ.out.1 (by omega)).mono ?_
        rintro e w6 ⟨rfl, hb⟩
        rw [Tr.missing_rep_true]
        have HQ := Lib.hid (keeps HQ.out.2 hb)
        clear hb
        go_wp2
        go_ret
        exact ⟨rfl, HQ.out.2⟩
      have q1 : (k : Int) < (N : Int) := by omega
      have HM := Lib.hid HQ.out.2.2.1
      obtain ⟨T, hT⟩ : ∃ T, Mf.til m (k : Int) = T := ⟨_, rfl⟩
      have HT := Lib.hid hT
      clear hT
      go_wp2_with (first | ((with_reducible show wpList _ _ _ ((⟨some 79, Op.load 34 (.tmp 10), _, _, _, _⟩ : Oper) :: _) _ _); refine wpList_load_rowG (by rfl) _ (.tmp 10) rfl g rfl 34 P (0, 0) _ HM.out.1 Tryd.underlying34 rfl (by rw [hP]; exact info35) ?_) | fail)
      refine (part_any HM.out.2 (i := (k : Int)) (by constructor <;> omega)).mono ?_
      rintro e w5 ⟨rfl, hb⟩
      rw [HT.out]
      have HQ := Lib.hid (And.intro (HQ.out.1.on hb) (And.intro (HQ.out.2.1.on hb) (And.intro (mb_on HQ.out.2.2.1 hb) (keeps HQ.out.2.2.2 hb))))
      clear hb HM
      obtain ⟨gf, of, hff, _, _, cff⟩ := be_cells HQ.out.1 (by omega)
      obtain ⟨gs, os, hss, _, _, css⟩ := be_cells HQ.out.2.1 (by omega)
      subst hff hss
      have cf := cff k hlt
      have cs' := css k hlt
      have ef : (List.replicate N true).getD k false = true := by simp [hlt]
      have es : ((List.range N).map fun k => decide (Mf.til m (k : Nat) ≤ (t : Int))).getD k false = decide (T ≤ (t : Int)) := by rw [← HT.out]; simp [hlt]
      rw [ef] at cf
      rw [es] at cs'
      clear cff css ef es
      by_cases hle : T ≤ (t : Int)
      · rw [decide_eq_true hle] at cs'
        go_wp2
        exact ⟨⟨k + 1, by omega, rfl, by go_num, HQ⟩, by simp [intOf]; omega⟩
      · rw [decide_eq_false hle] at cs'
        go_wp2
        exact ⟨⟨k + 1, by omega, rfl, by go_num, HQ⟩, by simp [intOf]; omega⟩
  · obtain ⟨t, hmod, htl⟩ := mod_nat nn (by omega) n1
    have HTL := Lib.hid htl
    go_upto_region 10 with fail
    clear hmod
    go_cut [12] (fun v wx => ∃ a c, v = .slice a N c ∧ BE.Row wx Any a N ((List.range N).map fun k => decide (Mf.til m (k : Nat) ≤ (t : Int))) ∧ MB wx Any g P m ∧ Txt wx Any a1 n1 p1 l1 ∧ Txt wx Any a0 n0 p0 l0 ∧ Roots wx ∧ Below w.heap.size w wx)
    case first => as_aux_lemma =>
      have hb : Below w3.heap.size w3 w3.drew := (Below.refl _ w3).drew
      have HM := Lib.hid (mb_on HM.out hb)
      have HK := Lib.hid (And.intro (txt_on HK.out.1 hb) (And.intro (txt_on HK.out.2.1 hb) (keeps HK.out.2.2 hb)))
      clear hb
      have hk0 := HM.out.1
      refine wp_region_held_drew (S := fun wq => Whole wq g 34 P) (by kernel_rfl) hk0 (fun hHeld => ?_)
      generalize w3.drew = wd at *
      clear hk0
      have hsl := Co.slice_to (a := a1) (n := n1) (c := p1) (k := t) (by have := HN.out.2; have := HTL.out; omega)
      refine wpAnyH_take (i := 0) (v := .agg P) rfl (by kernel_rfl) (by kernel_rfl) (by kernel_rfl) (fun _ _ _ h => h) (yields_mb (by rfl) _ rfl g rfl P hP (fun wq hSw => hSw)) (by assumption) ?_
      try simp only [Act.put, List.getElem_toArray, List.getElem_cons_zero, List.getElem_cons_succ, List.setIfInBounds_toArray, List.set_cons_zero, List.set_cons_succ]
      refine wpAnyH_take (i := 1) (v := .slice a1 n1 p1) rfl (by kernel_rfl) (by kernel_rfl) (by kernel_rfl) (fun _ _ _ h => h) (Or.inl ⟨by rfl, (by intro w hSw; (try dsimp only at hSw); go_simp)⟩) (by assumption) ?_
      try simp only [Act.put, List.getElem_toArray, List.getElem_cons_zero, List.getElem_cons_succ, List.setIfInBounds_toArray, List.set_cons_zero, List.set_cons_succ]
      refine wpAnyH_take (i := 2) (v := .int .i64 (t : Int)) rfl (by kernel_rfl) (by kernel_rfl) (by kernel_rfl) (fun _ _ _ h => h) (Or.inl ⟨by rfl, (by intro w hSw; (try dsimp only at hSw); go_simp)⟩) (by assumption) ?_
      try simp only [Act.put, List.getElem_toArray, List.getElem_cons_zero, List.getElem_cons_succ, List.setIfInBounds_toArray, List.set_cons_zero, List.set_cons_succ]
      refine wpAnyH_take (i := 3) (v := .slice a1 t p1) rfl (by kernel_rfl) (by kernel_rfl) (by kernel_rfl) (fun _ _ _ h => h) (Or.inl ⟨by rfl, (by intro w hSw; (try dsimp only at hSw); go_simp)⟩) (by assumption) ?_
      try simp only [Act.put, List.getElem_toArray, List.getElem_cons_zero, List.getElem_cons_succ, List.setIfInBounds_toArray, List.set_cons_zero, List.set_cons_succ]
      clear hsl
      refine wpAnyH_ready (rs := [4]) (by kernel_rfl) (by simp) (AllReadyH.cons rfl (fun K hK => ?_) AllReadyH.nil)
      try simp only [List.getElem_toArray, List.getElem_cons_zero, List.getElem_cons_succ]
      go_simp
      refine (HG.out.find HM.out.2 (by rw [HBT.out.2.len]; have := HBT.out.2.n64; omega) (HK.out.1.take t HTL.out) (by omega) HK.out.2.2.1).mono ?_
      rintro e wa ⟨aF, nF, cF, rfl, ho, hb⟩
      rw [HBT.out.2.begins (by rw [HN.out.1]; exact HTL.out)] at ho
      obtain rfl : nF = N := by rw [← ho.len]; simp
      have HF := Lib.hid ho.any
      have HM := Lib.hid (mb_on HM.out hb)
      have HK := Lib.hid (And.intro (txt_on HK.out.1 hb) (And.intro (txt_on HK.out.2.1 hb) (keeps HK.out.2.2 hb)))
      clear ho hb hHeld
      have hk := HM.out.1
      go_wp2_with fail
      refine hK.out _ _ hk (fun hHeld => ?_)
      clear hK K hHeld
      try simp only [Act.put, List.getElem_toArray, List.getElem_cons_zero, List.getElem_cons_succ, List.setIfInBounds_toArray, List.set_cons_zero, List.set_cons_succ]
      have hHeld := hk
      clear hk
      refine wpAnyH_take (i := 5) (v := .slice aF nF cF) rfl (by kernel_rfl) (by kernel_rfl) (by kernel_rfl) (fun _ _ _ h => h) (Or.inl ⟨by rfl, (by intro w hSw; (try dsimp only at hSw); go_simp)⟩) (by assumption) ?_
      try simp only [Act.put, List.getElem_toArray, List.getElem_cons_zero, List.getElem_cons_succ, List.setIfInBounds_toArray, List.set_cons_zero, List.set_cons_succ]
      refine wpAnyH_done (by kernel_rfl) ?_ _
      go_wp2
      go_meet
      case rel => exact ⟨aF, cF, rfl, HF.out, HM.out, HK.out⟩
    clear HM HK
    obtain ⟨sa, cs, rfl, hs, hm, hk⟩ := hcut
    have HSO := Lib.hid hs
    have HM := Lib.hid hm
    have HK := Lib.hid hk
    clear hs hm hk
    go_upto_region 11 with fail
    go_cut [13] (fun v wx => ∃ a c, v = .slice a N c ∧ BE.Row wx Any a N (List.replicate N true) ∧ BE.Row wx Any sa N ((List.range N).map fun k => decide (Mf.til m (k : Nat) ≤ (t : Int))) ∧ MB wx Any g P m ∧ Txt wx Any a1 n1 p1 l1 ∧ Txt wx Any a0 n0 p0 l0 ∧ Roots wx ∧ Below w.heap.size w wx)
    case first => as_aux_lemma =>
      have hb : Below wc.heap.size wc wc.drew := (Below.refl _ wc).drew
      have HM := Lib.hid (mb_on HM.out hb)
      have HK := Lib.hid (And.intro (txt_on HK.out.1 hb) (And.intro (txt_on HK.out.2.1 hb) (keeps HK.out.2.2 hb)))
      have HSO := Lib.hid (HSO.out.on hb)
      clear hb
      have hk0 := HM.out.1
      refine wp_region_held_drew (S := fun wq => Whole wq g 34 P) (by kernel_rfl) hk0 (fun hHeld => ?_)
      generalize wc.drew = wd at *
      clear hk0
      refine wpAnyH_take (i := 0) (v := .agg P) rfl (by kernel_rfl) (by kernel_rfl) (by kernel_rfl) (fun _ _ _ h => h) (yields_mb (by rfl) _ rfl g rfl P hP (fun wq hSw => hSw)) (by assumption) ?_
      try simp only [Act.put, List.getElem_toArray, List.getElem_cons_zero, List.getElem_cons_succ, List.setIfInBounds_toArray, List.set_cons_zero, List.set_cons_succ]
      refine wpAnyH_take (i := 2) (v := .slice a1 n1 p1) rfl (by kernel_rfl) (by kernel_rfl) (by kernel_rfl) (fun _ _ _ h => h) (Or.inl ⟨by rfl, (by intro w hSw; (try dsimp only at hSw); go_simp)⟩) (by assumption) ?_
      try simp only [Act.put, List.getElem_toArray, List.getElem_cons_zero, List.getElem_cons_succ, List.setIfInBounds_toArray, List.set_cons_zero, List.set_cons_succ]
      refine wpAnyH_take (i := 4) (v := .slice a0 n0 p0) rfl (by kernel_rfl) (by kernel_rfl) (by kernel_rfl) (fun _ _ _ h => h) (Or.inl ⟨by rfl, (by intro w hSw; (try dsimp only at hSw); go_simp)⟩) (by assumption) ?_
      try simp only [Act.put, List.getElem_toArray, List.getElem_cons_zero, List.getElem_cons_succ, List.setIfInBounds_toArray, List.set_cons_zero, List.set_cons_succ]
      refine wpAnyH_ready (rs := [1]) (by kernel_rfl) (by simp) (AllReadyH.cons rfl (fun K hK => ?_) AllReadyH.nil)
      try simp only [List.getElem_toArray, List.getElem_cons_zero, List.getElem_cons_succ]
      go_simp
      have hown : (wd.alloc (.cells #[] 5)).ownsRow wd.heap.size 5 1 (.slice (some ⟨wd.heap.size, 0, none⟩) 0 0) 0 [] := U8.empty_own wd
      have hb : Below wd.heap.size wd (wd.alloc (.cells #[] 5)) := below_alloc _ _
      have hsz : wd.heap.size ≤ (wd.alloc (.cells #[] 5)).heap.size := hb.size
      have HO := Lib.hid (And.intro hown (And.intro hb hsz))
      clear hown hb hsz hHeld
      generalize wd.alloc (.cells #[] 5) = we at *
      obtain ⟨gl, hgl⟩ : ∃ gl, wd.heap.size = gl := ⟨_, rfl⟩
      have HGL := Lib.hid hgl
      rw [hgl] at HO ⊢
      clear hgl
      have hk := HM.out.1.below HO.out.2.1 (by rw [← HGL.out]; exact HM.out.1.lt)
      refine hK.out _ _ hk (fun hHeld => ?_)
      clear hK K hHeld
      try simp only [Act.put, List.getElem_toArray, List.getElem_cons_zero, List.getElem_cons_succ, List.setIfInBounds_toArray, List.set_cons_zero, List.set_cons_succ]
      have hHeld := hk
      clear hk
      refine wpAnyH_ready (rs := [3]) (by kernel_rfl) (by simp) (AllReadyH.cons rfl (fun K hK => ?_) AllReadyH.nil)
      try simp only [List.getElem_toArray, List.getElem_cons_zero, List.getElem_cons_succ]
      refine if_wanted (by rfl) ?_
      refine U8.wp_append _ _ _ rfl gl (.slice (some ⟨gl, 0, none⟩) 0 0) 0 [] rfl HO.out.1 Any a1 n1 p1 l1 rfl (txt_row (txt_on HK.out.1 (by rw [HGL.out]; exact HO.out.2.1))) (by omega) (by omega) HO.out.2.2 ?_
      intro v1 wf hown1 hgr1 _
      rw [Nat.zero_add, List.nil_append] at hown1
      have hb2 : Below gl wd wf := HO.out.2.1.trans ((Below.refl gl we).grown hgr1 HO.out.2.2 (Elem.own_ge HO.out.1))
      obtain ⟨aV, cV, rfl, hV⟩ := Elem.own_of hown1 (HK.out.1.2.2.1) HK.out.1.1
      have HO := Lib.hid (And.intro hown1 (And.intro hb2 (Nat.le_trans HO.out.2.2 hgr1.size)))
      have hk := HM.out.1.below HO.out.2.1 (by rw [← HGL.out]; exact HM.out.1.lt)
      clear hown1 hgr1 hb2 hHeld hV
      refine hK.out _ _ hk (fun hHeld => ?_)
      clear hK K hHeld
      try simp only [Act.put, List.getElem_toArray, List.getElem_cons_zero, List.getElem_cons_succ, List.setIfInBounds_toArray, List.set_cons_zero, List.set_cons_succ]
      have hHeld := hk
      clear hk
      refine wpAnyH_ready (rs := [5]) (by kernel_rfl) (by simp) (AllReadyH.cons rfl (fun K hK => ?_) AllReadyH.nil)
      try simp only [List.getElem_toArray, List.getElem_cons_zero, List.getElem_cons_succ]
      refine if_wanted (by rfl) ?_
      refine U8.wp_append _ _ _ rfl gl (.slice aV n1 cV) n1 (U8.flat l1) rfl HO.out.1 Any a0 n0 p0 l0 rfl (txt_row (txt_on HK.out.2.1 (by rw [HGL.out]; exact HO.out.2.1))) (by omega) (by omega) HO.out.2.2 ?_
      intro v2 wh hown2 hgr2 _
      rw [← Elem.flat_append] at hown2
      have hb3 : Below gl wd wh := HO.out.2.1.trans ((Below.refl gl wf).grown hgr2 HO.out.2.2 (Elem.own_ge HO.out.1))
      obtain ⟨aW, cW, rfl, hW⟩ := Elem.own_of hown2 (fun x hx => by rcases List.mem_append.1 hx with h | h; exact HK.out.1.2.2.1 x h; exact HK.out.2.1.2.2.1 x h) (by rw [List.length_append, HK.out.1.1, HK.out.2.1.1])
      have HT := Lib.hid (row_of hW.any hW.cap)
      have hb : Below wd.heap.size wd wh := by rw [HGL.out]; exact hb3
      have HM := Lib.hid (mb_on HM.out hb)
      have HK := Lib.hid (And.intro (txt_on HK.out.1 hb) (And.intro (txt_on HK.out.2.1 hb) (keeps HK.out.2.2 hb)))
      have HSO := Lib.hid (HSO.out.on hb)
      clear hown2 hgr2 hb3 hHeld hW hb HO
      have hk := HM.out.1
      refine hK.out _ _ hk (fun hHeld => ?_)
      clear hK K hHeld
      try simp only [Act.put, List.getElem_toArray, List.getElem_cons_zero, List.getElem_cons_succ, List.setIfInBounds_toArray, List.set_cons_zero, List.set_cons_succ]
      have hHeld := hk
      clear hk
      refine wpAnyH_ready (rs := [6]) (by kernel_rfl) (by simp) (AllReadyH.cons rfl (fun K hK => ?_) AllReadyH.nil)
      try simp only [List.getElem_toArray, List.getElem_cons_zero, List.getElem_cons_succ]
      go_simp
      refine (HG.out.find HM.out.2 (by rw [HBT.out.2.len]; have := HBT.out.2.n64; omega) HT.out (by omega) HK.out.2.2.1).mono ?_
      rintro e wa ⟨aF, nF, cF, rfl, ho, hb⟩
      rw [HBT.out.2.full] at ho
      obtain rfl : nF = N := by rw [← ho.len]; simp
      have HF := Lib.hid ho.any
      have HM := Lib.hid (mb_on HM.out hb)
      have HK := Lib.hid (And.intro (txt_on HK.out.1 hb) (And.intro (txt_on HK.out.2.1 hb) (keeps HK.out.2.2 hb)))
      have HSO := Lib.hid (HSO.out.on hb)
      clear ho hb hHeld HT
      have hk := HM.out.1
      go_wp2_with fail
      refine hK.out _ _ hk (fun hHeld => ?_)
      clear hK K hHeld
      try simp only [Act.put, List.getElem_toArray, List.getElem_cons_zero, List.getElem_cons_succ, List.setIfInBounds_toArray, List.set_cons_zero, List.set_cons_succ]
      have hHeld := hk
      clear hk
      refine wpAnyH_take (i := 7) (v := .slice aF nF cF) rfl (by kernel_rfl) (by kernel_rfl) (by kernel_rfl) (fun _ _ _ h => h) (Or.inl ⟨by rfl, (by intro w hSw; (try dsimp only at hSw); go_simp)⟩) (by assumption) ?_
      try simp only [Act.put, List.getElem_toArray, List.getElem_cons_zero, List.getElem_cons_succ, List.setIfInBounds_toArray, List.set_cons_zero, List.set_cons_succ]
      refine wpAnyH_done (by kernel_rfl) ?_ _
      go_wp2
      go_meet
      case rel => exact ⟨aF, cF, rfl, HF.out, HSO.out, HM.out, HK.out⟩
    clear HM HK HSO
    obtain ⟨fa, cf, rfl, hf, hs, hm, hk⟩ := hcut
    obtain ⟨ad, cd, hP2⟩ := mv_ds hm.2
    rw [HBT.out.2.len] at hP2
    have HQ := Lib.hid (And.intro hf (And.intro hs (And.intro hm hk.2.2)))
    have c2 : wc.cell? ⟨g, 2, none⟩ = some (.slice ad N cd) := by rw [hm.1.cell]; exact hP2
    have q1 : ((N : Int) != (N : Int)) = false := by simp
    have hN1 : N ≤ 64 := HBT.out.2.n64
    clear hf hs hm hk
    go_wp2
    clear c2 q1
    go_loopw [8, 14, 15, 16] (fun r v _ _ wr => ∃ k : Nat, k ≤ N ∧ r = .bool false ∧ v = .int .i64 (k : Int) ∧ Hid (BE.Row wr Any fa N (List.replicate N true) ∧ BE.Row wr Any sa N ((List.range N).map fun k => decide (Mf.til m (k : Nat) ≤ (t : Int))) ∧ MB wr Any g P m ∧ Roots wr ∧ Below w.heap.size w wr)) (fun _ v _ _ _ => N - (intOf v).toNat)
    case atStart => exact ⟨0, Nat.zero_le _, rfl, rfl, HQ⟩
    case round =>
      clear HQ
      obtain ⟨k, hk, rfl, rfl, HQ⟩ := hrel
      by_cases hlt : k < N
      case neg =>
        have q1 : ¬ ((k : Int) < (N : Int)) := by omega
        go_wp2_with fail
        refine (HG.out.done HQ.out.1 (by omega)).mono ?_
        rintro e w5 ⟨rfl, hb⟩
        rw [done_is, Tr.missing_rep_true, List.length_replicate, decide_eq_true (show 0 < N from HBT.out.2.one)]
        have HQ := Lib.hid (And.intro (HQ.out.1.on hb) (keeps HQ.out.2.2.2 hb))
        clear hb
        go_wp2_with fail
        refine (HG.out.missing HQ.out.1 (by omega)).mono ?_
        rintro e w6 ⟨rfl, hb⟩
        rw [Tr.missing_rep_true]
        have HQ := Lib.hid (keeps HQ.out.2 hb)
        clear hb
        go_wp2
        go_ret
        exact ⟨rfl, HQ.out.2⟩
      have q1 : (k : Int) < (N : Int) := by omega
      have HM := Lib.hid HQ.out.2.2.1
      obtain ⟨T, hT⟩ : ∃ T, Mf.til m (k : Int) = T := ⟨_, rfl⟩
      have HT := Lib.hid hT
      clear hT
      go_wp2_with (first | ((with_reducible show wpList _ _ _ ((⟨some 79, Op.load 34 (.tmp 10), _, _, _, _⟩ : Oper) :: _) _ _); refine wpList_load_rowG (by rfl) _ (.tmp 10) rfl g rfl 34 P (0, 0) _ HM.out.1 Tryd.underlying34 rfl (by rw [hP]; exact info35) ?_) | fail)
      refine (part_any HM.out.2 (i := (k : Int)) (by constructor <;> omega)).mono ?_
      rintro e w5 ⟨rfl, hb⟩
      rw [HT.out]
      have HQ := Lib.hid (And.intro (HQ.out.1.on hb) (And.intro (HQ.out.2.1.on hb) (And.intro (mb_on HQ.out.2.2.1 hb) (keeps HQ.out.2.2.2 hb))))
      clear hb HM
      obtain ⟨gf, of, hff, _, _, cff⟩ := be_cells HQ.out.1 (by omega)
      obtain ⟨gs, os, hss, _, _, css⟩ := be_cells HQ.out.2.1 (by omega)
      subst hff hss
      have cf := cff k hlt
      have cs' := css k hlt
      have ef : (List.replicate N true).getD k false = true := by simp [hlt]
      have es : ((List.range N).map fun k => decide (Mf.til m (k : Nat) ≤ (t : Int))).getD k false = decide (T ≤ (t : Int)) := by rw [← HT.out]; simp [hlt]
      rw [ef] at cf
      rw [es] at cs'
      clear cff css ef es
      by_cases hle : T ≤ (t : Int)
      · rw [decide_eq_true hle] at cs'
        go_wp2
        exact ⟨⟨k + 1, by omega, rfl, by go_num, HQ⟩, by simp [intOf]; omega⟩
      · rw [decide_eq_false hle] at cs'
        go_wp2
        exact ⟨⟨k + 1, by omega, rfl, by go_num, HQ⟩, by simp [intOf]; omega⟩
end Go.Proofs.YtiogfkhmigbgpaaDoor
