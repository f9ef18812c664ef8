/-
  The walk of TransferEnds.
-/
import Derived.Test.YtiogfkhmigbgpaaDoorXk
namespace Go.Proofs.YtiogfkhmigbgpaaDoor
open Go.RowKit Go.Great
set_option linter.unusedVariables false
set_option linter.unusedSimpArgs false
set_option maxRecDepth 20000
theorem build_none {w : World} {S : Nat → Prop} {a : Option Addr} {n c : Nat} {img : List Int} {ch : Int} (ht : Txt w S a n c img) (hch : In64 ch) (hn : n ≤ 9223372036854775807) (hN : Mf.cnt img.length ch = 0) :
    Calls Tryd.prog 20 #[.slice a n c, .int .i64 ch] w (Bldd w img ch) := by
  have HBZ := Lib.hid (bld_zero hN)
  rw [ht.1] at hN
  have HN := Lib.hid hN
  have HCH := Lib.hid hch
  have hall := mcs_one (s := 0) (c := 0) (v := .slice none 0 0) (h := zs 32) rfl
  clear ht hch hN
  go_enter Tryd.func20, Tryd.ntmps20
  go_wp2_with (first
    | (go_at_call 35; refine (count_any _ _ _ ⟨by omega, by omega⟩ HCH.out).mono ?_; rintro e w1 ⟨rfl, rfl⟩; rw [HN.out])
    | ((with_reducible show wpList _ _ _ ((⟨_, Op.build 34 _, _, _, _, _⟩ : Oper) :: _) _ _); refine wpList_built rfl _ rfl _ rfl _ built_nil ?_)
    | ((with_reducible show wpList _ _ _ ((⟨_, Op.store 34 _ _, _, _, _, _⟩ : Oper) :: _) _ _); refine wpList_store_row rfl _ (.tmp 4) (.tmp 14) rfl w.heap.size zm rfl rfl 34 _ (Whole.new w _ _) (by rw [zm_size]; exact info35) (by rw [zm_size]; rfl) hall ?_))
  refine bodyPost_ret (results_cell_one rfl _ _ _ _ rfl (loadVar35 ((Whole.new w _ _).row zm) zm_size)) rfl ?_
  exact ⟨⟨_, by rw [HBZ.out.2]; rfl, by rw [HBZ.out.1]; exact zm_mv _ _⟩, below_row (below_alloc w _) (Nat.le_refl _) _⟩
theorem build_all {w : World} {S : Nat → Prop} {a : Option Addr} {n c : Nat} {img : List Int} {ch : Int} (ht : Txt w S a n c img) (hch : In64 ch) (hn : n ≤ 9223372036854775807) (hR : Roots w) :
    Calls Tryd.prog 20 #[.slice a n c, .int .i64 ch] w (Bldd w img ch) := by
  by_cases h : Mf.cnt img.length ch = 0
  · exact build_none ht hch hn h
  · have hi := Mf.cnt_in h
    exact build_any ht hch (by rw [← ht.1]; omega) hR
theorem make_bytes (n : Nat) (hn : n ≤ 1000000) (w : World) : (Instr.makeSlice 35 (.int .i64 (n : Int)) (.int .i64 (n : Int))).run Tryd.prog w = .ok (.slice (some ⟨w.heap.size, 0, none⟩) n n) (w.alloc (.cells (nums (List.replicate n 0)).toArray 5)) := by
  have h := run_make_row' (P := Tryd.prog) 35 5 (.int .u8 0) 1 Tryd.underlying35 u8_info rfl .i64 .i64 n (by omega) (by omega) w
  have e : madeCells #[Value.int .u8 0] n = (nums (List.replicate n 0)).toArray := by
    apply Array.ext
    · simp [nums, size_madeCells]
    · intro i h1 h2
      simp [madeCells, nums, Nat.mod_one]
  rw [← e]
  exact h
set_option maxHeartbeats 32000000 in
theorem ends_walk (hg : Trn) (hw : Awake) {w : World} {S1 S2 : Nat → Prop} {a1 : Option Addr} {n1 p1 : Nat} {l1 : List Int} (hb1 : Txt w S1 a1 n1 p1 l1) (hp1 : n1 ≤ 9223372036854775807) (ch : Int) (hch : In64 ch) {a2 : Option Addr} {n2 p2 : Nat} {ps : List (List Bool)} (hp : Bns w S2 a2 n2 ps) (d : Int) (hd0 : 0 ≤ d) (hd : d < 18446744073709551616) (hR : Roots w) :
    Calls Tryd.prog 5 #[.slice a1 n1 p1, .int .i64 ch, .slice a2 n2 p2, .int .u64 d] w fun e w' => e = .returned (.bool true) ∧ Below w.heap.size w w' := by
  have HG := Lib.hid hg
  have HA := Lib.hid hw
  have HI := Lib.hid (And.intro hch (And.intro hd0 (And.intro hd hp1)))
  have HN := Lib.hid (And.intro hb1.1 (And.intro hp.1 hb1.2.1))
  have HK : Hid (Txt w Any a1 n1 p1 l1 ∧ Bns w Any a2 n2 ps ∧ Roots w ∧ Below w.heap.size w w) := Lib.hid ⟨txt_any hb1, hp.weak (fun _ _ _ => trivial), hR, Below.refl _ _⟩
  clear hg hw hd0 hd hch hb1 hp hR
  go_enter Tryd.func5, Tryd.ntmps5
  go_wp2_with fail
  refine (HA.out w HK.out.2.2.1).mono ?_
  rintro e w1 ⟨rfl, hb⟩
  have HK := Lib.hid (And.intro (txt_on HK.out.1 hb) (And.intro (HK.out.2.1.on hb) (keeps HK.out.2.2 hb)))
  clear hb
  go_wp2_with fail
  refine (build_all HK.out.1 HI.out.1 hp1 HK.out.2.2.1).mono ?_
  rintro e w2 ⟨⟨v, rfl, hmv⟩, hb⟩
  have HK := Lib.hid (And.intro (txt_on HK.out.1 hb) (And.intro (HK.out.2.1.on hb) (keeps HK.out.2.2 hb)))
  clear hb
  obtain ⟨P, rfl, hP, hPa⟩ := mv_agg' hmv
  have hb : Below w2.heap.size w2 ((w2.alloc (.cells zm 34)).setRow w2.heap.size P) := below_row (below_alloc w2 _) (Nat.le_refl _) _
  have HM := Lib.hid (mb_put hmv).any
  have HK := Lib.hid (And.intro (txt_on HK.out.1 hb) (And.intro (HK.out.2.1.on hb) (keeps HK.out.2.2 hb)))
  clear hb hmv
  by_cases hN : Mf.cnt l1.length ch = 0
  · have he := (bld_zero hN).2
    have he' : (Mf.berr l1 ch != 0) = true := by rw [he]; rfl
    clear he hN
    go_wp2_with (first | ((with_reducible show wpList _ _ _ ((⟨_, Op.store 34 _ _, _, _, _, _⟩ : Oper) :: _) _ _); rw [zeroM, show (mcs 0 0 (.slice none 0 0) (zs 32)).toArray = zm from rfl]; refine wpList_store_row rfl _ (.tmp 10) (.tmp 35) rfl w2.heap.size P rfl rfl 34 _ (Whole.new w2 _ _) (by rw [hP]; exact info35) (by rw [hP]; rfl) hPa ?_) | fail)
    go_ret
    exact ⟨rfl, HK.out.2.2.2⟩
  have he := (bld_made hN).2
  have hmade := (bld_made hN).1
  rw [hmade] at HM
  obtain ⟨cc, N, hcc, hNN, hbt⟩ := Tr.bt_of hN
  obtain ⟨m, hm⟩ : ∃ m, Mf.made l1 ch = m := ⟨_, rfl⟩
  rw [hm] at HM hbt
  have HBT := Lib.hid hbt
  rw [he]
  clear he hmade hN hcc hNN hbt hm
  go_upto_region 5 with (first | ((with_reducible show wpList _ _ _ ((⟨_, Op.store 34 _ _, _, _, _, _⟩ : Oper) :: _) _ _); rw [zeroM, show (mcs 0 0 (.slice none 0 0) (zs 32)).toArray = zm from rfl]; refine wpList_store_row rfl _ (.tmp 10) (.tmp 35) rfl w2.heap.size P rfl rfl 34 _ (Whole.new w2 _ _) (by rw [hP]; exact info35) (by rw [hP]; rfl) hPa ?_) | fail)
  clear hPa
  obtain ⟨g, hgq⟩ : ∃ g, w2.heap.size = g := ⟨_, rfl⟩
  rw [hgq] at HM HK ⊢
  clear hgq
  generalize (w2.alloc (.cells zm 34)).setRow g P = w3 at *
  try simp only [Act.put, List.getElem_toArray, List.getElem_cons_zero, List.getElem_cons_succ, List.setIfInBounds_toArray, List.set_cons_zero, List.set_cons_succ]
  by_cases z1 : n1 > 600
  · have z1' : (n1 : Int) > 600 := by omega
    go_wp2
    go_ret
    exact ⟨rfl, HK.out.2.2.2⟩
  have z1' : ¬ ((n1 : Int) > 600) := by omega
  by_cases z2 : n2 > 8
  · have z2' : (n2 : Int) > 8 := by omega
    go_wp2
    go_ret
    exact ⟨rfl, HK.out.2.2.2⟩
  have z2' : ¬ ((n2 : Int) > 8) := by omega
  have hN64 : N ≤ 64 := HBT.out.n64
  go_wp2_with (first | ((with_reducible show wpList _ _ _ ((⟨some 49, Op.load 34 (.tmp 10), _, _, _, _⟩ : Oper) :: _) _ _); refine wpList_load_rowG (by rfl) _ (.tmp 10) rfl g rfl 34 P (0, 0) _ HM.out.1 Tryd.underlying34 rfl (by rw [hP]; exact info35) ?_) | fail)
  clear z1' z2'
  refine (HG.out.find HM.out.2 (by rw [HBT.out.len]; omega) HK.out.1 (by omega) HK.out.2.2.1).mono ?_
  rintro e w4 ⟨aA, nA, cA, rfl, ho, hb⟩
  rw [show l1 = l1 ++ [] by simp, HBT.out.full] at ho
  obtain rfl : nA = N := by rw [← ho.len]; simp
  have HM := Lib.hid (mb_on HM.out hb)
  have HK := Lib.hid (And.intro (txt_on HK.out.1 hb) (And.intro (HK.out.2.1.on hb) (keeps HK.out.2.2 hb)))
  have HA2 := Lib.hid ho.any
  clear ho hb
  obtain ⟨xs, hxs⟩ := bns_slices HK.out.2.1
  have HXS := Lib.hid hxs
  clear hxs
  go_upto_region 8 with fail
  go_wp2_with (first
    | ((with_reducible show wpList _ _ _ ((⟨_, Op.buildSlice _ 0 _, _, _, _, _⟩ : Oper) :: _) _ _); refine SE.wpList_build0 (by rfl) rfl ?_)
    | (at_builtin; refine SE.wpList_append _ (by rfl) (.tmp 52) (.tmp 53) rfl w4.heap.size (.slice (some ⟨w4.heap.size, 0, none⟩) 0 0) 0 [] rfl (SE.empty_own w4) Any a2 n2 p2 xs rfl (HXS.out.1.on (below_alloc w4 (.cells #[] 22))) (by omega) (by omega) (by simp) ?_)
    | fail)
  intro v5 w5 hown5 hg5 _
  have hb5 : Below w4.heap.size w4 w5 := (below_alloc w4 (.cells #[] 22)).grown hg5 (below_alloc w4 _).size (fun k hk => by simp [Value.ownBlock] at hk; omega)
  obtain ⟨a5, c5, rfl, h5⟩ := SE.own_of (k := n2) (l := xs) (by simpa using hown5) (fun _ _ => trivial) HXS.out.1.1
  have hz5 : w4.heap.size ≤ w5.heap.size := hb5.size
  have H5 := Lib.hid (And.intro h5 (And.intro hb5 hz5))
  clear hown5 hg5 hb5 h5 hz5
  go_wp2_with (first
    | (at_builtin; refine SE.wpList_append _ (by rfl) (.tmp 54) (.tmp 56) rfl w4.heap.size (.slice a5 n2 c5) n2 (SE.flat xs) rfl (Elem.own_keep H5.out.1.own (fun b hq => Below.heap_alloc w5 _ b (H5.out.1.own.lt b hq).2)) Any (some ⟨w5.heap.size, 0, none⟩) 1 1 [(aA, nA, cA)] rfl (SE.row_one (x := (aA, nA, cA)) (Whole.new _ _ _) trivial trivial) (by omega) (by omega) (by have := H5.out.2.2; simp; omega) ?_)
    | fail)
  intro v6 w6 hown6 hg6 _
  rw [← Elem.flat_append] at hown6
  obtain ⟨al, cl, rfl, h6⟩ := SE.own_of hown6 (fun _ _ => trivial) (by rw [List.length_append, HXS.out.1.1]; rfl)
  have hb : Below w4.heap.size w4 w6 := H5.out.2.1.trans (((Below.refl w4.heap.size w5).alloc H5.out.2.2 _).grown hg6 (by have := H5.out.2.2; simp; omega) (Elem.own_ge H5.out.1.own))
  have hls : Bns w6 Any al (n2 + 1) (ps ++ [List.replicate nA true]) := slices_bns h6.any (by rw [List.length_append, HN.out.2.1]; rfl) (fun k hk => by
    by_cases hk2 : k < n2
    · have e1 : (xs ++ [(aA, nA, cA)]).getD k (none, 0, 0) = xs.getD k (none, 0, 0) := by
        rw [List.getD_eq_getElem?_getD, List.getElem?_append_left (by rw [HXS.out.1.1]; exact hk2), ← List.getD_eq_getElem?_getD]
      have e2 : (ps ++ [List.replicate nA true]).getD k [] = ps.getD k [] := by
        rw [List.getD_eq_getElem?_getD, List.getElem?_append_left (by rw [HN.out.2.1]; exact hk2), ← List.getD_eq_getElem?_getD]
      rw [e1, e2]
      exact (HXS.out.2 k hk2).on hb
    · obtain rfl : k = n2 := by omega
      have e1 : (xs ++ [(aA, nA, cA)]).getD k (none, 0, 0) = (aA, nA, cA) := by
        rw [List.getD_eq_getElem?_getD, List.getElem?_append_right (by rw [HXS.out.1.1]; exact Nat.le_refl _), HXS.out.1.1, Nat.sub_self]
        rfl
      have e2 : (ps ++ [List.replicate nA true]).getD k [] = List.replicate nA true := by
        rw [List.getD_eq_getElem?_getD, List.getElem?_append_right (by rw [HN.out.2.1]; exact Nat.le_refl _), HN.out.2.1, Nat.sub_self]
        rfl
      rw [e1, e2]
      exact HA2.out.on hb)
  have HM := Lib.hid (mb_on HM.out hb)
  have HK := Lib.hid (And.intro (txt_on HK.out.1 hb) (And.intro (HK.out.2.1.on hb) (keeps HK.out.2.2 hb)))
  have HA2 := Lib.hid (And.intro (HA2.out.on hb) hls)
  clear hown6 hg6 h6 hb hls H5 HXS
  go_wp2_with (first | ((with_reducible show wpList _ _ _ ((⟨some 58, Op.load 34 (.tmp 10), _, _, _, _⟩ : Oper) :: _) _ _); refine wpList_load_rowG (by rfl) _ (.tmp 10) rfl g rfl 34 P (0, 0) _ HM.out.1 Tryd.underlying34 rfl (by rw [hP]; exact info35) ?_) | fail)
  refine (HG.out.none HM.out.2 (by rw [HBT.out.len]; omega)).mono ?_
  rintro e w7 ⟨ah, nH, cH, rfl, ho, hb⟩
  rw [HBT.out.len] at ho
  obtain rfl : nH = nA := by rw [← ho.len]; simp
  have HM := Lib.hid (mb_on HM.out hb)
  have HK := Lib.hid (And.intro (txt_on HK.out.1 hb) (And.intro (HK.out.2.1.on hb) (keeps HK.out.2.2 hb)))
  have HA2 := Lib.hid (And.intro (HA2.out.1.on hb) (And.intro (HA2.out.2.on hb) (And.intro ho.any ho.cap)))
  clear ho hb
  have hmk := make_bytes n1 (by omega)
  obtain ⟨C, hC⟩ : ∃ C, (nums (List.replicate n1 0)).toArray = C := ⟨_, rfl⟩
  rw [hC] at hmk
  have HC := Lib.hid hC
  clear hC
  obtain ⟨ad, cd, hP2⟩ := mv_ds HM.out.2
  rw [HBT.out.len] at hP2
  have hw8 : Whole (w7.alloc (.cells C 5)) w7.heap.size 5 C := Whole.new _ _ _
  have hb8 := below_alloc w7 (.cells C 5)
  have c2 : (w7.alloc (.cells C 5)).cell? ⟨g, 2, none⟩ = some (.slice ad nH cd) := by rw [(HM.out.1.below hb8 HM.out.1.lt).cell]; exact hP2
  have hne : ∀ {b : Nat}, b < w7.heap.size → b ≠ w7.heap.size := fun h => by omega
  have hE : EK w (w7.alloc (.cells C 5)) g w7.heap.size P m a1 n1 p1 l1 al (n2 + 1) (ps ++ [List.replicate nH true]) aA nH ah (List.replicate nH false) (List.replicate n1 0) :=
    ⟨⟨HM.out.1.below hb8 HM.out.1.lt, (HM.out.2.old.below hb8 (fun _ _ h => h)).weak (fun _ _ h => hne h)⟩, hne HM.out.1.lt, (HK.out.1.old.below hb8 (fun _ _ h => h)).weak (fun _ _ h => hne h), (HA2.out.2.1.old.below hb8 (fun _ _ h => h)).weak (fun _ _ h => hne h), (HA2.out.1.old.below hb8 (fun _ _ h => h)).weak (fun _ _ h => hne h), (HA2.out.2.2.1.old.below hb8 (fun _ _ h => h)).weak (fun _ _ h => hne h), by rw [HC.out]; exact hw8, fun x hx => by have := List.eq_of_mem_replicate hx; omega, by rw [List.length_replicate, HN.out.1], HK.out.2.2.1.below hb8 HK.out.2.2.1.two, HK.out.2.2.1.two, HK.out.2.2.2.size, HK.out.2.2.2.trans (hb8.mono HK.out.2.2.2.size)⟩
  have HE := Lib.hid hE
  have hch0 : nH ≤ cH := HA2.out.2.2.2
  clear hE hw8 hb8 hne HA2 HM HK
  go_wp2
  clear c2 hmk
  obtain ⟨go, hgo⟩ : ∃ go, w7.heap.size = go := ⟨_, rfl⟩
  rw [hgo] at HE ⊢
  clear hgo
  generalize w7.alloc (.cells C 5) = w8 at *
  try simp only [Act.put, List.getElem_toArray, List.getElem_cons_zero, List.getElem_cons_succ, List.setIfInBounds_toArray, List.set_cons_zero, List.set_cons_succ]
  have HLS : Hid ((ps ++ [List.replicate nH true]).length = n2 + 1) := Lib.hid (by rw [List.length_append, HN.out.2.1]; rfl)
  have hnl9 : n2 + 1 ≤ 9 := by omega
  obtain ⟨nl, hnl⟩ : ∃ nl, n2 + 1 = nl := ⟨_, rfl⟩
  rw [hnl] at HE HLS hnl9 ⊢
  have HNL := Lib.hid hnl
  clear hnl
  clear HA2 hP2 HC
  go_loopw [8, 14, 16, 17, 18, 19, 20, 21, 22, 23, 24] (fun r8 hvv zv _ _ _ _ _ _ _ _ wr => ∃ (z : Nat) (hv : List Bool) (o : List Int) (ah : Option Addr) (cH : Nat), z ≤ nH ∧ nH ≤ cH ∧ r8 = .bool false ∧ hvv = .slice ah nH cH ∧ zv = .int .i64 (z : Int) ∧ Hid (EK w wr g go P m a1 n1 p1 l1 al nl (ps ++ [List.replicate nH true]) aA nH ah hv o ∧ Tr.missing hv = z ∧ Tr.Ag l1 cc nH hv o)) (fun _ _ zv _ _ _ _ _ _ _ _ _ => (intOf zv).toNat)
  case atStart => exact ⟨nH, List.replicate nH false, List.replicate n1 0, ah, cH, Nat.le_refl _, hch0, rfl, rfl, rfl, Lib.hid ⟨HE.out, Tr.missing_rep_false _, Tr.ag_none _ _ _ _⟩⟩
  case round =>
    clear HE hch0
    obtain ⟨z, hv, o, ah, cH, hz, hcH, rfl, rfl, rfl, HJ⟩ := hrel
    have HE := Lib.hid HJ.out.1
    have HG2 := Lib.hid HJ.out.2
    clear HJ
    by_cases hz0 : z = 0
    case pos =>
      subst hz0
      have q1 : ¬ (((0 : Nat) : Int) > 0) := by omega
      go_wp2_with fail
      refine (HG.out.pick HE.out.hv HE.out.ls (by omega) (by omega) d HI.out.2.1 HI.out.2.2.1).mono ?_
      rintro e wa ⟨rfl, hb⟩
      rw [Tr.pick_end HG2.out.1]
      have HE := Lib.hid (HE.out.on hb)
      clear hb
      go_wp2_with fail
      refine (HG.out.done HE.out.hv (by omega)).mono ?_
      rintro e wb ⟨rfl, hb⟩
      have hlen := HE.out.hv.1
      rw [done_is, HG2.out.1, hlen, decide_eq_true (show 0 < nH from HBT.out.one)]
      have HE := Lib.hid (HE.out.on hb)
      clear hb
      have ho : o = l1 := Tr.ag_all HBT.out hlen HG2.out.1 HE.out.len HG2.out.2
      have htx : Txt wb Any (some ⟨go, 0, none⟩) n1 n1 l1 := by
        have := txt_of_whole Any trivial HE.out.out HE.out.byt n1 n1 (by rw [HE.out.len, HN.out.1]; exact Nat.le_refl _) (Nat.le_refl _)
        rw [List.take_of_length_le (by rw [HE.out.len, HN.out.1]; exact Nat.le_refl _), ho] at this
        exact this
      have HM := Lib.hid HE.out.mb
      clear hlen ho
      go_wp2_with (first | ((with_reducible show wpList _ _ _ ((⟨some 183, Op.load 34 (.tmp 10), _, _, _, _⟩ : Oper) :: _) _ _); refine wpList_load_rowG (by rfl) _ (.tmp 10) rfl g rfl 34 P (0, 0) _ HM.out.1 Tryd.underlying34 rfl (by rw [hP]; exact info35) ?_) | fail)
      refine (whole_any HM.out.2 htx (by omega) HE.out.rt).mono ?_
      rintro e wc ⟨rfl, hb⟩
      rw [Tr.who_made HBT.out]
      have HE := Lib.hid (HE.out.on hb)
      clear hb htx HM
      go_wp2_with fail
      refine (HG.out.done HE.out.al (by omega)).mono ?_
      rintro e wd ⟨rfl, hb⟩
      rw [done_is, Tr.missing_rep_true, List.length_replicate, decide_eq_true (show 0 < nH from HBT.out.one)]
      have HE := Lib.hid (HE.out.on hb)
      clear hb
      go_wp2
      go_ret
      exact ⟨rfl, HE.out.below⟩
    have q1 : (z : Int) > 0 := by omega
    go_wp2_with fail
    have hD := IntKind.wrap_u64 (d + (z : Int) * 7)
    obtain ⟨D, hD'⟩ : ∃ D, IntKind.u64.wrap (d + (z : Int) * 7) = D := ⟨_, rfl⟩
    rw [hD'] at hD ⊢
    have hD0 : 0 ≤ D ∧ D < 18446744073709551616 := by omega
    clear hD hD'
    obtain ⟨i, p, hpk, hi, hif, hpl, hhas⟩ := Tr.pick_ok (ps := ps) (d := D) HE.out.hv.1 (by rw [HG2.out.1]; exact hz0)
    refine (HG.out.pick HE.out.hv HE.out.ls (by omega) (by omega) D hD0.1 hD0.2).mono ?_
    rintro e wa ⟨rfl, hb⟩
    rw [hpk]
    have HE := Lib.hid (HE.out.on hb)
    clear hb hpk hD0
    have hpn : p < nl := by rw [← HNL.out, ← HN.out.2.1]; exact hpl
    obtain ⟨gh, oh, rfl, _, _, ch1⟩ := be_cells HE.out.hv (by omega)
    have ci := ch1 i hi
    rw [hif] at ci
    obtain ⟨gl, ol, rfl, ad, mm, cm, cp, hrow⟩ := HE.out.ls.at_ hpn
    have him : i < mm := by rw [← hrow.1]; exact Tr.has_len hhas
    obtain ⟨gr, or_, rfl, _, _, cr1⟩ := be_cells hrow (by omega)
    have cri := cr1 i him
    have hhas' : ((ps ++ [List.replicate nH true]).getD p []).getD i false = true := hhas
    rw [hhas'] at cri
    have qi0 : ¬ ((i : Int) < 0) := by omega
    have qi1 : ¬ ((i : Int) ≥ (nH : Int)) := by omega
    have qi2 : (i : Int) < (nH : Int) := by omega
    have qp0 : ¬ ((p : Int) < 0) := by omega
    have qp1 : ¬ ((p : Int) ≥ (nl : Int)) := by omega
    have qp2 : (p : Int) < (nl : Int) := by omega
    have qm1 : ¬ ((i : Int) ≥ (mm : Int)) := by omega
    have qm2 : (i : Int) < (mm : Int) := by omega
    have HP := Lib.hid (And.intro hi hif)
    clear ch1 cr1 hrow hhas hhas' hpl hif
    go_wp2_with fail
    clear ci cp cri qi0 qi1 qi2 qp0 qp1 qp2 qm1 qm2
    refine (HG.out.missing HE.out.hv (by omega)).mono ?_
    rintro e wb ⟨rfl, hb⟩
    rw [HG2.out.1]
    have HE := Lib.hid (HE.out.on hb)
    have HM := Lib.hid HE.out.mb
    clear hb
    have qz : ((z : Int) != (z : Int)) = false := by simp
    obtain ⟨f, hf⟩ : ∃ f, i * cc = f := ⟨_, rfl⟩
    obtain ⟨t, ht⟩ : ∃ t, min ((i + 1) * cc) l1.length = t := ⟨_, rfl⟩
    have h1 := HBT.out.fr hi
    have h2 := HBT.out.til hi
    have h3 := HBT.out.place hi
    have h4 := HBT.out.ck hi
    rw [hf] at h1 h3 h4
    rw [ht] at h2 h3 h4
    have htn : t ≤ n1 := by rw [← ht, ← HN.out.1]; exact Nat.min_le_right _ _
    have hft : f ≤ t := h3.2
    have HFT := Lib.hid (And.intro hf (And.intro ht (And.intro h1 (And.intro h2 h4))))
    clear hf ht h1 h2 h3 h4
    go_wp2_with (first | ((with_reducible show wpList _ _ _ ((⟨some 136, Op.load 34 (.tmp 10), _, _, _, _⟩ : Oper) :: _) _ _); refine wpList_load_rowG (by rfl) _ (.tmp 10) rfl g rfl 34 P (0, 0) _ HM.out.1 Tryd.underlying34 rfl (by rw [hP]; exact info35) ?_) | fail)
    refine (part_any HM.out.2 (i := (i : Int)) (by constructor <;> omega)).mono ?_
    rintro e wc ⟨rfl, hb⟩
    rw [HFT.out.2.2.1, HFT.out.2.2.2.1]
    have HE := Lib.hid (HE.out.on hb)
    clear hb HM qz
    go_upto_region 18 with fail
    go_cut [22, 23] (fun v x wx => ∃ ah2 c2, v = .slice ah2 nH c2 ∧ nH ≤ c2 ∧ x = .int .i64 0 ∧ BE.Row wx (· ≠ go) ah2 nH (hv.set i true) ∧ EK w wx g go P m a1 n1 p1 l1 (some ⟨gl, ol, none⟩) nl (ps ++ [List.replicate nH true]) aA nH (some ⟨gh, oh, none⟩) hv o)
    case first => as_aux_lemma =>
      have HE := Lib.hid (HE.out.on (Below.refl _ wc).drew)
      have hk0 := HE.out.mb.1
      refine wp_region_held_drew (S := fun wq => Whole wq g 34 P) (by kernel_rfl) hk0 (fun hHeld => ?_)
      generalize wc.drew = wd at *
      clear hk0
      have hsl := slice_mid (a := a1) (n := n1) (c := p1) (i := f) (j := t) hft (by have := HN.out.2.2; omega)
      have htx := txt_mid HE.out.img hft htn
      rw [HFT.out.2.2.2.2] at htx
      obtain ⟨A, hA⟩ : ∃ A, (if p1 = f then a1 else a1.map (·.add f)) = A := ⟨_, rfl⟩
      rw [hA] at hsl htx
      have HT := Lib.hid htx
      clear hA htx
      refine wpAnyH_take (i := 0) (v := .agg P) rfl (by kernel_rfl) (by kernel_rfl) (by kernel_rfl) (fun _ _ _ h => h) (yields_mb (by rfl) _ rfl g rfl P hP (fun wq hSw => hSw)) (by assumption) ?_
      try simp only [Act.put, List.getElem_toArray, List.getElem_cons_zero, List.getElem_cons_succ, List.setIfInBounds_toArray, List.set_cons_zero, List.set_cons_succ]
      refine wpAnyH_take (i := 1) (v := .slice (some ⟨gh, oh, none⟩) nH cH) rfl (by kernel_rfl) (by kernel_rfl) (by kernel_rfl) (fun _ _ _ h => h) (Or.inl ⟨by rfl, (by intro w hSw; (try dsimp only at hSw); go_simp)⟩) (by assumption) ?_
      try simp only [Act.put, List.getElem_toArray, List.getElem_cons_zero, List.getElem_cons_succ, List.setIfInBounds_toArray, List.set_cons_zero, List.set_cons_succ]
      refine wpAnyH_take (i := 2) (v := .int .i64 (i : Int)) rfl (by kernel_rfl) (by kernel_rfl) (by kernel_rfl) (fun _ _ _ h => h) (Or.inl ⟨by rfl, (by intro w hSw; (try dsimp only at hSw); go_simp)⟩) (by assumption) ?_
      try simp only [Act.put, List.getElem_toArray, List.getElem_cons_zero, List.getElem_cons_succ, List.setIfInBounds_toArray, List.set_cons_zero, List.set_cons_succ]
      refine wpAnyH_take (i := 3) (v := .slice a1 n1 p1) rfl (by kernel_rfl) (by kernel_rfl) (by kernel_rfl) (fun _ _ _ h => h) (Or.inl ⟨by rfl, (by intro w hSw; (try dsimp only at hSw); go_simp)⟩) (by assumption) ?_
      try simp only [Act.put, List.getElem_toArray, List.getElem_cons_zero, List.getElem_cons_succ, List.setIfInBounds_toArray, List.set_cons_zero, List.set_cons_succ]
      refine wpAnyH_take (i := 4) (v := .int .i64 (f : Int)) rfl (by kernel_rfl) (by kernel_rfl) (by kernel_rfl) (fun _ _ _ h => h) (Or.inl ⟨by rfl, (by intro w hSw; (try dsimp only at hSw); go_simp)⟩) (by assumption) ?_
      try simp only [Act.put, List.getElem_toArray, List.getElem_cons_zero, List.getElem_cons_succ, List.setIfInBounds_toArray, List.set_cons_zero, List.set_cons_succ]
      refine wpAnyH_take (i := 5) (v := .int .i64 (t : Int)) rfl (by kernel_rfl) (by kernel_rfl) (by kernel_rfl) (fun _ _ _ h => h) (Or.inl ⟨by rfl, (by intro w hSw; (try dsimp only at hSw); go_simp)⟩) (by assumption) ?_
      try simp only [Act.put, List.getElem_toArray, List.getElem_cons_zero, List.getElem_cons_succ, List.setIfInBounds_toArray, List.set_cons_zero, List.set_cons_succ]
      refine wpAnyH_take (i := 6) (v := .slice A (t - f) (p1 - f)) rfl (by kernel_rfl) (by kernel_rfl) (by kernel_rfl) (fun _ _ _ h => h) (Or.inl ⟨by rfl, (by intro w hSw; (try dsimp only at hSw); go_simp)⟩) (by assumption) ?_
      try simp only [Act.put, List.getElem_toArray, List.getElem_cons_zero, List.getElem_cons_succ, List.setIfInBounds_toArray, List.set_cons_zero, List.set_cons_succ]
      clear hsl
      have htk : Tr.take m hv (i : Int) (Mf.ck l1 cc i) = (hv.set i true, 0) := by
        unfold Tr.take
        rw [HBT.out.ver hi rfl, if_neg (by simp), if_neg (by rw [HE.out.hv.1, HBT.out.len]; simp), Int.toNat_natCast]
      have HTK := Lib.hid htk
      clear htk
      refine wpAnyH_ready (rs := [7]) (by kernel_rfl) (by simp) (AllReadyH.cons rfl (fun K hK => ?_) AllReadyH.nil)
      try simp only [List.getElem_toArray, List.getElem_cons_zero, List.getElem_cons_succ]
      go_simp
      refine (HG.out.take HE.out.mb.2 HE.out.hv (by omega) hcH (i : Int) (by constructor <;> omega) HT.out (by omega) HE.out.rt).mono ?_
      rintro e we ⟨ax, nx, cx, rfl, hcx, hox, hb⟩
      rw [HTK.out] at hox ⊢
      obtain rfl : nx = nH := by rw [← hox.1, List.length_set]; exact HE.out.hv.1
      have hgo : go < wd.heap.size := HE.out.out.lt
      have HX := Lib.hid (And.intro hcx (hox.weak (S' := (· ≠ go)) (fun b _ h => by
        rcases h with h | h
        · exact h
        · show b ≠ go; omega)))
      have HE := Lib.hid (HE.out.on hb)
      clear hb hox hcx hgo hHeld HT
      have hk := HE.out.mb.1
      go_wp2_with fail
      refine hK.out _ _ hk (fun hHeld => ?_)
      clear hK K hHeld
      try simp only [Act.put, List.getElem_toArray, List.getElem_cons_zero, List.getElem_cons_succ, List.setIfInBounds_toArray, List.set_cons_zero, List.set_cons_succ]
      have hHeld := hk
      clear hk
      refine wpAnyH_take (i := 8) (v := .tuple #[.slice ax nx cx, .int .i64 0]) rfl (by kernel_rfl) (by kernel_rfl) (by kernel_rfl) (fun _ _ _ h => h) (Or.inl ⟨by rfl, (by intro w hSw; (try dsimp only at hSw); go_simp)⟩) (by assumption) ?_
      try simp only [Act.put, List.getElem_toArray, List.getElem_cons_zero, List.getElem_cons_succ, List.setIfInBounds_toArray, List.set_cons_zero, List.set_cons_succ]
      refine wpAnyH_take (i := 9) (v := .slice ax nx cx) rfl (by kernel_rfl) (by kernel_rfl) (by kernel_rfl) (fun _ _ _ h => h) (Or.inl ⟨by rfl, (by intro w hSw; (try dsimp only at hSw); go_simp)⟩) (by assumption) ?_
      try simp only [Act.put, List.getElem_toArray, List.getElem_cons_zero, List.getElem_cons_succ, List.setIfInBounds_toArray, List.set_cons_zero, List.set_cons_succ]
      refine wpAnyH_take (i := 10) (v := .int .i64 0) rfl (by kernel_rfl) (by kernel_rfl) (by kernel_rfl) (fun _ _ _ h => h) (Or.inl ⟨by rfl, (by intro w hSw; (try dsimp only at hSw); go_simp)⟩) (by assumption) ?_
      try simp only [Act.put, List.getElem_toArray, List.getElem_cons_zero, List.getElem_cons_succ, List.setIfInBounds_toArray, List.set_cons_zero, List.set_cons_succ]
      refine wpAnyH_take (i := 11) (v := .slice ax nx cx) rfl (by kernel_rfl) (by kernel_rfl) (by kernel_rfl) (fun _ _ _ h => h) (Or.inl ⟨by rfl, (by intro w hSw; (try dsimp only at hSw); go_simp)⟩) (by assumption) ?_
      try simp only [Act.put, List.getElem_toArray, List.getElem_cons_zero, List.getElem_cons_succ, List.setIfInBounds_toArray, List.set_cons_zero, List.set_cons_succ]
      refine wpAnyH_take (i := 12) (v := .int .i64 0) rfl (by kernel_rfl) (by kernel_rfl) (by kernel_rfl) (fun _ _ _ h => h) (Or.inl ⟨by rfl, (by intro w hSw; (try dsimp only at hSw); go_simp)⟩) (by assumption) ?_
      try simp only [Act.put, List.getElem_toArray, List.getElem_cons_zero, List.getElem_cons_succ, List.setIfInBounds_toArray, List.set_cons_zero, List.set_cons_succ]
      refine wpAnyH_done (by kernel_rfl) ?_ _
      go_wp2
      go_meet
      case rel => exact ⟨ax, cx, rfl, HX.out.1, rfl, HX.out.2, HE.out⟩
    clear HE
    obtain ⟨ah2, c2, rfl, hc2, rfl, hr2, he2⟩ := hcut
    have HE := Lib.hid (And.intro (he2.take hr2) (And.intro HG2.out.2 hc2))
    have HHV := Lib.hid he2.hv.1
    clear he2 hr2 hc2
    go_wp2
    go_loopw [24] (fun kv wr => ∃ (k : Nat) (o2 : List Int), f ≤ k ∧ k ≤ t ∧ kv = .int .i64 (k : Int) ∧ Hid (EK w wr g go P m a1 n1 p1 l1 (some ⟨gl, ol, none⟩) nl (ps ++ [List.replicate nH true]) aA nH ah2 (hv.set i true) o2 ∧ Tr.Ag l1 cc nH hv o2 ∧ ∀ j, f ≤ j → j < k → o2.getD j 0 = l1.getD j 0)) (fun kv _ => t - (intOf kv).toNat)
    case atStart => exact ⟨f, o, Nat.le_refl _, hft, rfl, Lib.hid ⟨HE.out.1, HE.out.2.1, fun j h1 h2 => by omega⟩⟩
    case round =>
      have hc2 := HE.out.2.2
      clear HE
      obtain ⟨k, o2, hfk, hkt, rfl, HQ⟩ := hrel
      by_cases hlt : k < t
      case neg =>
        obtain rfl : k = t := by omega
        have q1 : ¬ ((k : Int) < (k : Int)) := by omega
        have hms := Tr.missing_set (l := hv) (k := i) (by rw [HHV.out]; exact hi) HP.out.2
        rw [HG2.out.1] at hms
        have hag := Tr.ag_more (i := i) HQ.out.2.1 (by rw [HFT.out.1, HFT.out.2.1]; exact HQ.out.2.2)
        have HJ2 : Hid (EK w wr g go P m a1 n1 p1 l1 (some ⟨gl, ol, none⟩) nl (ps ++ [List.replicate nH true]) aA nH ah2 (hv.set i true) o2 ∧ Tr.missing (hv.set i true) = z - 1 ∧ Tr.Ag l1 cc nH (hv.set i true) o2) := Lib.hid ⟨HQ.out.1, by omega, hag⟩
        have e1 : IntKind.i64.wrap ((z : Int) - 1) = ((z - 1 : Nat) : Int) := by rw [IntKind.wrap_i64]; omega
        clear hms hag HQ
        go_wp2
        exact ⟨⟨z - 1, hv.set i true, o2, ah2, c2, by omega, hc2, rfl, rfl, rfl, HJ2⟩, by simp [intOf]; omega⟩
      have q1 : (k : Int) < (t : Int) := by omega
      have q2 : (k : Int) < (n1 : Int) := by omega
      have hko : k < o2.length := by rw [HQ.out.1.len, HN.out.1]; omega
      obtain ⟨bi, oi, hai, _, _, cii⟩ : ∃ b off, a1 = some ⟨b, off, none⟩ ∧ b ≠ go ∧ b < wr.heap.size ∧ ∀ k, k < n1 → wr.cell? ⟨b, off + k, none⟩ = some (.int .u8 (l1.getD k 0)) := by
        rcases HQ.out.1.img.2.2.2 with h | ⟨b, off, h1, h2, h3, h4⟩
        · exfalso
          have := HN.out.1
          rw [h] at this
          simp at this
          omega
        · exact ⟨b, off, h1, h2, h3, h4⟩
      subst hai
      have ck := cii k (by omega)
      have cy : wr.cell? ⟨go, k, none⟩ = some (.int .u8 (o2.getD k 0)) := by rw [HQ.out.1.out.cell, List.getElem?_toArray, nums_get _ _ hko]
      have fy := HQ.out.1.out.frozen k
      have hx : 0 ≤ l1.getD k 0 ∧ l1.getD k 0 < 256 := by
        have hl : k < l1.length := by rw [HN.out.1]; omega
        have e : l1.getD k 0 = l1[k] := by simp [hl]
        rw [e]
        exact HQ.out.1.img.2.2.1 _ (List.getElem_mem hl)
      have HQ2 : Hid (EK w (wr.setCell ⟨go, k, none⟩ (.int .u8 (l1.getD k 0))) g go P m (some ⟨bi, oi, none⟩) n1 p1 l1 (some ⟨gl, ol, none⟩) nl (ps ++ [List.replicate nH true]) aA nH ah2 (hv.set i true) (o2.set k (l1.getD k 0)) ∧ Tr.Ag l1 cc nH hv (o2.set k (l1.getD k 0)) ∧ ∀ j, f ≤ j → j < k + 1 → (o2.set k (l1.getD k 0)).getD j 0 = l1.getD j 0) := Lib.hid ⟨HQ.out.1.set hko hx, Tr.ag_set HQ.out.2.1 k hko, fun j h1 h2 => by
        by_cases e : j = k
        · subst e; simp [hko]
        · rw [← HQ.out.2.2 j h1 (by omega)]
          simp [List.getElem?_set, Ne.symm e]⟩
      obtain ⟨x, hxx⟩ : ∃ x, l1.getD k 0 = x := ⟨_, rfl⟩
      obtain ⟨y, hyy⟩ : ∃ y, o2.getD k 0 = y := ⟨_, rfl⟩
      obtain ⟨o3, ho3⟩ : ∃ o3, o2.set k x = o3 := ⟨_, rfl⟩
      rw [hxx] at ck HQ2
      rw [ho3] at HQ2
      rw [hyy] at cy
      clear hxx hyy ho3 hx cii HQ
      go_wp2
      exact ⟨⟨k + 1, o3, by omega, by omega, by go_num, HQ2⟩, by simp [intOf]; omega⟩
end Go.Proofs.YtiogfkhmigbgpaaDoor
