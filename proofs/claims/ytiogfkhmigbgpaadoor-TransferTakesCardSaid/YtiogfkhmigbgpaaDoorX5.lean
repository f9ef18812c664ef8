/-
  The package's Take, chunkOf and Find.
-/
import Derived.Test.YtiogfkhmigbgpaaDoorX4
namespace Go.Proofs.YtiogfkhmigbgpaaDoor
open Go.RowKit Go.Great
set_option linter.unusedVariables false
set_option linter.unusedSimpArgs false
set_option maxRecDepth 20000
theorem slice_three {a : Option Addr} {n c i j : Nat} (h1 : i ≤ j) (h2 : j ≤ c) (w : World) : (Instr.slice 35 (.slice a n c) (some (.int .i64 (i : Int))) (some (.int .i64 (j : Int))) (some (.int .i64 (j : Int)))).run Tryd.prog w = .ok (.slice (if j = i then a else a.map (·.add i)) (j - i) (j - i)) w := by
  have hb : (0 : Int) ≤ (j : Int) ∧ (j : Int) ≤ (c : Int) := by omega
  have hc : (0 : Int) ≤ (j : Int) ∧ (j : Int) ≤ (j : Int) := by omega
  have ha : (0 : Int) ≤ (i : Int) ∧ (i : Int) ≤ (j : Int) := by omega
  simp only [Instr.slice, Instr.sliceBounds, Instr.sliceBound, Sem.run_bind, Sem.run_pure, Result.andThen_ok, run_underlying Tryd.underlying35, asIntOf, if_pos hb, if_pos hc, if_pos ha, sz_u8, Int.toNat_natCast, Nat.mul_one]
theorem txt_three {w : World} {S : Nat → Prop} {a : Option Addr} {n c i j : Nat} {l : List Int} (h : Txt w S a n c l) (h1 : i ≤ j) (h2 : j ≤ n) : Txt w S (if j = i then a else a.map (·.add i)) (j - i) (j - i) ((l.drop i).take (j - i)) := by
  have hc := h.2.1
  obtain ⟨t1, t2, t3, t4⟩ := txt_mid h h1 h2
  refine ⟨t1, Nat.le_refl _, t3, ?_⟩
  by_cases hij : j = i
  · left
    subst hij
    simp
  · rw [if_neg hij]
    rwa [if_neg (by omega)] at t4
theorem chunkof_any {w : World} {S S2 : Nat → Prop} {P : Array Value} {m : Mf.Man} (h : Mv w S (.agg P) m) {j : Nat} (hj : j < m.ds.length) (hbad : ¬ m.bad) {a0 : Option Addr} {n0 p0 : Nat} {l0 : List Int} (hb : Txt w S2 a0 n0 p0 l0) (hj2 : j ≤ 1000) :
    Calls Tryd.prog 32 #[.agg P, .int .i64 (j : Int), .slice a0 n0 p0] w fun e w' => ∃ A N, e = .returned (.slice A N N) ∧ N ≤ n0 ∧ Txt w' (fun b => b < w.heap.size) A N N (Tr.part m l0 j) ∧ Below w.heap.size w w' := by
  have hP := mv_size h
  have bb := below_alloc w (.cells P 34)
  have HM := Lib.hid (mb_old h)
  have HT := Lib.hid (hb.old.below bb (fun _ _ h => h))
  have HB := Lib.hid bb
  obtain ⟨w1, hw1⟩ : ∃ w1, w.alloc (.cells P 34) = w1 := ⟨_, rfl⟩
  rw [hw1] at HM HT HB
  have HW := Lib.hid hw1
  have HLN := Lib.hid hb.1
  have hnp := hb.2.1
  have hoff : ¬ Mf.off m (j : Int) := by
    rintro (h | h | h)
    · exact hbad h
    · omega
    · omega
  have ho := Mf.off_not hoff
  have ht := Mf.til_ne hoff
  have hfn : 0 ≤ Mf.fr m (j : Int) := by unfold Mf.fr; rw [if_neg hoff]; exact ho.2.2.2.2.2.2.2.2.1
  obtain ⟨f, hf⟩ : ∃ f : Nat, Mf.fr m (j : Int) = (f : Int) := ⟨(Mf.fr m (j : Int)).toNat, by omega⟩
  clear hfn
  have hf0 : 0 ≤ Mf.fr m (j : Int) := by rw [hf]; omega
  obtain ⟨t, htt⟩ : ∃ t : Nat, Mf.til m (j : Int) = (t : Int) := ⟨(Mf.til m (j : Int)).toNat, by have := ht.2.1; omega⟩
  have hft : f ≤ t := by have := ht.2.1; rw [hf, htt] at this; omega
  have HFT := Lib.hid (And.intro hf htt)
  clear h hb bb hw1 hoff ho ht hf0 hj hbad
  go_enter Tryd.func32, Tryd.ntmps32
  go_upto_region 1 with fail
  rw [HW.out]
  obtain ⟨g, hg⟩ : ∃ g, w.heap.size = g := ⟨_, rfl⟩
  rw [hg] at HM HT HB ⊢
  go_wp2_with (first | ((with_reducible show wpList _ _ _ ((⟨some 10, Op.load 34 (.tmp 3), _, _, _, _⟩ : Oper) :: _) _ _); refine wpList_load_rowG (by rfl) _ (.tmp 3) rfl g rfl 34 P (0, 0) _ HM.out.1 Tryd.underlying34 rfl (by rw [hP]; exact info35) ?_) | fail)
  refine (part_any HM.out.2 (by constructor <;> omega)).mono ?_
  rintro e w3 ⟨rfl, hb3⟩
  rw [hf, htt]
  clear hf htt
  have hgw : g ≤ w1.heap.size := by have := HM.out.1.lt; omega
  have HT := Lib.hid (HT.out.below hb3 (fun b h h2 => h))
  have HB := Lib.hid (HB.out.trans (hb3.mono hgw))
  clear hb3 HM
  have hn0' : min t n0 ≤ n0 := Nat.min_le_right _ _
  have hff : min f n0 ≤ min t n0 := by omega
  obtain ⟨A, hms, HTX⟩ : ∃ A, (∀ w, (Instr.slice 35 (.slice a0 n0 p0) (some (.int .i64 ((min f n0 : Nat) : Int))) (some (.int .i64 ((min t n0 : Nat) : Int))) (some (.int .i64 ((min t n0 : Nat) : Int)))).run Tryd.prog w = .ok (.slice A (min t n0 - min f n0) (min t n0 - min f n0)) w) ∧ Hid (Txt w3 (fun b => b < g) A (min t n0 - min f n0) (min t n0 - min f n0) ((l0.drop (min f n0)).take (min t n0 - min f n0))) :=
    ⟨_, slice_three hff (by omega), Lib.hid (txt_three HT.out hff hn0')⟩
  have hm1 : (min (f : Int) (n0 : Int)) = ((min f n0 : Nat) : Int) := by omega
  have hm2 : (min (t : Int) (n0 : Int)) = ((min t n0 : Nat) : Int) := by omega
  clear hn0'
  go_wp2
  go_ret
  have HPT : (l0.drop (min f n0)).take (min t n0 - min f n0) = Tr.part m l0 j := by
    rw [← HLN.out, min_cut l0 hft]
    unfold Tr.part
    rw [HFT.out.1, HFT.out.2, Int.toNat_natCast, Int.toNat_natCast]
  rw [HPT] at HTX
  rw [hg]
  exact ⟨_, _, rfl, by omega, HTX.out, HB.out⟩
set_option maxHeartbeats 4000000 in
theorem take_any {w : World} {S S1 S2 : Nat → Prop} {P : Array Value} {m : Mf.Man} (h : Mv w S (.agg P) m) {a : Option Addr} {n c : Nat} {hv : List Bool} (hr : BE.Row w S1 a n hv) (hn : n ≤ 1000) (i : Int) (hi : In64 i) {a0 : Option Addr} {n0 p0 : Nat} {l0 : List Int} (hb : Txt w S2 a0 n0 p0 l0) (hn0 : n0 ≤ 800000) (hR : Roots w) :
    Calls Tryd.prog 14 #[.agg P, .slice a n c, .int .i64 i, .slice a0 n0 p0] w (TkS w S1 (Tr.take m hv i l0).1 (Tr.take m hv i l0).2) := by
  have hP := mv_size h
  obtain ⟨ad, cd, hP2⟩ := mv_ds h
  have bb := below_alloc w (.cells P 34)
  have HM := Lib.hid (mb_old h)
  have HR := Lib.hid (hr.anyon bb)
  have HN := Lib.hid hr.1
  have HT := Lib.hid (hb.old.below bb (fun _ _ h => h))
  have HB := Lib.hid (And.intro bb (hR.below bb hR.two))
  have HI := Lib.hid hi
  obtain ⟨r, hr'⟩ : ∃ r, Tr.take m hv i l0 = r := ⟨_, rfl⟩
  have HE := Lib.hid hr'
  rw [hr']
  obtain ⟨w1, hw1⟩ : ∃ w1, w.alloc (.cells P 34) = w1 := ⟨_, rfl⟩
  rw [hw1] at HM HR HT HB
  have HW := Lib.hid hw1
  clear h hr hb hi hr' bb hw1 hR
  go_enter Tryd.func14, Tryd.ntmps14
  go_upto_region 1 with fail
  rw [HW.out]
  obtain ⟨g, hg⟩ : ∃ g, w.heap.size = g := ⟨_, rfl⟩
  rw [hg] at HM HT ⊢
  have hg1 : g < w1.heap.size := HM.out.1.lt
  go_wp2_with fail
  refine (cloneB_any HR.out hn).mono ?_
  rintro e w2 ⟨a', c', rfl, hO, hb2⟩
  have HO := Lib.hid hO
  have HM := Lib.hid (HM.out.below hb2 hg1 (fun b h _ => h))
  have HT := Lib.hid (HT.out.below hb2 (fun b h _ => h))
  have HB := Lib.hid (And.intro (HB.out.1.trans (hb2.mono (by omega))) (HB.out.2.below hb2 HB.out.2.two))
  clear hO hb2 HR
  go_wp2_with (first | ((with_reducible show wpList _ _ _ ((⟨some 14, Op.load 34 (.tmp 4), _, _, _, _⟩ : Oper) :: _) _ _); refine wpList_load_rowG (by rfl) _ (.tmp 4) rfl g rfl 34 P (0, 0) _ HM.out.1 Tryd.underlying34 rfl (by rw [hP]; exact info35) ?_) | fail)
  refine (verify_any HM.out.2 HI.out HT.out hn0 HB.out.2).mono ?_
  rintro e w3 ⟨rfl, hb3⟩
  have HO := Lib.hid (HO.out.below hb3)
  have HM := Lib.hid (HM.out.below hb3 HM.out.1.lt (fun b h _ => h))
  have HB := Lib.hid (HB.out.1.trans (hb3.mono HB.out.1.size))
  clear hb3 HT
  obtain ⟨x, hx⟩ : ∃ x, Mf.ver m i l0 = x := ⟨_, rfl⟩
  have HX := Lib.hid hx
  rw [hx]
  clear hx
  have HA : Hid (n ≤ c' ∧ BE.Row w3 (fun b => S1 b ∨ w.heap.size ≤ b) a' n hv) := Lib.hid ⟨HO.out.cap, HO.out.row.weak (fun b _ (h : w1.heap.size ≤ b) => Or.inr (by omega))⟩
  by_cases hx0 : x = 0
  case neg =>
    have hx1 : (x != 0) = true := by simpa using hx0
    have HV : Hid (r = (hv, x)) := Lib.hid (by rw [← HE.out]; unfold Tr.take; rw [HX.out, if_pos hx0])
    clear hx0
    go_wp2
    go_ret2
    rw [HV.out]
    exact ⟨a', n, c', rfl, HA.out.1, HA.out.2, HB.out⟩
  have hoff : Hid (¬ Mf.off m i) := Lib.hid (fun ho => by have := ver_off (b := l0) ho; rw [HX.out, hx0] at this; cases this)
  subst hx0
  have c2 : w3.cell? ⟨g, 2, none⟩ = some (.slice ad m.ds.length cd) := by rw [HM.out.1.cell]; exact hP2
  obtain ⟨k, hk⟩ : ∃ k, m.ds.length = k := ⟨_, rfl⟩
  have HK := Lib.hid hk
  rw [hk] at c2
  clear hk
  by_cases hl : n = k
  case neg =>
    have hl' : ((n : Int) != (k : Int)) = true := by simp; omega
    have HV : Hid (r = (hv, 1)) := Lib.hid (by rw [← HE.out]; unfold Tr.take; rw [HX.out, if_neg (by simp), if_pos (by rw [HN.out, HK.out]; exact hl)])
    clear hl
    go_wp2
    go_ret2
    rw [HV.out]
    exact ⟨a', n, c', rfl, HA.out.1, HA.out.2, HB.out⟩
  subst hl
  have hl' : ((n : Int) != (n : Int)) = false := by simp
  have HV : Hid (r = (hv.set i.toNat true, 0)) := Lib.hid (by rw [← HE.out]; unfold Tr.take; rw [HX.out, if_neg (by simp), if_neg (by rw [HN.out, HK.out]; simp)])
  have hin := Mf.off_not hoff.out
  rw [HK.out] at hin
  obtain ⟨j, rfl⟩ : ∃ j : Nat, i = (j : Int) := ⟨i.toNat, by omega⟩
  have hj : j < n := by omega
  obtain ⟨g5, cur, rfl, hg5', _, _, _, _, _⟩ := HO.out.form (by omega)
  obtain ⟨cg, fg, _⟩ := own_cell HO.out hj
  have q : (j : Int) < (n : Int) := by omega
  have HF := Lib.hid (And.intro (be_set HO.out hj true) (show w.heap.size ≤ g5 by omega))
  clear hin hoff hg5'
  go_wp2
  go_ret2
  rw [HV.out, Int.toNat_natCast]
  exact ⟨_, n, c', rfl, HF.out.1.cap, HF.out.1.row.weak (fun b _ (h : w1.heap.size ≤ b) => Or.inr (by omega)), HB.out.setCell (p := ⟨g5, j, none⟩) HF.out.2 _⟩
set_option maxHeartbeats 8000000 in
theorem find_any {w : World} {S S2 : Nat → Prop} {P : Array Value} {m : Mf.Man} (h : Mv w S (.agg P) m) (hm : m.ds.length ≤ 1000) {a0 : Option Addr} {n0 p0 : Nat} {l0 : List Int} (hb : Txt w S2 a0 n0 p0 l0) (hn0 : n0 ≤ 800000) (hR : Roots w) :
    Calls Tryd.prog 17 #[.agg P, .slice a0 n0 p0] w (BoQ w (Tr.find m l0)) := by
  have hP := mv_size h
  have HG2 : Hid (1 < w.heap.size) := Lib.hid hR.two
  have bb := below_alloc w (.cells P 34)
  have HM := Lib.hid (mb_old h)
  have HT := Lib.hid (hb.old.below bb (fun _ _ h => h))
  have HB := Lib.hid (And.intro bb (hR.below bb hR.two))
  obtain ⟨r, hr'⟩ : ∃ r, Tr.find m l0 = r := ⟨_, rfl⟩
  have HE := Lib.hid hr'
  rw [hr']
  obtain ⟨w1, hw1⟩ : ∃ w1, w.alloc (.cells P 34) = w1 := ⟨_, rfl⟩
  rw [hw1] at HM HT HB
  have HW := Lib.hid hw1
  have HLN := Lib.hid hb.1
  have hnp := hb.2.1
  clear h hb hr' bb hw1 hR
  go_enter Tryd.func17, Tryd.ntmps17
  go_upto_region 1 with fail
  rw [HW.out]
  obtain ⟨g, hg⟩ : ∃ g, w.heap.size = g := ⟨_, rfl⟩
  rw [hg] at HM HT HB ⊢
  go_wp2_with (first | ((with_reducible show wpList _ _ _ ((⟨some 7, Op.load 34 (.tmp 2), _, _, _, _⟩ : Oper) :: _) _ _); refine wpList_load_rowG (by rfl) _ (.tmp 2) rfl g rfl 34 P (0, 0) _ HM.out.1 Tryd.underlying34 rfl (by rw [hP]; exact info35) ?_) | fail)
  refine (check_any HM.out.2).mono ?_
  rintro e w2 ⟨rfl, hb2⟩
  have hgw : g < w1.heap.size := HM.out.1.lt
  have HM := Lib.hid (HM.out.below hb2 hgw (fun b h _ => h))
  have HT := Lib.hid (HT.out.below hb2 (fun b h _ => h))
  have HB := Lib.hid (And.intro (HB.out.1.trans (hb2.mono (by omega))) (HB.out.2.below hb2 HB.out.2.two))
  clear hb2 hgw
  by_cases hbad : m.bad
  case pos =>
    have HV : Hid (r = []) := Lib.hid (by rw [← HE.out]; unfold Tr.find; exact if_pos hbad)
    have hx1 : (Mf.chk m != 0) = true := by have := Mf.chk_ne.2 hbad; simpa using this
    clear hbad
    go_wp2
    go_ret
    rw [HV.out]
    exact ⟨none, 0, 0, rfl, Elem.Own.nil _ _, by rw [hg]; exact HB.out.1⟩
  have hx0 : (Mf.chk m != 0) = false := by simp [Mf.chk_zero hbad]
  obtain ⟨k, hk⟩ : ∃ k, m.ds.length = k := ⟨_, rfl⟩
  have HK : Hid (m.ds.length = k ∧ ¬ m.bad) := Lib.hid ⟨hk, hbad⟩
  have hk64 : k ≤ 1000 := by omega
  clear hbad
  go_wp2_with (first | ((with_reducible show wpList _ _ _ ((⟨some 10, Op.load 34 (.tmp 2), _, _, _, _⟩ : Oper) :: _) _ _); refine wpList_load_rowG (by rfl) _ (.tmp 2) rfl g rfl 34 P (0, 0) _ HM.out.1 Tryd.underlying34 rfl (by rw [hP]; exact info35) ?_) | fail)
  refine (none_any HM.out.2 hm).mono ?_
  rintro e w3 ⟨aN, nN, cN, rfl, hO, hb3⟩
  rw [hk] at hO
  obtain rfl : nN = k := by have := hO.len; simpa using this.symm
  have hgw : g < w2.heap.size := HM.out.1.lt
  have hfl : (Tr.find m l0).length = nN := by rw [find_len, if_neg HK.out.2, hk]
  have H0 : Hid (BE.Own w3 (g + 1) aN nN cN (List.replicate nN false) ∧ MB w3 (fun b => b < g) g P m ∧ Txt w3 (fun b => b < g) a0 n0 p0 l0 ∧ Below g w w3 ∧ Roots w3) := Lib.hid
    ⟨hO.mono (by omega), HM.out.below hb3 hgw (fun b h _ => h), HT.out.below hb3 (fun b h _ => h), HB.out.1.trans (hb3.mono (by omega)), HB.out.2.below hb3 HB.out.2.two⟩
  rw [HE.out] at hfl
  have HFL := Lib.hid hfl
  clear hO hb3 HM HT HB hgw hk hm hfl
  go_wp2
  go_loopw [6, 14] (fun _ v wr => ∃ j : Nat, j ≤ nN ∧ v = .int .i64 (j : Int) ∧ Hid (BE.Own wr (g + 1) aN nN cN (r.take j ++ List.replicate (nN - j) false) ∧ MB wr (fun b => b < g) g P m ∧ Txt wr (fun b => b < g) a0 n0 p0 l0 ∧ Below g w wr ∧ Roots wr)) (fun _ v _ => nN - (intOf v).toNat)
  case atStart => exact ⟨0, Nat.zero_le _, rfl, Lib.hid (by simpa using H0.out)⟩
  case round =>
    clear H0
    obtain ⟨j, hj, rfl, HJ⟩ := hrel
    by_cases hlt : j < nN
    case neg =>
      obtain rfl : j = nN := by omega
      have q : ¬ ((j : Int) < (j : Int)) := by omega
      have HV : Hid (r.take j ++ List.replicate (j - j) false = r) := Lib.hid (by rw [List.take_of_length_le (by rw [HFL.out]; exact Nat.le_refl _)]; simp)
      go_wp2
      go_ret
      exact ⟨aN, j, cN, rfl, by have := HJ.out.1; rw [HV.out] at this; rw [hg]; exact this.mono (Nat.le_succ _), by rw [hg]; exact HJ.out.2.2.2.1⟩
    have q : (j : Int) < (nN : Int) := by omega
    obtain ⟨gO, cur, rfl, hgO, _, _, _, _, _⟩ := HJ.out.1.form (by omega)
    go_upto_region 7 with fail
    have HM := Lib.hid (HJ.out.2.1.below (Below.refl wr.heap.size wr).drew HJ.out.2.1.1.lt (fun b h _ => h))
    have HO := Lib.hid (And.intro (HJ.out.1.below (Below.refl wr.heap.size wr).drew) (And.intro (HJ.out.2.2.1.below (Below.refl wr.heap.size wr).drew (fun b h _ => h)) (And.intro HJ.out.2.2.2.1.drew (HJ.out.2.2.2.2.below (Below.refl wr.heap.size wr).drew HJ.out.2.2.2.2.two))))
    clear HJ
    have hk0 := HM.out.1
    refine wp_region_held_drew (S := fun wq => Whole wq g 34 P) (by kernel_rfl) hk0 (fun hHeld => ?_)
    generalize wr.drew = wd at *
    clear hk0
    try simp only [Act.put, List.getElem_toArray, List.getElem_cons_zero, List.getElem_cons_succ, List.setIfInBounds_toArray, List.set_cons_zero, List.set_cons_succ]
    refine wpAnyH_take (i := 0) (v := .slice (some ⟨gO, 0, none⟩) nN cN) rfl (by kernel_rfl) (by kernel_rfl) (by kernel_rfl) (fun _ _ _ h => h) (Or.inl ⟨by rfl, (by intro w hSw; (try dsimp only at hSw); go_simp)⟩) (by assumption) ?_
    try simp only [Act.put, List.getElem_toArray, List.getElem_cons_zero, List.getElem_cons_succ, List.setIfInBounds_toArray, List.set_cons_zero, List.set_cons_succ]
    refine wpAnyH_take (i := 1) (v := .int .i64 (j : Int)) rfl (by kernel_rfl) (by kernel_rfl) (by kernel_rfl) (fun _ _ _ h => h) (Or.inl ⟨by rfl, (by intro w hSw; (try dsimp only at hSw); go_simp)⟩) (by assumption) ?_
    try simp only [Act.put, List.getElem_toArray, List.getElem_cons_zero, List.getElem_cons_succ, List.setIfInBounds_toArray, List.set_cons_zero, List.set_cons_succ]
    refine wpAnyH_take (i := 2) (v := .agg P) rfl (by kernel_rfl) (by kernel_rfl) (by kernel_rfl) (fun _ _ _ h => h) (yields_mb (by rfl) _ rfl g rfl P hP (fun wq hSw => hSw)) (by assumption) ?_
    try simp only [Act.put, List.getElem_toArray, List.getElem_cons_zero, List.getElem_cons_succ, List.setIfInBounds_toArray, List.set_cons_zero, List.set_cons_succ]
    refine wpAnyH_take (i := 3) (v := .int .i64 (j : Int)) rfl (by kernel_rfl) (by kernel_rfl) (by kernel_rfl) (fun _ _ _ h => h) (Or.inl ⟨by rfl, (by intro w hSw; (try dsimp only at hSw); go_simp)⟩) (by assumption) ?_
    try simp only [Act.put, List.getElem_toArray, List.getElem_cons_zero, List.getElem_cons_succ, List.setIfInBounds_toArray, List.set_cons_zero, List.set_cons_succ]
    refine wpAnyH_take (i := 4) (v := .agg P) rfl (by kernel_rfl) (by kernel_rfl) (by kernel_rfl) (fun _ _ _ h => h) (yields_mb (by rfl) _ rfl g rfl P hP (fun wq hSw => hSw)) (by assumption) ?_
    try simp only [Act.put, List.getElem_toArray, List.getElem_cons_zero, List.getElem_cons_succ, List.setIfInBounds_toArray, List.set_cons_zero, List.set_cons_succ]
    refine wpAnyH_take (i := 5) (v := .int .i64 (j : Int)) rfl (by kernel_rfl) (by kernel_rfl) (by kernel_rfl) (fun _ _ _ h => h) (Or.inl ⟨by rfl, (by intro w hSw; (try dsimp only at hSw); go_simp)⟩) (by assumption) ?_
    try simp only [Act.put, List.getElem_toArray, List.getElem_cons_zero, List.getElem_cons_succ, List.setIfInBounds_toArray, List.set_cons_zero, List.set_cons_succ]
    refine wpAnyH_take (i := 6) (v := .slice a0 n0 p0) rfl (by kernel_rfl) (by kernel_rfl) (by kernel_rfl) (fun _ _ _ h => h) (Or.inl ⟨by rfl, (by intro w hSw; (try dsimp only at hSw); go_simp)⟩) (by assumption) ?_
    try simp only [Act.put, List.getElem_toArray, List.getElem_cons_zero, List.getElem_cons_succ, List.setIfInBounds_toArray, List.set_cons_zero, List.set_cons_succ]
    refine wpAnyH_ready (rs := [7]) (by kernel_rfl) (by simp) (AllReadyH.cons rfl (fun K hK => ?_) AllReadyH.nil)
    try simp only [List.getElem_toArray, List.getElem_cons_zero, List.getElem_cons_succ]
    go_simp
    refine (chunkof_any HM.out.2 (by rw [HK.out.1]; exact hlt) HK.out.2 HO.out.2.1 (by omega)).mono ?_
    rintro e wa ⟨A, N, rfl, hN, hT, hb⟩
    have HT := Lib.hid (And.intro hT hN)
    have HO := Lib.hid (And.intro (HO.out.1.below hb) (And.intro (HO.out.2.1.below hb (fun b _ h => by have := HM.out.1.lt; omega)) (And.intro (HO.out.2.2.1.trans (hb.mono (by have := HM.out.1.lt; omega))) (HO.out.2.2.2.below hb HO.out.2.2.2.two))))
    have HM := Lib.hid (HM.out.below hb HM.out.1.lt (fun b h _ => h))
    clear hb hT hN hHeld
    have hk := HM.out.1
    go_wp2_with fail
    refine hK.out _ _ hk (fun hHeld => ?_)
    clear hK K hHeld
    try simp only [Act.put, List.getElem_toArray, List.getElem_cons_zero, List.getElem_cons_succ, List.setIfInBounds_toArray, List.set_cons_zero, List.set_cons_succ]
    have hHeld := hk
    clear hk
    refine wpAnyH_ready (rs := [8]) (by kernel_rfl) (by simp) (AllReadyH.cons rfl (fun K hK => ?_) AllReadyH.nil)
    try simp only [List.getElem_toArray, List.getElem_cons_zero, List.getElem_cons_succ]
    go_simp
    refine (verify_any HM.out.2 (by constructor <;> omega) HT.out.1 (by have := HT.out.2; omega) HO.out.2.2.2).mono ?_
    rintro e wb ⟨rfl, hb⟩
    have HO := Lib.hid (And.intro (HO.out.1.below hb) (And.intro (HO.out.2.1.below hb (fun b _ h => by have := HM.out.1.lt; omega)) (And.intro (HO.out.2.2.1.trans (hb.mono (by have := HM.out.1.lt; omega))) (HO.out.2.2.2.below hb HO.out.2.2.2.two))))
    have HM := Lib.hid (HM.out.below hb HM.out.1.lt (fun b h _ => h))
    obtain ⟨y, hy⟩ : ∃ y, decide (Mf.ver m (j : Int) (Tr.part m l0 j) = 0) = y := ⟨_, rfl⟩
    have hyy : (Mf.ver m (j : Int) (Tr.part m l0 j) == 0) = y := by rw [← hy]; rfl
    have HS : Hid ((r.take j ++ List.replicate (nN - j) false).set j y = r.take (j + 1) ++ List.replicate (nN - (j + 1)) false) := Lib.hid (by
      have hlt2 : j < r.length := by rw [HFL.out]; exact hlt
      have hry : r[j] = y := by
        have e2 : r[j]? = some y := by
          rw [← HE.out]
          unfold Tr.find
          rw [if_neg HK.out.2, List.getElem?_map, List.getElem?_range (by rw [HK.out.1]; exact hlt)]
          rw [Option.map_some, hy]
        rw [List.getElem?_eq_getElem hlt2] at e2
        exact Option.some.inj e2
      rw [List.take_succ_eq_append_getElem hlt2, hry]
      have hl : (r.take j).length = j := by rw [List.length_take]; omega
      rw [List.set_append_right _ _ (by omega), hl, Nat.sub_self, show nN - j = (nN - (j + 1)) + 1 by omega, List.replicate_succ, List.set_cons_zero, List.append_assoc]
      rfl)
    obtain ⟨z, hz⟩ : ∃ z, Mf.ver m (j : Int) (Tr.part m l0 j) = z := ⟨_, rfl⟩
    rw [hz] at hyy ⊢
    clear hb HT hHeld hy hz
    have hk := HM.out.1
    go_wp2_with fail
    refine hK.out _ _ hk (fun hHeld => ?_)
    clear hK K hHeld
    try simp only [Act.put, List.getElem_toArray, List.getElem_cons_zero, List.getElem_cons_succ, List.setIfInBounds_toArray, List.set_cons_zero, List.set_cons_succ]
    have hHeld := hk
    clear hk
    refine wpAnyH_take (i := 9) (v := .bool y) rfl (by kernel_rfl) (by kernel_rfl) (by kernel_rfl) (fun _ _ _ h => h) (Or.inl ⟨by rfl, (by intro w hSw; (try dsimp only at hSw); go_simp)⟩) (by assumption) ?_
    try simp only [Act.put, List.getElem_toArray, List.getElem_cons_zero, List.getElem_cons_succ, List.setIfInBounds_toArray, List.set_cons_zero, List.set_cons_succ]
    refine wpAnyH_take (i := 10) (v := .pointer (some ⟨gO, j, none⟩)) rfl (by kernel_rfl) (by kernel_rfl) (by kernel_rfl) (fun _ _ _ h => h) (Or.inl ⟨by rfl, (by intro w hSw; (try dsimp only at hSw); go_simp)⟩) (by assumption) ?_
    try simp only [Act.put, List.getElem_toArray, List.getElem_cons_zero, List.getElem_cons_succ, List.setIfInBounds_toArray, List.set_cons_zero, List.set_cons_succ]
    obtain ⟨cg, fg, _⟩ := own_cell HO.out.1 hlt
    have HX : Hid (BE.Own (wb.setCell ⟨gO, j, none⟩ (.bool y)) (g + 1) (some ⟨gO, 0, none⟩) nN cN (r.take (j + 1) ++ List.replicate (nN - (j + 1)) false) ∧ MB (wb.setCell ⟨gO, j, none⟩ (.bool y)) (fun b => b < g) g P m ∧ Txt (wb.setCell ⟨gO, j, none⟩ (.bool y)) (fun b => b < g) a0 n0 p0 l0 ∧ Below g w (wb.setCell ⟨gO, j, none⟩ (.bool y)) ∧ Roots (wb.setCell ⟨gO, j, none⟩ (.bool y))) := Lib.hid (by
      have hbs : Below (g + 1) wb (wb.setCell ⟨gO, j, none⟩ (.bool y)) := (Below.refl (g + 1) wb).setCell (p := ⟨gO, j, none⟩) hgO _
      have hg2 : 2 ≤ g + 1 := by have := HG2.out; omega
      refine ⟨by rw [← HS.out]; exact be_set HO.out.1 hlt y, HM.out.below hbs (Nat.lt_succ_self g) (fun b _ (h : b < g) => Nat.lt_succ_of_lt h), HO.out.2.1.below hbs (fun b _ (h : b < g) => Nat.lt_succ_of_lt h), HO.out.2.2.1.trans (hbs.mono (Nat.le_succ g)), HO.out.2.2.2.below hbs hg2⟩)
    refine wpAnyH_ready (rs := [11]) (by kernel_rfl) (by simp) (AllReadyH.cons rfl (fun K hK => ?_) AllReadyH.nil)
    try simp only [List.getElem_toArray, List.getElem_cons_zero, List.getElem_cons_succ]
    go_simp
    have hk : Whole (wb.setCell ⟨gO, j, none⟩ (.bool y)) g 34 P := HX.out.2.1.1
    refine hK.out _ _ hk (fun hHeld => ?_)
    refine wpAnyH_done (by kernel_rfl) ?_ _
    go_wp2
    exact ⟨⟨j + 1, by omega, by go_num, HX⟩, by simp [intOf]; omega⟩
end Go.Proofs.YtiogfkhmigbgpaaDoor
