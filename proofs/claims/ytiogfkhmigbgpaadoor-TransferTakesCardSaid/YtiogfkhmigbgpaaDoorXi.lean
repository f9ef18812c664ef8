/-
  The walk of TransferGrows.
-/
import Derived.Test.YtiogfkhmigbgpaaDoorXh
namespace Go.Proofs.YtiogfkhmigbgpaaDoor
open Go.RowKit Go.Great
set_option linter.unusedVariables false
set_option linter.unusedSimpArgs false
set_option maxRecDepth 20000
theorem take_zero {m : Mf.Man} {hv : List Bool} {i : Int} {b : List Int} {L : List Bool} (h : Tr.take m hv i b = (L, 0)) : Mf.ver m i b = 0 ∧ hv.length = m.ds.length ∧ L = hv.set i.toNat true := by
  unfold Tr.take at h
  by_cases h1 : Mf.ver m i b = 0
  · rw [if_neg (by simpa using h1)] at h
    by_cases h2 : hv.length = m.ds.length
    · rw [if_neg (by simpa using h2)] at h
      exact ⟨h1, h2, (congrArg Prod.fst h).symm⟩
    · rw [if_pos h2] at h
      have := congrArg Prod.snd h
      simp at this
  · rw [if_pos h1] at h
    exact absurd (congrArg Prod.snd h) h1
theorem take_fails {m : Mf.Man} {hv : List Bool} {i : Int} {b : List Int} {L : List Bool} {X : Int} (h : Tr.take m hv i b = (L, X)) (hX : X ≠ 0) : L = hv := by
  unfold Tr.take at h
  by_cases h1 : Mf.ver m i b = 0
  · rw [if_neg (by simpa using h1)] at h
    by_cases h2 : hv.length = m.ds.length
    · rw [if_neg (by simpa using h2)] at h
      exact absurd (congrArg Prod.snd h).symm hX
    · rw [if_pos h2] at h
      exact (congrArg Prod.fst h).symm
  · rw [if_pos h1] at h
    exact (congrArg Prod.fst h).symm
set_option maxHeartbeats 16000000 in
theorem grows_walk (hg : Trn) (hw : Awake) {w : World} {S1 S2 S3 : Nat → Prop} {a1 : Option Addr} {n1 p1 : Nat} {l1 : List Int} (hb1 : Txt w S1 a1 n1 p1 l1) (ch : Int) (hch : In64 ch) {a : Option Addr} {n c : Nat} {hv : List Bool} (hr : BE.Row w S2 a n hv) (hc : n ≤ c) (i : Int) (hi : In64 i) {a0 : Option Addr} {n0 p0 : Nat} {l0 : List Int} (hb0 : Txt w S3 a0 n0 p0 l0) (hR : Roots w) :
    Calls Tryd.prog 6 #[.slice a1 n1 p1, .int .i64 ch, .slice a n c, .int .i64 i, .slice a0 n0 p0] w fun e w' => e = .returned (.bool true) ∧ Below w.heap.size w w' := by
  have HG := Lib.hid hg
  have HA := Lib.hid hw
  have HI := Lib.hid (And.intro hi hch)
  have HN := Lib.hid (And.intro hr.1 hb1.1)
  have HK : Hid (BE.Row w Any a n hv ∧ Txt w Any a0 n0 p0 l0 ∧ Txt w Any a1 n1 p1 l1 ∧ Roots w ∧ Below w.heap.size w w) := Lib.hid ⟨hr.any, txt_any hb0, txt_any hb1, hR, Below.refl _ _⟩
  clear hg hw hi hch hr hb0 hb1 hR
  go_enter Tryd.func6, Tryd.ntmps6
  go_wp2_with fail
  refine (HA.out w HK.out.2.2.2.1).mono ?_
  rintro e w1 ⟨rfl, hb⟩
  have HK := Lib.hid (And.intro (HK.out.1.on hb) (And.intro (txt_on HK.out.2.1 hb) (And.intro (txt_on HK.out.2.2.1 hb) (keeps HK.out.2.2.2 hb))))
  clear hb
  by_cases z1 : n1 > 600
  · have z1' : (n1 : Int) > 600 := by omega
    go_wp2
    go_ret
    exact ⟨rfl, HK.out.2.2.2.2⟩
  have z1' : ¬ ((n1 : Int) > 600) := by omega
  by_cases z2 : n > 100
  · have z2' : (n : Int) > 100 := by omega
    go_wp2
    go_ret
    exact ⟨rfl, HK.out.2.2.2.2⟩
  have z2' : ¬ ((n : Int) > 100) := by omega
  by_cases z3 : n0 > 2000
  · have z3' : (n0 : Int) > 2000 := by omega
    go_wp2
    go_ret
    exact ⟨rfl, HK.out.2.2.2.2⟩
  have z3' : ¬ ((n0 : Int) > 2000) := by omega
  go_wp2_with fail
  clear z1' z2' z3'
  refine (build_any HK.out.2.2.1 HI.out.2 (by omega) HK.out.2.2.2.1).mono ?_
  rintro e w2 ⟨⟨v, rfl, hmv⟩, hb⟩
  have HK := Lib.hid (And.intro (HK.out.1.on hb) (And.intro (txt_on HK.out.2.1 hb) (And.intro (txt_on HK.out.2.2.1 hb) (keeps HK.out.2.2.2 hb))))
  clear hb
  obtain ⟨P, rfl, hP, hPa⟩ := mv_agg' hmv
  have hb : Below w2.heap.size w2 ((w2.alloc (.cells zm 34)).setRow w2.heap.size P) := below_row (below_alloc w2 _) (Nat.le_refl _) _
  have HM := Lib.hid (mb_put hmv).any
  have HK := Lib.hid (And.intro (HK.out.1.on hb) (And.intro (txt_on HK.out.2.1 hb) (And.intro (txt_on HK.out.2.2.1 hb) (keeps HK.out.2.2.2 hb))))
  clear hb hmv
  by_cases hN : Mf.cnt l1.length ch = 0
  · have he := (bld_zero hN).2
    have he' : (Mf.berr l1 ch != 0) = true := by rw [he]; rfl
    clear he hN
    go_wp2_with (first | ((with_reducible show wpList _ _ _ ((⟨_, Op.store 34 _ _, _, _, _, _⟩ : Oper) :: _) _ _); rw [zeroM, show (mcs 0 0 (.slice none 0 0) (zs 32)).toArray = zm from rfl]; refine wpList_store_row rfl _ (.tmp 12) (.tmp 36) rfl w2.heap.size P rfl rfl 34 _ (Whole.new w2 _ _) (by rw [hP]; exact info35) (by rw [hP]; rfl) hPa ?_) | fail)
    go_ret
    exact ⟨rfl, HK.out.2.2.2.2⟩
  have he := (bld_made hN).2
  have hmade := (bld_made hN).1
  rw [hmade] at HM
  obtain ⟨cc, N, hcc, hNN, hbt⟩ := Tr.bt_of hN
  obtain ⟨m, hm⟩ : ∃ m, Mf.made l1 ch = m := ⟨_, rfl⟩
  rw [hm] at HM hbt
  have HBT := Lib.hid (And.intro hcc hbt)
  rw [he]
  clear he hmade hN hcc hNN hbt hm
  go_upto_region 5 with (first | ((with_reducible show wpList _ _ _ ((⟨_, Op.store 34 _ _, _, _, _, _⟩ : Oper) :: _) _ _); rw [zeroM, show (mcs 0 0 (.slice none 0 0) (zs 32)).toArray = zm from rfl]; refine wpList_store_row rfl _ (.tmp 12) (.tmp 36) rfl w2.heap.size P rfl rfl 34 _ (Whole.new w2 _ _) (by rw [hP]; exact info35) (by rw [hP]; rfl) hPa ?_) | fail)
  clear hPa
  obtain ⟨g, hgq⟩ : ∃ g, w2.heap.size = g := ⟨_, rfl⟩
  rw [hgq] at HM HK ⊢
  clear hgq
  generalize (w2.alloc (.cells zm 34)).setRow g P = w3 at *
  try simp only [Act.put, List.getElem_toArray, List.getElem_cons_zero, List.getElem_cons_succ, List.setIfInBounds_toArray, List.set_cons_zero, List.set_cons_succ]
  obtain ⟨L, X, hLX⟩ : ∃ L X, Tr.take m hv i l0 = (L, X) := ⟨_, _, rfl⟩
  have HLX : Hid (Tr.take m hv i l0 = (L, X) ∧ L.length = n) := Lib.hid ⟨hLX, by have := set_len (m := m) (hv := hv) (i := i) (b := l0); rw [hLX] at this; rw [← HN.out.1]; exact this⟩
  clear hLX
  go_wp2_with (first | ((with_reducible show wpList _ _ _ ((⟨some 42, Op.load 34 (.tmp 12), _, _, _, _⟩ : Oper) :: _) _ _); refine wpList_load_rowG (by rfl) _ (.tmp 12) rfl g rfl 34 P (0, 0) _ HM.out.1 Tryd.underlying34 rfl (by rw [hP]; exact info35) ?_) | fail)
  refine (HG.out.take HM.out.2 HK.out.1 (by omega) hc i HI.out.1 HK.out.2.1 (by omega) HK.out.2.2.2.1).mono ?_
  rintro e w4 ⟨ax, nx, cx, rfl, hcx, hox, hb⟩
  rw [HLX.out.1] at hox ⊢
  obtain rfl : nx = n := by rw [← hox.1]; exact HLX.out.2
  have HM := Lib.hid (mb_on HM.out hb)
  have HK := Lib.hid (And.intro (HK.out.1.on hb) (And.intro (txt_on HK.out.2.1 hb) (And.intro (txt_on HK.out.2.2.1 hb) (keeps HK.out.2.2.2 hb))))
  have HX := Lib.hid hox.any
  clear hb hox hcx
  by_cases hX : X = 0
  case neg =>
    have hX' : (X != 0) = true := by simpa using hX
    have hL := take_fails HLX.out.1 hX
    subst hL
    clear hX
    go_wp2_with fail
    refine (rbsame_any HX.out HK.out.1 (by omega)).mono ?_
    rintro e w5 ⟨rfl, hb⟩
    have HK := Lib.hid (And.intro (HK.out.1.on hb) (And.intro (txt_on HK.out.2.1 hb) (And.intro (txt_on HK.out.2.2.1 hb) (keeps HK.out.2.2.2 hb))))
    clear hb hX'
    go_wp2
    go_ret
    exact ⟨rfl, HK.out.2.2.2.2⟩
  subst hX
  have ht := take_zero HLX.out.1
  have hoff : ¬ Mf.off m i := fun ho => by have := ver_off (b := l0) ho; rw [ht.1] at this; cases this
  have hin := Mf.off_not hoff
  rw [← ht.2.1, HN.out.1] at hin
  obtain ⟨j, rfl⟩ : ∃ j : Nat, i = (j : Int) := ⟨i.toNat, by omega⟩
  have hj : j < nx := by omega
  have HV : Hid (Mf.ver m (j : Int) l0 = 0 ∧ L = hv.set j true ∧ m.ds.length = nx) := Lib.hid ⟨ht.1, by have := ht.2.2; rwa [Int.toNat_natCast] at this, by rw [← ht.2.1]; exact HN.out.1⟩
  clear ht hoff hin
  obtain ⟨gx, ox, hax, _, _, cxs⟩ := be_cells HX.out (by omega)
  subst hax
  have cj : w4.cell? ⟨gx, ox + j, none⟩ = some (.bool true) := by
    rw [cxs j hj, HV.out.2.1]
    have : j < hv.length := by rw [HN.out.1]; exact hj
    simp [this]
  obtain ⟨ad, cd, hP2⟩ := mv_ds HM.out.2
  rw [HV.out.2.2] at hP2
  have c2 : w4.cell? ⟨g, 2, none⟩ = some (.slice ad nx cd) := by rw [HM.out.1.cell]; exact hP2
  have q1 : ((nx : Int) != (nx : Int)) = false := by simp
  have q2 : ¬ ((j : Int) < 0) := by omega
  have q3 : ¬ ((j : Int) ≥ (nx : Int)) := by omega
  have q4 : (j : Int) < (nx : Int) := by omega
  clear cxs
  go_wp2
  have HX2 : Hid (BE.Row w4 Any (some ⟨gx, ox, none⟩) nx (hv.set j true)) := Lib.hid (by rw [← HV.out.2.1]; exact HX.out)
  clear cj c2 q1 q2 q3 q4
  obtain ⟨ga, oa, haa, _, _, cas⟩ := be_cells HK.out.1 (by omega)
  subst haa
  have HC : Hid (∀ k, k < nx → w4.cell? ⟨ga, oa + k, none⟩ = some (.bool (hv.getD k false)) ∧ w4.cell? ⟨gx, ox + k, none⟩ = some (.bool ((hv.set j true).getD k false))) := Lib.hid (fun k hk => by
    obtain ⟨gb, ob, hbb, _, _, cb⟩ := be_cells HX2.out (by omega)
    injection hbb with hbb
    injection hbb with e1 e2
    subst e1 e2
    exact ⟨cas k hk, cb k hk⟩)
  clear HX HX2 cas
  go_loopw [10, 16] (fun r v wr => ∃ k : Nat, k ≤ nx ∧ r = .bool false ∧ v = .int .i64 (k : Int) ∧ Hid (∃ q, wr = w4.drewN q)) (fun _ v _ => nx - (intOf v).toNat)
  case atStart => exact ⟨0, Nat.zero_le _, rfl, rfl, Lib.hid ⟨0, rfl⟩⟩
  case round =>
    obtain ⟨k, hk, rfl, rfl, HQ⟩ := hrel
    have hb : Below w4.heap.size w4 wr := by obtain ⟨q, hq⟩ := HQ.out; rw [hq]; exact ⟨rfl, rfl, rfl, Nat.le_refl _, fun _ _ => rfl⟩
    have HM := Lib.hid (mb_on HM.out hb)
    have HK := Lib.hid (And.intro (HK.out.1.on hb) (And.intro (txt_on HK.out.2.1 hb) (And.intro (txt_on HK.out.2.2.1 hb) (keeps HK.out.2.2.2 hb))))
    clear hb
    by_cases hlt : k < nx
    case neg =>
      have q1 : ¬ ((k : Int) < (nx : Int)) := by omega
      go_wp2_with (first | ((with_reducible show wpList _ _ _ ((⟨some 109, Op.load 34 (.tmp 12), _, _, _, _⟩ : Oper) :: _) _ _); refine wpList_load_rowG (by rfl) _ (.tmp 12) rfl g rfl 34 P (0, 0) _ HM.out.1 Tryd.underlying34 rfl (by rw [hP]; exact info35) ?_) | fail)
      refine (verify_any HM.out.2 HI.out.1 HK.out.2.1 (by omega) HK.out.2.2.2.1).mono ?_
      rintro e w5 ⟨rfl, hb⟩
      rw [HV.out.1]
      have HK := Lib.hid (And.intro (HK.out.1.on hb) (And.intro (txt_on HK.out.2.1 hb) (And.intro (txt_on HK.out.2.2.1 hb) (keeps HK.out.2.2.2 hb))))
      clear hb
      go_wp2
      go_ret
      exact ⟨rfl, HK.out.2.2.2.2⟩
    have q1 : (k : Int) < (nx : Int) := by omega
    by_cases hkj : k = j
    · obtain rfl : k = j := hkj
      have hkj' : ((k : Int) != (k : Int)) = false := by simp
      go_wp2
      go_quiet (fail)
      go_wp2
      go_roundw
      case rel => exact ⟨k + 1, by omega, rfl, by go_num, Lib.hid (by obtain ⟨q, hq⟩ := HQ.out; exact ⟨q + nq, by rw [hq]; simp [World.drewN, Nat.add_assoc]⟩)⟩
      case measure => simp [intOf]; omega
    · have hkj' : ((k : Int) != (j : Int)) = true := by simp; omega
      obtain ⟨x, hx⟩ : ∃ x, hv.getD k false = x := ⟨_, rfl⟩
      have ca' : wr.cell? ⟨ga, oa + k, none⟩ = some (.bool x) := by obtain ⟨q, hq⟩ := HQ.out; rw [hq, ← hx]; exact (HC.out k hlt).1
      have cb' : wr.cell? ⟨gx, ox + k, none⟩ = some (.bool x) := by
        obtain ⟨q, hq⟩ := HQ.out
        have h := (HC.out k hlt).2
        have hkl : k < hv.length := by rw [HN.out.1]; exact hlt
        have e : (hv.set j true).getD k false = x := by rw [← hx]; simp [List.getElem?_set, hkl, Ne.symm hkj]
        rw [e] at h
        rw [hq]
        exact h
      have q2 : (x != x) = false := by simp
      clear hx hkj
      go_wp2
      go_quiet (fail)
      go_wp2
      go_roundw
      case rel => exact ⟨k + 1, by omega, rfl, by go_num, Lib.hid (by obtain ⟨q, hq⟩ := HQ.out; exact ⟨q + nq, by rw [hq]; simp [World.drewN, Nat.add_assoc]⟩)⟩
      case measure => simp [intOf]; omega
end Go.Proofs.YtiogfkhmigbgpaaDoor
