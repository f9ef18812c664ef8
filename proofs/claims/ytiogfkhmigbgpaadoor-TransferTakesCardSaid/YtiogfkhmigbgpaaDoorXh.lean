/-
  The walk of TransferTakes.
-/
import Derived.Test.YtiogfkhmigbgpaaDoorXg
import Derived.Deep.OwnRows
namespace Go.Proofs.YtiogfkhmigbgpaaDoor
open Go.RowKit Go.Great
set_option linter.unusedVariables false
set_option linter.unusedSimpArgs false
set_option maxRecDepth 20000
theorem txt_on {w w' : World} {a : Option Addr} {n c : Nat} {l : List Int} (h : Txt w Any a n c l) (hb : Below w.heap.size w w') : Txt w' Any a n c l := h.below hb (fun _ h _ => h)
theorem txt_any {w : World} {S : Nat → Prop} {a : Option Addr} {n c : Nat} {l : List Int} (h : Txt w S a n c l) : Txt w Any a n c l := h.weak fun _ _ _ => trivial
theorem mb_on {w w' : World} {g : Nat} {P : Array Value} {m : Mf.Man} (h : MB w Any g P m) (hb : Below w.heap.size w w') : MB w' Any g P m := (h.on hb).any
theorem make_bools (n : Nat) (hn : n ≤ 1000000) (w : World) : (Instr.makeSlice 22 (.int .i64 (n : Int)) (.int .i64 (n : Int))).run Tryd.prog w = .ok (.slice (some ⟨w.heap.size, 0, none⟩) n n) (w.alloc (.cells ((List.replicate n false).map Value.bool).toArray 4)) := by
  have h := run_make_row' (P := Tryd.prog) 22 4 (.bool false) 1 Tryd.underlying22 bool_info rfl .i64 .i64 n (by omega) (by omega) w
  have e : madeCells #[Value.bool false] n = ((List.replicate n false).map Value.bool).toArray := by
    apply Array.ext
    · simp [size_madeCells]
    · intro i h1 h2
      simp [madeCells, Nat.mod_one]
  rw [← e]
  exact h
theorem set_len {m : Mf.Man} {hv : List Bool} {i : Int} {b : List Int} : (Tr.take m hv i b).1.length = hv.length := by
  unfold Tr.take
  split
  · rfl
  · split
    · rfl
    · simp
set_option maxHeartbeats 16000000 in
theorem takes_walk (hg : Trn) (hw : Awake) {w : World} {S S1 S2 S3 : Nat → Prop} {P : Array Value} {m : Mf.Man} (h : Mv w S (.agg P) m) {a : Option Addr} {n c : Nat} {hv : List Bool} (hr : BE.Row w S1 a n hv) (hc : n ≤ c) (i : Int) (hi : In64 i) {a0 : Option Addr} {n0 p0 : Nat} {l0 : List Int} (hb0 : Txt w S2 a0 n0 p0 l0) {a1 : Option Addr} {n1 p1 : Nat} {l1 : List Int} (hb1 : Txt w S3 a1 n1 p1 l1) (hR : Roots w) :
    Calls Tryd.prog 4 #[.agg P, .slice a n c, .int .i64 i, .slice a0 n0 p0, .slice a1 n1 p1] w fun e w' => e = .returned (.bool true) ∧ Below w.heap.size w w' := by
  have hP := mv_size h
  obtain ⟨ad, cd, hP2⟩ := mv_ds h
  have HG := Lib.hid hg
  have HA := Lib.hid hw
  have HI := Lib.hid hi
  have HN := Lib.hid hr.1
  have hb := below_alloc w (.cells P 34)
  have HM := Lib.hid (mb_new h)
  have HK := Lib.hid (And.intro (hr.anyon hb) (And.intro (txt_on (txt_any hb0) hb) (And.intro (txt_on (txt_any hb1) hb) (And.intro (hR.below hb hR.two) hb))))
  obtain ⟨w1, hw1⟩ : ∃ w1, w.alloc (.cells P 34) = w1 := ⟨_, rfl⟩
  obtain ⟨g, hg'⟩ : ∃ g, w.heap.size = g := ⟨_, rfl⟩
  rw [hw1] at HM HK
  rw [hg'] at HM
  have HW := Lib.hid (And.intro hg' hw1)
  clear hg hw h hr hi hb0 hb1 hR hb hw1 hg'
  go_enter Tryd.func4, Tryd.ntmps4
  go_upto_region 1 with fail
  rw [HW.out.1, HW.out.2]
  clear HW
  go_wp2_with fail
  refine (HA.out w1 HK.out.2.2.2.1).mono ?_
  rintro e w2 ⟨rfl, hb⟩
  have HM := Lib.hid (mb_on HM.out hb)
  have HK := Lib.hid (And.intro (HK.out.1.on hb) (And.intro (txt_on HK.out.2.1 hb) (And.intro (txt_on HK.out.2.2.1 hb) (keeps HK.out.2.2.2 hb))))
  clear hb
  have c2 : w2.cell? ⟨g, 2, none⟩ = some (.slice ad m.ds.length cd) := by rw [HM.out.1.cell]; exact hP2
  obtain ⟨k, hk⟩ : ∃ k, m.ds.length = k := ⟨_, rfl⟩
  have HKK := Lib.hid hk
  rw [hk] at c2 hP2
  clear hk
  by_cases z1 : k > 100
  · have z1' : (k : Int) > 100 := by omega
    go_wp2
    go_ret
    exact ⟨rfl, HK.out.2.2.2.2⟩
  have z1' : ¬ ((k : Int) > 100) := by omega
  by_cases z2 : n > 100
  · have z2' : (n : Int) > 100 := by omega
    go_wp2
    go_ret
    exact ⟨rfl, HK.out.2.2.2.2⟩
  have z2' : ¬ ((n : Int) > 100) := by omega
  by_cases z3 : n0 > 2000
  · have z3' : (n0 : Int) > 2000 := by omega
    go_wp2
    go_ret
    exact ⟨rfl, HK.out.2.2.2.2⟩
  have z3' : ¬ ((n0 : Int) > 2000) := by omega
  by_cases z4 : n1 > 2000
  · have z4' : (n1 : Int) > 2000 := by omega
    go_wp2
    go_ret
    exact ⟨rfl, HK.out.2.2.2.2⟩
  have z4' : ¬ ((n1 : Int) > 2000) := by omega
  obtain ⟨L, X, hLX⟩ : ∃ L X, Tr.take m hv i l0 = (L, X) := ⟨_, _, rfl⟩
  have HLX : Hid (Tr.take m hv i l0 = (L, X) ∧ L.length = n) := Lib.hid ⟨hLX, by have := set_len (m := m) (hv := hv) (i := i) (b := l0); rw [hLX] at this; rw [← HN.out]; exact this⟩
  clear hLX
  go_wp2_with (first | ((with_reducible show wpList _ _ _ ((⟨some 41, Op.load 34 (.tmp 5), _, _, _, _⟩ : Oper) :: _) _ _); refine wpList_load_rowG (by rfl) _ (.tmp 5) rfl g rfl 34 P (0, 0) _ HM.out.1 Tryd.underlying34 rfl (by rw [hP]; exact info35) ?_) | fail)
  clear c2 z1' z2' z3' z4'
  refine (HG.out.take HM.out.2 HK.out.1 (by omega) hc i HI.out HK.out.2.1 (by omega) HK.out.2.2.2.1).mono ?_
  rintro e w3 ⟨ax, nx, cx, rfl, hcx, hox, hb⟩
  rw [HLX.out.1] at hox ⊢
  obtain rfl : nx = n := by rw [← hox.1]; exact HLX.out.2
  have HM := Lib.hid (mb_on HM.out hb)
  have HK := Lib.hid (And.intro (HK.out.1.on hb) (And.intro (txt_on HK.out.2.1 hb) (And.intro (txt_on HK.out.2.2.1 hb) (keeps HK.out.2.2.2 hb))))
  have HX := Lib.hid hox.any
  clear hb hox hcx
  go_wp2_with (first | ((with_reducible show wpList _ _ _ ((⟨some 49, Op.load 34 (.tmp 5), _, _, _, _⟩ : Oper) :: _) _ _); refine wpList_load_rowG (by rfl) _ (.tmp 5) rfl g rfl 34 P (0, 0) _ HM.out.1 Tryd.underlying34 rfl (by rw [hP]; exact info35) ?_) | fail)
  refine (rtake_any HM.out.2 HK.out.1 (by omega) i HI.out HK.out.2.1 (by omega)).mono ?_
  rintro e w4 ⟨ay, ny, cy, rfl, hoy, hb⟩
  rw [HLX.out.1] at hoy ⊢
  obtain rfl : ny = nx := by rw [← hoy.1]; exact HLX.out.2
  have HM := Lib.hid (mb_on HM.out hb)
  have HK := Lib.hid (And.intro (HK.out.1.on hb) (And.intro (txt_on HK.out.2.1 hb) (And.intro (txt_on HK.out.2.2.1 hb) (keeps HK.out.2.2.2 hb))))
  have HX := Lib.hid (HX.out.on hb)
  have HY := Lib.hid hoy
  clear hb hoy
  go_wp2_with fail
  refine (rbsame_any HX.out HY.out (by omega)).mono ?_
  rintro e w5 ⟨rfl, hb⟩
  have HM := Lib.hid (mb_on HM.out hb)
  have HK := Lib.hid (And.intro (HK.out.1.on hb) (And.intro (txt_on HK.out.2.1 hb) (And.intro (txt_on HK.out.2.2.1 hb) (keeps HK.out.2.2.2 hb))))
  clear hb HX HY
  go_upto_region 7 with fail
  go_cut [17] (fun v wx => v = .bool true ∧ MB wx Any g P m ∧ BE.Row wx Any a ny hv ∧ Txt wx Any a0 n0 p0 l0 ∧ Txt wx Any a1 n1 p1 l1 ∧ Roots wx ∧ Below w.heap.size w wx)
  case first => as_aux_lemma =>
    have hb : Below w5.heap.size w5 w5.drew := (Below.refl _ w5).drew
    have HM := Lib.hid (mb_on HM.out hb)
    have HK := Lib.hid (And.intro (HK.out.1.on hb) (And.intro (txt_on HK.out.2.1 hb) (And.intro (txt_on HK.out.2.2.1 hb) (keeps HK.out.2.2.2 hb))))
    clear hb
    have hk0 := HM.out.1
    refine wp_region_held_drew (S := fun wq => Whole wq g 34 P) (by kernel_rfl) hk0 (fun hHeld => ?_)
    generalize w5.drew = wd at *
    clear hk0
    refine wpAnyH_take (i := 0) (v := .agg P) rfl (by kernel_rfl) (by kernel_rfl) (by kernel_rfl) (fun _ _ _ h => h) (yields_mb (by rfl) _ rfl g rfl P hP (fun wq hSw => hSw)) (by assumption) ?_
    try simp only [Act.put, List.getElem_toArray, List.getElem_cons_zero, List.getElem_cons_succ, List.setIfInBounds_toArray, List.set_cons_zero, List.set_cons_succ]
    refine wpAnyH_take (i := 1) (v := .slice a1 n1 p1) rfl (by kernel_rfl) (by kernel_rfl) (by kernel_rfl) (fun _ _ _ h => h) (Or.inl ⟨by rfl, (by intro w hSw; (try dsimp only at hSw); go_simp)⟩) (by assumption) ?_
    try simp only [Act.put, List.getElem_toArray, List.getElem_cons_zero, List.getElem_cons_succ, List.setIfInBounds_toArray, List.set_cons_zero, List.set_cons_succ]
    refine wpAnyH_take (i := 3) (v := .agg P) rfl (by kernel_rfl) (by kernel_rfl) (by kernel_rfl) (fun _ _ _ h => h) (yields_mb (by rfl) _ rfl g rfl P hP (fun wq hSw => hSw)) (by assumption) ?_
    try simp only [Act.put, List.getElem_toArray, List.getElem_cons_zero, List.getElem_cons_succ, List.setIfInBounds_toArray, List.set_cons_zero, List.set_cons_succ]
    refine wpAnyH_take (i := 4) (v := .slice a1 n1 p1) rfl (by kernel_rfl) (by kernel_rfl) (by kernel_rfl) (fun _ _ _ h => h) (Or.inl ⟨by rfl, (by intro w hSw; (try dsimp only at hSw); go_simp)⟩) (by assumption) ?_
    try simp only [Act.put, List.getElem_toArray, List.getElem_cons_zero, List.getElem_cons_succ, List.setIfInBounds_toArray, List.set_cons_zero, List.set_cons_succ]
    refine wpAnyH_ready (rs := [2]) (by kernel_rfl) (by simp) (AllReadyH.cons rfl (fun K hK => ?_) AllReadyH.nil)
    try simp only [List.getElem_toArray, List.getElem_cons_zero, List.getElem_cons_succ]
    go_simp
    refine (HG.out.find HM.out.2 (by rw [HKK.out]; omega) HK.out.2.2.1 (by omega) HK.out.2.2.2.1).mono ?_
    rintro e wa ⟨aF, nF, cF, rfl, ho, hb⟩
    have hlF : nF = (Tr.find m l1).length := ho.len.symm
    have hF1 : nF ≤ 1000000 := by
      have h1 := find_len m l1
      have h2 := HKK.out
      rw [hlF, h1]
      split
      · exact Nat.zero_le _
      · omega
    have HLF := Lib.hid hlF
    have HF := Lib.hid ho.any
    have HM := Lib.hid (mb_on HM.out hb)
    have HK := Lib.hid (And.intro (HK.out.1.on hb) (And.intro (txt_on HK.out.2.1 hb) (And.intro (txt_on HK.out.2.2.1 hb) (keeps HK.out.2.2.2 hb))))
    clear ho hb hHeld hlF
    have hk := HM.out.1
    go_wp2_with fail
    refine hK.out _ _ hk (fun hHeld => ?_)
    clear hK K hHeld
    try simp only [Act.put, List.getElem_toArray, List.getElem_cons_zero, List.getElem_cons_succ, List.setIfInBounds_toArray, List.set_cons_zero, List.set_cons_succ]
    have hHeld := hk
    clear hk
    refine wpAnyH_ready (rs := [5]) (by kernel_rfl) (by simp) (AllReadyH.cons rfl (fun K hK => ?_) AllReadyH.nil)
    try simp only [List.getElem_toArray, List.getElem_cons_zero, List.getElem_cons_succ]
    go_simp
    refine (rfind_any HM.out.2 HK.out.2.2.1 (by omega)).mono ?_
    rintro e wb ⟨aG, nG, cG, rfl, ho, hb⟩
    obtain rfl : nG = nF := by rw [HLF.out]; exact ho.len.symm
    have HF := Lib.hid (And.intro (HF.out.on hb) ho.any)
    have HM := Lib.hid (mb_on HM.out hb)
    have HK := Lib.hid (And.intro (HK.out.1.on hb) (And.intro (txt_on HK.out.2.1 hb) (And.intro (txt_on HK.out.2.2.1 hb) (keeps HK.out.2.2.2 hb))))
    clear ho hb hHeld
    have hk := HM.out.1
    go_wp2_with fail
    refine hK.out _ _ hk (fun hHeld => ?_)
    clear hK K hHeld
    try simp only [Act.put, List.getElem_toArray, List.getElem_cons_zero, List.getElem_cons_succ, List.setIfInBounds_toArray, List.set_cons_zero, List.set_cons_succ]
    have hHeld := hk
    clear hk
    refine wpAnyH_ready (rs := [6]) (by kernel_rfl) (by simp) (AllReadyH.cons rfl (fun K hK => ?_) AllReadyH.nil)
    try simp only [List.getElem_toArray, List.getElem_cons_zero, List.getElem_cons_succ]
    go_simp
    refine (rbsame_any HF.out.1 HF.out.2 hF1).mono ?_
    rintro e wc ⟨rfl, hb⟩
    have HM := Lib.hid (mb_on HM.out hb)
    have HK := Lib.hid (And.intro (HK.out.1.on hb) (And.intro (txt_on HK.out.2.1 hb) (And.intro (txt_on HK.out.2.2.1 hb) (keeps HK.out.2.2.2 hb))))
    clear hb hHeld HF
    have hk := HM.out.1
    go_wp2_with fail
    refine hK.out _ _ hk (fun hHeld => ?_)
    clear hK K hHeld
    try simp only [Act.put, List.getElem_toArray, List.getElem_cons_zero, List.getElem_cons_succ, List.setIfInBounds_toArray, List.set_cons_zero, List.set_cons_succ]
    have hHeld := hk
    clear hk
    refine wpAnyH_take (i := 7) (v := .bool true) rfl (by kernel_rfl) (by kernel_rfl) (by kernel_rfl) (fun _ _ _ h => h) (Or.inl ⟨by rfl, (by intro w hSw; (try dsimp only at hSw); go_simp)⟩) (by assumption) ?_
    try simp only [Act.put, List.getElem_toArray, List.getElem_cons_zero, List.getElem_cons_succ, List.setIfInBounds_toArray, List.set_cons_zero, List.set_cons_succ]
    refine wpAnyH_done (by kernel_rfl) ?_ _
    go_wp2
    go_meet
    case rel => exact ⟨rfl, HM.out, HK.out⟩
  obtain ⟨rfl, hm, hk⟩ := hcut
  have HM := Lib.hid hm
  have HK := Lib.hid hk
  clear hm hk
  go_upto_region 8 with fail
  go_cut [18] (fun v wx => v = .bool true ∧ Below w.heap.size w wx)
  case first => as_aux_lemma =>
    have hb : Below wc.heap.size wc wc.drew := (Below.refl _ wc).drew
    have HM := Lib.hid (mb_on HM.out hb)
    have HK := Lib.hid (And.intro (HK.out.1.on hb) (And.intro (txt_on HK.out.2.1 hb) (And.intro (txt_on HK.out.2.2.1 hb) (keeps HK.out.2.2.2 hb))))
    clear hb
    have hk0 := HM.out.1
    refine wp_region_held_drew (S := fun wq => Whole wq g 34 P) (by kernel_rfl) hk0 (fun hHeld => ?_)
    generalize wc.drew = wd at *
    clear hk0
    have hmk := make_bools k (by omega)
    obtain ⟨C, hC⟩ : ∃ C, ((List.replicate k false).map Value.bool).toArray = C := ⟨_, rfl⟩
    rw [hC] at hmk
    have HC := Lib.hid hC
    clear hC
    refine wpAnyH_take (i := 0) (v := .agg P) rfl (by kernel_rfl) (by kernel_rfl) (by kernel_rfl) (fun _ _ _ h => h) (yields_mb (by rfl) _ rfl g rfl P hP (fun wq hSw => hSw)) (by assumption) ?_
    try simp only [Act.put, List.getElem_toArray, List.getElem_cons_zero, List.getElem_cons_succ, List.setIfInBounds_toArray, List.set_cons_zero, List.set_cons_succ]
    refine wpAnyH_take (i := 2) (v := .pointer (some ⟨g, 2, none⟩)) rfl (by kernel_rfl) (by kernel_rfl) (by kernel_rfl) (fun _ _ _ h => h) (Or.inl ⟨by rfl, (by intro w hSw; (try dsimp only at hSw); go_simp)⟩) (by assumption) ?_
    try simp only [Act.put, List.getElem_toArray, List.getElem_cons_zero, List.getElem_cons_succ, List.setIfInBounds_toArray, List.set_cons_zero, List.set_cons_succ]
    refine wpAnyH_take (i := 3) (v := .slice ad k cd) rfl (by kernel_rfl) (by kernel_rfl) (by kernel_rfl) (fun _ _ _ h => h) (Or.inl ⟨by rfl, (by intro wq hSw; have hq : wq.cell? ⟨g, 2, none⟩ = some (.slice ad k cd) := (by rw [hSw.cell]; exact hP2); clear hSw; go_simp)⟩) (by assumption) ?_
    try simp only [Act.put, List.getElem_toArray, List.getElem_cons_zero, List.getElem_cons_succ, List.setIfInBounds_toArray, List.set_cons_zero, List.set_cons_succ]
    refine wpAnyH_take (i := 4) (v := .int .i64 (k : Int)) rfl (by kernel_rfl) (by kernel_rfl) (by kernel_rfl) (fun _ _ _ h => h) (Or.inl ⟨by rfl, (by intro w hSw; (try dsimp only at hSw); go_simp)⟩) (by assumption) ?_
    try simp only [Act.put, List.getElem_toArray, List.getElem_cons_zero, List.getElem_cons_succ, List.setIfInBounds_toArray, List.set_cons_zero, List.set_cons_succ]
    refine wpAnyH_ready (rs := [1, 5]) (by kernel_rfl) (by simp) (AllReadyH.cons rfl (fun K hK => ?_) (AllReadyH.cons rfl (fun K hK => ?_) AllReadyH.nil))
    · skip
      try simp only [List.getElem_toArray, List.getElem_cons_zero, List.getElem_cons_succ]
      go_simp
      refine (HG.out.none HM.out.2 (by rw [HKK.out]; omega)).mono ?_
      rintro e wa ⟨aF, nF, cF, rfl, ho, hb⟩
      rw [HKK.out] at ho
      obtain rfl : nF = k := by rw [← ho.len]; simp
      have HF := Lib.hid ho.any
      have HM := Lib.hid (mb_on HM.out hb)
      have HK := Lib.hid (And.intro (HK.out.1.on hb) (And.intro (txt_on HK.out.2.1 hb) (And.intro (txt_on HK.out.2.2.1 hb) (keeps HK.out.2.2.2 hb))))
      clear ho hb hHeld
      have hk := HM.out.1
      go_wp2_with fail
      refine hK.out _ _ hk (fun hHeld => ?_)
      clear hK K hHeld
      try simp only [Act.put, List.getElem_toArray, List.getElem_cons_zero, List.getElem_cons_succ, List.setIfInBounds_toArray, List.set_cons_zero, List.set_cons_succ]
      have hHeld := hk
      clear hk
      refine wpAnyH_ready (rs := [5]) (by kernel_rfl) (by simp) (AllReadyH.cons rfl (fun K hK => ?_) AllReadyH.nil)
      try simp only [List.getElem_toArray, List.getElem_cons_zero, List.getElem_cons_succ]
      go_simp
      obtain ⟨wb, hwb⟩ : ∃ wb, wa.alloc (.cells C 4) = wb := ⟨_, rfl⟩
      have hb : Below wa.heap.size wa wb := by rw [← hwb]; exact below_alloc _ _
      have hz : BE.Row wb Any (some ⟨wa.heap.size, 0, none⟩) nF (List.replicate nF false) := by rw [← hwb, ← HC.out]; have := be_whole (S := Any) (Whole.new wa 4 ((List.replicate nF false).map Value.bool).toArray) trivial; rw [List.length_replicate] at this; exact this
      rw [hwb]
      clear hwb hHeld
      have HF := Lib.hid (And.intro (HF.out.on hb) hz)
      have HM := Lib.hid (mb_on HM.out hb)
      have HK := Lib.hid (And.intro (HK.out.1.on hb) (And.intro (txt_on HK.out.2.1 hb) (And.intro (txt_on HK.out.2.2.1 hb) (keeps HK.out.2.2.2 hb))))
      clear hb hz
      have hk := HM.out.1
      go_wp2_with fail
      refine hK.out _ _ hk (fun hHeld => ?_)
      clear hK K hHeld
      try simp only [Act.put, List.getElem_toArray, List.getElem_cons_zero, List.getElem_cons_succ, List.setIfInBounds_toArray, List.set_cons_zero, List.set_cons_succ]
      have hHeld := hk
      clear hk
      refine wpAnyH_ready (rs := [6]) (by kernel_rfl) (by simp) (AllReadyH.cons rfl (fun K hK => ?_) AllReadyH.nil)
      try simp only [List.getElem_toArray, List.getElem_cons_zero, List.getElem_cons_succ]
      go_simp
      refine (rbsame_any HF.out.1 HF.out.2 (by omega)).mono ?_
      rintro e wz ⟨rfl, hb⟩
      have HM := Lib.hid (mb_on HM.out hb)
      have HK := Lib.hid (And.intro (HK.out.1.on hb) (And.intro (txt_on HK.out.2.1 hb) (And.intro (txt_on HK.out.2.2.1 hb) (keeps HK.out.2.2.2 hb))))
      clear hb hHeld HF
      have hk := HM.out.1
      go_wp2_with fail
      refine hK.out _ _ hk (fun hHeld => ?_)
      clear hK K hHeld
      try simp only [Act.put, List.getElem_toArray, List.getElem_cons_zero, List.getElem_cons_succ, List.setIfInBounds_toArray, List.set_cons_zero, List.set_cons_succ]
      have hHeld := hk
      clear hk
      refine wpAnyH_take (i := 7) (v := .bool true) rfl (by kernel_rfl) (by kernel_rfl) (by kernel_rfl) (fun _ _ _ h => h) (Or.inl ⟨by rfl, (by intro w hSw; (try dsimp only at hSw); go_simp)⟩) (by assumption) ?_
      try simp only [Act.put, List.getElem_toArray, List.getElem_cons_zero, List.getElem_cons_succ, List.setIfInBounds_toArray, List.set_cons_zero, List.set_cons_succ]
      refine wpAnyH_done (by kernel_rfl) ?_ _
      go_wp2
      go_meet
      case rel => exact ⟨rfl, HK.out.2.2.2.2⟩
    · skip
      try simp only [List.getElem_toArray, List.getElem_cons_zero, List.getElem_cons_succ]
      go_simp
      obtain ⟨wb, hwb⟩ : ∃ wb, wd.alloc (.cells C 4) = wb := ⟨_, rfl⟩
      have hb : Below wd.heap.size wd wb := by rw [← hwb]; exact below_alloc _ _
      have hz : BE.Row wb Any (some ⟨wd.heap.size, 0, none⟩) k (List.replicate k false) := by rw [← hwb, ← HC.out]; have := be_whole (S := Any) (Whole.new wd 4 ((List.replicate k false).map Value.bool).toArray) trivial; rw [List.length_replicate] at this; exact this
      rw [hwb]
      clear hwb hHeld
      have HF := Lib.hid hz
      have HM := Lib.hid (mb_on HM.out hb)
      have HK := Lib.hid (And.intro (HK.out.1.on hb) (And.intro (txt_on HK.out.2.1 hb) (And.intro (txt_on HK.out.2.2.1 hb) (keeps HK.out.2.2.2 hb))))
      clear hb hz
      have hk := HM.out.1
      go_wp2_with fail
      refine hK.out _ _ hk (fun hHeld => ?_)
      clear hK K hHeld
      try simp only [Act.put, List.getElem_toArray, List.getElem_cons_zero, List.getElem_cons_succ, List.setIfInBounds_toArray, List.set_cons_zero, List.set_cons_succ]
      have hHeld := hk
      clear hk
      refine wpAnyH_ready (rs := [1]) (by kernel_rfl) (by simp) (AllReadyH.cons rfl (fun K hK => ?_) AllReadyH.nil)
      try simp only [List.getElem_toArray, List.getElem_cons_zero, List.getElem_cons_succ]
      go_simp
      refine (HG.out.none HM.out.2 (by rw [HKK.out]; omega)).mono ?_
      rintro e wa ⟨aF, nF, cF, rfl, ho, hb⟩
      rw [HKK.out] at ho
      obtain rfl : nF = k := by rw [← ho.len]; simp
      have HF := Lib.hid (And.intro ho.any (HF.out.on hb))
      have HM := Lib.hid (mb_on HM.out hb)
      have HK := Lib.hid (And.intro (HK.out.1.on hb) (And.intro (txt_on HK.out.2.1 hb) (And.intro (txt_on HK.out.2.2.1 hb) (keeps HK.out.2.2.2 hb))))
      clear ho hb hHeld
      have hk := HM.out.1
      go_wp2_with fail
      refine hK.out _ _ hk (fun hHeld => ?_)
      clear hK K hHeld
      try simp only [Act.put, List.getElem_toArray, List.getElem_cons_zero, List.getElem_cons_succ, List.setIfInBounds_toArray, List.set_cons_zero, List.set_cons_succ]
      have hHeld := hk
      clear hk
      refine wpAnyH_ready (rs := [6]) (by kernel_rfl) (by simp) (AllReadyH.cons rfl (fun K hK => ?_) AllReadyH.nil)
      try simp only [List.getElem_toArray, List.getElem_cons_zero, List.getElem_cons_succ]
      go_simp
      refine (rbsame_any HF.out.1 HF.out.2 (by omega)).mono ?_
      rintro e wz ⟨rfl, hb⟩
      have HM := Lib.hid (mb_on HM.out hb)
      have HK := Lib.hid (And.intro (HK.out.1.on hb) (And.intro (txt_on HK.out.2.1 hb) (And.intro (txt_on HK.out.2.2.1 hb) (keeps HK.out.2.2.2 hb))))
      clear hb hHeld HF
      have hk := HM.out.1
      go_wp2_with fail
      refine hK.out _ _ hk (fun hHeld => ?_)
      clear hK K hHeld
      try simp only [Act.put, List.getElem_toArray, List.getElem_cons_zero, List.getElem_cons_succ, List.setIfInBounds_toArray, List.set_cons_zero, List.set_cons_succ]
      have hHeld := hk
      clear hk
      refine wpAnyH_take (i := 7) (v := .bool true) rfl (by kernel_rfl) (by kernel_rfl) (by kernel_rfl) (fun _ _ _ h => h) (Or.inl ⟨by rfl, (by intro w hSw; (try dsimp only at hSw); go_simp)⟩) (by assumption) ?_
      try simp only [Act.put, List.getElem_toArray, List.getElem_cons_zero, List.getElem_cons_succ, List.setIfInBounds_toArray, List.set_cons_zero, List.set_cons_succ]
      refine wpAnyH_done (by kernel_rfl) ?_ _
      go_wp2
      go_meet
      case rel => exact ⟨rfl, HK.out.2.2.2.2⟩
  obtain ⟨rfl, hk⟩ := hcut
  have HB := Lib.hid hk
  have q : (X == X) = true := by simp
  clear hk HM HK
  go_wp2
  go_ret
  exact ⟨rfl, HB.out⟩
end Go.Proofs.YtiogfkhmigbgpaaDoor
