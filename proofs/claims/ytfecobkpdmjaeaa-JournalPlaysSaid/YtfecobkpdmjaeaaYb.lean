/-
  The walk of the document's Write.
-/
import Derived.Test.YtfecobkpdmjaeaaYa
namespace Go.Proofs.Ytfecobkpdmjaeaa
open Go.RowKit
set_option linter.unusedVariables false
set_option maxRecDepth 20000
set_option linter.unusedSimpArgs false
theorem splice_take {cur : List Value} {l b : List Int} {n k : Nat} (hc : cur.take (n * 64) = nums l) (hl : l.length = 64 * n) (hb : b.length = 64) (hk : k < n) (hs : n * 64 ≤ cur.length) : (splice cur (k * 64) (nums b)).take (n * 64) = nums (Dm.put l (64 * k) b) := by
  apply List.ext_getElem?
  intro i
  have h1 : (Dm.put l (64 * k) b).length = 64 * n := by rw [Dm.put_len (by omega)]; exact hl
  by_cases hi : i < n * 64
  · rw [List.getElem?_take, if_pos hi]
    unfold nums
    rw [List.getElem?_map, Dm.put_get (by omega)]
    have e : ∀ j, j < n * 64 → cur[j]? = (l[j]?).map (Value.int .u8) := fun j hj => by
      have := congrArg (·[j]?) hc
      simp only [List.getElem?_take, if_pos hj] at this
      rw [this]; unfold nums; rw [List.getElem?_map]
    unfold splice
    by_cases h2 : i < k * 64
    · rw [if_neg (by omega), List.getElem?_append_left (by simp; omega), List.getElem?_take, if_pos h2]
      exact e i hi
    · have h3 : (cur.take (k * 64)).length = k * 64 := by simp; omega
      rw [List.getElem?_append_right (by omega), h3]
      by_cases h4 : i < k * 64 + 64
      · rw [if_pos (by omega), List.getElem?_append_left (by simp [nums, hb]; omega)]
        rw [List.getElem?_map, Nat.mul_comm 64 k]
      · have h5 : (List.map (Value.int IntKind.u8) b).length = 64 := by simp [hb]
        rw [if_neg (by omega), List.getElem?_append_right (by omega), h5, List.getElem?_drop, ← e i hi]
        congr 1; omega
  · rw [List.getElem?_take, if_neg hi, List.getElem?_eq_none (by rw [nums_len]; omega)]
theorem rwrite_bad {w : World} {B r n : Nat} {vL vN vD : Value} {a : Dm.A} {z : Int} {b : List Int} (h : Rk w B r vL vN vD a n) (hE : bad a n z ≠ 0) :
    Calls Try.prog 23 #[.pointer (some ⟨r, 0, none⟩), .int .i64 z, .agg (nums b).toArray] w fun e w' => e = .returned (.int .i64 (bad a n z)) ∧ Below w.heap.size w w' := by
  have H := Lib.hid h
  obtain ⟨E, hE2⟩ : ∃ E, bad a n z = E := ⟨_, rfl⟩
  rw [hE2] at hE ⊢
  have HE := Lib.hid hE2
  have h1 : (E == 0) = false := by simpa using hE
  obtain ⟨C, hC⟩ : ∃ C, (nums b).toArray = C := ⟨_, rfl⟩
  rw [hC]
  clear hC hE2 h
  go_enter Try.func23, Try.ntmps23
  go_wp2_with fail
  refine (wrong_any (z := z) (H.out.below ((Below.refl _ _).alloc (Nat.le_refl _) _))).mono ?_
  rintro e w' ⟨rfl, rfl⟩
  rw [HE.out]
  go_wp2
  go_ret
  exact ⟨rfl, (Below.refl _ _).alloc (Nat.le_refl _) _⟩
set_option maxHeartbeats 8000000 in
theorem rwrite_ok {w : World} {B r n k : Nat} {vL vN vD : Value} {a : Dm.A} {b : List Int} (h : Rk w B r vL vN vD a n) (hd : a.down = false) (hk : k < n) (hb64 : b.length = 64) (hB : Byt b) (hbase : B ≤ w.heap.size) :
    Calls Try.prog 23 #[.pointer (some ⟨r, 0, none⟩), .int .i64 (k : Int), .agg (nums b).toArray] w fun e w' => e = .returned (.int .i64 0) ∧ (∃ vD', Rk w' B r vL vN vD' (Dm.write a k b) n) ∧ RF B w w' := by
  have HD := Lib.hid (And.intro hd (And.intro hk (And.intro hb64 (And.intro hB hbase))))
  have H := Lib.hid h
  clear h hd hk hb64 hB hbase
  obtain ⟨C, hC⟩ : ∃ C, (nums b).toArray = C := ⟨_, rfl⟩
  rw [hC]
  have k5 : Whole (w.alloc (.cells C 45)) w.heap.size 45 C := Whole.new w _ _
  have hb : Below w.heap.size w (w.alloc (.cells C 45)) := (Below.refl _ _).alloc (Nat.le_refl _) _
  obtain ⟨w1, h1⟩ : ∃ w1, w.alloc (.cells C 45) = w1 := ⟨_, rfl⟩
  rw [h1] at k5 hb
  have H1 := Lib.hid (And.intro (H.out.below hb) (And.intro k5 hb))
  have HC := Lib.hid hC
  have HW := Lib.hid h1
  have hz : bad a n (k : Int) = 0 := bad_zero.2 ⟨HD.out.1, by omega, by have := HD.out.2.1; omega⟩
  have HZ := Lib.hid hz
  clear hC h1 k5 hb hz
  go_enter Try.func23, Try.ntmps23
  go_wp2_with fail
  rw [HW.out]
  refine (wrong_any (z := (k : Int)) H1.out.1).mono ?_
  rintro e w' ⟨rfl, rfl⟩
  rw [HZ.out]
  have c1 := H1.out.1.c1
  obtain ⟨nb, nc, cur, hvN, hnbB, hnb, hns, hnt, hnc1, hnc2, hnc3⟩ := own_at H1.out.1.now (by have := HD.out.2.1; omega)
  have hvN' := hvN
  subst hvN'
  have q1 : (k : Int) < (n : Int) := by have := HD.out.2.1; omega
  have q2 : k < n := HD.out.2.1
  have HNB := Lib.hid (And.intro hnbB (And.intro hnb (And.intro hns (And.intro hnt (And.intro hnc1 (And.intro hnc2 hnc3))))))
  clear hvN hnbB hnb hns hnt hnc1 hnc2 hnc3
  go_upto_region 4 with (fail)
  refine wp_region_still_tail 7 (by kernel_rfl) (by kernel_rfl) ?_
  simp only [List.take_succ_cons, List.take_zero, List.drop_succ_cons, List.drop_zero]
  have c1' : w1.drew.cell? ⟨r, 1, none⟩ = some (.slice (some ⟨nb, 0, none⟩) n nc) := c1
  iterate 5 still_step
  have hC := HC.out
  subst hC
  refine wpStill_load_row (by rfl) 45 (.tmp 5) rfl w.heap.size rfl 45 (nums b).toArray (0, 0) _ H1.out.2.1 und_b rfl (info_bn HD.out.2.2.1) ?_
  go_frame
  still_step
  refine wpStill_nil ?_
  change wpList _ _ _ _ _ w1.drew
  have hcl : cur.toList.length = cur.size := by simp
  have hst : Whole w1.drew nb 45 cur.toList.toArray := by rw [Array.toArray_toList]; exact HNB.out.2.1
  have hfit : k * 64 + (nums b).length ≤ cur.toList.length := by rw [nums_len, HD.out.2.2.1, hcl]; have := HNB.out.2.2.1; omega
  refine wpList_store_part rfl 45 (.tmp 21) (.tmp 20) rfl nb (k * 64) (nums b) rfl rfl hst (info_bm HD.out.2.2.1) (nums_one _) hfit ?_
  have hw2 : Whole (w1.drew.setRow nb (splice cur.toList (k * 64) (nums b)).toArray) nb 45 (splice cur.toList (k * 64) (nums b)).toArray := Whole.row hst _
  have hg2 : w1.grownBy (w1.drew.setRow nb (splice cur.toList (k * 64) (nums b)).toArray) (some nb) := ⟨rfl, rfl, rfl, by simp [World.setRow], fun i _ hne => setRow_other w1 nb i _ (fun e => hne (by rw [e]))⟩
  have hsl : (splice cur.toList (k * 64) (nums b)).length = cur.size := by rw [length_splice _ _ _ hfit, hcl]
  generalize w1.drew.setRow nb (splice cur.toList (k * 64) (nums b)).toArray = w2 at *
  have hrne : r ≠ nb := by
    intro e
    have h1 := H1.out.1.cells
    have h2 := HNB.out.2.1
    unfold Whole at h1 h2
    rw [e, h2] at h1
    injection h1 with h3
    injection h3 with _ h4
    exact absurd h4 (by decide)
  have hown2 : w2.ownsRow B 45 64 (.slice (some ⟨nb, 0, none⟩) n nc) n (nums (Dm.now (Dm.write a k b))) := by
    refine ⟨by rw [nums_len, Dm.now_write H.out.ok HD.out.2.1 HD.out.2.2.1 HD.out.2.2.2.1, Dm.put_len (by have := (Dm.now_get H.out.ok).1; have := HD.out.2.1; have := HD.out.2.2.1; omega), (Dm.now_get H.out.ok).1]; omega, Or.inr ⟨nb, nc, _, rfl, HNB.out.1, hw2, HNB.out.2.2.2.2.1, HNB.out.2.2.2.2.2.1, by rw [List.size_toArray, hsl]; exact HNB.out.2.2.2.2.2.2, ?_⟩⟩
    rw [Dm.now_write H.out.ok HD.out.2.1 HD.out.2.2.1 HD.out.2.2.2.1]
    show (splice cur.toList (k * 64) (nums b)).take (n * 64) = _
    exact splice_take HNB.out.2.2.2.1 (Dm.now_get H.out.ok).1 HD.out.2.2.1 HD.out.2.1 (by rw [hcl]; exact HNB.out.2.2.1)
  have hdirty2 : w2.ownsRow B 3 1 vD (keys a.fresh).length (ints (keys a.fresh)) := own_keep H1.out.1.dirty (fun g cu hgc => hg2.block g (Array.getElem?_eq_some_iff.1 hgc).1 (fun e => by
    cases e
    have h2 := HNB.out.2.1
    unfold Whole at h2
    rw [h2] at hgc
    injection hgc with h3
    injection h3 with _ h4
    exact absurd h4 (by decide)))
  have hlast2 : w2.ownsRow B 45 64 vL n (nums a.last) := by
    rcases H1.out.1.last.2 with h0 | ⟨g, cap, cu, hv, h2, h3, hr⟩
    · exact ⟨H1.out.1.last.1, Or.inl h0⟩
    · refine ⟨H1.out.1.last.1, Or.inr ⟨g, cap, cu, hv, h2, (hg2.block g (Array.getElem?_eq_some_iff.1 h3).1 (fun e => ?_)).trans h3, hr⟩⟩
      have := H1.out.1.apart g (by rw [hv]; rfl)
      exact this e.symm
  have HR : Hid (Whole w2 r 56 #[vL, .slice (some ⟨nb, 0, none⟩) n nc, vD, .bool a.down] ∧ w2.ownsRow B 45 64 vL n (nums a.last) ∧ w2.ownsRow B 45 64 (.slice (some ⟨nb, 0, none⟩) n nc) n (nums (Dm.now (Dm.write a k b))) ∧ w2.ownsRow B 3 1 vD (keys a.fresh).length (ints (keys a.fresh)) ∧ RF B w w2 ∧ B ≤ w2.heap.size) := Lib.hid ⟨H1.out.1.cells.grown hg2 (by simpa using hrne), hlast2, hown2, hdirty2, (RF.of_below H1.out.2.2).trans (RF.of_grown hg2 HNB.out.1 HNB.out.2.1 (Or.inr rfl)), by have := hg2.size; have := H1.out.2.2.size; have := HD.out.2.2.2.2; omega⟩
  have hap := H1.out.1.apart
  have HAP := Lib.hid hap
  have c2 : w2.cell? ⟨r, 2, none⟩ = some vD := HR.out.1.cell 2
  obtain ⟨da, dc, hvD, hda⟩ := own_formR HR.out.2.2.2.1
  have HDA := Lib.hid (And.intro hvD hda)
  obtain ⟨K, hK⟩ : ∃ K, (keys a.fresh).length = K := ⟨_, rfl⟩
  have hKm : K ≤ 4096 := by
    have h1 := H.out.ok.fok.size
    have h2 := H.out.ok.small
    have h3 : (keys a.fresh).length = a.fresh.length := by simp [keys]
    omega
  rw [hK] at hvD
  have HK := Lib.hid hK
  have HVD := Lib.hid hvD
  rw [hvD] at c2
  clear hcl hst hfit hw2 hg2 hsl hrne hown2 hdirty2 hlast2 hap hvD hda hK c1 c1' H1 HNB HW
  go_wp2
  go_loop [8] (fun v => ∃ i : Nat, i ≤ K ∧ (∀ j, j < i → (keys a.fresh)[j]? ≠ some k) ∧ v = .int .i64 (i : Int)) (fun v => K - (intOf v).toNat)
  case atStart => exact ⟨0, Nat.zero_le _, (fun j hj => by omega), rfl⟩
  case round =>
    obtain ⟨i, hi, hno, rfl⟩ := hrel
    have HNO := Lib.hid hno
    clear hno
    by_cases hlt : i < K
    · obtain ⟨x, hx⟩ : ∃ x, (keys a.fresh)[i]? = some x := ⟨_, List.getElem?_eq_getElem (by rw [HK.out]; exact hlt)⟩
      have hcx : ∃ g, da = some ⟨g, 0, none⟩ ∧ w2.cell? ⟨g, i, none⟩ = some (.int .i64 (x : Int)) := by
        obtain ⟨g, c, cu, hv, _, hw, _, ht, _⟩ := own_at HR.out.2.2.2.1 (by rw [HK.out]; omega)
        rw [HVD.out] at hv
        injection hv with hv1
        refine ⟨g, hv1, (hw.cell i).trans ?_⟩
        have := congrArg (·[i]?) ht
        simp only [List.getElem?_take] at this
        rw [if_pos (by rw [HK.out]; omega), Array.getElem?_toList] at this
        rw [this]
        simp [ints, hx]
      obtain ⟨g, hg, cg⟩ := hcx
      have q3 : (i : Int) < (K : Int) := by omega
      have HG := Lib.hid hg
      have hg' := hg
      subst hg'
      clear hg
      by_cases hxk : x = k
      · have hmem : k ∈ keys a.fresh := List.mem_of_getElem? (by rw [hx, hxk])
        have HKS : Hid (keys (Dm.write a k b).fresh = keys a.fresh) := Lib.hid (by show keys (Dm.set a.fresh k b) = _; rw [keys_set, if_pos hmem])
        subst hxk
        have q4 : ((x : Int) == (x : Int)) = true := by simp
        clear hx hmem
        go_wp2
        go_ret
        exact ⟨rfl, ⟨vD, HR.out.1, HR.out.2.1, HR.out.2.2.1, by rw [HKS.out]; exact HR.out.2.2.2.1, HAP.out, H.out.base, Dm.write_ok H.out.ok HD.out.2.1 HD.out.2.2.1 HD.out.2.2.2.1⟩, HR.out.2.2.2.2.1⟩
      · have q4 : ((x : Int) == (k : Int)) = false := by simp; omega
        have hno : ∀ j, j < i + 1 → (keys a.fresh)[j]? ≠ some k := fun j hj => by
          by_cases e : j = i
          · rw [e, hx]; intro h; cases h; exact hxk rfl
          · exact HNO.out j (by omega)
        have HN2 := Lib.hid hno
        clear hx hxk hno
        go_wp2
        go_round
        case rel => exact ⟨i + 1, by omega, HN2.out, by go_num⟩
        case measure => simp [intOf]; omega
    · have hiK : i = K := by omega
      subst hiK
      have hnm : k ∉ keys a.fresh := fun hm => by
        obtain ⟨j, hj⟩ := List.getElem?_of_mem hm
        exact HNO.out j (by rw [← HK.out]; exact (List.getElem?_eq_some_iff.1 hj).1) hj
      have HKS : Hid (keys (Dm.write a k b).fresh = keys a.fresh ++ [k]) := Lib.hid (by show keys (Dm.set a.fresh k b) = _; rw [keys_set, if_neg hnm])
      have q3 : ¬ ((i : Int) < (i : Int)) := by omega
      clear hnm hlt
      have hk := HK.out
      have hb3 : Below w2.heap.size w2 (w2.alloc (.cells #[] 3)) := (Below.refl _ _).alloc (Nat.le_refl _) _
      have hs3 : (w2.alloc (.cells #[] 3)).heap.size = w2.heap.size + 1 := size_alloc _ _
      have c23 : (w2.alloc (.cells #[] 3)).cell? ⟨r, 2, none⟩ = some (.slice da i dc) := (World.cell?_of_block (w := w2) (hb3.block r HR.out.1.lt)).trans c2
      have hit3 : Its (w2.alloc (.cells #[] 3)) (fun _ => True) da i (toI (keys a.fresh)) := by
        obtain ⟨a1, c1, e1, it⟩ := own_its HR.out.2.2.2.1
        rw [HVD.out] at e1
        injection e1 with e2 _ _
        subst e2
        rw [hk] at it
        exact (it.weak (fun _ _ _ => trivial)).keep hb3.size (fun b hb _ => hb3.block b hb)
      obtain ⟨v1, w4, hrun1, hown4, hg4, hloc4⟩ := run_append_ints (w2.alloc (.cells #[] 3)) B 38 (.slice (some ⟨w2.heap.size, 0, none⟩) 0 0) [] ⟨rfl, Or.inr ⟨w2.heap.size, 0, #[], rfl, HR.out.2.2.2.2.2, heap_alloc_new w2 _, Nat.le_refl _, Nat.zero_le _, rfl, rfl⟩⟩ (fun _ => True) da i dc (keys a.fresh) hit3 (by intro e; have := HDA.out.2 e; omega) (by simp; omega) (by have := HR.out.2.2.2.2.2; omega)
      rw [List.nil_append] at hown4
      have hb4 : Below w2.heap.size w2 w4 := hb3.trans ⟨hg4.os, hg4.tape, hg4.output, hg4.size, fun j hj => hg4.block j (by omega) (fun e => by injection e with e; have e' : j = w2.heap.size := e; omega)⟩
      have hb5 : Below w4.heap.size w4 (w4.alloc (.cells #[.int .i64 (k : Int)] 3)) := (Below.refl _ _).alloc (Nat.le_refl _) _
      obtain ⟨v2, w6, hrun2, hown6, hg6, hloc6⟩ := run_append_ints (w4.alloc (.cells #[.int .i64 (k : Int)] 3)) B 38 v1 (keys a.fresh) (own_below hown4 hb5) (fun _ => True) (some ⟨w4.heap.size, 0, none⟩) 1 1 [k] (its_one w4 (k : Int) trivial) (fun e => by cases e) (by omega) (by have := HR.out.2.2.2.2.2; have := hb4.size; simp; omega)
      have hb6 : Below w2.heap.size w2 w6 := (hb4.trans (hb5.mono hb4.size)).trans ⟨hg6.os, hg6.tape, hg6.output, hg6.size, fun j hj => hg6.block j (by have := hb4.size; simp; omega) (fun e => by
        rcases hloc4 with h | h
        · rw [h] at e; injection e with e; have e' : j = w2.heap.size := e; omega
        · rw [h] at e; injection e with e; omega)⟩
      obtain ⟨a2, cc2, hv2, _⟩ := own_formR hown6
      subst hv2
      have hc6 : Whole w6 r 56 #[vL, .slice (some ⟨nb, 0, none⟩) n nc, vD, .bool a.down] := HR.out.1.keep (hb6.block r HR.out.1.lt)
      have c26 : w6.cell? ⟨r, 2, none⟩ = some vD := hc6.cell 2
      have f26 : w6.frozen? ⟨r, 2, none⟩ = false := hc6.frozen 2
      have hc7 : Whole (w6.setCell ⟨r, 2, none⟩ (.slice a2 (keys a.fresh ++ [k]).length cc2)) r 56 #[vL, .slice (some ⟨nb, 0, none⟩) n nc, .slice a2 (keys a.fresh ++ [k]).length cc2, .bool a.down] := hc6.set 2 _
      have hg7 : w6.grownBy (w6.setCell ⟨r, 2, none⟩ (.slice a2 (keys a.fresh ++ [k]).length cc2)) (some r) := ⟨rfl, rfl, rfl, by simp [World.setCell], fun j _ hne => Below.heap_setCell w6 ⟨r, 2, none⟩ _ j (fun e => hne (by rw [e]))⟩
      have hrn : ∀ (g : Nat) (t : TypeId) (cu : Array Value), w6.heap[g]? = some (.cells cu t (0, 0)) → t ≠ 56 → (w6.setCell ⟨r, 2, none⟩ (.slice a2 (keys a.fresh ++ [k]).length cc2)).heap[g]? = w6.heap[g]? := fun g t cu hgc ht => hg7.block g (Array.getElem?_eq_some_iff.1 hgc).1 (fun e => by
        cases e
        have h2 := hc6
        unfold Whole at h2
        rw [h2] at hgc
        injection hgc with h3
        injection h3 with _ h4
        exact ht h4.symm)
      have HF : Hid ((∃ vD', Rk (w6.setCell ⟨r, 2, none⟩ (.slice a2 (keys a.fresh ++ [k]).length cc2)) B r vL (.slice (some ⟨nb, 0, none⟩) n nc) vD' (Dm.write a k b) n) ∧ RF B w (w6.setCell ⟨r, 2, none⟩ (.slice a2 (keys a.fresh ++ [k]).length cc2))) := Lib.hid ⟨⟨_, hc7, own_keep (own_below HR.out.2.1 hb6) (fun g cu hgc => hrn g _ cu hgc (by decide)), own_keep (own_below HR.out.2.2.1 hb6) (fun g cu hgc => hrn g _ cu hgc (by decide)), by rw [HKS.out]; exact own_keep hown6 (fun g cu hgc => hrn g _ cu hgc (by decide)), HAP.out, H.out.base, Dm.write_ok H.out.ok HD.out.2.1 HD.out.2.2.1 HD.out.2.2.2.1⟩, (HR.out.2.2.2.2.1.trans (RF.of_below hb6)).trans (RF.of_grown hg7 H.out.base hc6 (Or.inl rfl))⟩
      have HRUN := Lib.hid (And.intro hrun1 hrun2)
      clear hk hb3 hs3 hit3 hown4 hg4 hloc4 hb4 hb5 hown6 hg6 hloc6 hb6 hc6 hc7 hg7 hrn hrun1 hrun2
      go_wp2_with (first | (at_builtin; refine wpList_append_run rfl (.tmp 41) (.tmp 45) 38 38 rfl rfl (.slice (some ⟨w2.heap.size, 0, none⟩) 0 0) (.slice da i dc) v1 w4 rfl rfl HRUN.out.1 ?_) | (at_builtin; refine wpList_append_run rfl (.tmp 46) (.tmp 48) 38 38 rfl rfl v1 _ _ w6 rfl rfl HRUN.out.2 ?_) | fail)
      go_ret
      exact ⟨rfl, by have := HF.out; simp only [List.length_append, List.length_singleton] at this; exact this⟩
theorem rwrite_z {w : World} {B r n : Nat} {z : Int} {vL vN vD : Value} {a : Dm.A} {b : List Int} (h : Rk w B r vL vN vD a n) (hb64 : b.length = 64) (hB : Byt b) (hbase : B ≤ w.heap.size) :
    Calls Try.prog 23 #[.pointer (some ⟨r, 0, none⟩), .int .i64 z, .agg (nums b).toArray] w fun e w' => e = .returned (.int .i64 (bad a n z)) ∧ (∃ vD', Rk w' B r vL vN vD' (wrz a n z b) n) ∧ RF B w w' := by
  unfold wrz
  by_cases hz : bad a n z = 0
  · obtain ⟨h1, h2, h3⟩ := bad_zero.1 hz
    obtain ⟨k, rfl⟩ := Int.eq_ofNat_of_zero_le h2
    rw [hz, if_pos rfl]
    exact rwrite_ok h h1 (by omega) hb64 hB hbase
  · rw [if_neg hz]
    exact (rwrite_bad h hz).mono fun e w' ⟨h1, h2⟩ => ⟨h1, ⟨vD, h.below h2⟩, RF.of_below h2⟩
end Go.Proofs.Ytfecobkpdmjaeaa
