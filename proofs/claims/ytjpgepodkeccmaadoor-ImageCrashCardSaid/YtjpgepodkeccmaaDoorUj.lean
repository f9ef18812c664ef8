/-
  The walk of blockOf.
-/
import Derived.Test.YtjpgepodkeccmaaDoorUi
namespace Go.Proofs.YtjpgepodkeccmaaDoor
open Go.RowKit
set_option linter.unusedVariables false
set_option linter.unusedSimpArgs false
set_option maxRecDepth 20000
theorem zero_k (w : World) : (zeroValue 66).run Tryd.prog w = .ok (.agg zb) w := by kernel_rfl
theorem spl (l b : List Int) (o : Nat) : splice (nums l) o (nums b) = nums (Dm.put l o b) := by
  unfold splice Dm.put
  rw [nums_append, nums_append, nums_take, nums_drop, nums_len]
theorem put_mid {A b X : List Int} {o : Nat} (h : A.length = o) : Dm.put (A ++ X) o b = A ++ (b ++ X.drop b.length) := by
  subst h
  unfold Dm.put
  rw [List.take_left, ← List.drop_drop, List.drop_left]
theorem blk_built (a : Int) (p q r wh : List Int) (hp : p.length = 8) (hq : q.length = 8) (hr : r.length = 4) (hw : wh.length = 32) :
    Dm.put (Dm.put (Dm.put (Dm.put ((Dm.put z64 0 p).set 8 a) 9 q) 17 r) 21 wh) 56 p = p ++ (a :: (q ++ (r ++ (wh ++ ([0, 0, 0] ++ p))))) := by
  have e1 : Dm.put z64 0 p = p ++ List.replicate 56 0 := by
    have := put_mid (A := []) (b := p) (X := z64) (o := 0) rfl
    rw [List.nil_append, List.nil_append, hp] at this
    rw [this]; rfl
  have e2 : (p ++ List.replicate 56 (0 : Int)).set 8 a = (p ++ [a]) ++ List.replicate 55 0 := by
    rw [List.set_append_right _ _ (by omega), hp]
    simp [List.replicate_succ]
  have e3 := put_mid (A := p ++ [a]) (b := q) (X := List.replicate 55 0) (o := 9) (by simp [hp])
  have e4 := put_mid (A := (p ++ [a]) ++ q) (b := r) (X := List.replicate 47 0) (o := 17) (by simp [hp, hq])
  have e5 := put_mid (A := ((p ++ [a]) ++ q) ++ r) (b := wh) (X := List.replicate 43 0) (o := 21) (by simp [hp, hq, hr])
  have e6 := put_mid (A := (((p ++ [a]) ++ q) ++ r) ++ (wh ++ [0, 0, 0])) (b := p) (X := List.replicate 8 0) (o := 56) (by simp [hp, hq, hr, hw])
  rw [hq, List.drop_replicate] at e3
  rw [hr, List.drop_replicate] at e4
  rw [hw, List.drop_replicate] at e5
  rw [hp, List.drop_replicate] at e6
  rw [e1, e2, e3, ← List.append_assoc, e4, ← List.append_assoc, e5]
  have e7 : List.replicate (43 - 32) (0 : Int) = [0, 0, 0] ++ List.replicate 8 0 := rfl
  rw [e7, ← List.append_assoc wh, ← List.append_assoc, e6]
  simp
structure BO (w0 w : World) (C : Array Value) (l : List Int) : Prop where
  bt : Whole w w0.heap.size 41 C
  res : Whole w (w0.heap.size + 1) 66 zb
  blk : Whole w (w0.heap.size + 1 + 1) 66 (nums l).toArray
  bel : Below w0.heap.size w0 w
theorem BO.lay {w0 w w' : World} {C : Array Value} {l l' : List Int} (h : BO w0 w C l) (ho : Only [w0.heap.size + 1 + 1] w w') (hw : Whole w' (w0.heap.size + 1 + 1) 66 (nums l').toArray) : BO w0 w' C l' :=
  ⟨h.bt.keep (ho.block _ h.bt.lt (by simp; omega)), h.res.keep (ho.block _ h.res.lt (by simp)), hw, h.bel.trans (ho.below h.bel.size (by simp; omega))⟩
theorem BO.drew {w0 w : World} {C : Array Value} {l : List Int} (h : BO w0 w C l) : BO w0 w.drew C l := ⟨h.bt, h.res, h.blk, ⟨h.bel.os, h.bel.tape, h.bel.output, h.bel.size, h.bel.block⟩⟩
theorem BO.lay2 {w0 w w' : World} {C : Array Value} {l : List Int} {o k n : Nat} (h : BO w0 w C l) (ho : Only [w0.heap.size + 1 + 1] w w') (hw : Whole w' (w0.heap.size + 1 + 1) 66 (splice (nums l) o (nums (low k n))).toArray) : BO w0 w' C (Dm.put l o (low k n)) := by
  rw [spl] at hw
  exact h.lay ho hw
theorem set_nums (l : List Int) (k : Nat) (x : Int) : (nums l).toArray.setIfInBounds k (.int .u8 x) = (nums (l.set k x)).toArray := by simp [nums]
theorem BO.set {w0 w : World} {C : Array Value} {l : List Int} (h : BO w0 w C l) (k : Nat) (x : Int) : BO w0 (w.setCell ⟨w0.heap.size + 1 + 1, k, none⟩ (.int .u8 x)) C (l.set k x) :=
  h.lay (only_set _ _ _ _) (by rw [← set_nums]; exact h.blk.set k _)
set_option maxHeartbeats 8000000 in
theorem iblock_any {C : Array Value} {b : Im.Bt} {c : Nat} {w : World} (hb : KC C b) (hm : Im.May b) (hc : c ≤ 1099511627776) : Calls Tryd.prog 29 #[.agg C, .int .i64 (c : Int)] w fun e w' => e = .returned (.agg (nums (Im.blkOf b c)).toArray) ∧ Below w.heap.size w w' := by
  obtain ⟨ar, ep, sz, wh⟩ := b
  obtain ⟨m1, m2, m3, m4, m5⟩ := hm
  simp only at m1 m2 m3 m4 m5
  obtain ⟨E, rfl⟩ := Int.eq_ofNat_of_zero_le m2
  obtain ⟨Z, rfl⟩ := Int.eq_ofNat_of_zero_le (show (0 : Int) ≤ sz by omega)
  have hw0 : Whole (((w.alloc (.cells C 41)).alloc (.cells zb 66)).alloc (.cells zb 66)) w.heap.size 41 C := ((Whole.new w _ _).alloc _).alloc _
  have hr0 : Whole (((w.alloc (.cells C 41)).alloc (.cells zb 66)).alloc (.cells zb 66)) (w.heap.size + 1) 66 zb := by
    have := Whole.new (w.alloc (.cells C 41)) 66 zb
    rw [size_alloc] at this
    exact this.alloc _
  have hg0 : Whole (((w.alloc (.cells C 41)).alloc (.cells zb 66)).alloc (.cells zb 66)) (w.heap.size + 1 + 1) 66 zb := by
    have := Whole.new ((w.alloc (.cells C 41)).alloc (.cells zb 66)) 66 zb
    rw [size_alloc, size_alloc] at this
    exact this
  have hb0 : Below w.heap.size w (((w.alloc (.cells C 41)).alloc (.cells zb 66)).alloc (.cells zb 66)) := (((Below.refl _ _).alloc (Nat.le_refl _) _).alloc (by simp) _).alloc (by simp; omega) _
  have hzb := zero_k
  have HB := Lib.hid hb
  have HBL : Hid (wh.length = 32) := Lib.hid hb.2.1
  have HBY : Hid (Byt wh) := Lib.hid hb.2.2
  clear hb
  go_enter Tryd.func29, Tryd.ntmps29
  go_wp2_with fail
  generalize ((w.alloc (.cells C 41)).alloc (.cells zb 66)).alloc (.cells zb 66) = w1 at *
  have H1 : Hid (BO w w1 C z64) := Lib.hid ⟨hw0, hr0, hg0, hb0⟩
  have m6 : 0 ≤ ar := by omega
  have m7 : ar < 256 := by omega
  have HM := Lib.hid m1
  clear hw0 hr0 hg0 hb0 m1 hzb
  refine (jlay_any (off := 0) (k := 8) H1.out.blk (by rw [nums_len]; decide) (by omega) (by omega)).mono ?_
  rintro e w2 ⟨rfl, h2, o2⟩
  have h2 := H1.out.lay2 o2 h2
  obtain ⟨L1, hL1⟩ : ∃ L1, Dm.put z64 0 (low 8 c) = L1 := ⟨_, rfl⟩
  have hl1 : L1.length = 64 := by rw [← hL1, Dm.put_len (by simp [low_len, z64])]; rfl
  rw [hL1] at h2
  have c0 : w2.cell? ⟨w.heap.size, 0, none⟩ = some (.int .i64 ar) := HB.out.c0 h2.bt
  have c8 : w2.cell? ⟨w.heap.size + 1 + 1, 8, none⟩ = some (.int .u8 (L1.getD 8 0)) := by rw [h2.blk.cell, List.getElem?_toArray, nums_get _ _ (by omega)]
  have f8 := h2.blk.frozen 8
  have h3 := h2.set 8 ar
  obtain ⟨w3, hw3⟩ : ∃ w3, w2.setCell ⟨w.heap.size + 1 + 1, 8, none⟩ (.int .u8 ar) = w3 := ⟨_, rfl⟩
  rw [hw3] at h3
  have H3 := Lib.hid h3
  have HW3 := Lib.hid hw3
  have HL1 := Lib.hid (And.intro hL1 hl1)
  clear h2 o2 h3 hw3 hL1 hl1
  have c1 := HB.out.c1 H3.out.bt
  have c1d : w3.drew.cell? ⟨w.heap.size, 1, none⟩ = some (.int .i64 (E : Int)) := c1
  go_wp2_with (rw [HW3.out])
  have e1 : IntKind.u64.wrap (E : Int) = (E : Int) := by rw [IntKind.wrap_u64]; omega
  clear c0 c8 f8 h2 HW3
  go_still_tail 4, (by kernel_rfl)
  change wpList _ _ _ _ _ w3.drew
  have H4 : Hid (BO w w3.drew C (L1.set 8 ar)) := Lib.hid H3.out.drew
  generalize w3.drew = w4 at *
  clear c1 c1d e1
  go_wp2_with fail
  refine (jlay_any (off := 9) (k := 8) H4.out.blk (by rw [nums_len, List.length_set, HL1.out.2]; decide) (by omega) (by omega)).mono ?_
  rintro e w5 ⟨rfl, h5, o5⟩
  have H5 := Lib.hid (H4.out.lay2 o5 h5)
  clear h5 o5
  obtain ⟨L2, hL2⟩ : ∃ L2, Dm.put (L1.set 8 ar) 9 (low 8 E) = L2 := ⟨_, rfl⟩
  have hl2 : L2.length = 64 := by rw [← hL2, Dm.put_len (by simp [low_len, HL1.out.2]), List.length_set, HL1.out.2]
  rw [hL2] at H5
  have HL2 := Lib.hid (And.intro hL2 hl2)
  clear hL2 hl2
  have c2d : w5.drew.cell? ⟨w.heap.size, 2, none⟩ = some (.int .i64 (Z : Int)) := HB.out.c2 H5.out.bt
  have e2 : IntKind.u64.wrap (Z : Int) = (Z : Int) := by rw [IntKind.wrap_u64]; omega
  go_wp2_with fail
  go_still_tail 4, (by kernel_rfl)
  change wpList _ _ _ _ _ w5.drew
  have H6 : Hid (BO w w5.drew C L2) := Lib.hid H5.out.drew
  generalize w5.drew = w6 at *
  clear c2d e2
  go_wp2_with fail
  refine (jlay_any (off := 17) (k := 4) H6.out.blk (by rw [nums_len, HL2.out.2]; decide) (by omega) (by omega)).mono ?_
  rintro e w7 ⟨rfl, h7, o7⟩
  have H7 := Lib.hid (H6.out.lay2 o7 h7)
  clear h7 o7
  obtain ⟨L3, hL3⟩ : ∃ L3, Dm.put L2 17 (low 4 Z) = L3 := ⟨_, rfl⟩
  have hl3 : L3.length = 64 := by rw [← hL3, Dm.put_len (by simp [low_len, HL2.out.2]), HL2.out.2]
  rw [hL3] at H7
  have HL3 := Lib.hid (And.intro hL3 hl3)
  clear hL3 hl3
  go_wp2_with fail
  go_still_tail 3, (by kernel_rfl)
  change wpList _ _ _ _ _ w7.drew
  have hsrc : ∀ i v, (nums wh)[i]? = some v → w7.drew.cell? ((⟨w.heap.size, 3, none⟩ : Addr).add i) = some v := by
    intro i v hv
    rw [Addr.add_lit]
    show w7.cell? _ = _
    rw [H7.out.bt.cell, HB.out.1, List.getElem?_toArray]
    unfold bc
    rw [show 3 + i = i + 1 + 1 + 1 by omega]
    simp only [List.getElem?_cons_succ]
    exact hv
  refine wpList_copy_own rfl (.tmp 24) (.tmp 26) 26 26 rfl 5 Tryd.underlying26 infou8 (w.heap.size + 1 + 1) 21 32 43 ⟨w.heap.size, 3, none⟩ 32 32 rfl rfl (nums L3).toArray 66 H7.out.blk (nums wh) (by rw [nums_len, HBL.out]; rfl) hsrc (by rw [nums_len, HBL.out, List.size_toArray, nums_len, HL3.out.2]; omega) (nums_one _) ?_
  have hE : ((nums L3).toArray.toList.take 21 ++ (nums wh ++ (nums L3).toArray.toList.drop (21 + (nums wh).length))).toArray = (nums (Dm.put L3 21 wh)).toArray := nums_put _ _ _
  rw [hE]
  have h8 : BO w (w7.drew.setRow (w.heap.size + 1 + 1) (nums (Dm.put L3 21 wh)).toArray) C (Dm.put L3 21 wh) := (BO.drew H7.out).lay (Only.of_grown (Sh.grown_row _ _ _) (by simp)) (Whole.row (w := w7.drew) H7.out.blk _)
  generalize w7.drew.setRow (w.heap.size + 1 + 1) (nums (Dm.put L3 21 wh)).toArray = w8 at *
  obtain ⟨L4, hL4⟩ : ∃ L4, Dm.put L3 21 wh = L4 := ⟨_, rfl⟩
  have hl4 : L4.length = 64 := by rw [← hL4, Dm.put_len (by rw [HBL.out, HL3.out.2]; omega), HL3.out.2]
  rw [hL4] at h8
  have H8 := Lib.hid h8
  have HL4 := Lib.hid (And.intro hL4 hl4)
  clear h8 hL4 hl4 hsrc hE
  go_wp2_with fail
  refine (jlay_any (off := 56) (k := 8) H8.out.blk (by rw [nums_len, HL4.out.2]; decide) (by omega) (by omega)).mono ?_
  rintro e w9 ⟨rfl, h9, o9⟩
  have H9 := Lib.hid (H8.out.lay2 o9 h9)
  clear h9 o9
  have hL5 : Dm.put L4 56 (low 8 c) = Im.blkOf ⟨ar, (E : Int), (Z : Int), wh⟩ c := by
    rw [← HL4.out.1, ← HL3.out.1, ← HL2.out.1, ← HL1.out.1]
    exact blk_built ar (low 8 c) (low 8 E) (low 4 Z) wh (low_len _ _) (low_len _ _) (low_len _ _) HBL.out
  rw [hL5] at H9
  have hl5 : (Im.blkOf ⟨ar, (E : Int), (Z : Int), wh⟩ c).length = 64 := Im.blk_len HBL.out
  have hb5 : Byt (Im.blkOf ⟨ar, (E : Int), (Z : Int), wh⟩ c) := Im.blk_byt HBY.out HM.out
  obtain ⟨L5, hL6⟩ : ∃ L5, Im.blkOf ⟨ar, (E : Int), (Z : Int), wh⟩ c = L5 := ⟨_, rfl⟩
  rw [hL6] at H9 hl5 hb5
  have HL5 := Lib.hid hL6
  obtain ⟨D, hD⟩ : ∃ D, (nums L5).toArray = D := ⟨_, rfl⟩
  have HK : Hid (KB D L5) := Lib.hid ⟨hD.symm, hl5, hb5⟩
  have h10 := H9.out.blk
  rw [hD] at h10
  have H10 := Lib.hid (And.intro h10 (And.intro H9.out.res H9.out.bel))
  have HD := Lib.hid hD
  clear hL5 hL6 hl5 hb5 hD h10 H9
  go_wp2_with (first | ((with_reducible show wpList _ _ _ ((⟨_, Op.load 66 _, _, _, _, _⟩ : Oper) :: _) _ _); refine wpList_load_row rfl 66 (.tmp 5) rfl (w.heap.size + 1 + 1) rfl 66 D (0, 0) _ H10.out.1 und_k rfl HK.out.info ?_) | ((with_reducible show wpList _ _ _ ((⟨_, Op.store 66 _ _, _, _, _, _⟩ : Oper) :: _) _ _); refine wpList_store_row rfl 66 (.tmp 4) (.tmp 32) rfl (w.heap.size + 1) D rfl rfl 66 zb H10.out.2.1 HK.out.info (Eq.trans (b := 64) rfl HK.out.size.symm) HK.out.all ?_) | fail)
  refine bodyPost_ret (results_one_cell rfl _ _ _ _ rfl (run_loadVar_row _ _ _ _ _ (0, 0) _ (H10.out.2.1.row D) und_k rfl HK.out.info)) rfl ?_
  exact ⟨by rw [HL5.out, HD.out], below_row H10.out.2.2 (by omega) _⟩
end Go.Proofs.YtjpgepodkeccmaaDoor
