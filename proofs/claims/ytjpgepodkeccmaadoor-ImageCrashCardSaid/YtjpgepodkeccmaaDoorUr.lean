/-
  The walk of ImageBoth: the block that was written last is spoiled.
-/
import Derived.Test.YtjpgepodkeccmaaDoorUq
namespace Go.Proofs.YtjpgepodkeccmaaDoor
open Go.RowKit
set_option linter.unusedVariables false
set_option linter.unusedSimpArgs false
set_option maxRecDepth 20000
theorem bits_xor8 (x y : BitVec 8) : bits .xor .u8 (x.toNat : Int) (y.toNat : Int) = ((x ^^^ y).toNat : Int) := by
  have hx : BitVec.ofInt 8 (x.toNat : Int) = x := by simp
  have hy : BitVec.ofInt 8 (y.toNat : Int) = y := by simp
  simp only [bits, IntKind.bits, hx, hy]
  exact IntWalk.u8_in _ (by have := (x ^^^ y).isLt; omega)
theorem xor8 {x y : Int} (hx : 0 ≤ x ∧ x < 256) (hy : 0 ≤ y ∧ y < 256) : (0 ≤ bits .xor .u8 x y ∧ bits .xor .u8 x y < 256) ∧ (y = 0 → bits .xor .u8 x y = x) ∧ (y ≠ 0 → bits .xor .u8 x y ≠ x) := by
  obtain ⟨a, rfl⟩ : ∃ a : BitVec 8, x = (a.toNat : Int) := ⟨BitVec.ofInt 8 x, by simp; omega⟩
  obtain ⟨b, rfl⟩ : ∃ b : BitVec 8, y = (b.toNat : Int) := ⟨BitVec.ofInt 8 y, by simp; omega⟩
  rw [bits_xor8]
  have := (a ^^^ b).isLt
  refine ⟨by omega, fun h => ?_, fun h h' => h ?_⟩
  · have h1 : b = 0#8 := BitVec.eq_of_toNat_eq (by simpa using h)
    rw [h1, BitVec.xor_zero]
  · have h1 : a ^^^ b = a := BitVec.eq_of_toNat_eq (by omega)
    have h2 : b = 0#8 := by
      have := congrArg (a ^^^ ·) h1
      simpa [← BitVec.xor_assoc] using this
    simp [h2]
theorem nums_put1 (l : List Int) (k : Nat) (x : Int) : (nums l).toArray.setIfInBounds k (.int .u8 x) = (nums (l.set k x)).toArray := by
  rw [List.setIfInBounds_toArray]
  congr 1
  unfold nums
  rw [← List.map_set]
theorem may_pr {f : Nat → List Int} {b : Im.Bt} (h : Im.Pr f 0 Im.Z) : f 0 = z64 ∧ f 1 = z64 := by
  rcases h with ⟨_, _, h1, h2⟩ | ⟨h0, _⟩
  · exact ⟨h1, h2⟩
  · omega
set_option maxHeartbeats 16000000 in
theorem both_walk (a b : Im.Bt) (z y : Int) (w : World) (hR : Sh.Roots w) (ha : Bok a) (hb : Bok b) (hz : 0 ≤ z ∧ z < 256) (hy : 0 ≤ y ∧ y < 256) : Calls Tryd.prog 9 #[.agg (bc a).toArray, .agg (bc b).toArray, .int .u8 z, .int .u8 y] w fun e w' => e = .returned (.bool true) ∧ Below w.heap.size w w' := by
  obtain ⟨fsB, hun⟩ := und_bt
  have hzb := zero_bt
  have hz64 := zero_b
  obtain ⟨n, rfl⟩ := Int.eq_ofNat_of_zero_le hz.1
  have hn := hz.2
  obtain ⟨CA, hCA⟩ : ∃ C, (bc a).toArray = C := ⟨_, rfl⟩
  obtain ⟨CB, hCB⟩ : ∃ C, (bc b).toArray = C := ⟨_, rfl⟩
  have hka := kc_of ha
  have hkb := kc_of hb
  rw [hCA] at hka ⊢
  rw [hCB] at hkb ⊢
  have hb0 : Below w.heap.size w ((w.alloc (.cells CA 41)).alloc (.cells CB 41)) := (below_alloc w _).alloc (by simp) _
  have hw0 : Whole ((w.alloc (.cells CA 41)).alloc (.cells CB 41)) w.heap.size 41 CA := (Whole.new w _ _).alloc _
  have hw1 := Whole.new (w.alloc (.cells CA 41)) 41 CB
  rw [size_alloc] at hw1
  obtain ⟨w0, h0⟩ : ∃ w0, (w.alloc (.cells CA 41)).alloc (.cells CB 41) = w0 := ⟨_, rfl⟩
  rw [h0] at hb0 hw0 hw1
  have HA := Lib.hid (awake_any (hR.below hb0 hR.two))
  have HK := Lib.hid (And.intro hka hkb)
  have H0 := Lib.hid (And.intro h0 (And.intro hb0 (And.intro hw0 hw1)))
  have HY := Lib.hid (And.intro ha (And.intro hb hy))
  clear hR h0 hb0 hw0 hw1 hka hkb hCA hCB hz
  go_enter Tryd.func9, Tryd.ntmps9
  go_upto_region 1 with fail
  rw [H0.out.1]
  go_wp2_with fail
  refine HA.out.mono ?_
  rintro e w1 ⟨rfl, hb1⟩
  have H1 : Hid (Below w.heap.size w w1 ∧ Whole w1 w.heap.size 41 CA ∧ Whole w1 (w.heap.size + 1) 41 CB) := Lib.hid ⟨H0.out.2.1.trans (hb1.mono H0.out.2.1.size), H0.out.2.2.1.keep (hb1.block _ H0.out.2.2.1.lt), H0.out.2.2.2.keep (hb1.block _ H0.out.2.2.2.lt)⟩
  clear hb1
  go_wp2_with fail
  refine (new_ok (n := 2) (by omega)).mono ?_
  rintro e w2 ⟨p, bb, mb, rfl, hd, hp, hbb, hmb, hb2⟩
  have hlA := H1.out.2.1.lt
  have hlB := H1.out.2.2.lt
  have HP : Hid ((w.heap.size ≤ p ∧ w.heap.size ≤ bb ∧ w.heap.size ≤ mb) ∧ (w.heap.size ∉ [p, bb, mb]) ∧ (w.heap.size + 1 ∉ [p, bb, mb])) := Lib.hid ⟨by omega, by simp; omega, by simp; omega⟩
  have H2 : Hid (Dk w2 p bb mb (fresh 2) 2 ∧ Below w.heap.size w w2 ∧ Whole w2 w.heap.size 41 CA ∧ Whole w2 (w.heap.size + 1) 41 CB) := Lib.hid ⟨hd, H1.out.1.trans (hb2.mono H1.out.1.size), H1.out.2.1.keep (hb2.block _ hlA), H1.out.2.2.keep (hb2.block _ hlB)⟩
  clear hd hp hbb hmb hb2 hlA hlB
  go_wp2_with (first | ((with_reducible show wpList _ _ _ ((⟨_, Op.load 41 _, _, _, _, _⟩ : Oper) :: _) _ _); refine wpList_load_rowG (by rfl) 41 (.tmp 4) rfl w.heap.size rfl 41 CA (0, 0) _ H2.out.2.2.1 hun rfl (KC.info HK.out.1) ?_) | fail)
  by_cases hma : Im.May a
  case neg =>
    refine (ipoint_no H2.out.1 (by omega) HK.out.1 hma).mono ?_
    rintro e w3 ⟨rfl, hb3⟩
    have H3 := Lib.hid (H2.out.2.1.trans (hb3.mono H2.out.2.1.size))
    clear hb3
    go_wp2
    go_ret
    exact ⟨rfl, H3.out⟩
  refine (ipoint_pr H2.out.1 rfl (by omega) (fresh_pr 2 (by omega)) (by omega) HK.out.1 hma).mono ?_
  rintro e w3 ⟨rfl, A1, hd3, hdn3, hpr3, hrd3, ho3⟩
  have H3 : Hid (Dk w3 p bb mb A1 2 ∧ A1.down = false ∧ Below w.heap.size w w3 ∧ Whole w3 w.heap.size 41 CA ∧ Whole w3 (w.heap.size + 1) 41 CB) := Lib.hid ⟨hd3, hdn3, ho3.after H2.out.2.1 HP.out.1, H2.out.2.2.1.keep (ho3.block _ H2.out.2.2.1.lt HP.out.2.1), H2.out.2.2.2.keep (ho3.block _ H2.out.2.2.2.lt HP.out.2.2)⟩
  have HM3 := Lib.hid (And.intro hpr3 (And.intro hrd3 hma))
  clear hd3 hdn3 hpr3 hrd3 ho3 hma
  go_wp2_with (first | ((with_reducible show wpList _ _ _ ((⟨_, Op.load 41 _, _, _, _, _⟩ : Oper) :: _) _ _); refine wpList_load_rowG (by rfl) 41 (.tmp 5) rfl (w.heap.size + 1) rfl 41 CB (0, 0) _ H3.out.2.2.2.2 hun rfl (KC.info HK.out.2) ?_) | fail)
  by_cases hmb : Im.May b
  case neg =>
    refine (ipoint_no H3.out.1 (by omega) HK.out.2 hmb).mono ?_
    rintro e w4 ⟨rfl, hb4⟩
    have H4 := Lib.hid (H3.out.2.2.1.trans (hb4.mono H3.out.2.2.1.size))
    clear hb4
    go_wp2
    go_ret
    exact ⟨rfl, H4.out⟩
  refine (ipoint_pr H3.out.1 H3.out.2.1 (by omega) HM3.out.1 (by omega) HK.out.2 hmb).mono ?_
  rintro e w4 ⟨rfl, A2, hd4, hdn4, hpr4, hrd4, ho4⟩
  have H4 : Hid (Dk w4 p bb mb A2 2 ∧ A2.down = false ∧ Below w.heap.size w w4 ∧ Whole w4 w.heap.size 41 CA ∧ Whole w4 (w.heap.size + 1) 41 CB) := Lib.hid ⟨hd4, hdn4, ho4.after H3.out.2.2.1 HP.out.1, H3.out.2.2.2.1.keep (ho4.block _ H3.out.2.2.2.1.lt HP.out.2.1), H3.out.2.2.2.2.keep (ho4.block _ H3.out.2.2.2.2.lt HP.out.2.2)⟩
  have HM4 := Lib.hid (And.intro hpr4 (And.intro hrd4 hmb))
  clear hd4 hdn4 hpr4 hrd4 ho4 hmb
  have hx0 : Dm.read A2 0 = Im.blkOf a 1 := by
    rw [HM4.out.2.1, if_neg (by omega), HM3.out.2.1, if_pos (by omega)]
  obtain ⟨X, hX⟩ : ∃ X, Dm.read A2 1 = X := ⟨_, rfl⟩
  have hx1 : X = Im.blkOf b 2 := by
    rw [← hX, HM4.out.2.1, if_pos (by omega)]
  have hXl : X.length = 64 := by rw [hx1]; exact Im.blk_len HK.out.2.2.1
  have hXb : Byt X := by rw [hx1]; exact Im.blk_byt HK.out.2.2.2 HM4.out.2.2.1
  have hXe : X.take 8 = X.drop 56 := by rw [hx1]; exact Im.blk_ends HK.out.2.2.1
  have HX := Lib.hid (And.intro hX (And.intro hx0 (And.intro hx1 (And.intro hXl (And.intro hXb hXe)))))
  clear hX hx0 hx1 hXl hXb hXe
  go_wp2_with fail
  refine (istart_pr H4.out.1 H4.out.2.1 (by omega) HM4.out.1 (by omega)).mono ?_
  rintro e w5 ⟨D1, rfl, hD1, hb5⟩
  obtain ⟨w6, h6, k6, b6⟩ := boxedb w5 (D := D1)
  have hbe6 := hb5.trans (b6.mono hb5.size)
  have H6 : Hid ((w5.alloc (.cells zbt 41)).setRow w5.heap.size D1 = w6 ∧ Dk w6 p bb mb A2 2 ∧ Below w.heap.size w w6 ∧ Whole w6 w.heap.size 41 CA ∧ Whole w6 (w.heap.size + 1) 41 CB ∧ Whole w6 w5.heap.size 41 D1 ∧ KC D1 b) := Lib.hid ⟨h6, H4.out.1.old hbe6, H4.out.2.2.1.trans (hbe6.mono H4.out.2.2.1.size), H4.out.2.2.2.1.keep (hbe6.block _ H4.out.2.2.2.1.lt), H4.out.2.2.2.2.keep (hbe6.block _ H4.out.2.2.2.2.lt), k6, hD1⟩
  have HP6 : Hid (w.heap.size ≤ w5.heap.size ∧ w5.heap.size ∉ [p, bb, mb] ∧ w5.heap.size ≠ w.heap.size ∧ w5.heap.size ≠ w.heap.size + 1) := Lib.hid (by
    have := hb5.size; have := H4.out.1.cells.lt; have := H4.out.1.bytes.lt; have := H4.out.1.map.lt; have := H4.out.2.2.2.1.lt; have := H4.out.2.2.2.2.lt
    exact ⟨by omega, by simp; omega, by omega, by omega⟩)
  clear h6 k6 b6 hbe6 hb5 hD1
  go_wp2_with (first | ((with_reducible show wpList _ _ _ ((⟨_, Op.store 41 _ _, _, _, _, _⟩ : Oper) :: _) _ _); refine wpList_store_row rfl 41 (.tmp 12) (.tmp 43) rfl w5.heap.size D1 rfl rfl 41 zbt (Whole.new w5 _ _) (KC.info H6.out.2.2.2.2.2.2) (Eq.trans (b := 35) rfl (KC.size H6.out.2.2.2.2.2.2).symm) (KC.all H6.out.2.2.2.2.2.2) ?_; rw [H6.out.1]) | fail)
  refine (read_at H6.out.2.1 H4.out.2.1 (by omega) (by omega)).mono ?_
  rintro e w7 ⟨rfl, hb7⟩
  rw [show ((1 : Int).toNat) = 1 from rfl, HX.out.1]
  obtain ⟨w8, h8, k8, b8⟩ := boxed w7 X
  have hbe8 := hb7.trans (b8.mono hb7.size)
  have H8 : Hid ((w7.alloc (.cells zb 32)).setRow w7.heap.size (nums X).toArray = w8 ∧ Dk w8 p bb mb A2 2 ∧ Below w.heap.size w w8 ∧ Whole w8 w.heap.size 41 CA ∧ Whole w8 (w.heap.size + 1) 41 CB ∧ Whole w8 w5.heap.size 41 D1 ∧ Whole w8 w7.heap.size 32 (nums X).toArray) := Lib.hid ⟨h8, H6.out.2.1.old hbe8, H6.out.2.2.1.trans (hbe8.mono H6.out.2.2.1.size), H6.out.2.2.2.1.keep (hbe8.block _ H6.out.2.2.2.1.lt), H6.out.2.2.2.2.1.keep (hbe8.block _ H6.out.2.2.2.2.1.lt), H6.out.2.2.2.2.2.1.keep (hbe8.block _ H6.out.2.2.2.2.2.1.lt), k8⟩
  have HP8 : Hid ((p < w7.heap.size ∧ bb < w7.heap.size ∧ mb < w7.heap.size) ∧ w.heap.size < w7.heap.size ∧ w.heap.size + 1 < w7.heap.size ∧ w5.heap.size < w7.heap.size) := Lib.hid (by
    have := hb7.size; have := H6.out.2.1.cells.lt; have := H6.out.2.1.bytes.lt; have := H6.out.2.1.map.lt; have := H6.out.2.2.2.1.lt; have := H6.out.2.2.2.2.1.lt; have := H6.out.2.2.2.2.2.1.lt
    exact ⟨⟨by omega, by omega, by omega⟩, by omega, by omega, by omega⟩)
  clear h8 k8 b8 hbe8 hb7
  obtain ⟨k, hk⟩ : ∃ k, n % 8 = k := ⟨_, rfl⟩
  have hk8 : k < 8 := by omega
  have e1 : ((n : Int)).tmod 8 = (k : Int) := by rw [Int.tmod_eq_emod_of_nonneg (by omega), ← hk]; rfl
  have hc : w8.cell? ⟨w7.heap.size, k, none⟩ = some (.int .u8 (X.getD k 0)) := by
    rw [H8.out.2.2.2.2.2.2.cell k, List.getElem?_toArray, nums_get X k (by rw [HX.out.2.2.2.1]; omega)]
  have hf : w8.frozen? ⟨w7.heap.size, k, none⟩ = false := H8.out.2.2.2.2.2.2.frozen k
  go_upto_region 11 with (first | ((with_reducible show wpList _ _ _ ((⟨_, Op.store 32 _ _, _, _, _, _⟩ : Oper) :: _) _ _); refine wpList_store_row rfl 32 (.tmp 15) (.tmp 49) rfl w7.heap.size (nums X).toArray rfl rfl 32 zb (Whole.new w7 _ _) (info_bn HX.out.2.2.2.1) (size_bn HX.out.2.2.2.1) (all_nums _) ?_; rw [H8.out.1]) | fail)
  go_upto_region 12 with fail
  obtain ⟨x, hx⟩ : ∃ x, bits .xor .u8 (X[k]?.getD 0) y = x := ⟨_, rfl⟩
  have hgd : 0 ≤ X[k]?.getD 0 ∧ X[k]?.getD 0 < 256 := byt_getD HX.out.2.2.2.2.1 _
  have hxx := xor8 hgd HY.out.2.2
  rw [hx] at hxx ⊢
  have hbe9 : Below w7.heap.size w8 (w8.setCell ⟨w7.heap.size, k, none⟩ (.int .u8 x)) := (Below.refl w7.heap.size w8).setCell (show w7.heap.size ≤ (⟨w7.heap.size, k, none⟩ : Addr).block from Nat.le_refl _) _
  have hw9 := H8.out.2.2.2.2.2.2.set k (.int .u8 x)
  rw [nums_put1] at hw9
  generalize w8.setCell ⟨w7.heap.size, k, none⟩ (.int .u8 x) = w9 at *
  have hXl : (X.set k x).length = 64 := by rw [List.length_set]; exact HX.out.2.2.2.1
  have hXb : Byt (X.set k x) := fun q hq => by
    rcases List.mem_or_eq_of_mem_set hq with h | h
    · exact HX.out.2.2.2.2.1 q h
    · rw [h]; exact hxx.1
  have hpk : (y = 0 ∧ X.set k x = X) ∨ (y ≠ 0 ∧ Im.cnt (X.set k x) = 0) := by
    by_cases hy0 : y = 0
    · left
      refine ⟨hy0, ?_⟩
      rw [hxx.2.1 hy0]
      apply List.ext_getElem?
      intro i
      rw [List.getElem?_set]
      by_cases e : k = i
      · subst e
        rw [if_pos rfl, if_pos (by rw [HX.out.2.2.2.1]; omega)]
        cases hq : X[k]? with
        | none => rw [List.getElem?_eq_none_iff] at hq; rw [HX.out.2.2.2.1] at hq; omega
        | some v => rfl
      · rw [if_neg e]
    · right
      exact ⟨hy0, Im.cnt_head HX.out.2.2.2.1 HX.out.2.2.2.2.1 hxx.1 HX.out.2.2.2.2.2 hk8 (hxx.2.2 hy0)⟩
  generalize X.set k x = Y at *
  have H9 : Hid (Dk w9 p bb mb A2 2 ∧ Below w.heap.size w w9 ∧ Whole w9 w.heap.size 41 CA ∧ Whole w9 (w.heap.size + 1) 41 CB ∧ Whole w9 w5.heap.size 41 D1 ∧ Whole w9 w7.heap.size 32 (nums Y).toArray) := Lib.hid ⟨H8.out.2.1.below hbe9 HP8.out.1.1 HP8.out.1.2.1 HP8.out.1.2.2, H8.out.2.2.1.trans (hbe9.mono (Nat.le_of_lt HP8.out.2.1)), H8.out.2.2.2.1.keep (hbe9.block _ HP8.out.2.1), H8.out.2.2.2.2.1.keep (hbe9.block _ HP8.out.2.2.1), H8.out.2.2.2.2.2.1.keep (hbe9.block _ HP8.out.2.2.2), hw9⟩
  have HYY := Lib.hid (And.intro hXl (And.intro hXb hpk))
  clear hbe9 hw9 hXl hXb hpk hgd hxx hx hc hf e1 hk hk8
  go_wp2_with (first | ((with_reducible show wpList _ _ _ ((⟨_, Op.load 32 _, _, _, _, _⟩ : Oper) :: _) _ _); refine wpList_load_row rfl 32 (.tmp 15) rfl w7.heap.size rfl 32 (nums Y).toArray (0, 0) _ H9.out.2.2.2.2.2 und_b rfl (info_bn HYY.out.1) ?_) | fail)
  refine (write_at H9.out.1 H4.out.2.1 (by omega) (by omega) HYY.out.1 HYY.out.2.1).mono ?_
  rintro e w10 ⟨rfl, hd10, ho10⟩
  rw [show ((1 : Int).toNat) = 1 from rfl] at hd10
  have H10 : Hid (Dk w10 p bb mb (Dm.write A2 1 Y) 2 ∧ Below w.heap.size w w10 ∧ Whole w10 w.heap.size 41 CA ∧ Whole w10 (w.heap.size + 1) 41 CB ∧ Whole w10 w5.heap.size 41 D1) := Lib.hid ⟨hd10, ho10.after H9.out.2.1 HP.out.1, H9.out.2.2.1.keep (ho10.block _ H9.out.2.2.1.lt HP.out.2.1), H9.out.2.2.2.1.keep (ho10.block _ H9.out.2.2.2.1.lt HP.out.2.2), H9.out.2.2.2.2.1.keep (ho10.block _ H9.out.2.2.2.2.1.lt HP6.out.2.1)⟩
  clear hd10 ho10
  have hr : ∀ m, Dm.read (Dm.write A2 1 Y) m = if m = 1 then Y else Dm.read A2 m := fun m => by
    rw [Dm.read_write]
    by_cases e : m = 1
    · rw [if_pos e, if_pos e.symm]
    · rw [if_neg e, if_neg (fun h => e h.symm)]
  have hca : Im.cnt (Im.blkOf a 1) = 1 := Im.cnt_blk HK.out.1.2.1 HM3.out.2.2 (by omega)
  have hpk : ∃ B c, Im.pk (fun i => Dm.read (Dm.write A2 1 Y) (0 + i)) 2 = (B, c) ∧ ((y = 0 ∧ B = b ∧ c = 2) ∨ (y ≠ 0 ∧ B = a ∧ c = 1)) := by
    rcases HYY.out.2.2 with ⟨hy0, hYX⟩ | ⟨hy0, hc0⟩
    · refine ⟨b, 2, Im.pk_pair (by omega) (by omega) HM4.out.2.2 HK.out.2.2 ?_ ?_, Or.inl ⟨hy0, rfl, rfl⟩⟩
      · show Dm.read (Dm.write A2 1 Y) (0 + 1) = _
        rw [hr, if_pos (by omega), hYX, HX.out.2.2.1]
      · show Im.cnt (Dm.read (Dm.write A2 1 Y) (0 + 0)) < 2
        rw [hr, if_neg (by omega), HX.out.2.1, hca]
        omega
    · refine ⟨a, 1, Im.pk_pair (by omega) (by omega) HM3.out.2.2 HK.out.1.2 ?_ ?_, Or.inr ⟨hy0, rfl, rfl⟩⟩
      · show Dm.read (Dm.write A2 1 Y) (0 + 0) = _
        rw [hr, if_neg (by omega), HX.out.2.1]
      · show Im.cnt (Dm.read (Dm.write A2 1 Y) (0 + 1)) < 1
        rw [hr, if_pos (by omega), hc0]
        omega
  obtain ⟨B, c, hpk, hBc⟩ := hpk
  have HPK := Lib.hid hpk
  clear hr hca hpk
  go_wp2_with fail
  refine (istart_ok (at_ := 0) H10.out.1 H4.out.2.1 (by omega)).mono ?_
  rintro e w11 ⟨D2, rfl, hD2, hb11⟩
  rw [HPK.out] at hD2 ⊢
  obtain ⟨w12, h12, k12, b12⟩ := boxedb w11 (D := D2)
  have hbe12 := hb11.trans (b12.mono hb11.size)
  have H12 : Hid ((w11.alloc (.cells zbt 41)).setRow w11.heap.size D2 = w12 ∧ Below w.heap.size w w12 ∧ Whole w12 w.heap.size 41 CA ∧ Whole w12 (w.heap.size + 1) 41 CB ∧ Whole w12 w5.heap.size 41 D1 ∧ Whole w12 w11.heap.size 41 D2 ∧ KC D2 B) := Lib.hid ⟨h12, H10.out.2.1.trans (hbe12.mono H10.out.2.1.size), H10.out.2.2.1.keep (hbe12.block _ H10.out.2.2.1.lt), H10.out.2.2.2.1.keep (hbe12.block _ H10.out.2.2.2.1.lt), H10.out.2.2.2.2.keep (hbe12.block _ H10.out.2.2.2.2.lt), k12, hD2⟩
  clear h12 k12 b12 hbe12 hb11 hD2
  have heq : ∀ (b : Im.Bt) (C D : Array Value), KC C b → KC D b → ∀ w : World, (binOp .eql 41 (.agg C) (.agg D)).run Tryd.prog w = .ok (.bool true) w := fun b C D hC hD w => by
    have := eqB hC.2.1 hC.2.1 w
    rw [decide_eq_true rfl, ← hC.1] at this
    rw [hD.1, ← hC.1]
    exact this
  have HE1 := Lib.hid (heq b D1 CB H6.out.2.2.2.2.2.2 HK.out.2)
  rcases hBc with ⟨hy0, rfl, rfl⟩ | ⟨hy0, rfl, rfl⟩
  · subst hy0
    have HE2 := Lib.hid (heq _ D2 CB H12.out.2.2.2.2.2.2 HK.out.2)
    clear heq
    go_wp2_with (first | ((with_reducible show wpList _ _ _ ((⟨_, Op.store 41 _ _, _, _, _, _⟩ : Oper) :: _) _ _); refine wpList_store_row rfl 41 (.tmp 17) (.tmp 68) rfl w11.heap.size D2 rfl rfl 41 zbt (Whole.new w11 _ _) (KC.info H12.out.2.2.2.2.2.2) (Eq.trans (b := 35) rfl (KC.size H12.out.2.2.2.2.2.2).symm) (KC.all H12.out.2.2.2.2.2.2) ?_; rw [H12.out.1]) | ((with_reducible show wpList _ _ _ ((⟨_, Op.load 41 _, _, _, _, _⟩ : Oper) :: _) _ _); refine wpList_load_rowG (by rfl) 41 (.tmp 12) rfl w5.heap.size rfl 41 D1 (0, 0) _ H12.out.2.2.2.2.1 hun rfl (KC.info H6.out.2.2.2.2.2.2) ?_) | ((with_reducible show wpList _ _ _ ((⟨_, Op.load 41 _, _, _, _, _⟩ : Oper) :: _) _ _); refine wpList_load_rowG (by rfl) 41 (.tmp 5) rfl (w.heap.size + 1) rfl 41 CB (0, 0) _ H12.out.2.2.2.1 hun rfl (KC.info HK.out.2) ?_) | ((with_reducible show wpList _ _ _ ((⟨_, Op.load 41 _, _, _, _, _⟩ : Oper) :: _) _ _); refine wpList_load_rowG (by rfl) 41 (.tmp 17) rfl w11.heap.size rfl 41 D2 (0, 0) _ H12.out.2.2.2.2.2.1 hun rfl (KC.info H12.out.2.2.2.2.2.2) ?_) | ((with_reducible show wpList _ _ _ ((⟨some 76, _, _, _, _, _⟩ : Oper) :: _) _ _); refine wpList_cmpB (by rfl) .eql (.tmp 74) (.tmp 75) _ rfl D1 CB rfl rfl true (HE1.out _) ?_) | ((with_reducible show wpList _ _ _ ((⟨some 96, _, _, _, _, _⟩ : Oper) :: _) _ _); refine wpList_cmpB (by rfl) .eql (.tmp 94) (.tmp 95) _ rfl D2 CB rfl rfl true (HE2.out _) ?_) | fail)
    go_ret
    exact ⟨rfl, H12.out.2.1⟩
  · have HE2 := Lib.hid (heq _ D2 CA H12.out.2.2.2.2.2.2 HK.out.1)
    clear heq
    have q0 : (y == 0) = false := by simp; exact hy0
    go_wp2_with (first | ((with_reducible show wpList _ _ _ ((⟨_, Op.store 41 _ _, _, _, _, _⟩ : Oper) :: _) _ _); refine wpList_store_row rfl 41 (.tmp 17) (.tmp 68) rfl w11.heap.size D2 rfl rfl 41 zbt (Whole.new w11 _ _) (KC.info H12.out.2.2.2.2.2.2) (Eq.trans (b := 35) rfl (KC.size H12.out.2.2.2.2.2.2).symm) (KC.all H12.out.2.2.2.2.2.2) ?_; rw [H12.out.1]) | ((with_reducible show wpList _ _ _ ((⟨_, Op.load 41 _, _, _, _, _⟩ : Oper) :: _) _ _); refine wpList_load_rowG (by rfl) 41 (.tmp 12) rfl w5.heap.size rfl 41 D1 (0, 0) _ H12.out.2.2.2.2.1 hun rfl (KC.info H6.out.2.2.2.2.2.2) ?_) | ((with_reducible show wpList _ _ _ ((⟨_, Op.load 41 _, _, _, _, _⟩ : Oper) :: _) _ _); refine wpList_load_rowG (by rfl) 41 (.tmp 5) rfl (w.heap.size + 1) rfl 41 CB (0, 0) _ H12.out.2.2.2.1 hun rfl (KC.info HK.out.2) ?_) | ((with_reducible show wpList _ _ _ ((⟨_, Op.load 41 _, _, _, _, _⟩ : Oper) :: _) _ _); refine wpList_load_rowG (by rfl) 41 (.tmp 4) rfl w.heap.size rfl 41 CA (0, 0) _ H12.out.2.2.1 hun rfl (KC.info HK.out.1) ?_) | ((with_reducible show wpList _ _ _ ((⟨_, Op.load 41 _, _, _, _, _⟩ : Oper) :: _) _ _); refine wpList_load_rowG (by rfl) 41 (.tmp 17) rfl w11.heap.size rfl 41 D2 (0, 0) _ H12.out.2.2.2.2.2.1 hun rfl (KC.info H12.out.2.2.2.2.2.2) ?_) | ((with_reducible show wpList _ _ _ ((⟨some 76, _, _, _, _, _⟩ : Oper) :: _) _ _); refine wpList_cmpB (by rfl) .eql (.tmp 74) (.tmp 75) _ rfl D1 CB rfl rfl true (HE1.out _) ?_) | ((with_reducible show wpList _ _ _ ((⟨some 106, _, _, _, _, _⟩ : Oper) :: _) _ _); refine wpList_cmpB (by rfl) .eql (.tmp 104) (.tmp 105) _ rfl D2 CA rfl rfl true (HE2.out _) ?_) | fail)
    go_ret
    exact ⟨rfl, H12.out.2.1⟩
end Go.Proofs.YtjpgepodkeccmaaDoor
