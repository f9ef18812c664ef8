/-
  The walk of the document's Add.
-/
import Derived.Test.YtdfmfjahnnifnaaFh
import Derived.Test.YtdfmfjahnnifnaaIf
namespace Go.Proofs.Ytdfmfjahnnifnaa
set_option maxRecDepth 20000
set_option linter.unusedSimpArgs false
set_option linter.unusedVariables false
open Go.RowKit Go.Great
theorem factsU : Try.prog.underlying 23 = some (.slice 30) := Try.underlying23
theorem sz_fact (w : World) : (sizeOf 30).run Try.prog w = .ok 38 w := by
  obtain ⟨i, hi, hz, hsize, hby⟩ := info_parts fact_info
  simp [sizeOf, typeInfo, hi, hsize]
theorem slice_hiF {a : Option Addr} {n c k : Nat} (h1 : k ≤ c) (w : World) : (Instr.slice 23 (.slice a n c) none (some (.int .i64 (k : Int))) none).run Try.prog w = .ok (.slice a k c) w := by
  have hb : (0 : Int) ≤ (k : Int) ∧ (k : Int) ≤ (c : Int) := by omega
  have e : (if c = 0 then a else Option.map (fun x => x.add (0 * 38)) a) = a := by
    split
    · rfl
    · cases a <;> simp [Addr.add]
  simp only [Instr.slice, Instr.sliceBounds, Instr.sliceBound, Sem.run_bind, Sem.run_pure, Result.andThen_ok, run_underlying factsU, asIntOf, if_pos hb, sz_fact, Int.toNat_natCast, e, Nat.sub_zero]
theorem slice_loF {a : Option Addr} {n c k : Nat} (h1 : k ≤ n) (w : World) : (Instr.slice 23 (.slice a n c) (some (.int .i64 (k : Int))) none none).run Try.prog w = .ok (.slice (if c = k then a else a.map (·.add (k * 38))) (n - k) (c - k)) w := by
  have hb : (0 : Int) ≤ (k : Int) ∧ (k : Int) ≤ (n : Int) := by omega
  simp only [Instr.slice, Instr.sliceBounds, Instr.sliceBound, Sem.run_bind, Sem.run_pure, Result.andThen_ok, run_underlying factsU, asIntOf, if_pos hb, sz_fact, Int.toNat_natCast]
theorem run_build0 (w : World) : (Instr.buildSlice 23 0 #[]).run Try.prog w = .ok (.slice (some ⟨w.heap.size, 0, none⟩) 0 0) (w.alloc (.cells #[] 30)) := by
  have e : Array.map (fun _ => (default : Value)) (Array.range 0) = #[] := by simp
  simp [Instr.buildSlice, run_underlying factsU, sz_fact, Instr.fill, newRow, e]
theorem wp_build0 {o : Oper} {a : Act} {w : World} {K : Act → World → Prop} {Q : Exit → Act → World → Prop} (ho : o.op = .buildSlice 23 0 #[])
    (h : K (a.put o.dst (.slice (some ⟨w.heap.size, 0, none⟩) 0 0)) (w.alloc (.cells #[] 30))) : o.wp Try.prog a w K Q := by
  unfold Oper.wp execOp
  simp only [ho, Sem.run_bind, List.map_toArray, List.map_nil, Array.map_empty, run_build0, Result.andThen_ok]
  exact h
/-- What Add answers. -/
def Addd (w : World) (N : Int) (R : List Fm) (x : Fm) (e : Ending) (w' : World) : Prop :=
  ∃ a n c R', e = .returned (.tuple #[.slice a n c, .int .i64 (La.add N (FS R) x.1).2]) ∧ n ≤ c ∧ Fts w' (fun b => b < w'.heap.size) (fun b => b < w.heap.size) a n R' ∧ FS R' = (La.add N (FS R) x.1).1 ∧ Below w.heap.size w w'
theorem ret_sl {v : Value} {i j : Int} (h : i = j) : Ending.returned (.tuple #[v, .int .i64 i]) = .returned (.tuple #[v, .int .i64 j]) := by rw [h]
theorem addd_old {w w' : World} {N : Int} {R : List Fm} {x : Fm} {a : Option Addr} {n c : Nat} {k : Int} (ha : La.add N (FS R) x.1 = (FS R, k)) (hc : n ≤ c) (h : Fts w (fun b => b < w.heap.size) (fun b => b < w.heap.size) a n R) (hb : Below w.heap.size w w') : Addd w N R x (.returned (.tuple #[.slice a n c, .int .i64 k])) w' :=
  ⟨a, n, c, R, by rw [ha], hc, (h.below hb (fun _ _ h => h) (fun _ _ h => h)).weak (fun b h _ => h) (fun _ _ h => h), by rw [ha], hb⟩
theorem addd_new {w w' : World} {N : Int} {B : Nat} {R : List Fm} {x : Fm} {a : Option Addr} {n c j : Nat} (ha : La.add N (FS R) x.1 = ((FS R).take j ++ x.1 :: (FS R).drop j, 0)) (hc : n ≤ c) (h : Fts w' (B ≤ ·) (fun b => b < w.heap.size) a n (R.take j ++ [x] ++ R.drop j)) (hb : Below w.heap.size w w') (hB : w.heap.size ≤ B) : Addd w N R x (.returned (.tuple #[.slice a n c, .int .i64 0])) w' :=
  ⟨a, n, c, _, by rw [ha], hc, h.weak (fun b h _ => h) (fun _ _ h => h), by rw [ha]; simp [FS], hb⟩
/-- While the parts are laid together: the row so far, and the block of the one. -/
structure Mid (u0 u : World) (v : Value) (k : Nat) (xs : List Value) (G : Nat) (X : List Value) : Prop where
  below : Below u0.heap.size u0 u
  own : u.ownsRow u0.heap.size 30 38 v k xs
  one : Whole u G 30 X.toArray
  ge : u0.heap.size ≤ G
  ne : v.ownBlock ≠ some G
theorem mid_app {u0 u u' : World} {v v' : Value} {k m : Nat} {xs ys X : List Value} {G : Nat} (h : Mid u0 u v k xs G X) (hown : u'.ownsRow u0.heap.size 30 38 v' (k + m) (xs ++ ys)) (hg : u.grownBy u' v.ownBlock) (ho : v'.ownBlock = v.ownBlock ∨ v'.ownBlock = some u.heap.size) : Mid u0 u' v' (k + m) (xs ++ ys) G X := by
  have hlt := h.one.lt
  refine ⟨h.below.grown hg h.below.size (own_ge h.own), hown, h.one.keep (hg.block G hlt (fun e => h.ne e.symm)), h.ge, fun e => ?_⟩
  rcases ho with ho | ho
  · exact h.ne (ho.symm.trans e)
  · have := Option.some.inj (ho.symm.trans e)
    omega
set_option maxHeartbeats 4000000 in
theorem radd_any {w : World} {S D D' : Nat → Prop} {a : Option Addr} {n c : Nat} {R : List Fm} {x : Fm} (h : Fts w S D a n R) (hc : n ≤ c) (hn : n ≤ 10000) (hx : Rw w D' x) (N : Int) :
    Calls Try.prog 15 #[.int .i64 N, .slice a n c, .agg (fc x).toArray] w (Addd w N R x) := by
  have hb1 := below_alloc w (.cells (fc x).toArray 30)
  have hfb : FB (w.alloc (.cells (fc x).toArray 30)) w.heap.size (fc x).toArray x.2 x.1 := ⟨Whole.new _ _ _, rfl, (hx.1.old.below hb1 (fun _ _ h => h)).old, hx.2.1, hx.2.2⟩
  have H := Lib.hid h.old
  have HX := Lib.hid hx.old
  have HB1 := Lib.hid hb1
  have HF := Lib.hid hfb
  have HLN := Lib.hid (show (FS R).length = n by rw [FS_len, h.1])
  have HFV := Lib.hid hx.fv.old
  have HXL := Lib.hid (fc_len hx)
  clear h hx hb1 hfb
  obtain ⟨X, hX⟩ : ∃ X, fc x = X := ⟨_, rfl⟩
  rw [hX] at HF HB1 HFV HXL ⊢
  have HXE := Lib.hid hX
  clear hX
  generalize hw1 : w.alloc (.cells X.toArray 30) = w1 at *
  go_enter Try.func15, Try.ntmps15
  go_wp2_with (first | ((with_reducible show wpList _ _ _ ((⟨_, Op.load 30 (.tmp 5), _, _, _, _⟩ : Oper) :: _) _ _); refine fb_load HF.out (by rfl) (.tmp 5) rfl rfl ?_) | fail)
  refine (rfcheck_any HF.out.val N).mono ?_
  rintro e w2 ⟨rfl, hb2⟩
  have HB2 := Lib.hid (HB1.out.trans (hb2.mono HB1.out.size))
  have HF2 := Lib.hid (HF.out.below hb2)
  have H2 := Lib.hid (H.out.below HB2.out (fun _ _ h => h) (fun _ _ h => h))
  clear hb2 HF HB1 hw1
  by_cases hok : x.1.ok N
  case neg =>
    have HA : Hid (La.add N (FS R) x.1 = (FS R, 100)) := Lib.hid (by unfold La.add; rw [if_pos hok])
    rw [Ft.chk_no hok]
    clear hok
    go_wp2
    go_ret2
    exact addd_old HA.out hc H.out HB2.out
  rw [Ft.chk_ok hok]
  have HOK := Lib.hid hok
  have k0 := HF2.out.c0
  have k1 := HF2.out.c1
  have k2 := HF2.out.c2
  clear hok
  go_wp2_with fail
  refine (rhas_any H2.out (by omega) _ _ _).mono ?_
  rintro e w3 ⟨rfl, rfl⟩
  clear k0 k1 k2
  by_cases hh : La.has (FS R) x.1.kind x.1.epoch x.1.node
  case pos =>
    have HA : Hid (La.add N (FS R) x.1 = (FS R, 0)) := Lib.hid (by unfold La.add; rw [if_neg (fun h => h HOK.out), if_pos hh])
    rw [decide_eq_true hh]
    clear hh
    go_wp2
    go_ret2
    exact addd_old HA.out hc H.out HB2.out
  rw [decide_eq_false hh]
  have HH := Lib.hid hh
  clear hh
  by_cases hm : 200 ≤ n
  case pos =>
    have HA : Hid (La.add N (FS R) x.1 = (FS R, 110)) := Lib.hid (by unfold La.add; rw [if_neg (fun h => h HOK.out), if_neg HH.out, if_pos (by rw [HLN.out]; exact hm)])
    go_wp2
    go_ret2
    exact addd_old HA.out hc H.out HB2.out
  have HA0 : Hid (La.add N (FS R) x.1 = (La.ins (FS R) x.1, 0)) := Lib.hid (by unfold La.add; rw [if_neg (fun h => h HOK.out), if_neg HH.out, if_neg (by rw [HLN.out]; exact hm)])
  clear HH HOK
  go_wp2
  go_loopw [9] (fun i wr => ∃ j : Nat, j ≤ n ∧ i = .int .i64 (j : Int) ∧ Hid (∀ i, i < j → ((FS R).getD i Ft.nought).less x.1) ∧ Hid (Below w.heap.size w wr ∧ FB wr w.heap.size X.toArray x.2 x.1)) (fun i _ => n - (intOf i).toNat)
  case atStart => exact ⟨0, Nat.zero_le _, rfl, Lib.hid (fun i hi => absurd hi (Nat.not_lt_zero i)), Lib.hid ⟨HB2.out, HF2.out⟩⟩
  case round =>
    obtain ⟨j, hj, rfl, HN, HB⟩ := hrel
    clear HB2 HF2 H2
    by_cases hlt : j < n
    · obtain ⟨b, off, rfl, _, hbl, hrg, hrw⟩ := (H.out.below HB.out.1 (fun _ _ h => h) (fun _ _ h => h)).at_ hlt
      obtain ⟨y, hy⟩ : ∃ y, R.getD j d0 = y := ⟨_, rfl⟩
      rw [hy] at hrg hrw
      have iY := info_fact hrw
      have HFY := Lib.hid hrw.fv
      have hgd : (FS R).getD j Ft.nought = y.1 := by rw [FS_get, hy]
      have HG := Lib.hid hgd
      clear hy hrw hgd
      obtain ⟨Y, hY⟩ : ∃ Y, fc y = Y := ⟨_, rfl⟩
      rw [hY] at hrg iY HFY
      clear hY
      have und := Try.underlying30
      have iX : (Try.prog.info? 30).map (·.size) = some X.length := by rw [HXL.out]; exact info38
      have rgY : wr.drew.rangeAt b (off + j * 38) Y := hrg
      have rgX : wr.drew.rangeAt w.heap.size 0 X := fun k v hv => by rw [Nat.zero_add]; exact (HB.out.2.whole.cell k).trans (by rw [List.getElem?_toArray]; exact hv)
      go_upto_region 9 with fail
      refine wp_region_held_drew (S := fun w' => w'.rangeAt b (off + j * 38) Y ∧ w'.rangeAt w.heap.size 0 X) (by kernel_rfl) ⟨rgY, rgX⟩ (fun hHeld => ?_)
      refine wpAnyH_take (i := 0) (v := .int .i64 (j : Int)) rfl (by kernel_rfl) (by kernel_rfl) (by kernel_rfl) (fun _ _ _ h => h) (Or.inl ⟨by rfl, (by intro w hSw; (try dsimp only at hSw); go_simp)⟩) (by assumption) ?_
      try simp only [Act.put, List.getElem_toArray, List.getElem_cons_zero, List.getElem_cons_succ, List.setIfInBounds_toArray, List.set_cons_zero, List.set_cons_succ]
      refine wpAnyH_take (i := 1) (v := .slice (some ⟨b, off, none⟩) n c) rfl (by kernel_rfl) (by kernel_rfl) (by kernel_rfl) (fun _ _ _ h => h) (Or.inl ⟨by rfl, (by intro w hSw; (try dsimp only at hSw); go_simp)⟩) (by assumption) ?_
      try simp only [Act.put, List.getElem_toArray, List.getElem_cons_zero, List.getElem_cons_succ, List.setIfInBounds_toArray, List.set_cons_zero, List.set_cons_succ]
      refine wpAnyH_take (i := 2) (v := .int .i64 (n : Int)) rfl (by kernel_rfl) (by kernel_rfl) (by kernel_rfl) (fun _ _ _ h => h) (Or.inl ⟨by rfl, (by intro w hSw; (try dsimp only at hSw); go_simp)⟩) (by assumption) ?_
      try simp only [Act.put, List.getElem_toArray, List.getElem_cons_zero, List.getElem_cons_succ, List.setIfInBounds_toArray, List.set_cons_zero, List.set_cons_succ]
      refine wpAnyH_take (i := 3) (v := .bool true) rfl (by kernel_rfl) (by kernel_rfl) (by kernel_rfl) (fun _ _ _ h => h) (Or.inl ⟨by rfl, (by intro w hSw; (try dsimp only at hSw); go_simp)⟩) (by assumption) ?_
      try simp only [Act.put, List.getElem_toArray, List.getElem_cons_zero, List.getElem_cons_succ, List.setIfInBounds_toArray, List.set_cons_zero, List.set_cons_succ]
      refine wpAnyH_take (i := 4) (v := .bool true) rfl (by kernel_rfl) (by kernel_rfl) (by kernel_rfl) (fun _ _ _ h => h) (Or.inl ⟨by rfl, (by intro w hSw; (try dsimp only at hSw); go_simp)⟩) (by assumption) ?_
      try simp only [Act.put, List.getElem_toArray, List.getElem_cons_zero, List.getElem_cons_succ, List.setIfInBounds_toArray, List.set_cons_zero, List.set_cons_succ]
      refine wpAnyH_take (i := 5) (v := .slice (some ⟨b, off, none⟩) n c) rfl (by kernel_rfl) (by kernel_rfl) (by kernel_rfl) (fun _ _ _ h => h) (Or.inl ⟨by rfl, (by intro w hSw; (try dsimp only at hSw); go_simp)⟩) (by assumption) ?_
      try simp only [Act.put, List.getElem_toArray, List.getElem_cons_zero, List.getElem_cons_succ, List.setIfInBounds_toArray, List.set_cons_zero, List.set_cons_succ]
      refine wpAnyH_take (i := 6) (v := .int .i64 (j : Int)) rfl (by kernel_rfl) (by kernel_rfl) (by kernel_rfl) (fun _ _ _ h => h) (Or.inl ⟨by rfl, (by intro w hSw; (try dsimp only at hSw); go_simp)⟩) (by assumption) ?_
      try simp only [Act.put, List.getElem_toArray, List.getElem_cons_zero, List.getElem_cons_succ, List.setIfInBounds_toArray, List.set_cons_zero, List.set_cons_succ]
      refine wpAnyH_take (i := 7) (v := .pointer (some ⟨b, off + j * 38, none⟩)) rfl (by kernel_rfl) (by kernel_rfl) (by kernel_rfl) (fun _ _ _ h => h) (Or.inl ⟨by rfl, (by intro w hSw; (try dsimp only at hSw); go_simp)⟩) (by assumption) ?_
      try simp only [Act.put, List.getElem_toArray, List.getElem_cons_zero, List.getElem_cons_succ, List.setIfInBounds_toArray, List.set_cons_zero, List.set_cons_succ]
      refine wpAnyH_take (i := 8) (v := .agg Y.toArray) rfl (by kernel_rfl) (by kernel_rfl) (by kernel_rfl) (fun _ _ _ h => h) (yieldsIf_load_mid (by rfl) _ _ rfl _ _ rfl _ _ (fun w hSw => hSw.1) und rfl iY) (by assumption) ?_
      try simp only [Act.put, List.getElem_toArray, List.getElem_cons_zero, List.getElem_cons_succ, List.setIfInBounds_toArray, List.set_cons_zero, List.set_cons_succ]
      refine wpAnyH_take (i := 9) (v := .agg X.toArray) rfl (by kernel_rfl) (by kernel_rfl) (by kernel_rfl) (fun _ _ _ h => h) (yieldsIf_load_mid (by rfl) _ _ rfl _ _ rfl _ _ (fun w hSw => hSw.2) und rfl iX) (by assumption) ?_
      try simp only [Act.put, List.getElem_toArray, List.getElem_cons_zero, List.getElem_cons_succ, List.setIfInBounds_toArray, List.set_cons_zero, List.set_cons_succ]
      refine wpAnyH_ready (rs := [10]) (by kernel_rfl) (by simp) (AllReadyH.cons rfl (fun K hK => ?_) AllReadyH.nil)
      try simp only [List.getElem_toArray, List.getElem_cons_zero, List.getElem_cons_succ]
      go_simp
      refine (rless_any (w := wr.drew) HFY.out HB.out.2.val).mono ?_
      rintro e w3 ⟨rfl, hb3⟩
      have hb3' : Below wr.heap.size wr w3 := below_drew hb3
      have HB3 := Lib.hid (And.intro (HB.out.1.trans (hb3'.mono HB.out.1.size)) (HB.out.2.below hb3'))
      have r3 : w3.rangeAt b (off + j * 38) Y ∧ w3.rangeAt w.heap.size 0 X := ⟨range_below hrg hb3' hbl, fun k v hv => by rw [Nat.zero_add]; exact (HB3.out.2.whole.cell k).trans (by rw [List.getElem?_toArray]; exact hv)⟩
      obtain ⟨t, ht⟩ : ∃ t, decide (y.1.less x.1) = t := ⟨_, rfl⟩
      rw [ht]
      have HT := Lib.hid ht
      clear hb3 hb3' hHeld rgX rgY hrg ht HB
      go_wp2_with fail
      refine hK.out _ _ r3 (fun hHeld => ?_)
      clear hK K hHeld
      try simp only [Act.put, List.getElem_toArray, List.getElem_cons_zero, List.getElem_cons_succ, List.setIfInBounds_toArray, List.set_cons_zero, List.set_cons_succ]
      have hHeld := r3
      refine wpAnyH_take (i := 11) (v := .bool t) rfl (by kernel_rfl) (by kernel_rfl) (by kernel_rfl) (fun _ _ _ h => h) (Or.inl ⟨by rfl, (by intro w hSw; (try dsimp only at hSw); go_simp)⟩) (by assumption) ?_
      try simp only [Act.put, List.getElem_toArray, List.getElem_cons_zero, List.getElem_cons_succ, List.setIfInBounds_toArray, List.set_cons_zero, List.set_cons_succ]
      refine wpAnyH_done (by kernel_rfl) ?_ _
      clear hHeld r3 iY iX und
      cases t with
      | true =>
        have HNX := Lib.hid (show ∀ i, i < j + 1 → ((FS R).getD i Ft.nought).less x.1 from fun i hi => by
          by_cases hij : i = j
          · rw [hij, HG.out]; exact of_decide_eq_true HT.out
          · exact HN.out i (by omega))
        go_wp2
        exact ⟨⟨j + 1, by omega, by go_num, HNX, HB3⟩, by simp [intOf]; omega⟩
      | false =>
        have HA : Hid (La.add N (FS R) x.1 = ((FS R).take j ++ x.1 :: (FS R).drop j, 0)) := Lib.hid (by rw [HA0.out, La.ins_at j (by rw [HLN.out]; exact hj) HN.out (Or.inr (by rw [HG.out]; exact of_decide_eq_false HT.out))])
        have HBZ := Lib.hid HB3.out.1
        have HWZ := Lib.hid HB3.out.2.whole
        clear HB3 HG HT HFY HN HA0
        go_upto_region 11 with fail
        have HB0 : Hid (Below w.heap.size w w3.drew) := Lib.hid HBZ.out.drew
        have HW0 : Hid (Whole w3.drew w.heap.size 30 X.toArray) := Lib.hid HWZ.out
        have hs1 := slice_hiF (a := some ⟨b, off, none⟩) (n := n) (c := c) (k := j) (by omega)
        have hs2 := slice_loF (a := some ⟨b, off, none⟩) (n := n) (c := c) (k := j) (by omega)
        obtain ⟨a9, ha9⟩ : ∃ a9 : Option Addr, (if c = j then (some ⟨b, off, none⟩ : Option Addr) else (some ⟨b, off, none⟩ : Option Addr).map (fun p => p.add (j * 38))) = a9 := ⟨_, rfl⟩
        rw [ha9] at hs2
        have HA9 := Lib.hid ha9
        clear ha9
        generalize hu0 : w3.drew = u0 at *
        have HRG : Hid (∀ u, Below u0.heap.size u0 u → u.rangeAt w.heap.size 0 X) := Lib.hid (fun u hb k v hv => by rw [Nat.zero_add, (HW0.out.below hb HW0.out.lt).cell, List.getElem?_toArray]; exact hv)
        have HRW : Hid (∀ u, Below u0.heap.size u0 u → Fts u (fun b => b < w.heap.size) (fun b => b < w.heap.size) (some ⟨b, off, none⟩) n R) := Lib.hid (fun u hb => H.out.below (HB0.out.trans (hb.mono HB0.out.size)) (fun _ _ h => h) (fun _ _ h => h))
        have HXW : Hid (∀ u, Below u0.heap.size u0 u → Rw u (fun b => b < w.heap.size) x) := Lib.hid (fun u hb => HX.out.below (HB0.out.trans (hb.mono HB0.out.size)) (fun _ _ h => h))
        have und := Try.underlying30
        have iX : (Try.prog.info? 30).map (·.size) = some X.length := by rw [HXL.out]; exact info38
        have r0 := HRG.out u0 (Below.refl _ _)
        subst hu0
        refine wp_region_held_drew (S := fun w' => w'.rangeAt w.heap.size 0 X) (by kernel_rfl) r0 (fun hHeld => ?_)
        refine wpAnyH_take (i := 1) (v := .slice (some ⟨b, off, none⟩) n c) rfl (by kernel_rfl) (by kernel_rfl) (by kernel_rfl) (fun _ _ _ h => h) (Or.inl ⟨by rfl, (by intro w hSw; (try dsimp only at hSw); go_simp)⟩) (by assumption) ?_
        try simp only [Act.put, List.getElem_toArray, List.getElem_cons_zero, List.getElem_cons_succ, List.setIfInBounds_toArray, List.set_cons_zero, List.set_cons_succ]
        refine wpAnyH_take (i := 2) (v := .int .i64 (j : Int)) rfl (by kernel_rfl) (by kernel_rfl) (by kernel_rfl) (fun _ _ _ h => h) (Or.inl ⟨by rfl, (by intro w hSw; (try dsimp only at hSw); go_simp)⟩) (by assumption) ?_
        try simp only [Act.put, List.getElem_toArray, List.getElem_cons_zero, List.getElem_cons_succ, List.setIfInBounds_toArray, List.set_cons_zero, List.set_cons_succ]
        refine wpAnyH_take (i := 3) (v := .slice (some ⟨b, off, none⟩) j c) rfl (by kernel_rfl) (by kernel_rfl) (by kernel_rfl) (fun _ _ _ h => h) (Or.inl ⟨by rfl, (by intro w hSw; (try dsimp only at hSw); go_simp)⟩) (by assumption) ?_
        try simp only [Act.put, List.getElem_toArray, List.getElem_cons_zero, List.getElem_cons_succ, List.setIfInBounds_toArray, List.set_cons_zero, List.set_cons_succ]
        refine wpAnyH_take (i := 5) (v := .agg X.toArray) rfl (by kernel_rfl) (by kernel_rfl) (by kernel_rfl) (fun _ _ _ h => h) (yieldsIf_load_mid (by rfl) _ _ rfl _ _ rfl _ _ (fun w hSw => hSw) und rfl iX) (by assumption) ?_
        try simp only [Act.put, List.getElem_toArray, List.getElem_cons_zero, List.getElem_cons_succ, List.setIfInBounds_toArray, List.set_cons_zero, List.set_cons_succ]
        refine wpAnyH_take (i := 8) (v := .slice (some ⟨b, off, none⟩) n c) rfl (by kernel_rfl) (by kernel_rfl) (by kernel_rfl) (fun _ _ _ h => h) (Or.inl ⟨by rfl, (by intro w hSw; (try dsimp only at hSw); go_simp)⟩) (by assumption) ?_
        try simp only [Act.put, List.getElem_toArray, List.getElem_cons_zero, List.getElem_cons_succ, List.setIfInBounds_toArray, List.set_cons_zero, List.set_cons_succ]
        refine wpAnyH_take (i := 9) (v := .int .i64 (j : Int)) rfl (by kernel_rfl) (by kernel_rfl) (by kernel_rfl) (fun _ _ _ h => h) (Or.inl ⟨by rfl, (by intro w hSw; (try dsimp only at hSw); go_simp)⟩) (by assumption) ?_
        try simp only [Act.put, List.getElem_toArray, List.getElem_cons_zero, List.getElem_cons_succ, List.setIfInBounds_toArray, List.set_cons_zero, List.set_cons_succ]
        refine wpAnyH_take (i := 10) (v := .slice a9 (n - j) (c - j)) rfl (by kernel_rfl) (by kernel_rfl) (by kernel_rfl) (fun _ _ _ h => h) (Or.inl ⟨by rfl, (by intro w hSw; (try dsimp only at hSw); go_simp)⟩) (by assumption) ?_
        try simp only [Act.put, List.getElem_toArray, List.getElem_cons_zero, List.getElem_cons_succ, List.setIfInBounds_toArray, List.set_cons_zero, List.set_cons_succ]
        generalize hu0 : w3.drew = u0 at *
        clear r0 hu0 hs1 hs2 und iX HWZ HBZ HW0
        refine wpAnyH_ready (rs := [0, 6]) (by kernel_rfl) (by simp) (AllReadyH.cons rfl (fun K hK => ?_) (AllReadyH.cons rfl (fun K hK => ?_) AllReadyH.nil))
        · try simp only [List.getElem_toArray, List.getElem_cons_zero, List.getElem_cons_succ]
          refine if_wanted (by rfl) ?_
          refine wp_build0 rfl ?_
          have H1 := Lib.hid (And.intro (World.ownsRow_lit (base := u0.heap.size) (size := 38) (e := 30) u0 #[] 0 (Nat.le_refl _) (Nat.zero_le _) rfl) (below_alloc u0 (.cells #[] 30)))
          generalize u0.alloc (.cells #[] 30) = u1 at *
          refine hK.out _ _ (HRG.out _ H1.out.2) (fun hHeld => ?_)
          clear hK K
          try simp only [Act.put, List.getElem_toArray, List.getElem_cons_zero, List.getElem_cons_succ, List.setIfInBounds_toArray, List.set_cons_zero, List.set_cons_succ]
          refine wpAnyH_ready (rs := [4, 6]) (by kernel_rfl) (by simp) (AllReadyH.cons rfl (fun K hK => ?_) (AllReadyH.cons rfl (fun K hK => ?_) AllReadyH.nil))
          · try simp only [List.getElem_toArray, List.getElem_cons_zero, List.getElem_cons_succ]
            refine if_wanted (by rfl) ?_
            refine wp_append_facts factsU _ (.tmp 43) (.tmp 46) rfl u0.heap.size (.slice (some ⟨u0.heap.size, 0, none⟩) 0 0) 0 [] rfl H1.out.1 (fun b => b < w.heap.size) (fun b => b < w.heap.size) _ j c (R.take j) rfl ((HRW.out _ H1.out.2).take j hj) (by omega) (by omega) H1.out.2.size ?_
            intro v2 u2 hown2 hg2 _
            have H2 := Lib.hid (And.intro hown2 (H1.out.2.grown hg2 H1.out.2.size (own_ge H1.out.1)))
            clear hown2 hg2
            refine hK.out _ _ (HRG.out _ H2.out.2) (fun hHeld => ?_)
            clear hK K H1
            try simp only [Act.put, List.getElem_toArray, List.getElem_cons_zero, List.getElem_cons_succ, List.setIfInBounds_toArray, List.set_cons_zero, List.set_cons_succ]
            refine wpAnyH_ready (rs := [6]) (by kernel_rfl) (by simp) (AllReadyH.cons rfl (fun K hK => ?_) AllReadyH.nil)
            try simp only [List.getElem_toArray, List.getElem_cons_zero, List.getElem_cons_succ]
            refine if_wanted (by rfl) ?_
            refine wp_buildF factsU 48 rfl X HXL.out rfl ?_
            have HM : Hid (Mid u0 (u2.alloc (.cells X.toArray 30)) v2 (0 + j) ([] ++ flatF (R.take j)) u2.heap.size X) := Lib.hid ⟨H2.out.2.alloc H2.out.2.size _, H2.out.1.alloc _, Whole.new _ _ _, H2.out.2.size, fun e => Nat.lt_irrefl _ (own_lt H2.out.1 _ e)⟩
            generalize u2.alloc (.cells X.toArray 30) = u3 at *
            generalize u2.heap.size = G at *
            refine hK.out _ _ (HRG.out _ HM.out.below) (fun hHeld => ?_)
            clear hK K H2
            try simp only [Act.put, List.getElem_toArray, List.getElem_cons_zero, List.getElem_cons_succ, List.setIfInBounds_toArray, List.set_cons_zero, List.set_cons_succ]
            refine wpAnyH_ready (rs := [7]) (by kernel_rfl) (by simp) (AllReadyH.cons rfl (fun K hK => ?_) AllReadyH.nil)
            try simp only [List.getElem_toArray, List.getElem_cons_zero, List.getElem_cons_succ]
            refine if_wanted (by rfl) ?_
            refine wp_append_facts factsU _ (.tmp 47) (.tmp 49) rfl u0.heap.size v2 (0 + j) ([] ++ flatF (R.take j)) rfl HM.out.own (fun _ => True) (fun b => b < w.heap.size) (some ⟨G, 0, none⟩) 1 1 [x] rfl (fts_one (by rw [HXE.out]; exact HM.out.one) trivial (HXW.out _ HM.out.below)) (by omega) (by omega) HM.out.below.size ?_
            intro v7 u7 hown7 hg7 _
            have hb7 : Below u0.heap.size u0 u7 := HM.out.below.grown hg7 HM.out.below.size (own_ge HM.out.own)
            have H7 := Lib.hid (And.intro hown7 hb7)
            clear hown7 hg7 hb7 HM
            refine hK.out _ _ (HRG.out _ H7.out.2) (fun hHeld => ?_)
            clear hK K
            try simp only [Act.put, List.getElem_toArray, List.getElem_cons_zero, List.getElem_cons_succ, List.setIfInBounds_toArray, List.set_cons_zero, List.set_cons_succ]
            refine wpAnyH_ready (rs := [11]) (by kernel_rfl) (by simp) (AllReadyH.cons rfl (fun K hK => ?_) AllReadyH.nil)
            try simp only [List.getElem_toArray, List.getElem_cons_zero, List.getElem_cons_succ]
            refine if_wanted (by rfl) ?_
            refine wp_append_facts factsU _ (.tmp 50) (.tmp 53) rfl u0.heap.size v7 (0 + j + 1) ([] ++ flatF (R.take j) ++ flatF [x]) rfl H7.out.1 (fun b => b < w.heap.size) (fun b => b < w.heap.size) a9 (n - j) (c - j) (R.drop j) rfl (by rw [← HA9.out]; exact (HRW.out _ H7.out.2).drop j c hj hc) (by omega) (by omega) H7.out.2.size ?_
            intro v8 u8 hown8 hg8 _
            have hb8 : Below u0.heap.size u0 u8 := H7.out.2.grown hg8 H7.out.2.size (own_ge H7.out.1)
            rw [List.nil_append, ← flatF_append, ← flatF_append] at hown8
            have hrows : ∀ y ∈ R.take j ++ [x] ++ R.drop j, Rw u8 (fun b => b < w.heap.size) y := by
              intro y hy
              rcases List.mem_append.1 hy with hy | hy
              · rcases List.mem_append.1 hy with hy | hy
                · exact (HRW.out _ hb8).2.1 y (List.mem_of_mem_take hy)
                · rw [List.mem_singleton.1 hy]; exact HXW.out _ hb8
              · exact (HRW.out _ hb8).2.1 y (List.mem_of_mem_drop hy)
            obtain ⟨m8, hm8⟩ : ∃ m8, 0 + j + 1 + (n - j) = m8 := ⟨_, rfl⟩
            rw [hm8] at hown8
            obtain ⟨a8, c8, rfl, hc8, hf8⟩ := own_facts hown8 hrows (by have := H.out.1; simp; omega)
            have H8 := Lib.hid (And.intro hc8 (And.intro hf8 hb8))
            clear hown8 hg8 hb8 hrows hc8 hf8 H7
            refine hK.out _ _ (HRG.out _ H8.out.2.2) (fun hHeld => ?_)
            clear hK K
            try simp only [Act.put, List.getElem_toArray, List.getElem_cons_zero, List.getElem_cons_succ, List.setIfInBounds_toArray, List.set_cons_zero, List.set_cons_succ]
            refine wpAnyH_take (i := 12) (v := .slice a8 m8 c8) rfl (by kernel_rfl) (by kernel_rfl) (by kernel_rfl) (fun _ _ _ h => h) (Or.inl ⟨by rfl, (by intro w hSw; (try dsimp only at hSw); go_simp)⟩) (by assumption) ?_
            try simp only [Act.put, List.getElem_toArray, List.getElem_cons_zero, List.getElem_cons_succ, List.setIfInBounds_toArray, List.set_cons_zero, List.set_cons_succ]
            refine wpAnyH_take (i := 13) (v := .int .i64 0) rfl (by kernel_rfl) (by kernel_rfl) (by kernel_rfl) (fun _ _ _ h => h) (Or.inl ⟨by rfl, (by intro w hSw; (try dsimp only at hSw); go_simp)⟩) (by assumption) ?_
            try simp only [Act.put, List.getElem_toArray, List.getElem_cons_zero, List.getElem_cons_succ, List.setIfInBounds_toArray, List.set_cons_zero, List.set_cons_succ]
            refine wpAnyH_done (by kernel_rfl) ?_ _
            go_wp2
            go_ret2
            exact addd_new HA.out H8.out.1 H8.out.2.1 (HB0.out.trans (H8.out.2.2.mono HB0.out.size)) HB0.out.size
          · try simp only [List.getElem_toArray, List.getElem_cons_zero, List.getElem_cons_succ]
            refine if_wanted (by rfl) ?_
            refine wp_buildF factsU 48 rfl X HXL.out rfl ?_
            have HM : Hid (Mid u0 (u1.alloc (.cells X.toArray 30)) (.slice (some ⟨u0.heap.size, 0, none⟩) 0 0) 0 [] u1.heap.size X) := Lib.hid ⟨H1.out.2.alloc H1.out.2.size _, H1.out.1.alloc _, Whole.new _ _ _, H1.out.2.size, fun e => Nat.lt_irrefl _ (own_lt H1.out.1 _ e)⟩
            generalize u1.alloc (.cells X.toArray 30) = u2 at *
            generalize u1.heap.size = G at *
            refine hK.out _ _ (HRG.out _ HM.out.below) (fun hHeld => ?_)
            clear hK K H1
            try simp only [Act.put, List.getElem_toArray, List.getElem_cons_zero, List.getElem_cons_succ, List.setIfInBounds_toArray, List.set_cons_zero, List.set_cons_succ]
            refine wpAnyH_ready (rs := [4]) (by kernel_rfl) (by simp) (AllReadyH.cons rfl (fun K hK => ?_) AllReadyH.nil)
            try simp only [List.getElem_toArray, List.getElem_cons_zero, List.getElem_cons_succ]
            refine if_wanted (by rfl) ?_
            refine wp_append_facts factsU _ (.tmp 43) (.tmp 46) rfl u0.heap.size (.slice (some ⟨u0.heap.size, 0, none⟩) 0 0) 0 [] rfl HM.out.own (fun b => b < w.heap.size) (fun b => b < w.heap.size) _ j c (R.take j) rfl ((HRW.out _ HM.out.below).take j hj) (by omega) (by omega) HM.out.below.size ?_
            intro v3 u3 hown3 hg3 ho3
            have HM3 := Lib.hid (mid_app HM.out hown3 hg3 ho3)
            clear hown3 hg3 ho3 HM
            have HM := HM3
            clear HM3
            refine hK.out _ _ (HRG.out _ HM.out.below) (fun hHeld => ?_)
            clear hK K
            try simp only [Act.put, List.getElem_toArray, List.getElem_cons_zero, List.getElem_cons_succ, List.setIfInBounds_toArray, List.set_cons_zero, List.set_cons_succ]
            refine wpAnyH_ready (rs := [7]) (by kernel_rfl) (by simp) (AllReadyH.cons rfl (fun K hK => ?_) AllReadyH.nil)
            try simp only [List.getElem_toArray, List.getElem_cons_zero, List.getElem_cons_succ]
            refine if_wanted (by rfl) ?_
            refine wp_append_facts factsU _ (.tmp 47) (.tmp 49) rfl u0.heap.size v3 (0 + j) ([] ++ flatF (R.take j)) rfl HM.out.own (fun _ => True) (fun b => b < w.heap.size) (some ⟨G, 0, none⟩) 1 1 [x] rfl (fts_one (by rw [HXE.out]; exact HM.out.one) trivial (HXW.out _ HM.out.below)) (by omega) (by omega) HM.out.below.size ?_
            intro v7 u7 hown7 hg7 _
            have hb7 : Below u0.heap.size u0 u7 := HM.out.below.grown hg7 HM.out.below.size (own_ge HM.out.own)
            have H7 := Lib.hid (And.intro hown7 hb7)
            clear hown7 hg7 hb7 HM
            refine hK.out _ _ (HRG.out _ H7.out.2) (fun hHeld => ?_)
            clear hK K
            try simp only [Act.put, List.getElem_toArray, List.getElem_cons_zero, List.getElem_cons_succ, List.setIfInBounds_toArray, List.set_cons_zero, List.set_cons_succ]
            refine wpAnyH_ready (rs := [11]) (by kernel_rfl) (by simp) (AllReadyH.cons rfl (fun K hK => ?_) AllReadyH.nil)
            try simp only [List.getElem_toArray, List.getElem_cons_zero, List.getElem_cons_succ]
            refine if_wanted (by rfl) ?_
            refine wp_append_facts factsU _ (.tmp 50) (.tmp 53) rfl u0.heap.size v7 (0 + j + 1) ([] ++ flatF (R.take j) ++ flatF [x]) rfl H7.out.1 (fun b => b < w.heap.size) (fun b => b < w.heap.size) a9 (n - j) (c - j) (R.drop j) rfl (by rw [← HA9.out]; exact (HRW.out _ H7.out.2).drop j c hj hc) (by omega) (by omega) H7.out.2.size ?_
            intro v8 u8 hown8 hg8 _
            have hb8 : Below u0.heap.size u0 u8 := H7.out.2.grown hg8 H7.out.2.size (own_ge H7.out.1)
            rw [List.nil_append, ← flatF_append, ← flatF_append] at hown8
            have hrows : ∀ y ∈ R.take j ++ [x] ++ R.drop j, Rw u8 (fun b => b < w.heap.size) y := by
              intro y hy
              rcases List.mem_append.1 hy with hy | hy
              · rcases List.mem_append.1 hy with hy | hy
                · exact (HRW.out _ hb8).2.1 y (List.mem_of_mem_take hy)
                · rw [List.mem_singleton.1 hy]; exact HXW.out _ hb8
              · exact (HRW.out _ hb8).2.1 y (List.mem_of_mem_drop hy)
            obtain ⟨m8, hm8⟩ : ∃ m8, 0 + j + 1 + (n - j) = m8 := ⟨_, rfl⟩
            rw [hm8] at hown8
            obtain ⟨a8, c8, rfl, hc8, hf8⟩ := own_facts hown8 hrows (by have := H.out.1; simp; omega)
            have H8 := Lib.hid (And.intro hc8 (And.intro hf8 hb8))
            clear hown8 hg8 hb8 hrows hc8 hf8 H7
            refine hK.out _ _ (HRG.out _ H8.out.2.2) (fun hHeld => ?_)
            clear hK K
            try simp only [Act.put, List.getElem_toArray, List.getElem_cons_zero, List.getElem_cons_succ, List.setIfInBounds_toArray, List.set_cons_zero, List.set_cons_succ]
            refine wpAnyH_take (i := 12) (v := .slice a8 m8 c8) rfl (by kernel_rfl) (by kernel_rfl) (by kernel_rfl) (fun _ _ _ h => h) (Or.inl ⟨by rfl, (by intro w hSw; (try dsimp only at hSw); go_simp)⟩) (by assumption) ?_
            try simp only [Act.put, List.getElem_toArray, List.getElem_cons_zero, List.getElem_cons_succ, List.setIfInBounds_toArray, List.set_cons_zero, List.set_cons_succ]
            refine wpAnyH_take (i := 13) (v := .int .i64 0) rfl (by kernel_rfl) (by kernel_rfl) (by kernel_rfl) (fun _ _ _ h => h) (Or.inl ⟨by rfl, (by intro w hSw; (try dsimp only at hSw); go_simp)⟩) (by assumption) ?_
            try simp only [Act.put, List.getElem_toArray, List.getElem_cons_zero, List.getElem_cons_succ, List.setIfInBounds_toArray, List.set_cons_zero, List.set_cons_succ]
            refine wpAnyH_done (by kernel_rfl) ?_ _
            go_wp2
            go_ret2
            exact addd_new HA.out H8.out.1 H8.out.2.1 (HB0.out.trans (H8.out.2.2.mono HB0.out.size)) HB0.out.size
        · try simp only [List.getElem_toArray, List.getElem_cons_zero, List.getElem_cons_succ]
          refine if_wanted (by rfl) ?_
          refine wp_buildF factsU 48 rfl X HXL.out rfl ?_
          have H1 : Hid (Below u0.heap.size u0 (u0.alloc (.cells X.toArray 30)) ∧ Whole (u0.alloc (.cells X.toArray 30)) u0.heap.size 30 X.toArray) := Lib.hid ⟨below_alloc _ _, Whole.new _ _ _⟩
          generalize u0.alloc (.cells X.toArray 30) = u1 at *
          refine hK.out _ _ (HRG.out _ H1.out.1) (fun hHeld => ?_)
          clear hK K
          try simp only [Act.put, List.getElem_toArray, List.getElem_cons_zero, List.getElem_cons_succ, List.setIfInBounds_toArray, List.set_cons_zero, List.set_cons_succ]
          refine wpAnyH_ready (rs := [0]) (by kernel_rfl) (by simp) (AllReadyH.cons rfl (fun K hK => ?_) AllReadyH.nil)
          try simp only [List.getElem_toArray, List.getElem_cons_zero, List.getElem_cons_succ]
          refine if_wanted (by rfl) ?_
          refine wp_build0 rfl ?_
          have HM : Hid (Mid u0 (u1.alloc (.cells #[] 30)) (.slice (some ⟨u1.heap.size, 0, none⟩) 0 0) 0 [] u0.heap.size X) := Lib.hid ⟨H1.out.1.alloc H1.out.1.size _, World.ownsRow_lit (base := u0.heap.size) (size := 38) (e := 30) u1 #[] 0 H1.out.1.size (Nat.zero_le _) rfl, H1.out.2.alloc _, Nat.le_refl _, fun e => by
            have h1 := H1.out.2.lt
            have h2 : u1.heap.size = u0.heap.size := Option.some.inj e
            omega⟩
          generalize u1.alloc (.cells #[] 30) = u2 at *
          generalize u1.heap.size = G1 at *
          refine hK.out _ _ (HRG.out _ HM.out.below) (fun hHeld => ?_)
          clear hK K H1
          try simp only [Act.put, List.getElem_toArray, List.getElem_cons_zero, List.getElem_cons_succ, List.setIfInBounds_toArray, List.set_cons_zero, List.set_cons_succ]
          refine wpAnyH_ready (rs := [4]) (by kernel_rfl) (by simp) (AllReadyH.cons rfl (fun K hK => ?_) AllReadyH.nil)
          try simp only [List.getElem_toArray, List.getElem_cons_zero, List.getElem_cons_succ]
          refine if_wanted (by rfl) ?_
          refine wp_append_facts factsU _ (.tmp 43) (.tmp 46) rfl u0.heap.size (.slice (some ⟨G1, 0, none⟩) 0 0) 0 [] rfl HM.out.own (fun b => b < w.heap.size) (fun b => b < w.heap.size) _ j c (R.take j) rfl ((HRW.out _ HM.out.below).take j hj) (by omega) (by omega) HM.out.below.size ?_
          intro v3 u3 hown3 hg3 ho3
          have HM3 := Lib.hid (mid_app HM.out hown3 hg3 ho3)
          clear hown3 hg3 ho3 HM
          have HM := HM3
          clear HM3
          refine hK.out _ _ (HRG.out _ HM.out.below) (fun hHeld => ?_)
          clear hK K
          try simp only [Act.put, List.getElem_toArray, List.getElem_cons_zero, List.getElem_cons_succ, List.setIfInBounds_toArray, List.set_cons_zero, List.set_cons_succ]
          refine wpAnyH_ready (rs := [7]) (by kernel_rfl) (by simp) (AllReadyH.cons rfl (fun K hK => ?_) AllReadyH.nil)
          try simp only [List.getElem_toArray, List.getElem_cons_zero, List.getElem_cons_succ]
          refine if_wanted (by rfl) ?_
          refine wp_append_facts factsU _ (.tmp 47) (.tmp 49) rfl u0.heap.size v3 (0 + j) ([] ++ flatF (R.take j)) rfl HM.out.own (fun _ => True) (fun b => b < w.heap.size) (some ⟨u0.heap.size, 0, none⟩) 1 1 [x] rfl (fts_one (by rw [HXE.out]; exact HM.out.one) trivial (HXW.out _ HM.out.below)) (by omega) (by omega) HM.out.below.size ?_
          intro v7 u7 hown7 hg7 _
          have hb7 : Below u0.heap.size u0 u7 := HM.out.below.grown hg7 HM.out.below.size (own_ge HM.out.own)
          have H7 := Lib.hid (And.intro hown7 hb7)
          clear hown7 hg7 hb7 HM
          refine hK.out _ _ (HRG.out _ H7.out.2) (fun hHeld => ?_)
          clear hK K
          try simp only [Act.put, List.getElem_toArray, List.getElem_cons_zero, List.getElem_cons_succ, List.setIfInBounds_toArray, List.set_cons_zero, List.set_cons_succ]
          refine wpAnyH_ready (rs := [11]) (by kernel_rfl) (by simp) (AllReadyH.cons rfl (fun K hK => ?_) AllReadyH.nil)
          try simp only [List.getElem_toArray, List.getElem_cons_zero, List.getElem_cons_succ]
          refine if_wanted (by rfl) ?_
          refine wp_append_facts factsU _ (.tmp 50) (.tmp 53) rfl u0.heap.size v7 (0 + j + 1) ([] ++ flatF (R.take j) ++ flatF [x]) rfl H7.out.1 (fun b => b < w.heap.size) (fun b => b < w.heap.size) a9 (n - j) (c - j) (R.drop j) rfl (by rw [← HA9.out]; exact (HRW.out _ H7.out.2).drop j c hj hc) (by omega) (by omega) H7.out.2.size ?_
          intro v8 u8 hown8 hg8 _
          have hb8 : Below u0.heap.size u0 u8 := H7.out.2.grown hg8 H7.out.2.size (own_ge H7.out.1)
          rw [List.nil_append, ← flatF_append, ← flatF_append] at hown8
          have hrows : ∀ y ∈ R.take j ++ [x] ++ R.drop j, Rw u8 (fun b => b < w.heap.size) y := by
            intro y hy
            rcases List.mem_append.1 hy with hy | hy
            · rcases List.mem_append.1 hy with hy | hy
              · exact (HRW.out _ hb8).2.1 y (List.mem_of_mem_take hy)
              · rw [List.mem_singleton.1 hy]; exact HXW.out _ hb8
            · exact (HRW.out _ hb8).2.1 y (List.mem_of_mem_drop hy)
          obtain ⟨m8, hm8⟩ : ∃ m8, 0 + j + 1 + (n - j) = m8 := ⟨_, rfl⟩
          rw [hm8] at hown8
          obtain ⟨a8, c8, rfl, hc8, hf8⟩ := own_facts hown8 hrows (by have := H.out.1; simp; omega)
          have H8 := Lib.hid (And.intro hc8 (And.intro hf8 hb8))
          clear hown8 hg8 hb8 hrows hc8 hf8 H7
          refine hK.out _ _ (HRG.out _ H8.out.2.2) (fun hHeld => ?_)
          clear hK K
          try simp only [Act.put, List.getElem_toArray, List.getElem_cons_zero, List.getElem_cons_succ, List.setIfInBounds_toArray, List.set_cons_zero, List.set_cons_succ]
          refine wpAnyH_take (i := 12) (v := .slice a8 m8 c8) rfl (by kernel_rfl) (by kernel_rfl) (by kernel_rfl) (fun _ _ _ h => h) (Or.inl ⟨by rfl, (by intro w hSw; (try dsimp only at hSw); go_simp)⟩) (by assumption) ?_
          try simp only [Act.put, List.getElem_toArray, List.getElem_cons_zero, List.getElem_cons_succ, List.setIfInBounds_toArray, List.set_cons_zero, List.set_cons_succ]
          refine wpAnyH_take (i := 13) (v := .int .i64 0) rfl (by kernel_rfl) (by kernel_rfl) (by kernel_rfl) (fun _ _ _ h => h) (Or.inl ⟨by rfl, (by intro w hSw; (try dsimp only at hSw); go_simp)⟩) (by assumption) ?_
          try simp only [Act.put, List.getElem_toArray, List.getElem_cons_zero, List.getElem_cons_succ, List.setIfInBounds_toArray, List.set_cons_zero, List.set_cons_succ]
          refine wpAnyH_done (by kernel_rfl) ?_ _
          go_wp2
          go_ret2
          exact addd_new HA.out H8.out.1 H8.out.2.1 (HB0.out.trans (H8.out.2.2.mono HB0.out.size)) HB0.out.size
    · have q : ¬ ((j : Int) < (n : Int)) := by omega
      go_upto_region 9 with fail
      refine wp_region_held_drew (S := fun _ => True) (by kernel_rfl) trivial (fun hHeld => ?_)
      refine wpAnyH_take (i := 0) (v := .int .i64 (j : Int)) rfl (by kernel_rfl) (by kernel_rfl) (by kernel_rfl) (fun _ _ _ h => h) (Or.inl ⟨by rfl, (by intro w hSw; (try dsimp only at hSw); go_simp)⟩) (by assumption) ?_
      try simp only [Act.put, List.getElem_toArray, List.getElem_cons_zero, List.getElem_cons_succ, List.setIfInBounds_toArray, List.set_cons_zero, List.set_cons_succ]
      refine wpAnyH_take (i := 1) (v := .slice a n c) rfl (by kernel_rfl) (by kernel_rfl) (by kernel_rfl) (fun _ _ _ h => h) (Or.inl ⟨by rfl, (by intro w hSw; (try dsimp only at hSw); go_simp)⟩) (by assumption) ?_
      try simp only [Act.put, List.getElem_toArray, List.getElem_cons_zero, List.getElem_cons_succ, List.setIfInBounds_toArray, List.set_cons_zero, List.set_cons_succ]
      refine wpAnyH_take (i := 2) (v := .int .i64 (n : Int)) rfl (by kernel_rfl) (by kernel_rfl) (by kernel_rfl) (fun _ _ _ h => h) (Or.inl ⟨by rfl, (by intro w hSw; (try dsimp only at hSw); go_simp)⟩) (by assumption) ?_
      try simp only [Act.put, List.getElem_toArray, List.getElem_cons_zero, List.getElem_cons_succ, List.setIfInBounds_toArray, List.set_cons_zero, List.set_cons_succ]
      refine wpAnyH_take (i := 3) (v := .bool false) rfl (by kernel_rfl) (by kernel_rfl) (by kernel_rfl) (fun _ _ _ h => h) (Or.inl ⟨by rfl, (by intro w hSw; (try dsimp only at hSw); go_simp)⟩) (by assumption) ?_
      try simp only [Act.put, List.getElem_toArray, List.getElem_cons_zero, List.getElem_cons_succ, List.setIfInBounds_toArray, List.set_cons_zero, List.set_cons_succ]
      refine wpAnyH_take (i := 4) (v := .bool false) rfl (by kernel_rfl) (by kernel_rfl) (by kernel_rfl) (fun _ _ _ h => h) (Or.inl ⟨by rfl, (by intro w hSw; (try dsimp only at hSw); go_simp)⟩) (by assumption) ?_
      try simp only [Act.put, List.getElem_toArray, List.getElem_cons_zero, List.getElem_cons_succ, List.setIfInBounds_toArray, List.set_cons_zero, List.set_cons_succ]
      refine wpAnyH_take (i := 5) (v := undef) rfl (by kernel_rfl) (by kernel_rfl) (by kernel_rfl) (fun _ _ _ h => h) (Or.inr ⟨by rfl, rfl⟩) (by assumption) ?_
      try simp only [Act.put, List.getElem_toArray, List.getElem_cons_zero, List.getElem_cons_succ, List.setIfInBounds_toArray, List.set_cons_zero, List.set_cons_succ]
      refine wpAnyH_take (i := 6) (v := undef) rfl (by kernel_rfl) (by kernel_rfl) (by kernel_rfl) (fun _ _ _ h => h) (Or.inr ⟨by rfl, rfl⟩) (by assumption) ?_
      try simp only [Act.put, List.getElem_toArray, List.getElem_cons_zero, List.getElem_cons_succ, List.setIfInBounds_toArray, List.set_cons_zero, List.set_cons_succ]
      refine wpAnyH_take (i := 7) (v := undef) rfl (by kernel_rfl) (by kernel_rfl) (by kernel_rfl) (fun _ _ _ h => h) (Or.inr ⟨by rfl, rfl⟩) (by assumption) ?_
      try simp only [Act.put, List.getElem_toArray, List.getElem_cons_zero, List.getElem_cons_succ, List.setIfInBounds_toArray, List.set_cons_zero, List.set_cons_succ]
      refine wpAnyH_take (i := 8) (v := undef) rfl (by kernel_rfl) (by kernel_rfl) (by kernel_rfl) (fun _ _ _ h => h) (Or.inr ⟨by rfl, rfl⟩) (by assumption) ?_
      try simp only [Act.put, List.getElem_toArray, List.getElem_cons_zero, List.getElem_cons_succ, List.setIfInBounds_toArray, List.set_cons_zero, List.set_cons_succ]
      refine wpAnyH_take (i := 9) (v := undef) rfl (by kernel_rfl) (by kernel_rfl) (by kernel_rfl) (fun _ _ _ h => h) (Or.inr ⟨by rfl, rfl⟩) (by assumption) ?_
      try simp only [Act.put, List.getElem_toArray, List.getElem_cons_zero, List.getElem_cons_succ, List.setIfInBounds_toArray, List.set_cons_zero, List.set_cons_succ]
      refine wpAnyH_take (i := 10) (v := undef) rfl (by kernel_rfl) (by kernel_rfl) (by kernel_rfl) (fun _ _ _ h => h) (Or.inr ⟨by rfl, rfl⟩) (by assumption) ?_
      try simp only [Act.put, List.getElem_toArray, List.getElem_cons_zero, List.getElem_cons_succ, List.setIfInBounds_toArray, List.set_cons_zero, List.set_cons_succ]
      refine wpAnyH_take (i := 11) (v := .bool false) rfl (by kernel_rfl) (by kernel_rfl) (by kernel_rfl) (fun _ _ _ h => h) (Or.inl ⟨by rfl, (by intro w hSw; (try dsimp only at hSw); go_simp)⟩) (by assumption) ?_
      try simp only [Act.put, List.getElem_toArray, List.getElem_cons_zero, List.getElem_cons_succ, List.setIfInBounds_toArray, List.set_cons_zero, List.set_cons_succ]
      refine wpAnyH_done (by kernel_rfl) ?_ _
      have HA : Hid (La.add N (FS R) x.1 = ((FS R).take j ++ x.1 :: (FS R).drop j, 0)) := Lib.hid (by rw [HA0.out, La.ins_at j (by rw [HLN.out]; exact hj) HN.out (Or.inl (by rw [HLN.out]; omega))])
      have HBZ := Lib.hid HB.out.1.drew
      have HWZ : Hid (Whole wr.drew w.heap.size 30 X.toArray) := Lib.hid HB.out.2.whole
      clear HB HN HA0 hHeld
      go_upto_region 11 with fail
      have HB0 : Hid (Below w.heap.size w wr.drew.drew) := Lib.hid HBZ.out.drew
      have HW0 : Hid (Whole wr.drew.drew w.heap.size 30 X.toArray) := Lib.hid HWZ.out
      have hs1 := slice_hiF (a := a) (n := n) (c := c) (k := j) (by omega)
      have hs2 := slice_loF (a := a) (n := n) (c := c) (k := j) (by omega)
      obtain ⟨a9, ha9⟩ : ∃ a9 : Option Addr, (if c = j then (a : Option Addr) else (a : Option Addr).map (fun p => p.add (j * 38))) = a9 := ⟨_, rfl⟩
      rw [ha9] at hs2
      have HA9 := Lib.hid ha9
      clear ha9
      generalize hu0 : wr.drew.drew = u0 at *
      have HRG : Hid (∀ u, Below u0.heap.size u0 u → u.rangeAt w.heap.size 0 X) := Lib.hid (fun u hb k v hv => by rw [Nat.zero_add, (HW0.out.below hb HW0.out.lt).cell, List.getElem?_toArray]; exact hv)
      have HRW : Hid (∀ u, Below u0.heap.size u0 u → Fts u (fun b => b < w.heap.size) (fun b => b < w.heap.size) (a) n R) := Lib.hid (fun u hb => H.out.below (HB0.out.trans (hb.mono HB0.out.size)) (fun _ _ h => h) (fun _ _ h => h))
      have HXW : Hid (∀ u, Below u0.heap.size u0 u → Rw u (fun b => b < w.heap.size) x) := Lib.hid (fun u hb => HX.out.below (HB0.out.trans (hb.mono HB0.out.size)) (fun _ _ h => h))
      have und := Try.underlying30
      have iX : (Try.prog.info? 30).map (·.size) = some X.length := by rw [HXL.out]; exact info38
      have r0 := HRG.out u0 (Below.refl _ _)
      subst hu0
      refine wp_region_held_drew (S := fun w' => w'.rangeAt w.heap.size 0 X) (by kernel_rfl) r0 (fun hHeld => ?_)
      refine wpAnyH_take (i := 1) (v := .slice (a) n c) rfl (by kernel_rfl) (by kernel_rfl) (by kernel_rfl) (fun _ _ _ h => h) (Or.inl ⟨by rfl, (by intro w hSw; (try dsimp only at hSw); go_simp)⟩) (by assumption) ?_
      try simp only [Act.put, List.getElem_toArray, List.getElem_cons_zero, List.getElem_cons_succ, List.setIfInBounds_toArray, List.set_cons_zero, List.set_cons_succ]
      refine wpAnyH_take (i := 2) (v := .int .i64 (j : Int)) rfl (by kernel_rfl) (by kernel_rfl) (by kernel_rfl) (fun _ _ _ h => h) (Or.inl ⟨by rfl, (by intro w hSw; (try dsimp only at hSw); go_simp)⟩) (by assumption) ?_
      try simp only [Act.put, List.getElem_toArray, List.getElem_cons_zero, List.getElem_cons_succ, List.setIfInBounds_toArray, List.set_cons_zero, List.set_cons_succ]
      refine wpAnyH_take (i := 3) (v := .slice (a) j c) rfl (by kernel_rfl) (by kernel_rfl) (by kernel_rfl) (fun _ _ _ h => h) (Or.inl ⟨by rfl, (by intro w hSw; (try dsimp only at hSw); go_simp)⟩) (by assumption) ?_
      try simp only [Act.put, List.getElem_toArray, List.getElem_cons_zero, List.getElem_cons_succ, List.setIfInBounds_toArray, List.set_cons_zero, List.set_cons_succ]
      refine wpAnyH_take (i := 5) (v := .agg X.toArray) rfl (by kernel_rfl) (by kernel_rfl) (by kernel_rfl) (fun _ _ _ h => h) (yieldsIf_load_mid (by rfl) _ _ rfl _ _ rfl _ _ (fun w hSw => hSw) und rfl iX) (by assumption) ?_
      try simp only [Act.put, List.getElem_toArray, List.getElem_cons_zero, List.getElem_cons_succ, List.setIfInBounds_toArray, List.set_cons_zero, List.set_cons_succ]
      refine wpAnyH_take (i := 8) (v := .slice (a) n c) rfl (by kernel_rfl) (by kernel_rfl) (by kernel_rfl) (fun _ _ _ h => h) (Or.inl ⟨by rfl, (by intro w hSw; (try dsimp only at hSw); go_simp)⟩) (by assumption) ?_
      try simp only [Act.put, List.getElem_toArray, List.getElem_cons_zero, List.getElem_cons_succ, List.setIfInBounds_toArray, List.set_cons_zero, List.set_cons_succ]
      refine wpAnyH_take (i := 9) (v := .int .i64 (j : Int)) rfl (by kernel_rfl) (by kernel_rfl) (by kernel_rfl) (fun _ _ _ h => h) (Or.inl ⟨by rfl, (by intro w hSw; (try dsimp only at hSw); go_simp)⟩) (by assumption) ?_
      try simp only [Act.put, List.getElem_toArray, List.getElem_cons_zero, List.getElem_cons_succ, List.setIfInBounds_toArray, List.set_cons_zero, List.set_cons_succ]
      refine wpAnyH_take (i := 10) (v := .slice a9 (n - j) (c - j)) rfl (by kernel_rfl) (by kernel_rfl) (by kernel_rfl) (fun _ _ _ h => h) (Or.inl ⟨by rfl, (by intro w hSw; (try dsimp only at hSw); go_simp)⟩) (by assumption) ?_
      try simp only [Act.put, List.getElem_toArray, List.getElem_cons_zero, List.getElem_cons_succ, List.setIfInBounds_toArray, List.set_cons_zero, List.set_cons_succ]
      generalize hu0 : wr.drew.drew = u0 at *
      clear r0 hu0 hs1 hs2 und iX HWZ HBZ HW0
      refine wpAnyH_ready (rs := [0, 6]) (by kernel_rfl) (by simp) (AllReadyH.cons rfl (fun K hK => ?_) (AllReadyH.cons rfl (fun K hK => ?_) AllReadyH.nil))
      · try simp only [List.getElem_toArray, List.getElem_cons_zero, List.getElem_cons_succ]
        refine if_wanted (by rfl) ?_
        refine wp_build0 rfl ?_
        have H1 := Lib.hid (And.intro (World.ownsRow_lit (base := u0.heap.size) (size := 38) (e := 30) u0 #[] 0 (Nat.le_refl _) (Nat.zero_le _) rfl) (below_alloc u0 (.cells #[] 30)))
        generalize u0.alloc (.cells #[] 30) = u1 at *
        refine hK.out _ _ (HRG.out _ H1.out.2) (fun hHeld => ?_)
        clear hK K
        try simp only [Act.put, List.getElem_toArray, List.getElem_cons_zero, List.getElem_cons_succ, List.setIfInBounds_toArray, List.set_cons_zero, List.set_cons_succ]
        refine wpAnyH_ready (rs := [4, 6]) (by kernel_rfl) (by simp) (AllReadyH.cons rfl (fun K hK => ?_) (AllReadyH.cons rfl (fun K hK => ?_) AllReadyH.nil))
        · try simp only [List.getElem_toArray, List.getElem_cons_zero, List.getElem_cons_succ]
          refine if_wanted (by rfl) ?_
          refine wp_append_facts factsU _ (.tmp 43) (.tmp 46) rfl u0.heap.size (.slice (some ⟨u0.heap.size, 0, none⟩) 0 0) 0 [] rfl H1.out.1 (fun b => b < w.heap.size) (fun b => b < w.heap.size) _ j c (R.take j) rfl ((HRW.out _ H1.out.2).take j hj) (by omega) (by omega) H1.out.2.size ?_
          intro v2 u2 hown2 hg2 _
          have H2 := Lib.hid (And.intro hown2 (H1.out.2.grown hg2 H1.out.2.size (own_ge H1.out.1)))
          clear hown2 hg2
          refine hK.out _ _ (HRG.out _ H2.out.2) (fun hHeld => ?_)
          clear hK K H1
          try simp only [Act.put, List.getElem_toArray, List.getElem_cons_zero, List.getElem_cons_succ, List.setIfInBounds_toArray, List.set_cons_zero, List.set_cons_succ]
          refine wpAnyH_ready (rs := [6]) (by kernel_rfl) (by simp) (AllReadyH.cons rfl (fun K hK => ?_) AllReadyH.nil)
          try simp only [List.getElem_toArray, List.getElem_cons_zero, List.getElem_cons_succ]
          refine if_wanted (by rfl) ?_
          refine wp_buildF factsU 48 rfl X HXL.out rfl ?_
          have HM : Hid (Mid u0 (u2.alloc (.cells X.toArray 30)) v2 (0 + j) ([] ++ flatF (R.take j)) u2.heap.size X) := Lib.hid ⟨H2.out.2.alloc H2.out.2.size _, H2.out.1.alloc _, Whole.new _ _ _, H2.out.2.size, fun e => Nat.lt_irrefl _ (own_lt H2.out.1 _ e)⟩
          generalize u2.alloc (.cells X.toArray 30) = u3 at *
          generalize u2.heap.size = G at *
          refine hK.out _ _ (HRG.out _ HM.out.below) (fun hHeld => ?_)
          clear hK K H2
          try simp only [Act.put, List.getElem_toArray, List.getElem_cons_zero, List.getElem_cons_succ, List.setIfInBounds_toArray, List.set_cons_zero, List.set_cons_succ]
          refine wpAnyH_ready (rs := [7]) (by kernel_rfl) (by simp) (AllReadyH.cons rfl (fun K hK => ?_) AllReadyH.nil)
          try simp only [List.getElem_toArray, List.getElem_cons_zero, List.getElem_cons_succ]
          refine if_wanted (by rfl) ?_
          refine wp_append_facts factsU _ (.tmp 47) (.tmp 49) rfl u0.heap.size v2 (0 + j) ([] ++ flatF (R.take j)) rfl HM.out.own (fun _ => True) (fun b => b < w.heap.size) (some ⟨G, 0, none⟩) 1 1 [x] rfl (fts_one (by rw [HXE.out]; exact HM.out.one) trivial (HXW.out _ HM.out.below)) (by omega) (by omega) HM.out.below.size ?_
          intro v7 u7 hown7 hg7 _
          have hb7 : Below u0.heap.size u0 u7 := HM.out.below.grown hg7 HM.out.below.size (own_ge HM.out.own)
          have H7 := Lib.hid (And.intro hown7 hb7)
          clear hown7 hg7 hb7 HM
          refine hK.out _ _ (HRG.out _ H7.out.2) (fun hHeld => ?_)
          clear hK K
          try simp only [Act.put, List.getElem_toArray, List.getElem_cons_zero, List.getElem_cons_succ, List.setIfInBounds_toArray, List.set_cons_zero, List.set_cons_succ]
          refine wpAnyH_ready (rs := [11]) (by kernel_rfl) (by simp) (AllReadyH.cons rfl (fun K hK => ?_) AllReadyH.nil)
          try simp only [List.getElem_toArray, List.getElem_cons_zero, List.getElem_cons_succ]
          refine if_wanted (by rfl) ?_
          refine wp_append_facts factsU _ (.tmp 50) (.tmp 53) rfl u0.heap.size v7 (0 + j + 1) ([] ++ flatF (R.take j) ++ flatF [x]) rfl H7.out.1 (fun b => b < w.heap.size) (fun b => b < w.heap.size) a9 (n - j) (c - j) (R.drop j) rfl (by rw [← HA9.out]; exact (HRW.out _ H7.out.2).drop j c hj hc) (by omega) (by omega) H7.out.2.size ?_
          intro v8 u8 hown8 hg8 _
          have hb8 : Below u0.heap.size u0 u8 := H7.out.2.grown hg8 H7.out.2.size (own_ge H7.out.1)
          rw [List.nil_append, ← flatF_append, ← flatF_append] at hown8
          have hrows : ∀ y ∈ R.take j ++ [x] ++ R.drop j, Rw u8 (fun b => b < w.heap.size) y := by
            intro y hy
            rcases List.mem_append.1 hy with hy | hy
            · rcases List.mem_append.1 hy with hy | hy
              · exact (HRW.out _ hb8).2.1 y (List.mem_of_mem_take hy)
              · rw [List.mem_singleton.1 hy]; exact HXW.out _ hb8
            · exact (HRW.out _ hb8).2.1 y (List.mem_of_mem_drop hy)
          obtain ⟨m8, hm8⟩ : ∃ m8, 0 + j + 1 + (n - j) = m8 := ⟨_, rfl⟩
          rw [hm8] at hown8
          obtain ⟨a8, c8, rfl, hc8, hf8⟩ := own_facts hown8 hrows (by have := H.out.1; simp; omega)
          have H8 := Lib.hid (And.intro hc8 (And.intro hf8 hb8))
          clear hown8 hg8 hb8 hrows hc8 hf8 H7
          refine hK.out _ _ (HRG.out _ H8.out.2.2) (fun hHeld => ?_)
          clear hK K
          try simp only [Act.put, List.getElem_toArray, List.getElem_cons_zero, List.getElem_cons_succ, List.setIfInBounds_toArray, List.set_cons_zero, List.set_cons_succ]
          refine wpAnyH_take (i := 12) (v := .slice a8 m8 c8) rfl (by kernel_rfl) (by kernel_rfl) (by kernel_rfl) (fun _ _ _ h => h) (Or.inl ⟨by rfl, (by intro w hSw; (try dsimp only at hSw); go_simp)⟩) (by assumption) ?_
          try simp only [Act.put, List.getElem_toArray, List.getElem_cons_zero, List.getElem_cons_succ, List.setIfInBounds_toArray, List.set_cons_zero, List.set_cons_succ]
          refine wpAnyH_take (i := 13) (v := .int .i64 0) rfl (by kernel_rfl) (by kernel_rfl) (by kernel_rfl) (fun _ _ _ h => h) (Or.inl ⟨by rfl, (by intro w hSw; (try dsimp only at hSw); go_simp)⟩) (by assumption) ?_
          try simp only [Act.put, List.getElem_toArray, List.getElem_cons_zero, List.getElem_cons_succ, List.setIfInBounds_toArray, List.set_cons_zero, List.set_cons_succ]
          refine wpAnyH_done (by kernel_rfl) ?_ _
          go_wp2
          go_ret2
          exact addd_new HA.out H8.out.1 H8.out.2.1 (HB0.out.trans (H8.out.2.2.mono HB0.out.size)) HB0.out.size
        · try simp only [List.getElem_toArray, List.getElem_cons_zero, List.getElem_cons_succ]
          refine if_wanted (by rfl) ?_
          refine wp_buildF factsU 48 rfl X HXL.out rfl ?_
          have HM : Hid (Mid u0 (u1.alloc (.cells X.toArray 30)) (.slice (some ⟨u0.heap.size, 0, none⟩) 0 0) 0 [] u1.heap.size X) := Lib.hid ⟨H1.out.2.alloc H1.out.2.size _, H1.out.1.alloc _, Whole.new _ _ _, H1.out.2.size, fun e => Nat.lt_irrefl _ (own_lt H1.out.1 _ e)⟩
          generalize u1.alloc (.cells X.toArray 30) = u2 at *
          generalize u1.heap.size = G at *
          refine hK.out _ _ (HRG.out _ HM.out.below) (fun hHeld => ?_)
          clear hK K H1
          try simp only [Act.put, List.getElem_toArray, List.getElem_cons_zero, List.getElem_cons_succ, List.setIfInBounds_toArray, List.set_cons_zero, List.set_cons_succ]
          refine wpAnyH_ready (rs := [4]) (by kernel_rfl) (by simp) (AllReadyH.cons rfl (fun K hK => ?_) AllReadyH.nil)
          try simp only [List.getElem_toArray, List.getElem_cons_zero, List.getElem_cons_succ]
          refine if_wanted (by rfl) ?_
          refine wp_append_facts factsU _ (.tmp 43) (.tmp 46) rfl u0.heap.size (.slice (some ⟨u0.heap.size, 0, none⟩) 0 0) 0 [] rfl HM.out.own (fun b => b < w.heap.size) (fun b => b < w.heap.size) _ j c (R.take j) rfl ((HRW.out _ HM.out.below).take j hj) (by omega) (by omega) HM.out.below.size ?_
          intro v3 u3 hown3 hg3 ho3
          have HM3 := Lib.hid (mid_app HM.out hown3 hg3 ho3)
          clear hown3 hg3 ho3 HM
          have HM := HM3
          clear HM3
          refine hK.out _ _ (HRG.out _ HM.out.below) (fun hHeld => ?_)
          clear hK K
          try simp only [Act.put, List.getElem_toArray, List.getElem_cons_zero, List.getElem_cons_succ, List.setIfInBounds_toArray, List.set_cons_zero, List.set_cons_succ]
          refine wpAnyH_ready (rs := [7]) (by kernel_rfl) (by simp) (AllReadyH.cons rfl (fun K hK => ?_) AllReadyH.nil)
          try simp only [List.getElem_toArray, List.getElem_cons_zero, List.getElem_cons_succ]
          refine if_wanted (by rfl) ?_
          refine wp_append_facts factsU _ (.tmp 47) (.tmp 49) rfl u0.heap.size v3 (0 + j) ([] ++ flatF (R.take j)) rfl HM.out.own (fun _ => True) (fun b => b < w.heap.size) (some ⟨G, 0, none⟩) 1 1 [x] rfl (fts_one (by rw [HXE.out]; exact HM.out.one) trivial (HXW.out _ HM.out.below)) (by omega) (by omega) HM.out.below.size ?_
          intro v7 u7 hown7 hg7 _
          have hb7 : Below u0.heap.size u0 u7 := HM.out.below.grown hg7 HM.out.below.size (own_ge HM.out.own)
          have H7 := Lib.hid (And.intro hown7 hb7)
          clear hown7 hg7 hb7 HM
          refine hK.out _ _ (HRG.out _ H7.out.2) (fun hHeld => ?_)
          clear hK K
          try simp only [Act.put, List.getElem_toArray, List.getElem_cons_zero, List.getElem_cons_succ, List.setIfInBounds_toArray, List.set_cons_zero, List.set_cons_succ]
          refine wpAnyH_ready (rs := [11]) (by kernel_rfl) (by simp) (AllReadyH.cons rfl (fun K hK => ?_) AllReadyH.nil)
          try simp only [List.getElem_toArray, List.getElem_cons_zero, List.getElem_cons_succ]
          refine if_wanted (by rfl) ?_
          refine wp_append_facts factsU _ (.tmp 50) (.tmp 53) rfl u0.heap.size v7 (0 + j + 1) ([] ++ flatF (R.take j) ++ flatF [x]) rfl H7.out.1 (fun b => b < w.heap.size) (fun b => b < w.heap.size) a9 (n - j) (c - j) (R.drop j) rfl (by rw [← HA9.out]; exact (HRW.out _ H7.out.2).drop j c hj hc) (by omega) (by omega) H7.out.2.size ?_
          intro v8 u8 hown8 hg8 _
          have hb8 : Below u0.heap.size u0 u8 := H7.out.2.grown hg8 H7.out.2.size (own_ge H7.out.1)
          rw [List.nil_append, ← flatF_append, ← flatF_append] at hown8
          have hrows : ∀ y ∈ R.take j ++ [x] ++ R.drop j, Rw u8 (fun b => b < w.heap.size) y := by
            intro y hy
            rcases List.mem_append.1 hy with hy | hy
            · rcases List.mem_append.1 hy with hy | hy
              · exact (HRW.out _ hb8).2.1 y (List.mem_of_mem_take hy)
              · rw [List.mem_singleton.1 hy]; exact HXW.out _ hb8
            · exact (HRW.out _ hb8).2.1 y (List.mem_of_mem_drop hy)
          obtain ⟨m8, hm8⟩ : ∃ m8, 0 + j + 1 + (n - j) = m8 := ⟨_, rfl⟩
          rw [hm8] at hown8
          obtain ⟨a8, c8, rfl, hc8, hf8⟩ := own_facts hown8 hrows (by have := H.out.1; simp; omega)
          have H8 := Lib.hid (And.intro hc8 (And.intro hf8 hb8))
          clear hown8 hg8 hb8 hrows hc8 hf8 H7
          refine hK.out _ _ (HRG.out _ H8.out.2.2) (fun hHeld => ?_)
          clear hK K
          try simp only [Act.put, List.getElem_toArray, List.getElem_cons_zero, List.getElem_cons_succ, List.setIfInBounds_toArray, List.set_cons_zero, List.set_cons_succ]
          refine wpAnyH_take (i := 12) (v := .slice a8 m8 c8) rfl (by kernel_rfl) (by kernel_rfl) (by kernel_rfl) (fun _ _ _ h => h) (Or.inl ⟨by rfl, (by intro w hSw; (try dsimp only at hSw); go_simp)⟩) (by assumption) ?_
          try simp only [Act.put, List.getElem_toArray, List.getElem_cons_zero, List.getElem_cons_succ, List.setIfInBounds_toArray, List.set_cons_zero, List.set_cons_succ]
          refine wpAnyH_take (i := 13) (v := .int .i64 0) rfl (by kernel_rfl) (by kernel_rfl) (by kernel_rfl) (fun _ _ _ h => h) (Or.inl ⟨by rfl, (by intro w hSw; (try dsimp only at hSw); go_simp)⟩) (by assumption) ?_
          try simp only [Act.put, List.getElem_toArray, List.getElem_cons_zero, List.getElem_cons_succ, List.setIfInBounds_toArray, List.set_cons_zero, List.set_cons_succ]
          refine wpAnyH_done (by kernel_rfl) ?_ _
          go_wp2
          go_ret2
          exact addd_new HA.out H8.out.1 H8.out.2.1 (HB0.out.trans (H8.out.2.2.mono HB0.out.size)) HB0.out.size
      · try simp only [List.getElem_toArray, List.getElem_cons_zero, List.getElem_cons_succ]
        refine if_wanted (by rfl) ?_
        refine wp_buildF factsU 48 rfl X HXL.out rfl ?_
        have H1 : Hid (Below u0.heap.size u0 (u0.alloc (.cells X.toArray 30)) ∧ Whole (u0.alloc (.cells X.toArray 30)) u0.heap.size 30 X.toArray) := Lib.hid ⟨below_alloc _ _, Whole.new _ _ _⟩
        generalize u0.alloc (.cells X.toArray 30) = u1 at *
        refine hK.out _ _ (HRG.out _ H1.out.1) (fun hHeld => ?_)
        clear hK K
        try simp only [Act.put, List.getElem_toArray, List.getElem_cons_zero, List.getElem_cons_succ, List.setIfInBounds_toArray, List.set_cons_zero, List.set_cons_succ]
        refine wpAnyH_ready (rs := [0]) (by kernel_rfl) (by simp) (AllReadyH.cons rfl (fun K hK => ?_) AllReadyH.nil)
        try simp only [List.getElem_toArray, List.getElem_cons_zero, List.getElem_cons_succ]
        refine if_wanted (by rfl) ?_
        refine wp_build0 rfl ?_
        have HM : Hid (Mid u0 (u1.alloc (.cells #[] 30)) (.slice (some ⟨u1.heap.size, 0, none⟩) 0 0) 0 [] u0.heap.size X) := Lib.hid ⟨H1.out.1.alloc H1.out.1.size _, World.ownsRow_lit (base := u0.heap.size) (size := 38) (e := 30) u1 #[] 0 H1.out.1.size (Nat.zero_le _) rfl, H1.out.2.alloc _, Nat.le_refl _, fun e => by
          have h1 := H1.out.2.lt
          have h2 : u1.heap.size = u0.heap.size := Option.some.inj e
          omega⟩
        generalize u1.alloc (.cells #[] 30) = u2 at *
        generalize u1.heap.size = G1 at *
        refine hK.out _ _ (HRG.out _ HM.out.below) (fun hHeld => ?_)
        clear hK K H1
        try simp only [Act.put, List.getElem_toArray, List.getElem_cons_zero, List.getElem_cons_succ, List.setIfInBounds_toArray, List.set_cons_zero, List.set_cons_succ]
        refine wpAnyH_ready (rs := [4]) (by kernel_rfl) (by simp) (AllReadyH.cons rfl (fun K hK => ?_) AllReadyH.nil)
        try simp only [List.getElem_toArray, List.getElem_cons_zero, List.getElem_cons_succ]
        refine if_wanted (by rfl) ?_
        refine wp_append_facts factsU _ (.tmp 43) (.tmp 46) rfl u0.heap.size (.slice (some ⟨G1, 0, none⟩) 0 0) 0 [] rfl HM.out.own (fun b => b < w.heap.size) (fun b => b < w.heap.size) _ j c (R.take j) rfl ((HRW.out _ HM.out.below).take j hj) (by omega) (by omega) HM.out.below.size ?_
        intro v3 u3 hown3 hg3 ho3
        have HM3 := Lib.hid (mid_app HM.out hown3 hg3 ho3)
        clear hown3 hg3 ho3 HM
        have HM := HM3
        clear HM3
        refine hK.out _ _ (HRG.out _ HM.out.below) (fun hHeld => ?_)
        clear hK K
        try simp only [Act.put, List.getElem_toArray, List.getElem_cons_zero, List.getElem_cons_succ, List.setIfInBounds_toArray, List.set_cons_zero, List.set_cons_succ]
        refine wpAnyH_ready (rs := [7]) (by kernel_rfl) (by simp) (AllReadyH.cons rfl (fun K hK => ?_) AllReadyH.nil)
        try simp only [List.getElem_toArray, List.getElem_cons_zero, List.getElem_cons_succ]
        refine if_wanted (by rfl) ?_
        refine wp_append_facts factsU _ (.tmp 47) (.tmp 49) rfl u0.heap.size v3 (0 + j) ([] ++ flatF (R.take j)) rfl HM.out.own (fun _ => True) (fun b => b < w.heap.size) (some ⟨u0.heap.size, 0, none⟩) 1 1 [x] rfl (fts_one (by rw [HXE.out]; exact HM.out.one) trivial (HXW.out _ HM.out.below)) (by omega) (by omega) HM.out.below.size ?_
        intro v7 u7 hown7 hg7 _
        have hb7 : Below u0.heap.size u0 u7 := HM.out.below.grown hg7 HM.out.below.size (own_ge HM.out.own)
        have H7 := Lib.hid (And.intro hown7 hb7)
        clear hown7 hg7 hb7 HM
        refine hK.out _ _ (HRG.out _ H7.out.2) (fun hHeld => ?_)
        clear hK K
        try simp only [Act.put, List.getElem_toArray, List.getElem_cons_zero, List.getElem_cons_succ, List.setIfInBounds_toArray, List.set_cons_zero, List.set_cons_succ]
        refine wpAnyH_ready (rs := [11]) (by kernel_rfl) (by simp) (AllReadyH.cons rfl (fun K hK => ?_) AllReadyH.nil)
        try simp only [List.getElem_toArray, List.getElem_cons_zero, List.getElem_cons_succ]
        refine if_wanted (by rfl) ?_
        refine wp_append_facts factsU _ (.tmp 50) (.tmp 53) rfl u0.heap.size v7 (0 + j + 1) ([] ++ flatF (R.take j) ++ flatF [x]) rfl H7.out.1 (fun b => b < w.heap.size) (fun b => b < w.heap.size) a9 (n - j) (c - j) (R.drop j) rfl (by rw [← HA9.out]; exact (HRW.out _ H7.out.2).drop j c hj hc) (by omega) (by omega) H7.out.2.size ?_
        intro v8 u8 hown8 hg8 _
        have hb8 : Below u0.heap.size u0 u8 := H7.out.2.grown hg8 H7.out.2.size (own_ge H7.out.1)
        rw [List.nil_append, ← flatF_append, ← flatF_append] at hown8
        have hrows : ∀ y ∈ R.take j ++ [x] ++ R.drop j, Rw u8 (fun b => b < w.heap.size) y := by
          intro y hy
          rcases List.mem_append.1 hy with hy | hy
          · rcases List.mem_append.1 hy with hy | hy
            · exact (HRW.out _ hb8).2.1 y (List.mem_of_mem_take hy)
            · rw [List.mem_singleton.1 hy]; exact HXW.out _ hb8
          · exact (HRW.out _ hb8).2.1 y (List.mem_of_mem_drop hy)
        obtain ⟨m8, hm8⟩ : ∃ m8, 0 + j + 1 + (n - j) = m8 := ⟨_, rfl⟩
        rw [hm8] at hown8
        obtain ⟨a8, c8, rfl, hc8, hf8⟩ := own_facts hown8 hrows (by have := H.out.1; simp; omega)
        have H8 := Lib.hid (And.intro hc8 (And.intro hf8 hb8))
        clear hown8 hg8 hb8 hrows hc8 hf8 H7
        refine hK.out _ _ (HRG.out _ H8.out.2.2) (fun hHeld => ?_)
        clear hK K
        try simp only [Act.put, List.getElem_toArray, List.getElem_cons_zero, List.getElem_cons_succ, List.setIfInBounds_toArray, List.set_cons_zero, List.set_cons_succ]
        refine wpAnyH_take (i := 12) (v := .slice a8 m8 c8) rfl (by kernel_rfl) (by kernel_rfl) (by kernel_rfl) (fun _ _ _ h => h) (Or.inl ⟨by rfl, (by intro w hSw; (try dsimp only at hSw); go_simp)⟩) (by assumption) ?_
        try simp only [Act.put, List.getElem_toArray, List.getElem_cons_zero, List.getElem_cons_succ, List.setIfInBounds_toArray, List.set_cons_zero, List.set_cons_succ]
        refine wpAnyH_take (i := 13) (v := .int .i64 0) rfl (by kernel_rfl) (by kernel_rfl) (by kernel_rfl) (fun _ _ _ h => h) (Or.inl ⟨by rfl, (by intro w hSw; (try dsimp only at hSw); go_simp)⟩) (by assumption) ?_
        try simp only [Act.put, List.getElem_toArray, List.getElem_cons_zero, List.getElem_cons_succ, List.setIfInBounds_toArray, List.set_cons_zero, List.set_cons_succ]
        refine wpAnyH_done (by kernel_rfl) ?_ _
        go_wp2
        go_ret2
        exact addd_new HA.out H8.out.1 H8.out.2.1 (HB0.out.trans (H8.out.2.2.mono HB0.out.size)) HB0.out.size
end Go.Proofs.Ytdfmfjahnnifnaa
