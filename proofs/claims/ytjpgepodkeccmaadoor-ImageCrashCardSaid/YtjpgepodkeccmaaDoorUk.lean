/-
  The walk of Start: what a machine starts.
-/
import Derived.Test.YtjpgepodkeccmaaDoorUj
namespace Go.Proofs.YtjpgepodkeccmaaDoor
open Go.RowKit
set_option linter.unusedVariables false
set_option linter.unusedSimpArgs false
set_option maxRecDepth 20000
theorem built_b0 : Tryd.prog.built 41 [] = some zbt := by kernel_rfl
theorem zbt_kc : KC zbt Im.Z := ⟨rfl, rfl, byt_zeros 32⟩
theorem results_cell3 {fn : Func} {p q r : Tmp} {ty : TypeId} (h : fn.results = #[.cell p ty, .tmp q, .tmp r]) (tmps : Array Value) (P : Program) (w : World) (a : Addr) {v u x : Value} (ht : tmps.getD p undef = .pointer (some a)) (hv : (loadVar ty a).run P w = .ok v w) (hu : tmps.getD q undef = u) (hx : tmps.getD r undef = x) :
    (results fn tmps).run P w = .ok (.tuple #[v, u, x]) w := by
  subst hu hx
  simp only [results, h]
  simp only [Array.getD_eq_getD_getElem?] at ht
  simp [ht, hv, asAddr]
theorem bt_w32 {l : List Int} (h : Blk l) : Im.W32 (Im.bt l) := ⟨by unfold Im.bt; simp [h.1], byt_take (byt_drop h.2 _) _⟩
theorem pk_w32 {f : Nat → List Int} (h : ∀ i, Blk (f i)) (k : Nat) : Im.W32 (Im.pk f k).1 := by
  induction k with
  | zero => exact ⟨rfl, byt_zeros 32⟩
  | succ k ih => unfold Im.pk; split; exact bt_w32 (h k); exact ih
theorem pk_le (f : Nat → List Int) (k : Nat) : (Im.pk f k).2 ≤ 1099511627776 := by
  induction k with
  | zero => exact Nat.zero_le _
  | succ k ih => unfold Im.pk; split; exact Im.cnt_le _; exact ih
theorem pk_zero (f : Nat → List Int) (k : Nat) : (Im.pk f k).2 = 0 → (Im.pk f k).1 = Im.Z := by
  induction k with
  | zero => intro _; rfl
  | succ k ih => unfold Im.pk; split; intro h; simp only at h; omega; exact ih
theorem boxedk (w : World) (l : List Int) : ∃ w', (w.alloc (.cells zb 66)).setRow w.heap.size (nums l).toArray = w' ∧ Whole w' w.heap.size 66 (nums l).toArray ∧ Below w.heap.size w w' :=
  ⟨_, rfl, (Whole.new w _ _).row _, below_row ((Below.refl _ _).alloc (Nat.le_refl _) _) (Nat.le_refl _) _⟩
set_option maxHeartbeats 4000000 in
theorem istart_bad {v : Value} {at_ : Int} {w : World} (hf : ∀ w', Below w.heap.size w w' → Calls Tryd.prog 27 #[v, .int .i64 at_, .int .i64 2] w' fun e w'' => e = .returned (.bool false) ∧ w' = w'') :
    Calls Tryd.prog 18 #[v, .int .i64 at_] w fun e w' => e = .returned (.tuple #[.agg zbt, .int .i64 0, .int .i64 1]) ∧ Below w.heap.size w w' := by
  obtain ⟨fsB, hun⟩ := und_bt
  have hzb := zero_bt
  have hr : Whole (w.alloc (.cells zbt 41)) w.heap.size 41 zbt := Whole.new w _ _
  have hb := below_alloc w (.cells zbt 41)
  obtain ⟨w1, h1⟩ : ∃ w1, w.alloc (.cells zbt 41) = w1 := ⟨_, rfl⟩
  rw [h1] at hr hb
  have HF := Lib.hid (hf w1 hb)
  have H1 := Lib.hid (And.intro hr hb)
  have HW := Lib.hid h1
  clear hf hr hb h1
  go_enter Tryd.func18, Tryd.ntmps18
  go_upto_region 1 with fail
  rw [HW.out]
  go_wp2_with (first | (go_at_call 27; refine HF.out.mono ?_; rintro e w' ⟨rfl, rfl⟩) | ((with_reducible show wpList _ _ _ ((⟨_, Op.build 41 _, _, _, _, _⟩ : Oper) :: _) _ _); refine wpList_built rfl _ rfl _ rfl _ built_b0 ?_) | ((with_reducible show wpList _ _ _ ((⟨_, Op.store 41 _ _, _, _, _, _⟩ : Oper) :: _) _ _); refine wpList_store_row rfl 41 (.tmp 4) (.tmp 18) rfl w.heap.size zbt rfl rfl 41 zbt H1.out.1 (KC.info zbt_kc) (Eq.trans (b := 35) rfl (KC.size zbt_kc).symm) (KC.all zbt_kc) ?_) | fail)
  refine bodyPost_ret (results_cell3 rfl _ _ _ _ rfl (run_loadVar_row _ _ _ _ _ (0, 0) _ (H1.out.1.row zbt) hun rfl zbt_kc.info) rfl rfl) rfl ?_
  exact ⟨rfl, below_row H1.out.2 (Nat.le_refl _) _⟩
set_option maxHeartbeats 8000000 in
theorem istart_ok {p bb mb n at_ : Nat} {A : Dm.A} {w : World} (h : Dk w p bb mb A n) (hd : A.down = false) (hat : at_ + 2 ≤ n) :
    Calls Tryd.prog 18 #[.pointer (some ⟨p, 0, none⟩), .int .i64 (at_ : Int)] w fun e w' => ∃ D, e = .returned (.tuple #[.agg D, .int .i64 (((Im.pk (fun i => Dm.read A (at_ + i)) 2).2 : Nat) : Int), .int .i64 (if (Im.pk (fun i => Dm.read A (at_ + i)) 2).2 = 0 then 81 else 0)]) ∧ KC D (Im.pk (fun i => Dm.read A (at_ + i)) 2).1 ∧ Below w.heap.size w w' := by
  obtain ⟨fsB, hun⟩ := und_bt
  have hzb := zero_bt
  have hzk := zero_k
  have hz2 := zero_b
  obtain ⟨f, hf⟩ : ∃ f, (fun i => Dm.read A (at_ + i)) = f := ⟨_, rfl⟩
  rw [hf]
  obtain ⟨G, hG⟩ : ∃ G, (Im.pk f 2).2 = G := ⟨_, rfl⟩
  rw [hG]
  obtain ⟨E, hE⟩ : ∃ E : Int, (if G = 0 then (81 : Int) else 0) = E := ⟨_, rfl⟩
  rw [hE]
  have HGE := Lib.hid (And.intro hG hE)
  clear hG hE
  have HFF : Hid (∀ i, Dm.read A (at_ + i) = f i) := Lib.hid fun i => congrFun hf i
  have hsm := h.ok.small
  have hr : Whole (w.alloc (.cells zbt 41)) w.heap.size 41 zbt := Whole.new w _ _
  have hb := below_alloc w (.cells zbt 41)
  have hs := size_alloc w (.cells zbt 41)
  obtain ⟨w1, h1⟩ : ∃ w1, w.alloc (.cells zbt 41) = w1 := ⟨_, rfl⟩
  rw [h1] at hr hb hs
  have hq := Whole.new w1 41 zbt
  rw [hs] at hq
  have hr2 := hr.alloc (.cells zbt 41)
  have hb2 := hb.alloc hb.size (.cells zbt 41)
  obtain ⟨w2, h2⟩ : ∃ w2, w1.alloc (.cells zbt 41) = w2 := ⟨_, rfl⟩
  rw [h2] at hq hr2 hb2
  have HH := has_any (fr := (at_ : Int)) (bs := 2) (h.old hb) ⟨by omega, by omega⟩
  have hh : hasB n (at_ : Int) 2 = true := by unfold hasB; simp; omega
  rw [hh] at HH
  have HF := Lib.hid HH
  have H0 : Hid (∃ D, KC D (Im.pk f 0).1 ∧ Whole w2 (w.heap.size + 1) 41 D ∧ Whole w2 w.heap.size 41 zbt ∧ Below w.heap.size w w2) := Lib.hid ⟨zbt, zbt_kc, hq, hr2, hb2⟩
  have HW := Lib.hid (And.intro h1 (And.intro h2 hs))
  have HD := Lib.hid (And.intro h hd)
  have b1 : at_ ≤ 4096 := by omega
  have HBK : Hid (∀ i, i < 2 → Blk (f i)) := Lib.hid fun i hi => by rw [← HFF.out i]; exact Dm.read_len h.ok (by omega)
  clear h hd hr hb hs hq hr2 hb2 HH hh h1 h2 hf hsm
  go_enter Tryd.func18, Tryd.ntmps18
  go_upto_region 1 with fail
  rw [HW.out.1]
  go_upto_region 4 with (first | (go_at_call 27; refine HF.out.mono ?_; rintro e w' ⟨rfl, rfl⟩) | fail)
  rw [HW.out.2.1, HW.out.2.2]
  have e0 : (Im.pk f 0).2 = 0 := rfl
  go_wp2_with fail
  go_loopw [8, 19] (fun v8 v19 wr => ∃ k : Nat, k ≤ 2 ∧ v8 = .int .i64 (((Im.pk f k).2 : Nat) : Int) ∧ v19 = .int .i64 (k : Int) ∧ Hid (∃ D, KC D (Im.pk f k).1 ∧ Whole wr (w.heap.size + 1) 41 D ∧ Whole wr w.heap.size 41 zbt ∧ Below w.heap.size w wr)) (fun _ i _ => 2 - (intOf i).toNat)
  case atStart => exact ⟨0, by omega, rfl, rfl, H0⟩
  case round =>
    clear H0 e0 hzb
    obtain ⟨k, hk, rfl, rfl, HB⟩ := hrel
    obtain ⟨g, hg⟩ : ∃ g, (Im.pk f k).2 = g := ⟨_, rfl⟩
    have hgl : g ≤ 1099511627776 := by rw [← hg]; exact pk_le f k
    rw [hg]
    have HG := Lib.hid hg
    clear hg
    by_cases hlt : k < 2
    · have q1 : (k : Int) < 2 := by omega
      obtain ⟨D, hD, hDw, hRw, hBel⟩ := HB.out
      have hXr := HBK.out k hlt
      have hXe := HFF.out k
      obtain ⟨X, hX⟩ : ∃ X, f k = X := ⟨_, rfl⟩
      rw [hX] at hXr hXe
      have hstep : Im.pk f (k + 1) = if g < Im.cnt X then (Im.bt X, Im.cnt X) else Im.pk f k := by
        rw [← HG.out, ← hX]; rfl
      have hcl := Im.cnt_le X
      have HX := Lib.hid (And.intro hXr hstep)
      go_wp2_with fail
      refine (read_at (z := (at_ : Int) + (k : Int)) (HD.out.1.old hBel) HD.out.2 (by omega) (by have := HD.out.1.ok.small; omega)).mono ?_
      rintro e w3 ⟨rfl, hb3⟩
      rw [show ((at_ : Int) + (k : Int)).toNat = at_ + k by omega, hXe]
      obtain ⟨w4, h4, k4, b4⟩ := boxed w3 X
      obtain ⟨w5, h5, k5, b5⟩ := boxedk w4 X
      have bel5 := (hb3.trans (b4.mono hb3.size)).trans (b5.mono (Nat.le_trans hb3.size b4.size))
      have hD5 := hDw.keep (bel5.block _ hDw.lt)
      have hR5 := hRw.keep (bel5.block _ hRw.lt)
      have hb5 := hBel.trans (bel5.mono hBel.size)
      have hKB : KB (nums X).toArray X := ⟨rfl, hXr⟩
      have H5 := Lib.hid (And.intro h4 (And.intro k4 (And.intro h5 (And.intro k5 (And.intro hD5 (And.intro hR5 (And.intro hb5 hKB)))))))
      have HDD := Lib.hid hD
      clear hD hDw hRw hBel hX hXr hXe hstep hb3 h4 k4 b4 h5 k5 b5 bel5 hD5 hR5 hb5 hKB HB
      go_wp2_with (first | ((with_reducible show wpList _ _ _ ((⟨_, Op.store 32 _ _, _, _, _, _⟩ : Oper) :: _) _ _); refine wpList_store_row rfl 32 (.tmp 10) (.tmp 28) rfl w3.heap.size (nums X).toArray rfl rfl 32 zb (Whole.new w3 _ _) (info_bn HX.out.1.1) (size_bn HX.out.1.1) (all_nums _) ?_; rw [H5.out.1]) | ((with_reducible show wpList _ _ _ ((⟨_, Op.load 32 _, _, _, _, _⟩ : Oper) :: _) _ _); refine wpList_load_row rfl 32 (.tmp 10) rfl w3.heap.size rfl 32 (nums X).toArray (0, 0) _ H5.out.2.1 und_b rfl (info_bn HX.out.1.1) ?_) | ((with_reducible show wpList _ _ _ ((⟨_, Op.store 66 _ _, _, _, _, _⟩ : Oper) :: _) _ _); refine wpList_store_row rfl 66 (.tmp 12) (.tmp 34) rfl w4.heap.size (nums X).toArray rfl rfl 66 zb (Whole.new w4 _ _) H5.out.2.2.2.2.2.2.2.info (Eq.trans (b := 64) rfl H5.out.2.2.2.2.2.2.2.size.symm) (all_nums _) ?_; rw [H5.out.2.2.1]) | ((with_reducible show wpList _ _ _ ((⟨_, Op.load 66 _, _, _, _, _⟩ : Oper) :: _) _ _); refine wpList_load_row rfl 66 (.tmp 12) rfl w4.heap.size rfl 66 (nums X).toArray (0, 0) _ H5.out.2.2.2.1 und_k rfl H5.out.2.2.2.2.2.2.2.info ?_) | fail)
      refine (icount_any H5.out.2.2.2.2.2.2.2).mono ?_
      rintro e w6 ⟨rfl, hb6⟩
      obtain ⟨N, hN⟩ : ∃ N, Im.cnt X = N := ⟨_, rfl⟩
      rw [hN] at hcl ⊢
      have k6 := H5.out.2.2.2.1.keep (hb6.block _ H5.out.2.2.2.1.lt)
      have hD6 := H5.out.2.2.2.2.1.keep (hb6.block _ H5.out.2.2.2.2.1.lt)
      have hR6 := H5.out.2.2.2.2.2.1.keep (hb6.block _ H5.out.2.2.2.2.2.1.lt)
      have bel6 := H5.out.2.2.2.2.2.2.1.trans (hb6.mono H5.out.2.2.2.2.2.2.1.size)
      have H6 := Lib.hid (And.intro k6 (And.intro hD6 (And.intro hR6 bel6)))
      have HN := Lib.hid hN
      clear k6 hD6 hR6 bel6 hb6 hN
      by_cases hgt : g < N
      · have q2 : (g : Int) < (N : Int) := by omega
        have hst : Im.pk f (k + 1) = (Im.bt X, N) := by rw [HX.out.2, HN.out, if_pos hgt]
        have HST := Lib.hid hst
        clear hst
        go_wp2_with (first | ((with_reducible show wpList _ _ _ ((⟨_, Op.load 66 _, _, _, _, _⟩ : Oper) :: _) _ _); refine wpList_load_row rfl 66 (.tmp 12) rfl w4.heap.size rfl 66 (nums X).toArray (0, 0) _ H6.out.1 und_k rfl H5.out.2.2.2.2.2.2.2.info ?_) | fail)
        refine (iboot_any H5.out.2.2.2.2.2.2.2).mono ?_
        rintro e w7 ⟨D', rfl, hD', hb7⟩
        have hD7 := H6.out.2.1.keep (hb7.block _ H6.out.2.1.lt)
        have hR7 := H6.out.2.2.1.keep (hb7.block _ H6.out.2.2.1.lt)
        have bel7 := H6.out.2.2.2.trans (hb7.mono H6.out.2.2.2.size)
        have H7 := Lib.hid (And.intro hD7 (And.intro hD' (And.intro hR7 bel7)))
        have hD8 := hD7.row D'
        have hR8 : Whole (w7.setRow (w.heap.size + 1) D') w.heap.size 41 zbt := hR7.rowFar (by omega) D'
        have bel8 := below_row bel7 (show w.heap.size ≤ w.heap.size + 1 by omega) D'
        have H8 : Hid (∃ D, KC D (Im.pk f (k + 1)).1 ∧ Whole (w7.setRow (w.heap.size + 1) D') (w.heap.size + 1) 41 D ∧ Whole (w7.setRow (w.heap.size + 1) D') w.heap.size 41 zbt ∧ Below w.heap.size w (w7.setRow (w.heap.size + 1) D')) := Lib.hid ⟨D', by rw [HST.out]; exact hD', hD8, hR8, bel8⟩
        clear hD7 hR7 bel7 hD8 hR8 bel8 hD' hb7
        go_wp2_with (first | ((with_reducible show wpList _ _ _ ((⟨_, Op.store 41 _ _, _, _, _, _⟩ : Oper) :: _) _ _); refine wpList_store_row rfl 41 (.tmp 7) (.tmp 41) rfl (w.heap.size + 1) D' rfl rfl 41 D H7.out.1 (KC.info H7.out.2.1) (Eq.trans (b := 35) HDD.out.size (KC.size H7.out.2.1).symm) (KC.all H7.out.2.1) ?_) | fail)
        go_roundw
        case rel => exact ⟨k + 1, by omega, by rw [HST.out], by go_num, H8⟩
        case measure => simp [intOf]; omega
      · have q2 : ¬ (g : Int) < (N : Int) := by omega
        have hst : Im.pk f (k + 1) = Im.pk f k := by rw [HX.out.2, HN.out, if_neg hgt]
        have H8 : Hid (∃ D, KC D (Im.pk f (k + 1)).1 ∧ Whole w6 (w.heap.size + 1) 41 D ∧ Whole w6 w.heap.size 41 zbt ∧ Below w.heap.size w w6) := Lib.hid ⟨D, by rw [hst]; exact HDD.out, H6.out.2.1, H6.out.2.2.1, H6.out.2.2.2⟩
        have HST := Lib.hid hst
        clear hst
        go_wp2
        go_roundw
        case rel => exact ⟨k + 1, by omega, by rw [HST.out, HG.out], by go_num, H8⟩
        case measure => simp [intOf]; omega
    · obtain rfl : k = 2 := by omega
      have q1 : ¬ (2 : Int) < 2 := by omega
      obtain ⟨D, hD, hDw, hRw, hBel⟩ := HB.out
      have H9 := Lib.hid (And.intro hD (And.intro hDw (And.intro hRw hBel)))
      clear hD hDw hRw hBel
      by_cases hz : g = 0
      · have q2 : ((g : Int) == 0) = true := by simp; omega
        subst hz
        have hZ := pk_zero f 2 HG.out
        have HZ := Lib.hid hZ
        clear hZ
        go_wp2_with (first | ((with_reducible show wpList _ _ _ ((⟨_, Op.build 41 _, _, _, _, _⟩ : Oper) :: _) _ _); refine wpList_built rfl _ rfl _ rfl _ built_b0 ?_) | ((with_reducible show wpList _ _ _ ((⟨_, Op.store 41 _ _, _, _, _, _⟩ : Oper) :: _) _ _); refine wpList_store_row rfl 41 (.tmp 4) (.tmp 46) rfl w.heap.size zbt rfl rfl 41 zbt H9.out.2.2.1 (KC.info zbt_kc) (Eq.trans (b := 35) rfl (KC.size zbt_kc).symm) (KC.all zbt_kc) ?_) | fail)
        refine bodyPost_ret (results_cell3 rfl _ _ _ _ rfl (run_loadVar_row _ _ _ _ _ (0, 0) _ (H9.out.2.2.1.row zbt) hun rfl zbt_kc.info) rfl rfl) rfl ?_
        refine ⟨zbt, ?_, by rw [HZ.out]; exact zbt_kc, below_row H9.out.2.2.2 (Nat.le_refl _) _⟩
        have e1 := HGE.out.1
        rw [HG.out] at e1
        have e2 := HGE.out.2
        rw [← e1, if_pos rfl] at e2
        rw [← e1, ← e2]
        rfl
      · have q2 : ((g : Int) == 0) = false := by simp; omega
        go_wp2_with (first | ((with_reducible show wpList _ _ _ ((⟨_, Op.load 41 _, _, _, _, _⟩ : Oper) :: _) _ _); refine wpList_load_row rfl 41 (.tmp 7) rfl (w.heap.size + 1) rfl 41 D (0, 0) _ H9.out.2.1 hun rfl (KC.info H9.out.1) ?_) | ((with_reducible show wpList _ _ _ ((⟨_, Op.store 41 _ _, _, _, _, _⟩ : Oper) :: _) _ _); refine wpList_store_row rfl 41 (.tmp 4) (.tmp 47) rfl w.heap.size D rfl rfl 41 zbt H9.out.2.2.1 (KC.info H9.out.1) (Eq.trans (b := 35) rfl (KC.size H9.out.1).symm) (KC.all H9.out.1) ?_) | fail)
        refine bodyPost_ret (results_cell3 rfl _ _ _ _ rfl (run_loadVar_row _ _ _ _ _ (0, 0) _ (H9.out.2.2.1.row D) hun rfl H9.out.1.info) rfl rfl) rfl ?_
        refine ⟨D, ?_, H9.out.1, below_row H9.out.2.2.2 (Nat.le_refl _) _⟩
        have e1 := HGE.out.1
        rw [HG.out] at e1
        have e2 := HGE.out.2
        rw [← e1, if_neg hz] at e2
        rw [← e1, ← e2]
        rfl
end Go.Proofs.YtjpgepodkeccmaaDoor
