/-
  The walks of Who and of Aborted.
-/
import Derived.Test.YtdfmfjahnnifnaaAb
namespace Go.Proofs.Ytdfmfjahnnifnaa
set_option maxRecDepth 20000
set_option linter.unusedSimpArgs false
set_option linter.unusedVariables false
open Go.RowKit Go.Great Go.Shelf
set_option maxHeartbeats 2000000 in
theorem who1_any {W : World} {D : Nat → Prop} {x : Fm} (hx : Rw W D x) {A B : Nat} {k e : Int} (hA : W.cell? ⟨A, 0, none⟩ = some (.int .i64 k)) (hB : W.cell? ⟨B, 0, none⟩ = some (.int .i64 e)) :
    Calls Try.prog 48 #[.agg (fc x).toArray, .pointer (some ⟨A, 0, none⟩), .pointer (some ⟨B, 0, none⟩)] W fun r w' => r = .returned (.bool (La.whose k e x.1)) ∧ Below W.heap.size W w' := by
  have hfb := fb_new hx
  have k0 := hfb.c0
  have k1 := hfb.c1
  have a0 := cell_alloc hA (.cells (fc x).toArray 30)
  have a1 := cell_alloc hB (.cells (fc x).toArray 30)
  have HB := Lib.hid (below_alloc W (.cells (fc x).toArray 30))
  clear hA hB hfb hx
  obtain ⟨⟨xk, xe, xn, xm⟩, xM⟩ := x
  simp only at k0 k1
  obtain ⟨X, hX⟩ : ∃ X, fc ((⟨xk, xe, xn, xm⟩, xM) : Fm) = X := ⟨_, rfl⟩
  rw [hX] at k0 k1 a0 a1 HB ⊢
  clear hX
  obtain ⟨t, ht⟩ : ∃ t, La.whose k e (((⟨xk, xe, xn, xm⟩, xM) : Fm).1) = t := ⟨_, rfl⟩
  rw [ht]
  have ht' : decide (xk = k ∧ xe = e) = t := ht
  have HT := Lib.hid ht'
  clear ht ht'
  generalize hw1 : W.alloc (.cells X.toArray 30) = w1 at *
  by_cases z0 : xk = k
  case neg =>
    have q0 : (xk == k) = false := by simp [z0]
    have HV : Hid (t = false) := Lib.hid (by rw [← HT.out]; simp [z0])
    clear z0
    go_enter Try.func48, Try.ntmps48
    go_wp2
    go_ret
    exact ⟨ret_bool HV.out.symm, HB.out⟩
  have q0 : (xk == k) = true := by simp [z0]
  by_cases z1 : xe = e
  case neg =>
    have q1 : (xe == e) = false := by simp [z1]
    have HV : Hid (t = false) := Lib.hid (by rw [← HT.out]; simp [z1])
    clear z0 z1
    go_enter Try.func48, Try.ntmps48
    go_wp2
    go_ret
    exact ⟨ret_bool HV.out.symm, HB.out⟩
  have q1 : (xe == e) = true := by simp [z1]
  have HV : Hid (t = true) := Lib.hid (by rw [← HT.out]; simp [z0, z1])
  clear z0 z1
  go_enter Try.func48, Try.ntmps48
  go_wp2
  go_ret
  exact ⟨ret_bool HV.out.symm, HB.out⟩
theorem eg_who : ∀ args w, (callFunc 48 args).run Try.prog w = .ok (.enter 48 args) w := enters_of Try.func48 (by kernel_rfl) rfl
theorem pred_who {w : World} {A B : Nat} {k e : Int} (hA : w.cell? ⟨A, 0, none⟩ = some (.int .i64 k)) (hB : w.cell? ⟨B, 0, none⟩ = some (.int .i64 e)) :
    Pred 48 #[.pointer (some ⟨A, 0, none⟩), .pointer (some ⟨B, 0, none⟩)] (La.whose k e) w := by
  intro W D x hW hx
  have c1 := (hW.cell (p := ⟨A, 0, none⟩) (World.block_lt_of_cell? w _ hA)).trans hA
  have c2 := (hW.cell (p := ⟨B, 0, none⟩) (World.block_lt_of_cell? w _ hB)).trans hB
  exact who1_any hx c1 c2
/-- The nodes of the first facts. -/
def nds (l : List Ft.Fact) (j : Nat) : List Int := (l.take j).map (·.node)
theorem node_snoc (l : List Ft.Fact) {j : Nat} (h : j < l.length) : nds l (j + 1) = nds l j ++ [(l.getD j Ft.nought).node] := by
  unfold nds
  rw [take_snocF l h, List.map_append]
  rfl
theorem nds_all (l : List Ft.Fact) {j : Nat} (h : l.length = j) : nds l j = l.map (·.node) := by
  unfold nds
  rw [List.take_of_length_le (by omega)]
set_option maxHeartbeats 4000000 in
theorem who_any {w : World} {S D : Nat → Prop} {a : Option Addr} {n c : Nat} {R : List Fm} (h : Fts w S D a n R) (hn : n ≤ 100000) (k e : Int) :
    Calls Try.prog 21 #[.slice a n c, .int .i64 k, .int .i64 e] w (Whos w (La.who (FS R) k e)) := by
  have hmf : ∀ (fn : Fn) (first cap : Array Value) (w : World), (Instr.makeFunc fn first cap).run Try.prog w = .ok (.func fn first cap) w := fun _ _ _ _ => rfl
  have hb2 : Below w.heap.size w ((w.alloc (.cells #[.int .i64 k] 3)).alloc (.cells #[.int .i64 e] 2)) := (below_alloc w _).alloc (by simp) _
  have c1 : ((w.alloc (.cells #[.int .i64 k] 3)).alloc (.cells #[.int .i64 e] 2)).cell? ⟨w.heap.size, 0, none⟩ = some (.int .i64 k) := cell_alloc ((Whole.new w 3 #[.int .i64 k]).cell 0) _
  have c2 : ((w.alloc (.cells #[.int .i64 k] 3)).alloc (.cells #[.int .i64 e] 2)).cell? ⟨w.heap.size + 1, 0, none⟩ = some (.int .i64 e) := by simp
  have HC := Lib.hid (kept_any (c := c) eg_who (pred_who c1 c2) (h.old.below hb2 (fun _ _ h => h) (fun _ _ h => h)) hn)
  have HB := Lib.hid hb2
  have hlen : ((FS R).filter (La.whose k e)).length ≤ n := Nat.le_trans (List.length_filter_le _ _) (by rw [FS_len, h.1]; exact Nat.le_refl _)
  obtain ⟨r, hr⟩ : ∃ r, La.who (FS R) k e = r := ⟨_, rfl⟩
  obtain ⟨L, hL⟩ : ∃ L, (FS R).filter (La.whose k e) = L := ⟨_, rfl⟩
  have hr' : L.map (·.node) = r := by rw [← hL]; exact hr
  rw [hr]
  rw [hL] at HC hlen
  have HR := Lib.hid hr'
  clear hr hr' hL hb2 c1 c2 h
  generalize hw2 : (w.alloc (.cells #[.int .i64 k] 3)).alloc (.cells #[.int .i64 e] 2) = w2 at *
  go_enter Try.func21, Try.ntmps21
  go_wp2_with fail
  refine HC.out.mono ?_
  rintro e' w3 ⟨a3, m3, c3, R3, rfl, hl3, hfs3, hb3⟩
  have H := Lib.hid hl3.get.2.old
  have hm3 : m3 ≤ 100000 := by rw [← hl3.len, ← FS_len, hfs3]; omega
  have HLN := Lib.hid (show (FS R3).length = m3 by rw [FS_len, hl3.len])
  have HB3 := Lib.hid (HB.out.trans (hb3.mono HB.out.size))
  have HR3 : Hid ((FS R3).map (·.node) = r) := Lib.hid (by rw [hfs3]; exact HR.out)
  clear hl3 hfs3 hb3 HC HR hw2 HB
  go_wp2
  generalize hBe : w3.heap.size = B at *
  have HBE := Lib.hid hBe
  clear hBe
  go_loopw [7, 9, 14] (fun v _ i wr => ∃ (j m : Nat) (q : Option Addr) (cap : Nat), j ≤ m3 ∧ m = j ∧ v = .slice q m cap ∧ i = .int .i64 (j : Int) ∧ Hid (wr.ownsRow B 3 1 (.slice q m cap) m (i64s (nds (FS R3) j)) ∧ Below B w3 wr)) (fun _ _ i _ => m3 - (intOf i).toNat)
  case atStart => exact ⟨0, 0, none, 0, Nat.zero_le _, rfl, rfl, rfl, Lib.hid ⟨World.ownsRow_nil _ _ _ _, Below.refl _ _⟩⟩
  case round =>
    obtain ⟨j, m, q, cap, hj, rfl, rfl, rfl, HJ⟩ := hrel
    have sj : B ≤ wr.heap.size := Nat.le_trans (by rw [HBE.out]; exact Nat.le_refl _) HJ.out.2.size
    by_cases hlt : m < m3
    · have q0 : (m : Int) < (m3 : Int) := by omega
      obtain ⟨b, off, rfl, _, _, hrg, hrw⟩ := (H.out.below (by rw [← HBE.out] at HJ; exact HJ.out.2) (fun _ h _ => h) (fun _ h _ => h)).at_ hlt
      obtain ⟨y, hy⟩ : ∃ y, R3.getD m d0 = y := ⟨_, rfl⟩
      have hs := node_snoc (FS R3) (j := m) (by rw [HLN.out]; exact hlt)
      rw [FS_get] at hs
      rw [hy] at hrg hrw hs
      have iY := info_fact hrw
      have und := Try.underlying30
      have hfb : FB ((wr.alloc (.cells zf 30)).setRow wr.heap.size (fc y).toArray) wr.heap.size (fc y).toArray y.2 y.1 := fb_put (S := fun b => b < B) rfl hrw.1 hrw.2.1 hrw.2.2 zf
      have HB2 := Lib.hid (show Below wr.heap.size wr ((wr.alloc (.cells zf 30)).setRow wr.heap.size (fc y).toArray) from put_below (Below.refl _ _) (Nat.le_refl _))
      have k2 := hfb.c2
      have HYS := Lib.hid (fc_arr hrw)
      have HRG := Lib.hid hrg
      have HS := Lib.hid hs
      clear hs hrw hrg hy hfb
      obtain ⟨Y, hY⟩ : ∃ Y, fc y = Y := ⟨_, rfl⟩
      rw [hY] at HRG iY HYS HB2 k2
      clear hY
      obtain ⟨yn, hyn⟩ : ∃ yn, y.1.node = yn := ⟨_, rfl⟩
      rw [hyn] at HS k2
      clear hyn
      obtain ⟨j, hjm⟩ : ∃ j, m = j := ⟨_, rfl⟩
      subst hjm
      go_upto_region 5 with (first | ((with_reducible show wpList _ _ _ ((⟨_, Op.load 30 (.tmp 16), _, _, _, _⟩ : Oper) :: _) _ _); refine wpList_load_midG (by rfl) _ (.tmp 16) rfl b (off + m * 38) rfl Y _ HRG.out und rfl iY ?_) | ((with_reducible show wpList _ _ _ ((⟨_, Op.store 30 (.tmp 9) _, _, _, _, _⟩ : Oper) :: _) _ _); rw [zeroF]; refine wpList_store_row rfl _ (.tmp 9) (.tmp 17) rfl wr.heap.size Y.toArray rfl rfl 30 _ (Whole.new wr _ _) (by rw [HYS.out.1]; exact info38) (by rw [HYS.out.1]; rfl) HYS.out.2 ?_) | fail)
      obtain ⟨w4, hw4⟩ : ∃ w4, (wr.alloc (.cells zf 30)).setRow wr.heap.size Y.toArray = w4 := ⟨_, rfl⟩
      rw [hw4] at k2 HB2 ⊢
      clear hw4
      have HJ4 : Hid (w4.ownsRow B 3 1 (.slice q m cap) m (i64s (nds (FS R3) m)) ∧ Below B w3 w4) := Lib.hid ⟨own_keep HJ.out.1 (fun b hq => HB2.out.block b (own_lt HJ.out.1 b hq)), HJ.out.2.trans (HB2.out.mono sj)⟩
      have s4 : B ≤ w4.heap.size := Nat.le_trans sj HB2.out.size
      go_wp2_with (at_builtin; refine wpList_append_oneF rfl (.tmp 18) (.tmp 21) 39 3 (.int .i64 0) 8 rfl Try.underlying39 i64_info rfl (by omega) B _ m (i64s (nds (FS R3) m)) rfl (HJ4.out.1.alloc _) w4.heap.size 3 (.int .i64 yn) rfl (Whole.new _ _ _) rfl (by omega) (by simp; omega) ?_)
      intro v5 w5 hown hg
      have HO5 := Lib.hid hown
      have HB5 : Hid (Below B w3 w5) := Lib.hid ((HJ4.out.2.alloc s4 _).grown hg (by simp; omega) (fun k hk => (HJ4.out.1.lt k hk).1))
      clear hown hg
      obtain ⟨q5, cap5, rfl⟩ := row_formF HO5.out
      go_wp2
      exact ⟨⟨m + 1, m + 1, q5, cap5, by omega, rfl, rfl, by go_num, Lib.hid ⟨by rw [HS.out, i64s_append]; exact HO5.out, HB5.out⟩⟩, by simp [intOf]; omega⟩
    · obtain rfl : m = m3 := by omega
      have HE : Hid (nds (FS R3) m = (FS R3).map (·.node)) := Lib.hid (nds_all _ HLN.out)
      have hwl : w.heap.size ≤ B := by rw [← HBE.out]; exact HB3.out.size
      go_wp2
      go_ret
      have ho := HJ.out.1
      rw [HE.out, HR3.out] at ho
      refine ⟨q, m, cap, rfl, ?_, (ns_own ho ?_).weak (fun b _ hb => Nat.le_trans hwl hb), HB3.out.trans ((HJ.out.2).mono hwl)⟩
      · rcases ho.2 with ⟨h1, h2⟩ | ⟨g', cap', cur, h1, _, _, hnc, _⟩
        · omega
        · simp only [Value.slice.injEq] at h1
          omega
      · rw [← HR3.out, List.length_map, HLN.out]
set_option maxHeartbeats 2000000 in
theorem aborted_any {w : World} {S D : Nat → Prop} {a : Option Addr} {n c : Nat} {R : List Fm} (h : Fts w S D a n R) (hn : n ≤ 100000) (e m : Int) :
    Calls Try.prog 23 #[.slice a n c, .int .i64 e, .int .i64 m] w fun r w' => r = .returned (.bool (decide (La.aborted (FS R) e m))) ∧ Below w.heap.size w w' := by
  have HC := Lib.hid (who_any (c := c) h hn 3 e)
  have hl := who_len (FS R) 3 e
  obtain ⟨t, ht⟩ : ∃ t, decide (La.aborted (FS R) e m) = t := ⟨_, rfl⟩
  rw [ht]
  have HT := Lib.hid (show decide (m ≤ (((La.who (FS R) 3 e).length : Nat) : Int)) = t from ht)
  clear h ht
  go_enter Try.func23, Try.ntmps23
  go_wp2_with fail
  refine HC.out.mono ?_
  rintro e' w3 ⟨q, k, cap, rfl, hk, hns, hb3⟩
  have HB3 := Lib.hid hb3
  have HV : Hid (decide (m ≤ (k : Int)) = t) := Lib.hid (by rw [← HT.out, hns.1])
  have q0 : decide ((k : Int) ≥ m) = t := HV.out
  clear hns hb3 HT hk
  go_wp2
  go_ret
  exact ⟨rfl, HB3.out⟩
end Go.Proofs.Ytdfmfjahnnifnaa
