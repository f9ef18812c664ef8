/-
  The walks of abortsOf, of Best and of Next.
-/
import Derived.Test.YtdfmfjahnnifnaaAe
namespace La
open Ft
/-- Which facts are best's. -/
def bestP (l : List Fact) (m : Int) (f : Fact) : Bool := decide (f.kind = 1 ∧ ¬ aborted l f.epoch m)
theorem best_most {N : Int} {l : List Fact} {m v : Int} (hg : Good N l) (h : Most (·.epoch) (l.filter (bestP l m)) v) : v = best l m := by
  have h1 := best_is l m
  have h0 : 0 ≤ best l m := (best_fold l m l 0).1
  have hmem : ∀ f, f ∈ l.filter (bestP l m) ↔ f ∈ l ∧ f.kind = 1 ∧ ¬ aborted l f.epoch m := fun f => by
    rw [List.mem_filter]
    unfold bestP
    rw [decide_eq_true_eq]
  rcases h with ⟨h2, h3⟩ | ⟨⟨f, hf, hv⟩, h3⟩
  · rcases h1.1 with h4 | ⟨g, hg1, hg2, hg3, hg4⟩
    · rw [h3, h4]
    · have : g ∈ l.filter (bestP l m) := (hmem g).2 ⟨hg1, hg2, by rw [hg3]; exact hg4⟩
      rw [h2] at this
      cases this
  · have h5 := (hmem f).1 hf
    have h6 := h1.2 f h5.1 h5.2.1 h5.2.2
    have h7 := (ok_in (hg.ok f h5.1)).2.2.1
    simp only at hv
    rcases h1.1 with h4 | ⟨g, hg1, hg2, hg3, hg4⟩
    · omega
    · have h8 := h3 g ((hmem g).2 ⟨hg1, hg2, by rw [hg3]; exact hg4⟩)
      simp only at h8
      omega
theorem next_most {l : List Fact} {v : Int} (h : Most (fun f => ofK f.epoch) l v) : v + 1 = next l ∧ 0 ≤ v ∧ v ≤ 68719476736 := by
  have h1 := next_fold l 1
  have h2 := next_in l
  unfold next at h2 ⊢
  rcases h with ⟨h3, h4⟩ | ⟨⟨f, hf, hv⟩, h3⟩
  · subst h3
    rw [h4]
    exact ⟨rfl, by omega, by omega⟩
  · have h5 := h1.2.2 f hf
    have h6 := ofK_in f.epoch
    simp only at hv
    rcases h1.2.1 with h7 | ⟨g, hg, h7⟩
    · omega
    · have h8 := h3 g hg
      simp only at h8
      omega
end La
namespace Go.Proofs.Ytdfmfjahnnifnaa
set_option maxRecDepth 20000
set_option linter.unusedSimpArgs false
set_option linter.unusedVariables false
open Go.RowKit Go.Great Go.Shelf Go.ChangeMaps Go.MapKept Go.Maps
/-- A map of how many want epochs aborted is answered. -/
def AbQ (w : World) (l : List Ft.Fact) (e : Ending) (w' : World) : Prop := ∃ mb, e = .returned (.map (some mb)) ∧ Abm w' mb (abn l l.length) ∧ w.heap.size ≤ mb ∧ Below w.heap.size w w'
set_option maxHeartbeats 4000000 in
theorem aborts_any {w : World} {S D : Nat → Prop} {a : Option Addr} {n c : Nat} {R : List Fm} (h : Fts w S D a n R) (hn : n ≤ 100000) :
    Calls Try.prog 49 #[.slice a n c] w (AbQ w (FS R)) := by
  have hmm := @run_makeMap Try.prog
  have hb1 := below_alloc w (.map #[] 0)
  have hs1 := size_alloc w (.map #[] 0)
  have ha1 := Abm.new w
  have H := Lib.hid h.old
  have HLN := Lib.hid (show (FS R).length = n by rw [FS_len, h.1])
  have e0 : abn (FS R) 0 = fun _ => 0 := by funext e; unfold abn; simp
  have HJ0 : Hid (Abm (w.alloc (.map #[] 0)) w.heap.size (abn (FS R) 0) ∧ Below w.heap.size w (w.alloc (.map #[] 0)) ∧ w.heap.size < (w.alloc (.map #[] 0)).heap.size) := Lib.hid ⟨by rw [e0]; exact ha1, hb1, by rw [hs1]; omega⟩
  clear h hb1 ha1 hs1 e0
  go_enter Try.func49, Try.ntmps49
  go_wp2
  clear hmm
  generalize w.alloc (.map #[] 0) = w1 at *
  go_loopw [5, 9] (fun _ i wr => ∃ j : Nat, j ≤ n ∧ i = .int .i64 (j : Int) ∧ Hid (Abm wr w.heap.size (abn (FS R) j) ∧ Below w.heap.size w wr ∧ w.heap.size < wr.heap.size)) (fun _ i _ => n - (intOf i).toNat)
  case atStart => exact ⟨0, Nat.zero_le _, rfl, HJ0⟩
  case round =>
    clear HJ0
    obtain ⟨j, hj, rfl, HJ⟩ := hrel
    by_cases hlt : j < n
    case neg =>
      have q : ¬ ((j : Int) < (n : Int)) := by omega
      have HE : Hid (abn (FS R) j = abn (FS R) (FS R).length) := Lib.hid (by rw [HLN.out, show j = n by omega])
      go_wp2
      go_ret
      exact ⟨w.heap.size, rfl, by rw [← HE.out]; exact HJ.out.1, Nat.le_refl _, HJ.out.2.1⟩
    have q : (j : Int) < (n : Int) := by omega
    obtain ⟨b, off, rfl, _, hbl, hrg, hrw⟩ := (H.out.below HJ.out.2.1 (fun _ _ h => h) (fun _ _ h => h)).at_ hlt
    obtain ⟨y, hy⟩ : ∃ y, R.getD j d0 = y := ⟨_, rfl⟩
    have hs := abn_snoc (FS R) (j := j) (by rw [HLN.out]; exact hlt)
    rw [FS_get] at hs
    rw [hy] at hrg hrw hs
    have iY := info_fact hrw
    have und := Try.underlying30
    have hfb : FB ((wr.alloc (.cells zf 30)).setRow wr.heap.size (fc y).toArray) wr.heap.size (fc y).toArray y.2 y.1 := fb_put (S := fun b => b < w.heap.size) rfl hrw.1 hrw.2.1 hrw.2.2 zf
    have HB2 := Lib.hid (show Below wr.heap.size wr ((wr.alloc (.cells zf 30)).setRow wr.heap.size (fc y).toArray) from put_below (Below.refl _ _) (Nat.le_refl _))
    have k0 := hfb.c0
    have k1 := hfb.c1
    have HYS := Lib.hid (fc_arr hrw)
    have HIN := Lib.hid (show In64 y.1.epoch from hrw.2.2.2.1)
    have HRG := Lib.hid hrg
    have HS := Lib.hid hs
    clear hs hrw hrg hy hfb
    obtain ⟨Y, hY⟩ : ∃ Y, fc y = Y := ⟨_, rfl⟩
    rw [hY] at HRG iY HYS HB2 k0 k1
    clear hY
    obtain ⟨⟨yk, ye, yn, ym⟩, yM⟩ := y
    simp only at k0 k1
    have HS1 : Hid (abn (FS R) (j + 1) = if yk = 3 then upd (abn (FS R) j) ye (abn (FS R) j ye + 1) else abn (FS R) j) := Lib.hid HS.out
    have HIN1 : Hid (In64 ye) := Lib.hid HIN.out
    clear HS HIN
    go_upto_region 5 with (first | ((with_reducible show wpList _ _ _ ((⟨_, Op.load 30 (.tmp 11), _, _, _, _⟩ : Oper) :: _) _ _); refine wpList_load_midG (by rfl) _ (.tmp 11) rfl b (off + j * 38) rfl Y _ HRG.out und rfl iY ?_) | ((with_reducible show wpList _ _ _ ((⟨_, Op.store 30 (.tmp 5) _, _, _, _, _⟩ : Oper) :: _) _ _); rw [zeroF]; refine wpList_store_row rfl _ (.tmp 5) (.tmp 12) rfl wr.heap.size Y.toArray rfl rfl 30 _ (Whole.new wr _ _) (by rw [HYS.out.1]; exact info38) (by rw [HYS.out.1]; rfl) HYS.out.2 ?_) | fail)
    obtain ⟨w2, hw2⟩ : ∃ w2, (wr.alloc (.cells zf 30)).setRow wr.heap.size Y.toArray = w2 := ⟨_, rfl⟩
    rw [hw2] at k0 k1 HB2 ⊢
    clear hw2
    have HJ2 : Hid (Abm w2 w.heap.size (abn (FS R) j) ∧ Below w.heap.size w w2 ∧ w.heap.size < w2.heap.size) := Lib.hid ⟨HJ.out.1.below HB2.out HJ.out.2.2, HJ.out.2.1.trans (HB2.out.mono HJ.out.2.1.size), Nat.lt_of_lt_of_le HJ.out.2.2 HB2.out.size⟩
    by_cases z : yk = 3
    · have q3 : (yk == 3) = true := by simp [z]
      have HS2 : Hid (abn (FS R) (j + 1) = upd (abn (FS R) j) ye (abn (FS R) j ye + 1)) := Lib.hid (by rw [HS1.out, if_pos z])
      have hb := abn_le (FS R) j ye
      have hlk := ab_lookup HJ2.out.1 HIN1.out
      obtain ⟨v, hv⟩ : ∃ v, abn (FS R) j ye = v := ⟨_, rfl⟩
      rw [hv] at hb hlk HS2
      have hwr : IntKind.i64.wrap (v + 1) = v + 1 := by rw [IntKind.wrap_i64]; omega
      clear z hv HS1 hb
      go_wp2_with (first | ((with_reducible show wpList _ _ _ ((⟨_, Op.mapUpdate _ _ _ _, _, _, _, _⟩ : Oper) :: _) _ _); refine wpList_update_ab w2 rfl (.tmp 16) (.tmp 18) (.tmp 20) rfl w.heap.size (abn (FS R) j) ye (v + 1) rfl rfl rfl HJ2.out.1 HIN1.out ?_) | fail)
      intro w4 ha4 hg4 hz4
      have HJ4 : Hid (Abm w4 w.heap.size (abn (FS R) (j + 1)) ∧ Below w.heap.size w w4 ∧ w.heap.size < w4.heap.size) := Lib.hid ⟨by rw [HS2.out]; exact ha4, HJ2.out.2.1.grown hg4 HJ2.out.2.1.size (fun k hk => by injection hk with hk; omega), by rw [hz4]; exact HJ2.out.2.2⟩
      clear ha4 hg4 hz4 hlk hwr
      go_wp2
      exact ⟨⟨j + 1, by omega, by go_num, HJ4⟩, by simp [intOf]; omega⟩
    · have q3 : (yk == 3) = false := by simp [z]
      have HJ4 : Hid (Abm w2 w.heap.size (abn (FS R) (j + 1)) ∧ Below w.heap.size w w2 ∧ w.heap.size < w2.heap.size) := Lib.hid ⟨by rw [HS1.out, if_neg z]; exact HJ2.out.1, HJ2.out.2⟩
      clear z HS1
      go_wp2
      exact ⟨⟨j + 1, by omega, by go_num, HJ4⟩, by simp [intOf]; omega⟩
set_option maxHeartbeats 2000000 in
theorem best1_any {W : World} {D : Nat → Prop} {x : Fm} (hx : Rw W D x) {A B mb : Nat} {m : Int} {f : Int → Int} (hA : W.cell? ⟨A, 0, none⟩ = some (.map (some mb))) (hB : W.cell? ⟨B, 0, none⟩ = some (.int .i64 m)) (hf : Abm W mb f) :
    Calls Try.prog 52 #[.agg (fc x).toArray, .pointer (some ⟨A, 0, none⟩), .pointer (some ⟨B, 0, none⟩)] W fun r w' => r = .returned (.bool (decide (x.1.kind = 1 ∧ f x.1.epoch < m))) ∧ Below W.heap.size W w' := by
  have hfb := fb_new hx
  have k0 := hfb.c0
  have k1 := hfb.c1
  have a0 := cell_alloc hA (.cells (fc x).toArray 30)
  have a1 := cell_alloc hB (.cells (fc x).toArray 30)
  have hlk := ab_lookup (hf.below (below_alloc W (.cells (fc x).toArray 30)) hf.lt) (show In64 x.1.epoch from hx.2.2.2.1)
  have HB := Lib.hid (below_alloc W (.cells (fc x).toArray 30))
  clear hA hB hfb hx hf
  obtain ⟨⟨xk, xe, xn, xm⟩, xM⟩ := x
  simp only at k0 k1 hlk
  obtain ⟨X, hX⟩ : ∃ X, fc ((⟨xk, xe, xn, xm⟩, xM) : Fm) = X := ⟨_, rfl⟩
  rw [hX] at k0 k1 a0 a1 HB hlk ⊢
  clear hX
  obtain ⟨v, hv⟩ : ∃ v, f xe = v := ⟨_, rfl⟩
  obtain ⟨t, ht⟩ : ∃ t, decide (xk = 1 ∧ v < m) = t := ⟨_, rfl⟩
  have HT := Lib.hid ht
  rw [hv] at hlk
  simp only [hv, ht]
  clear hv ht
  generalize hw1 : W.alloc (.cells X.toArray 30) = w1 at *
  by_cases z0 : xk = 1
  case neg =>
    have q0 : (xk == 1) = false := by simp [z0]
    have HV : Hid (t = false) := Lib.hid (by rw [← HT.out]; simp [z0])
    clear z0
    go_enter Try.func52, Try.ntmps52
    go_wp2
    go_ret
    exact ⟨ret_bool HV.out.symm, HB.out⟩
  have q0 : (xk == 1) = true := by simp [z0]
  have HV : Hid (decide (v < m) = t) := Lib.hid (by rw [← HT.out]; simp [z0])
  have q1 : decide (v < m) = t := HV.out
  clear z0
  go_enter Try.func52, Try.ntmps52
  go_wp2
  go_ret
  exact ⟨rfl, HB.out⟩
theorem eg_best : ∀ args w, (callFunc 52 args).run Try.prog w = .ok (.enter 52 args) w := enters_of Try.func52 (by kernel_rfl) rfl
theorem pred_best {w : World} {A B mb : Nat} {m : Int} {l : List Ft.Fact} (hA : w.cell? ⟨A, 0, none⟩ = some (.map (some mb))) (hB : w.cell? ⟨B, 0, none⟩ = some (.int .i64 m)) (hf : Abm w mb (abn l l.length)) :
    Pred 52 #[.pointer (some ⟨A, 0, none⟩), .pointer (some ⟨B, 0, none⟩)] (La.bestP l m) w := by
  intro W D x hW hx
  have c1 := (hW.cell (p := ⟨A, 0, none⟩) (World.block_lt_of_cell? w _ hA)).trans hA
  have c2 := (hW.cell (p := ⟨B, 0, none⟩) (World.block_lt_of_cell? w _ hB)).trans hB
  have e : La.bestP l m x.1 = decide (x.1.kind = 1 ∧ abn l l.length x.1.epoch < m) := by
    unfold La.bestP
    refine decide_eq_decide.2 ?_
    rw [abn_all l (Nat.le_refl _)]
    omega
  rw [e]
  exact best1_any hx c1 c2 (hf.below hW hf.lt)
set_option maxHeartbeats 2000000 in
theorem epoch_any {W : World} {D : Nat → Prop} {x : Fm} (hx : Rw W D x) : Calls Try.prog 50 #[.agg (fc x).toArray] W fun e w' => e = .returned (.int .i64 x.1.epoch) ∧ Below W.heap.size W w' := by
  have hfb := fb_new hx
  have k1 := hfb.c1
  have HB := Lib.hid (below_alloc W (.cells (fc x).toArray 30))
  clear hfb hx
  obtain ⟨X, hX⟩ : ∃ X, fc x = X := ⟨_, rfl⟩
  rw [hX] at k1 HB ⊢
  clear hX
  obtain ⟨v, hv⟩ : ∃ v, x.1.epoch = v := ⟨_, rfl⟩
  rw [hv] at k1 ⊢
  clear hv
  go_enter Try.func50, Try.ntmps50
  go_wp2
  go_ret
  exact ⟨rfl, HB.out⟩
set_option maxHeartbeats 2000000 in
theorem number_any {W : World} {D : Nat → Prop} {x : Fm} (hx : Rw W D x) : Calls Try.prog 53 #[.agg (fc x).toArray] W fun e w' => e = .returned (.int .i64 (Ft.ofK x.1.epoch)) ∧ Below W.heap.size W w' := by
  have hfb := fb_new hx
  have k1 := hfb.c1
  have HB := Lib.hid (below_alloc W (.cells (fc x).toArray 30))
  clear hfb hx
  obtain ⟨X, hX⟩ : ∃ X, fc x = X := ⟨_, rfl⟩
  rw [hX] at k1 HB ⊢
  clear hX
  obtain ⟨v, hv⟩ : ∃ v, x.1.epoch = v := ⟨_, rfl⟩
  rw [hv] at k1 ⊢
  clear hv
  go_enter Try.func53, Try.ntmps53
  go_wp2_with (first | (go_at_call 37; refine (of_any _ _).mono ?_; rintro e w' ⟨rfl, rfl⟩) | fail)
  go_ret
  exact ⟨rfl, HB.out⟩
theorem eg_epoch : ∀ args w, (callFunc 50 args).run Try.prog w = .ok (.enter 50 args) w := enters_of Try.func50 (by kernel_rfl) rfl
theorem eg_number : ∀ args w, (callFunc 53 args).run Try.prog w = .ok (.enter 53 args) w := enters_of Try.func53 (by kernel_rfl) rfl
theorem meas_epoch : Meas 50 (·.epoch) := fun _ _ _ h => epoch_any h
theorem meas_number : Meas 53 (fun f => Ft.ofK f.epoch) := fun _ _ _ h => number_any h
set_option maxHeartbeats 2000000 in
theorem next_any {w : World} {S D : Nat → Prop} {a : Option Addr} {n c : Nat} {R : List Fm} (h : Fts w S D a n R) (hn : n ≤ 100000) :
    Calls Try.prog 27 #[.slice a n c] w fun r w' => r = .returned (.int .i64 (La.next (FS R))) ∧ Below w.heap.size w w' := by
  have HC := Lib.hid (most_any (c := c) eg_number meas_number h hn)
  clear h
  go_enter Try.func27, Try.ntmps27
  go_wp2_with fail
  refine HC.out.mono ?_
  rintro e w2 ⟨v, rfl, hv, hb2⟩
  have hv2 := La.next_most hv
  have HV := Lib.hid (And.intro hv2.1 hb2)
  have hwr : IntKind.i64.wrap (v + 1) = v + 1 := by rw [IntKind.wrap_i64]; omega
  clear hv hv2 hb2 HC
  go_wp2
  go_ret
  exact ⟨ret_i64 HV.out.1, HV.out.2⟩
set_option maxHeartbeats 4000000 in
theorem best_any {w : World} {S D : Nat → Prop} {a : Option Addr} {n c : Nat} {R : List Fm} (N m : Int) (h : Fts w S D a n R) (hn : n ≤ 100000) (hg : La.Good N (FS R)) :
    Calls Try.prog 25 #[.slice a n c, .int .i64 m] w fun r w' => r = .returned (.int .i64 (La.best (FS R) m)) ∧ Below w.heap.size w w' := by
  have hmf : ∀ (fn : Fn) (first cap : Array Value) (w : World), (Instr.makeFunc fn first cap).run Try.prog w = .ok (.func fn first cap) w := fun _ _ _ _ => rfl
  have hb1 := below_alloc w (.cells #[.int .i64 m] 3)
  have c1 : (w.alloc (.cells #[.int .i64 m] 3)).cell? ⟨w.heap.size, 0, none⟩ = some (.int .i64 m) := (Whole.new w 3 #[.int .i64 m]).cell 0
  have hlen : ((FS R).filter (La.bestP (FS R) m)).length ≤ n := Nat.le_trans (List.length_filter_le _ _) (by rw [FS_len, h.1]; exact Nat.le_refl _)
  have H1 := h.old.below hb1 (fun _ _ h => h) (fun _ _ h => h)
  have HC := Lib.hid (aborts_any (c := c) H1 hn)
  have H := Lib.hid (And.intro H1 (And.intro hb1 c1))
  have HG := Lib.hid hg
  clear h hg hb1 c1 H1
  generalize hw1 : w.alloc (.cells #[.int .i64 m] 3) = w1 at *
  go_enter Try.func25, Try.ntmps25
  go_wp2_with fail
  refine HC.out.mono ?_
  rintro e w2 ⟨mb, rfl, hab, hmb, hb2⟩
  clear hw1
  have c2 : w2.cell? ⟨w.heap.size, 0, none⟩ = some (.int .i64 m) := (hb2.cell (p := ⟨w.heap.size, 0, none⟩) (World.block_lt_of_cell? w1 _ H.out.2.2)).trans H.out.2.2
  have H2 : Hid (Fts w2 (fun b => b < w.heap.size) (fun b => b < w.heap.size) a n R ∧ Below w.heap.size w w2 ∧ w2.cell? ⟨w.heap.size, 0, none⟩ = some (.int .i64 m) ∧ Abm w2 mb (abn (FS R) (FS R).length)) :=
    Lib.hid ⟨H.out.1.below (hb2.mono H.out.2.1.size) (fun _ _ h => h) (fun _ _ h => h), H.out.2.1.trans (hb2.mono H.out.2.1.size), c2, hab⟩
  clear hab hmb hb2 HC H c2
  go_upto_region 2 with fail
  have hb3 := below_alloc w2 (.cells #[.map (some mb)] 63)
  have c3 : (w2.alloc (.cells #[.map (some mb)] 63)).cell? ⟨w2.heap.size, 0, none⟩ = some (.map (some mb)) := (Whole.new w2 63 #[.map (some mb)]).cell 0
  have c4 := cell_alloc H2.out.2.2.1 (.cells #[.map (some mb)] 63)
  have H3 := H2.out.1.below (hb3.mono H2.out.2.1.size) (fun _ _ h => h) (fun _ _ h => h)
  have HB3 := Lib.hid (H2.out.2.1.trans (hb3.mono H2.out.2.1.size))
  have HK := Lib.hid (kept_any (c := c) eg_best (pred_best c3 c4 (H2.out.2.2.2.below hb3 H2.out.2.2.2.lt)) H3 hn)
  clear hb3 c3 c4 H3 H2
  generalize w2.alloc (.cells #[.map (some mb)] 63) = w3 at *
  obtain ⟨L, hL⟩ : ∃ L, (FS R).filter (La.bestP (FS R) m) = L := ⟨_, rfl⟩
  have HL := Lib.hid hL
  rw [hL] at HK hlen
  clear hL
  go_wp2_with fail
  refine HK.out.mono ?_
  rintro e w4 ⟨a4, m4, c4, R4, rfl, hl4, hfs4, hb4⟩
  have hm4 : m4 ≤ 100000 := by rw [← hl4.len, ← FS_len, hfs4]; omega
  have HM := Lib.hid (most_any (c := c4) eg_epoch meas_epoch hl4.get.2 hm4)
  rw [hfs4, ← HL.out] at HM
  have HB4 := Lib.hid (HB3.out.trans (hb4.mono HB3.out.size))
  clear hl4 hfs4 hb4 HK
  go_wp2_with fail
  refine HM.out.mono ?_
  rintro e w5 ⟨v, rfl, hv, hb5⟩
  have HV := Lib.hid (And.intro (La.best_most HG.out hv) (HB4.out.trans (hb5.mono HB4.out.size)))
  clear hv hb5 HM
  go_wp2
  go_ret
  exact ⟨ret_i64 HV.out.1, HV.out.2⟩
end Go.Proofs.Ytdfmfjahnnifnaa
