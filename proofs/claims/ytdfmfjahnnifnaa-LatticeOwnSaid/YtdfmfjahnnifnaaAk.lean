/-
  The walk of with: a fact more, in a row that the caller gave away.
-/
import Derived.Test.YtdfmfjahnnifnaaAj
namespace La
open Ft
theorem ins_idx {l : List Fact} {f : Fact} (hh : ¬ has l f.kind f.epoch f.node) {j : Nat} (hj : j ≤ l.length) (hb : ∀ i, i < j → decide (f.less (l.getD i nought)) = false) (h : j = l.length ∨ decide (f.less (l.getD j nought)) = true) : ins l f = l.take j ++ f :: l.drop j := by
  refine ins_at j hj (fun i hi => ?_) ?_
  · have h1 := of_decide_eq_false (hb i hi)
    have hil : i < l.length := by omega
    have hm : l.getD i nought ∈ l := by
      have : l.getD i nought = l[i] := by simp [hil]
      rw [this]; exact List.getElem_mem hil
    rcases less_or h1 with h2 | h2
    · exact h2
    · exact absurd ⟨_, hm, h2.1.symm, h2.2.1.symm, h2.2.2.symm⟩ hh
  · rcases h with h | h
    · exact Or.inl h
    · exact Or.inr (less_asym (of_decide_eq_true h))
end La
namespace Go.Proofs.Ytdfmfjahnnifnaa
set_option maxRecDepth 20000
set_option linter.unusedSimpArgs false
set_option linter.unusedVariables false
open Go.RowKit Go.Great Go.Shelf
theorem insert_any {w : World} {B : Nat} {a : Option Addr} {n c vb i : Nat} {R : List Fm} {x : Fm} (h : Lay w B a n c R) (hB : B ≤ w.heap.size) (hn : n ≤ 10000) (hx : Rw w (fun b => b < B) x) (hv : Whole w vb 30 (fc x).toArray) (hvg : ∀ g, a = some ⟨g, 0, none⟩ → vb ≠ g) (hi : i ≤ n) :
    Calls Try.prog 61 #[.slice a n c, .int .i64 (i : Int), .slice (some ⟨vb, 0, none⟩) 1 1] w (InQ w B (n + 1) (R.take i ++ x :: R.drop i)) := by
  by_cases hin : i = n
  · subst hin
    rw [List.take_of_length_le (by rw [h.len]; exact Nat.le_refl _), List.drop_eq_nil_of_le (by rw [h.len]; exact Nat.le_refl _)]
    exact insert_end h hB hn hx hv
  · obtain ⟨g, cap, hvv, _, _⟩ := h.own.form (by omega)
    injection hvv with e1 e2 e3
    subst e1
    exact insert_mid h hB hn hx hv (hvg g rfl) (by omega)
set_option maxHeartbeats 2000000 in
theorem with1_any {W : World} {D : Nat → Prop} {x y : Fm} {G : Nat} (hx : FB W G (fc x).toArray x.2 x.1) (hy : Rw W D y) :
    Calls Try.prog 60 #[.agg (fc y).toArray, .pointer (some ⟨G, 0, none⟩)] W fun r w' => r = .returned (.bool (decide (x.1.less y.1))) ∧ Below W.heap.size W w' := by
  have hfb := fb_new hy
  have HX := Lib.hid (hx.alloc (.cells (fc y).toArray 30))
  have HY := Lib.hid hfb
  have HB := Lib.hid (below_alloc W (.cells (fc y).toArray 30))
  clear hfb hx hy
  obtain ⟨X, hX⟩ : ∃ X, fc x = X := ⟨_, rfl⟩
  obtain ⟨Y, hY⟩ : ∃ Y, fc y = Y := ⟨_, rfl⟩
  rw [hX] at HX
  rw [hY] at HX HY HB ⊢
  clear hX hY
  go_enter Try.func60, Try.ntmps60
  go_wp2_with (first
    | ((with_reducible show wpList _ _ _ ((⟨_, Op.load 30 (.tmp 1), _, _, _, _⟩ : Oper) :: _) _ _); refine fb_load HX.out (by rfl) (.tmp 1) rfl rfl ?_)
    | ((with_reducible show wpList _ _ _ ((⟨_, Op.load 30 (.tmp 2), _, _, _, _⟩ : Oper) :: _) _ _); refine fb_load HY.out (by rfl) (.tmp 2) rfl rfl ?_)
    | fail)
  refine (fless_any HX.out.val HY.out.val).mono ?_
  rintro e w3 ⟨rfl, hb3⟩
  have HB3 := Lib.hid (HB.out.trans (hb3.mono HB.out.size))
  clear hb3
  obtain ⟨t, ht⟩ : ∃ t, decide (x.1.less y.1) = t := ⟨_, rfl⟩
  rw [ht]
  have HT := Lib.hid ht
  clear ht
  go_wp2
  go_ret
  exact ⟨ret_bool HT.out.symm, HB3.out⟩
theorem eg_with : ∀ args w, (callFunc 60 args).run Try.prog w = .ok (.enter 60 args) w := enters_of Try.func60 (by kernel_rfl) rfl
theorem pred_with {w : World} {G : Nat} {x : Fm} (hx : FB w G (fc x).toArray x.2 x.1) : Pred 60 #[.pointer (some ⟨G, 0, none⟩)] (fun g => decide (x.1.less g)) w := by
  intro W D y hW hy
  exact with1_any (hx.below hW) hy
/-- A row with a fact more is answered, and an error. -/
def WthQ (w : World) (B : Nat) (r : List Ft.Fact × Int) (e : Ending) (w' : World) : Prop :=
  ∃ a n c R', e = .returned (.tuple #[.slice a n c, .int .i64 r.2]) ∧ Lay w' B a n c R' ∧ FS R' = r.1 ∧ Below B w w'
theorem wth_old {w w' : World} {B : Nat} {R : List Fm} {a : Option Addr} {n c : Nat} {k : Int} {r : List Ft.Fact × Int} (hr : r = (FS R, k)) (h : Lay w' B a n c R) (hb : Below B w w') : WthQ w B r (.returned (.tuple #[.slice a n c, .int .i64 k])) w' :=
  ⟨a, n, c, R, by rw [hr], h, by rw [hr], hb⟩
set_option maxHeartbeats 4000000 in
theorem with_any {w : World} {B : Nat} {a : Option Addr} {n c : Nat} {R : List Fm} {x : Fm} (h : Lay w B a n c R) (hB : B ≤ w.heap.size) (hn : n ≤ 10000) (hx : Rw w (fun b => b < B) x) (N : Int) :
    Calls Try.prog 38 #[.int .i64 N, .slice a n c, .agg (fc x).toArray] w (WthQ w B (La.add N (FS R) x.1)) := by
  have hmf : ∀ (fn : Fn) (first cap : Array Value) (w : World), (Instr.makeFunc fn first cap).run Try.prog w = .ok (.func fn first cap) w := fun _ _ _ _ => rfl
  have hb1 := below_alloc w (.cells (fc x).toArray 30)
  have HF := Lib.hid (fb_new hx)
  have H := Lib.hid (h.below hb1)
  have HX := Lib.hid (hx.below hb1 (fun b hb _ => hb))
  have HB1 := Lib.hid hb1
  have HLN := Lib.hid (show (FS R).length = n by rw [FS_len, h.len])
  have HXL := Lib.hid (fc_len hx)
  clear h hx hb1
  obtain ⟨X, hX⟩ : ∃ X, fc x = X := ⟨_, rfl⟩
  have HXE := Lib.hid hX
  rw [hX] at HF H HX HB1 HXL ⊢
  clear hX
  generalize hw1 : w.alloc (.cells X.toArray 30) = w1 at *
  generalize hGe : w.heap.size = G at *
  go_enter Try.func38, Try.ntmps38
  go_wp2_with (first | ((with_reducible show wpList _ _ _ ((⟨_, Op.load 30 (.tmp 5), _, _, _, _⟩ : Oper) :: _) _ _); refine fb_load HF.out (by rfl) (.tmp 5) rfl rfl ?_) | fail)
  refine (fcheck_any HF.out.val N).mono ?_
  rintro e w2 ⟨rfl, hb2⟩
  have hb2' : Below B w1 w2 := hb2.mono (by have h1 := HB1.out.size; omega)
  have H2 : Hid (Lay w2 B a n c R ∧ FB w2 G X.toArray x.2 x.1 ∧ Rw w2 (fun b => b < B) x ∧ Below B w w2 ∧ G < w2.heap.size) := Lib.hid ⟨H.out.below hb2, HF.out.below hb2, HX.out.below hb2' (fun _ _ h => h), (HB1.out.mono hB).trans hb2', Nat.lt_of_lt_of_le HF.out.lt hb2.size⟩
  have HGB := Lib.hid hB
  clear hb2 hb2' HF HB1 H HX hw1 hGe
  by_cases hok : x.1.ok N
  case neg =>
    have HA : Hid (La.add N (FS R) x.1 = (FS R, 100)) := Lib.hid (by unfold La.add; rw [if_pos hok])
    rw [Ft.chk_no hok]
    clear hok
    go_wp2
    go_ret2
    exact wth_old HA.out H2.out.1 H2.out.2.2.2.1
  rw [Ft.chk_ok hok]
  have HOK := Lib.hid hok
  have k0 := H2.out.2.1.c0
  have k1 := H2.out.2.1.c1
  have k2 := H2.out.2.1.c2
  clear hok
  go_wp2_with fail
  refine (has_any H2.out.1.get.2 (by omega) _ _ _).mono ?_
  rintro e w3 ⟨rfl, hb3⟩
  have hb3' : Below B w2 w3 := hb3.mono (by have := H2.out.2.2.2.2; have := HGB.out; omega)
  have H3 : Hid (Lay w3 B a n c R ∧ FB w3 G X.toArray x.2 x.1 ∧ Rw w3 (fun b => b < B) x ∧ Below B w w3 ∧ G < w3.heap.size) := Lib.hid ⟨H2.out.1.below hb3, H2.out.2.1.below hb3, H2.out.2.2.1.below hb3' (fun _ _ h => h), H2.out.2.2.2.1.trans hb3', Nat.lt_of_lt_of_le H2.out.2.2.2.2 hb3.size⟩
  clear k0 k1 k2 hb3 hb3' H2
  by_cases hh : La.has (FS R) x.1.kind x.1.epoch x.1.node
  case pos =>
    have HA : Hid (La.add N (FS R) x.1 = (FS R, 0)) := Lib.hid (by unfold La.add; rw [if_neg (fun h => h HOK.out), if_pos hh])
    rw [decide_eq_true hh]
    clear hh
    go_wp2
    go_ret2
    exact wth_old HA.out H3.out.1 H3.out.2.2.2.1
  rw [decide_eq_false hh]
  have HH := Lib.hid hh
  clear hh
  by_cases hm : 200 ≤ n
  case pos =>
    have HA : Hid (La.add N (FS R) x.1 = (FS R, 110)) := Lib.hid (by unfold La.add; rw [if_neg (fun h => h HOK.out), if_neg HH.out, if_pos (by rw [HLN.out]; exact hm)])
    have q0 : (n : Int) ≥ 200 := by omega
    go_wp2
    go_ret2
    exact wth_old HA.out H3.out.1 H3.out.2.2.2.1
  have HA0 : Hid (La.add N (FS R) x.1 = (La.ins (FS R) x.1, 0)) := Lib.hid (by unfold La.add; rw [if_neg (fun h => h HOK.out), if_neg HH.out, if_neg (by rw [HLN.out]; exact hm)])
  have q0 : ¬ ((n : Int) ≥ 200) := by omega
  have hpx : FB w3 G (fc x).toArray x.2 x.1 := by rw [HXE.out]; exact H3.out.2.1
  have HC := Lib.hid (index_any (c := c) eg_with (pred_with hpx) H3.out.1.get.2 (by omega))
  obtain ⟨i, hin, HA, hid⟩ : ∃ i : Nat, i ≤ n ∧ Hid (La.add N (FS R) x.1 = ((FS R).take i ++ x.1 :: (FS R).drop i, 0)) ∧ (La.idx (fun g => decide (x.1.less g)) (FS R) = (i : Int) ∨ (La.idx (fun g => decide (x.1.less g)) (FS R) = -1 ∧ i = n)) := by
    rcases La.idx_cases (fun g => decide (x.1.less g)) (FS R) with ⟨h1, h2⟩ | ⟨j, hj, h1, h2, h3⟩
    · exact ⟨n, Nat.le_refl _, Lib.hid (by rw [HA0.out, La.ins_idx HH.out (j := n) (by rw [HLN.out]; exact Nat.le_refl _) (fun i hi => h2 i (by rw [HLN.out]; exact hi)) (Or.inl HLN.out.symm)]), Or.inr ⟨h1, rfl⟩⟩
    · exact ⟨j, by rw [HLN.out] at hj; omega, Lib.hid (by rw [HA0.out, La.ins_idx HH.out (j := j) (by omega) h3 (Or.inr h2)]), Or.inl h1⟩
  clear HA0 HH HOK hpx hm
  obtain ⟨r, hr⟩ : ∃ r, La.idx (fun g => decide (x.1.less g)) (FS R) = r := ⟨_, rfl⟩
  rw [hr] at HC hid
  clear hr
  go_wp2_with fail
  refine HC.out.mono ?_
  rintro e w4 ⟨rfl, hb4⟩
  have hb4' : Below B w3 w4 := hb4.mono (by have := H3.out.2.2.2.2; have := HGB.out; omega)
  have H4 : Hid (Lay w4 B a n c R ∧ FB w4 G X.toArray x.2 x.1 ∧ Rw w4 (fun b => b < B) x ∧ Below B w w4 ∧ B ≤ w4.heap.size) := Lib.hid ⟨H3.out.1.below hb4, H3.out.2.1.below hb4, H3.out.2.2.1.below hb4' (fun _ _ h => h), H3.out.2.2.2.1.trans hb4', by have := H3.out.2.2.2.2; have := hb4.size; have := HGB.out; omega⟩
  clear hb4 hb4' H3 HC
  have HI : Hid (∀ w5, w4.alloc (.cells X.toArray 30) = w5 → Calls Try.prog 61 #[.slice a n c, .int .i64 (i : Int), .slice (some ⟨w4.heap.size, 0, none⟩) 1 1] w5 (InQ w5 B (n + 1) (R.take i ++ x :: R.drop i))) := Lib.hid (fun w5 h5 => by
    subst h5
    have hb5 := below_alloc w4 (.cells X.toArray 30)
    exact insert_any (H4.out.1.below hb5) (Nat.le_trans H4.out.2.2.2.2 hb5.size) (by omega) (H4.out.2.2.1.below hb5 (fun b hb _ => hb)) (by rw [HXE.out]; exact Whole.new _ _ _) (fun g hg e => by
      have := own_lt H4.out.1.own g (by rw [hg]; rfl)
      omega) hin)
  have HB5 : Hid (∀ w5, w4.alloc (.cells X.toArray 30) = w5 → Below B w w5) := Lib.hid (fun w5 h5 => by subst h5; exact H4.out.2.2.2.1.trans ((below_alloc w4 _).mono H4.out.2.2.2.2))
  rcases hid with rfl | ⟨rfl, rfl⟩
  · have q1 : ¬ ((i : Int) < 0) := by omega
    go_wp2_with (first
      | ((with_reducible show wpList _ _ _ ((⟨_, Op.load 30 (.tmp 5), _, _, _, _⟩ : Oper) :: _) _ _); refine fb_load H4.out.2.1 (by rfl) (.tmp 5) rfl rfl ?_)
      | ((with_reducible show wpList _ _ _ ((⟨_, Op.buildSlice _ _ _, _, _, _, _⟩ : Oper) :: _) _ _); refine wpList_buildF factsU (by rfl) 39 rfl X HXL.out rfl ?_)
      | fail)
    refine (HI.out _ rfl).mono ?_
    rintro e w6 ⟨a6, c6, rfl, hl6, hb6⟩
    have HJ := Lib.hid (And.intro hl6 ((HB5.out _ rfl).trans hb6))
    clear hl6 hb6
    go_wp2
    go_ret2
    exact wth_old (by rw [HA.out]; simp [FS]) HJ.out.1 HJ.out.2
  · go_wp2_with (first
      | ((with_reducible show wpList _ _ _ ((⟨_, Op.load 30 (.tmp 5), _, _, _, _⟩ : Oper) :: _) _ _); refine fb_load H4.out.2.1 (by rfl) (.tmp 5) rfl rfl ?_)
      | ((with_reducible show wpList _ _ _ ((⟨_, Op.buildSlice _ _ _, _, _, _, _⟩ : Oper) :: _) _ _); refine wpList_buildF factsU (by rfl) 39 rfl X HXL.out rfl ?_)
      | fail)
    refine (HI.out _ rfl).mono ?_
    rintro e w6 ⟨a6, c6, rfl, hl6, hb6⟩
    have HJ := Lib.hid (And.intro hl6 ((HB5.out _ rfl).trans hb6))
    clear hl6 hb6
    go_wp2
    go_ret2
    exact wth_old (by rw [HA.out]; simp [FS]) HJ.out.1 HJ.out.2
end Go.Proofs.Ytdfmfjahnnifnaa
