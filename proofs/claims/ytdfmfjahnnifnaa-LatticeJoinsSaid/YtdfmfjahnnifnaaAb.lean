/-
  The walks of kept, whatever is wanted, and of Who and Aborted.
-/
import Derived.Test.YtdfmfjahnnifnaaAa
import Derived.Test.YtdfmfjahnnifnaaLj
namespace Go.Proofs.Ytdfmfjahnnifnaa
set_option maxRecDepth 20000
set_option linter.unusedSimpArgs false
set_option linter.unusedVariables false
open Go.RowKit Go.Great Go.Shelf
theorem keep_snoc (p : Ft.Fact → Bool) (l : List Ft.Fact) {j : Nat} (h : j < l.length) : (l.take (j + 1)).filter p = if p (l.getD j Ft.nought) = true then (l.take j).filter p ++ [l.getD j Ft.nought] else (l.take j).filter p := by
  rw [take_snocF l h, List.filter_append]
  generalize l.getD j Ft.nought = g
  by_cases hw : p g = true
  · rw [if_pos hw]; simp [List.filter_cons, hw]
  · rw [if_neg hw]; simp [List.filter_cons, hw]
theorem fc_arr {w : World} {D : Nat → Prop} {x : Fm} (h : Rw w D x) : (fc x).toArray.size = 38 ∧ (fc x).toArray.all (·.oneCell') = true :=
  ⟨by rw [List.size_toArray]; exact fc_len h, Array.all_eq_true_iff_forall_mem.2 fun u hu => fc_one h u (by simpa using hu)⟩
/-- A list is kept. -/
def Kpt (w : World) (l : List Ft.Fact) (e : Ending) (w' : World) : Prop :=
  ∃ a m c R', e = .returned (.slice a m c) ∧ Lay w' w.heap.size a m c R' ∧ FS R' = l ∧ Below w.heap.size w w'
set_option maxHeartbeats 4000000 in
theorem kept_any {g : Nat} {lb : Array Value} {p : Ft.Fact → Bool} {w : World} {S D : Nat → Prop} {a : Option Addr} {n c : Nat} {R : List Fm} (eg : ∀ args w, (callFunc g args).run Try.prog w = .ok (.enter g args) w) (hp : Pred g lb p w) (h : Fts w S D a n R) (hn : n ≤ 100000) :
    Calls Try.prog 47 #[.slice a n c, .func (.func g) #[] lb] w (Kpt w ((FS R).filter p)) := by
  have H := Lib.hid h.old
  have HP := Lib.hid hp
  have HLN := Lib.hid (show (FS R).length = n by rw [FS_len, h.1])
  clear h hp
  go_enter Try.func47, Try.ntmps47
  go_wp2
  generalize hBe : w.heap.size = B at *
  have HBE := Lib.hid hBe
  clear hBe
  go_loopw [5, 7, 10] (fun v _ i wr => ∃ (j n2 c2 : Nat) (a2 : Option Addr) (R2 : List Fm), j ≤ n ∧ n2 ≤ j ∧ v = .slice a2 n2 c2 ∧ i = .int .i64 (j : Int) ∧ Hid (Lay wr B a2 n2 c2 R2 ∧ FS R2 = ((FS R).take j).filter p ∧ Below B w wr)) (fun _ _ i _ => n - (intOf i).toNat)
  case atStart => exact ⟨0, 0, 0, none, [], Nat.zero_le _, Nat.le_refl _, rfl, rfl, Lib.hid ⟨Lay.nil _ _, rfl, Below.refl _ _⟩⟩
  case round =>
    obtain ⟨j, n2, c2, a2, R2, hj, hn2, rfl, rfl, HJ⟩ := hrel
    have sj : B ≤ wr.heap.size := Nat.le_trans (by rw [HBE.out]; exact Nat.le_refl _) HJ.out.2.2.size
    by_cases hlt : j < n
    case neg =>
      have q : ¬ ((j : Int) < (n : Int)) := by omega
      have HE : Hid ((FS R).take j = FS R) := Lib.hid (List.take_of_length_le (by rw [HLN.out]; omega))
      go_wp2
      go_ret
      exact ⟨a2, n2, c2, R2, rfl, by rw [HBE.out]; exact HJ.out.1, by rw [HJ.out.2.1, HE.out], by rw [HBE.out]; exact HJ.out.2.2⟩
    have q : (j : Int) < (n : Int) := by omega
    obtain ⟨b, off, rfl, _, hbl, hrg, hrw⟩ := (H.out.below HJ.out.2.2 (fun _ _ h => h) (fun _ _ h => h)).at_ hlt
    obtain ⟨y, hy⟩ : ∃ y, R.getD j d0 = y := ⟨_, rfl⟩
    have hs := keep_snoc p (FS R) (j := j) (by rw [HLN.out]; exact hlt)
    rw [FS_get, ← HJ.out.2.1] at hs
    rw [hy] at hrg hrw hs
    have iY := info_fact hrw
    have und := Try.underlying30
    have hfb : FB ((wr.alloc (.cells zf 30)).setRow wr.heap.size (fc y).toArray) wr.heap.size (fc y).toArray y.2 y.1 := fb_put (S := fun b => b < B) rfl hrw.1 hrw.2.1 hrw.2.2 zf
    have HB2 := Lib.hid (show Below wr.heap.size wr ((wr.alloc (.cells zf 30)).setRow wr.heap.size (fc y).toArray) from put_below (Below.refl _ _) (Nat.le_refl _))
    have HF := Lib.hid hfb
    have HY := Lib.hid hrw
    have HYS := Lib.hid (fc_arr hrw)
    have HRG := Lib.hid hrg
    have HS := Lib.hid hs
    clear hs hrw hrg hy hfb
    obtain ⟨Y, hY⟩ : ∃ Y, fc y = Y := ⟨_, rfl⟩
    rw [hY] at HRG iY HYS HF HB2
    have HYE := Lib.hid hY
    clear hY
    go_upto_region 5 with (first | ((with_reducible show wpList _ _ _ ((⟨_, Op.load 30 (.tmp 12), _, _, _, _⟩ : Oper) :: _) _ _); refine wpList_load_midG (by rfl) _ (.tmp 12) rfl b (off + j * 38) rfl Y _ HRG.out und rfl iY ?_) | ((with_reducible show wpList _ _ _ ((⟨_, Op.store 30 (.tmp 7) _, _, _, _, _⟩ : Oper) :: _) _ _); rw [zeroF]; refine wpList_store_row rfl _ (.tmp 7) (.tmp 13) rfl wr.heap.size Y.toArray rfl rfl 30 _ (Whole.new wr _ _) (by rw [HYS.out.1]; exact info38) (by rw [HYS.out.1]; rfl) HYS.out.2 ?_) | fail)
    obtain ⟨w2, hw2⟩ : ∃ w2, (wr.alloc (.cells zf 30)).setRow wr.heap.size Y.toArray = w2 := ⟨_, rfl⟩
    rw [hw2] at HF HB2 ⊢
    clear hw2
    have HJ2 : Hid (Lay w2 B a2 n2 c2 R2 ∧ Below B w w2) := Lib.hid ⟨HJ.out.1.below HB2.out, HJ.out.2.2.trans (HB2.out.mono sj)⟩
    have HY2 := Lib.hid (HY.out.below HB2.out (fun b hb _ => hb))
    obtain ⟨t, ht⟩ : ∃ t, p y.1 = t := ⟨_, rfl⟩
    have hcall := HP.out w2 _ y (by rw [HBE.out]; exact HJ2.out.2) HY2.out
    rw [ht, HYE.out] at hcall
    rw [ht] at HS
    have HC := Lib.hid hcall
    clear ht hcall
    cases t with
    | false =>
      have HS' : Hid (FS R2 = ((FS R).take (j + 1)).filter p) := Lib.hid (by rw [HS.out]; rfl)
      go_wp2_with (first | ((with_reducible show wpList _ _ _ ((⟨_, Op.load 30 (.tmp 7), _, _, _, _⟩ : Oper) :: _) _ _); refine fb_load HF.out (by rfl) (.tmp 7) rfl rfl ?_) | (go_at_fn g; refine HC.out.mono ?_; rintro e w3 ⟨rfl, hb3⟩) | fail)
      have HJ3 : Hid (Lay w3 B a2 n2 c2 R2 ∧ FS R2 = ((FS R).take (j + 1)).filter p ∧ Below B w w3) := Lib.hid ⟨HJ2.out.1.below hb3, HS'.out, HJ2.out.2.trans (hb3.mono (Nat.le_trans sj HB2.out.size))⟩
      clear hb3
      exact ⟨⟨j + 1, n2, c2, a2, R2, by omega, by omega, rfl, by go_num, HJ3⟩, by simp [intOf]; omega⟩
    | true =>
      have HS' : Hid (FS (R2 ++ [y]) = ((FS R).take (j + 1)).filter p) := Lib.hid (by rw [HS.out, FS_append]; rfl)
      go_upto_region 6 with (first | ((with_reducible show wpList _ _ _ ((⟨_, Op.load 30 (.tmp 7), _, _, _, _⟩ : Oper) :: _) _ _); refine fb_load HF.out (by rfl) (.tmp 7) rfl rfl ?_) | (go_at_fn g; refine HC.out.mono ?_; rintro e w3 ⟨rfl, hb3⟩) | fail)
      have HJ3 : Hid (Lay w3 B a2 n2 c2 R2 ∧ Below B w w3) := Lib.hid ⟨HJ2.out.1.below hb3, HJ2.out.2.trans (hb3.mono (Nat.le_trans sj HB2.out.size))⟩
      have HF3 := Lib.hid (HF.out.below hb3)
      have s3 : B ≤ w3.heap.size := Nat.le_trans sj (Nat.le_trans HB2.out.size hb3.size)
      have HY3 : Hid (Rw w3 (fun b => b < B) y) := Lib.hid (HY2.out.below hb3 (fun b hb _ => hb))
      have HA := Lib.hid (below_alloc w3 (.cells Y.toArray 30))
      have HQ : Hid (Fts (w3.alloc (.cells Y.toArray 30)) (fun _ => True) (fun b => b < B) (some ⟨w3.heap.size, 0, none⟩) 1 [y]) := Lib.hid (fts_one (T := 30) (by rw [HYE.out]; exact Whole.new _ _ _) trivial (HY3.out.below HA.out (fun b hb _ => hb)))
      have HLA := Lib.hid (HJ3.out.1.below HA.out)
      clear hb3
      go_wp2_with (first
        | ((with_reducible show wpList _ _ _ ((⟨_, Op.load 30 (.tmp 7), _, _, _, _⟩ : Oper) :: _) _ _); refine fb_load HF3.out (by rfl) (.tmp 7) rfl rfl ?_)
        | ((with_reducible show wpList _ _ _ ((⟨_, Op.buildSlice _ _ _, _, _, _, _⟩ : Oper) :: _) _ _); refine wpList_buildF factsU (by rfl) 18 rfl Y (by have := HYS.out.1; simpa using this) rfl ?_)
        | (at_builtin; refine wpList_append_facts factsU _ (by rfl) (.tmp 17) (.tmp 19) rfl B (.slice a2 n2 c2) n2 (flatF R2) rfl HLA.out.own (fun _ => True) (fun b => b < B) (some ⟨w3.heap.size, 0, none⟩) 1 1 [y] rfl HQ.out (by omega) (by omega) (by simp; omega) ?_)
        | fail)
      intro v5 w5 hown hg _
      obtain ⟨a5, c5, rfl, hl5⟩ := HLA.out.add (HQ.out.2.1 y (List.mem_singleton.2 rfl)) hown hg
      have HJ5 : Hid (Lay w5 B a5 (n2 + 1) c5 (R2 ++ [y]) ∧ FS (R2 ++ [y]) = ((FS R).take (j + 1)).filter p ∧ Below B w w5) := Lib.hid ⟨hl5, HS'.out, (HJ3.out.2.alloc s3 _).grown hg (by simp; omega) (own_ge HLA.out.own)⟩
      clear hown hg hl5
      go_wp2
      exact ⟨⟨j + 1, n2 + 1, c5, a5, R2 ++ [y], by omega, by omega, rfl, by go_num, HJ5⟩, by simp [intOf]; omega⟩
end Go.Proofs.Ytdfmfjahnnifnaa
