/-
  The greatest number of facts: cmp.Compare, the method value, slices.MaxFunc and most, by whatever measure.
-/
import Derived.Test.YtdfmfjahnnifnaaAb
namespace La
/-- The greatest number of facts; 0 of none. -/
def Most (μ : Ft.Fact → Int) (l : List Ft.Fact) (v : Int) : Prop := (l = [] ∧ v = 0) ∨ ((∃ f ∈ l, v = μ f) ∧ ∀ f ∈ l, μ f ≤ v)
def cmp (a b : Int) : Int := if a < b then -1 else if b < a then 1 else 0
theorem cmp_pos {a b : Int} : (0 < cmp a b) ↔ b < a := by
  unfold cmp
  split
  · omega
  · split <;> omega
end La
namespace Go.Proofs.Ytdfmfjahnnifnaa
set_option maxRecDepth 20000
set_option linter.unusedSimpArgs false
set_option linter.unusedVariables false
open Go.RowKit Go.Great Go.Shelf
theorem nan_any (a : Int) (w : World) : Calls Try.prog 74 #[.int .i64 a] w fun e w' => e = .returned (.bool false) ∧ w' = w := by
  have q : (a != a) = false := by simp
  go_enter Try.func74, Try.ntmps74
  go_wp2
  go_ret
  exact ⟨rfl, rfl⟩
theorem cmp_any (a b : Int) (w : World) : Calls Try.prog 71 #[.int .i64 a, .int .i64 b] w fun e w' => e = .returned (.int .i64 (La.cmp a b)) ∧ w' = w := by
  by_cases z : a < b
  · have HV : Hid (La.cmp a b = -1) := Lib.hid (by unfold La.cmp; rw [if_pos z])
    go_enter Try.func71, Try.ntmps71
    go_wp2_with (first | (go_at_call 74; refine (nan_any _ _).mono ?_; rintro e w' ⟨rfl, rfl⟩) | fail)
    go_ret
    exact ⟨ret_i64 HV.out.symm, rfl⟩
  · by_cases z2 : b < a
    · have q2 : a > b := z2
      have HV : Hid (La.cmp a b = 1) := Lib.hid (by unfold La.cmp; rw [if_neg z, if_pos z2])
      go_enter Try.func71, Try.ntmps71
      go_wp2_with (first | (go_at_call 74; refine (nan_any _ _).mono ?_; rintro e w' ⟨rfl, rfl⟩) | fail)
      go_ret
      exact ⟨ret_i64 HV.out.symm, rfl⟩
    · have q2 : ¬ (a > b) := z2
      have HV : Hid (La.cmp a b = 0) := Lib.hid (by unfold La.cmp; rw [if_neg z, if_neg z2])
      go_enter Try.func71, Try.ntmps71
      go_wp2_with (first | (go_at_call 74; refine (nan_any _ _).mono ?_; rintro e w' ⟨rfl, rfl⟩) | fail)
      go_ret
      exact ⟨ret_i64 HV.out.symm, rfl⟩
/-- A measure of facts. -/
def Meas (g : Nat) (μ : Ft.Fact → Int) : Prop :=
  ∀ (W : World) (D : Nat → Prop) (x : Fm), Rw W D x → Calls Try.prog g #[.agg (fc x).toArray] W fun e w' => e = .returned (.int .i64 (μ x.1)) ∧ Below W.heap.size W w'
set_option maxHeartbeats 4000000 in
theorem compare_any {g : Nat} {μ : Ft.Fact → Int} (eg : ∀ args w, (callFunc g args).run Try.prog w = .ok (.enter g args) w) (hm : Meas g μ) {w : World} {D D' : Nat → Prop} {x y : Fm} (hx : Rw w D x) (hy : Rw w D' y) :
    Calls Try.prog 65 #[.func (.func g) #[] #[], .agg (fc x).toArray, .agg (fc y).toArray] w fun e w' => e = .returned (.int .i64 (La.cmp (μ x.1) (μ y.1))) ∧ Below w.heap.size w w' := by
  have hb1 := below_alloc w (.cells (fc x).toArray 30)
  have hb2 : Below w.heap.size w ((w.alloc (.cells (fc x).toArray 30)).alloc (.cells (fc y).toArray 30)) := hb1.alloc (by simp) _
  have hw1 := (Whole.new w 30 (fc x).toArray).alloc (.cells (fc y).toArray 30)
  have hw2 := Whole.new (w.alloc (.cells (fc x).toArray 30)) 30 (fc y).toArray
  rw [size_alloc] at hw2
  have HX := Lib.hid (hx.old.below hb2 (fun _ _ h => h))
  have HY := Lib.hid (hy.old.below hb2 (fun _ _ h => h))
  have HB := Lib.hid hb2
  have HW := Lib.hid (And.intro hw1 hw2)
  have iX := info_fact hx
  have iY := info_fact hy
  have HM := Lib.hid hm
  clear hb1 hb2 hw1 hw2 hx hy hm
  obtain ⟨X, hX⟩ : ∃ X, fc x = X := ⟨_, rfl⟩
  obtain ⟨Y, hY⟩ : ∃ Y, fc y = Y := ⟨_, rfl⟩
  rw [hX] at iX
  rw [hY] at iY
  rw [hX, hY] at HX HY HB HW ⊢
  have HE := Lib.hid (And.intro hX hY)
  clear hX hY
  generalize hwe : (w.alloc (.cells X.toArray 30)).alloc (.cells Y.toArray 30) = w2 at *
  obtain ⟨r, hr⟩ : ∃ r, La.cmp (μ x.1) (μ y.1) = r := ⟨_, rfl⟩
  rw [hr]
  have HR := Lib.hid hr
  have HWE := Lib.hid hwe
  clear hr hwe
  obtain ⟨mx, hmx⟩ : ∃ m, μ x.1 = m := ⟨_, rfl⟩
  obtain ⟨my, hmy⟩ : ∃ m, μ y.1 = m := ⟨_, rfl⟩
  rw [hmx, hmy] at HR
  have HMX := Lib.hid (And.intro hmx hmy)
  clear hmx hmy
  have und := Try.underlying30
  have rgX : w2.drew.rangeAt w.heap.size 0 X := fun k v hv => by rw [Nat.zero_add]; exact (HW.out.1.cell k).trans (by rw [List.getElem?_toArray]; exact hv)
  have rgY : w2.drew.rangeAt (w.heap.size + 1) 0 Y := fun k v hv => by rw [Nat.zero_add]; exact (HW.out.2.cell k).trans (by rw [List.getElem?_toArray]; exact hv)
  go_enter Try.func65, Try.ntmps65
  go_upto_region 1 with fail
  rw [HWE.out]
  refine wp_region_held_drew (S := fun w' => w'.rangeAt w.heap.size 0 X ∧ w'.rangeAt (w.heap.size + 1) 0 Y) (by kernel_rfl) ⟨rgX, rgY⟩ (fun hHeld => ?_)
  refine wpAnyH_take (i := 0) (v := .func (.func g) #[] #[]) rfl (by kernel_rfl) (by kernel_rfl) (by kernel_rfl) (fun _ _ _ h => h) (Or.inl ⟨by rfl, (by intro w hSw; (try dsimp only at hSw); go_simp)⟩) (by assumption) ?_
  try simp only [Act.put, List.getElem_toArray, List.getElem_cons_zero, List.getElem_cons_succ, List.setIfInBounds_toArray, List.set_cons_zero, List.set_cons_succ]
  refine wpAnyH_take (i := 1) (v := .agg X.toArray) rfl (by kernel_rfl) (by kernel_rfl) (by kernel_rfl) (fun _ _ _ h => h) (yieldsIf_load_mid (by rfl) _ _ rfl _ _ rfl _ _ (fun w hSw => hSw.1) und rfl iX) (by assumption) ?_
  try simp only [Act.put, List.getElem_toArray, List.getElem_cons_zero, List.getElem_cons_succ, List.setIfInBounds_toArray, List.set_cons_zero, List.set_cons_succ]
  refine wpAnyH_take (i := 3) (v := .func (.func g) #[] #[]) rfl (by kernel_rfl) (by kernel_rfl) (by kernel_rfl) (fun _ _ _ h => h) (Or.inl ⟨by rfl, (by intro w hSw; (try dsimp only at hSw); go_simp)⟩) (by assumption) ?_
  try simp only [Act.put, List.getElem_toArray, List.getElem_cons_zero, List.getElem_cons_succ, List.setIfInBounds_toArray, List.set_cons_zero, List.set_cons_succ]
  refine wpAnyH_take (i := 4) (v := .agg Y.toArray) rfl (by kernel_rfl) (by kernel_rfl) (by kernel_rfl) (fun _ _ _ h => h) (yieldsIf_load_mid (by rfl) _ _ rfl _ _ rfl _ _ (fun w hSw => hSw.2) und rfl iY) (by assumption) ?_
  try simp only [Act.put, List.getElem_toArray, List.getElem_cons_zero, List.getElem_cons_succ, List.setIfInBounds_toArray, List.set_cons_zero, List.set_cons_succ]
  have hc1 := HM.out w2.drew _ x (HX.out.keep (Nat.le_refl _) (fun _ _ _ => rfl))
  rw [HE.out.1, HMX.out.1] at hc1
  have HC1 := Lib.hid hc1
  clear hc1
  refine wpAnyH_ready (rs := [2]) (by kernel_rfl) (by simp) (AllReadyH.cons rfl (fun K hK => ?_) AllReadyH.nil)
  try simp only [List.getElem_toArray, List.getElem_cons_zero, List.getElem_cons_succ]
  go_simp
  refine HC1.out.mono ?_
  rintro e w3 ⟨rfl, hb3⟩
  have hb3' : Below w2.heap.size w2 w3 := below_drew hb3
  have H3 := Lib.hid (And.intro (HB.out.trans (hb3'.mono HB.out.size)) (And.intro (HW.out.1.below hb3' HW.out.1.lt) (And.intro (HW.out.2.below hb3' HW.out.2.lt) (HY.out.below (hb3'.mono HB.out.size) (fun b _ h => h)))))
  have r3 : w3.rangeAt w.heap.size 0 X ∧ w3.rangeAt (w.heap.size + 1) 0 Y := ⟨fun k v hv => by rw [Nat.zero_add]; exact (H3.out.2.1.cell k).trans (by rw [List.getElem?_toArray]; exact hv), fun k v hv => by rw [Nat.zero_add]; exact (H3.out.2.2.1.cell k).trans (by rw [List.getElem?_toArray]; exact hv)⟩
  clear hb3 hb3' hHeld rgX rgY HC1 HB HW HX
  go_wp2_with fail
  refine hK.out _ _ r3 (fun hHeld => ?_)
  clear hK K hHeld
  try simp only [Act.put, List.getElem_toArray, List.getElem_cons_zero, List.getElem_cons_succ, List.setIfInBounds_toArray, List.set_cons_zero, List.set_cons_succ]
  have hHeld := r3
  have hc2 := HM.out w3 _ y H3.out.2.2.2
  rw [HE.out.2, HMX.out.2] at hc2
  have HC2 := Lib.hid hc2
  clear hc2
  refine wpAnyH_ready (rs := [5]) (by kernel_rfl) (by simp) (AllReadyH.cons rfl (fun K hK => ?_) AllReadyH.nil)
  try simp only [List.getElem_toArray, List.getElem_cons_zero, List.getElem_cons_succ]
  go_simp
  refine HC2.out.mono ?_
  rintro e w4 ⟨rfl, hb4⟩
  have H4 := Lib.hid (And.intro (H3.out.1.trans (hb4.mono H3.out.1.size)) (And.intro (H3.out.2.1.below hb4 H3.out.2.1.lt) (H3.out.2.2.1.below hb4 H3.out.2.2.1.lt)))
  have r4 : w4.rangeAt w.heap.size 0 X ∧ w4.rangeAt (w.heap.size + 1) 0 Y := ⟨fun k v hv => by rw [Nat.zero_add]; exact (H4.out.2.1.cell k).trans (by rw [List.getElem?_toArray]; exact hv), fun k v hv => by rw [Nat.zero_add]; exact (H4.out.2.2.cell k).trans (by rw [List.getElem?_toArray]; exact hv)⟩
  clear hb4 hHeld r3 HC2 H3
  go_wp2_with fail
  refine hK.out _ _ r4 (fun hHeld => ?_)
  clear hK K hHeld
  try simp only [Act.put, List.getElem_toArray, List.getElem_cons_zero, List.getElem_cons_succ, List.setIfInBounds_toArray, List.set_cons_zero, List.set_cons_succ]
  have hHeld := r4
  refine wpAnyH_ready (rs := [6]) (by kernel_rfl) (by simp) (AllReadyH.cons rfl (fun K hK => ?_) AllReadyH.nil)
  try simp only [List.getElem_toArray, List.getElem_cons_zero, List.getElem_cons_succ]
  go_simp
  refine (cmp_any _ _ _).mono ?_
  rintro e w5 ⟨rfl, rfl⟩
  rw [HR.out]
  clear hHeld
  go_wp2_with fail
  refine hK.out _ _ r4 (fun hHeld => ?_)
  clear hK K hHeld
  try simp only [Act.put, List.getElem_toArray, List.getElem_cons_zero, List.getElem_cons_succ, List.setIfInBounds_toArray, List.set_cons_zero, List.set_cons_succ]
  have hHeld := r4
  refine wpAnyH_take (i := 7) (v := .int .i64 r) rfl (by kernel_rfl) (by kernel_rfl) (by kernel_rfl) (fun _ _ _ h => h) (Or.inl ⟨by rfl, (by intro w hSw; (try dsimp only at hSw); go_simp)⟩) (by assumption) ?_
  try simp only [Act.put, List.getElem_toArray, List.getElem_cons_zero, List.getElem_cons_succ, List.setIfInBounds_toArray, List.set_cons_zero, List.set_cons_succ]
  refine wpAnyH_done (by kernel_rfl) ?_ _
  go_wp2
  go_ret
  exact ⟨rfl, H4.out.1⟩
/-- The greatest fact is answered. -/
def MaxQ (w : World) (μ : Ft.Fact → Int) (R : List Fm) (e : Ending) (w' : World) : Prop :=
  ∃ x : Fm, e = .returned (.agg (fc x).toArray) ∧ x ∈ R ∧ (∀ y ∈ R, μ y.1 ≤ μ x.1) ∧ Rw w' (fun b => b < w.heap.size) x ∧ Below w.heap.size w w'
/-- The greatest number is answered. -/
def MostQ (w : World) (μ : Ft.Fact → Int) (l : List Ft.Fact) (e : Ending) (w' : World) : Prop := ∃ v : Int, e = .returned (.int .i64 v) ∧ La.Most μ l v ∧ Below w.heap.size w w'
set_option maxHeartbeats 8000000 in
theorem max_any {g : Nat} {μ : Ft.Fact → Int} (eg : ∀ args w, (callFunc g args).run Try.prog w = .ok (.enter g args) w) (hm : Meas g μ) {w : World} {S D : Nat → Prop} {a : Option Addr} {n c : Nat} {R : List Fm} (h : Fts w S D a n R) (h0 : 0 < n) (hn : n ≤ 100000) :
    Calls Try.prog 64 #[.slice a n c, .func (.func 65) #[.func (.func g) #[] #[]] #[]] w (MaxQ w μ R) := by
  have H := Lib.hid h.old
  have HM := Lib.hid hm
  have HLN := Lib.hid h.1
  obtain ⟨b, off, rfl, _, _, hrg, hrw⟩ := h.old.at_ h0
  clear h hm
  rw [Nat.zero_mul, Nat.add_zero] at hrg
  obtain ⟨y, hy⟩ : ∃ y, R.getD 0 d0 = y := ⟨_, rfl⟩
  have hmem : y ∈ R := by rw [← hy]; have : 0 < R.length := by rw [HLN.out]; exact h0
                          simp [this]
  rw [hy] at hrg hrw
  have iY := info_fact hrw
  have und := Try.underlying30
  obtain ⟨w1, hw1⟩ : ∃ w1, w.alloc (.cells zf 30) = w1 := ⟨_, rfl⟩
  have hb1 := below_alloc w (.cells zf 30)
  have hk1 := Whole.new w 30 zf
  have hs1 := size_alloc w (.cells zf 30)
  rw [hw1] at hb1 hk1 hs1
  have hrw1 := hrw.below hb1 (fun _ _ h => h)
  have hrg1 : w1.rangeAt b off (fc y) := range_below hrg hb1 (by assumption)
  have hfb : FB ((w1.alloc (.cells zf 30)).setRow w1.heap.size (fc y).toArray) w1.heap.size (fc y).toArray y.2 y.1 := fb_put (S := fun b => b < w.heap.size) rfl hrw1.1 hrw1.2.1 hrw1.2.2 zf
  have hb2 : Below w1.heap.size w1 ((w1.alloc (.cells zf 30)).setRow w1.heap.size (fc y).toArray) := put_below (Below.refl _ _) (Nat.le_refl _)
  have HYS := Lib.hid (fc_arr hrw)
  have H1 := Lib.hid (And.intro hw1 (And.intro hb1 (And.intro hk1 hs1)))
  have H2 := Lib.hid (And.intro hfb hb2)
  have HRG := Lib.hid hrg1
  have HY := Lib.hid (And.intro hy (And.intro hmem hrw1))
  clear hw1 hb1 hk1 hs1 hfb hb2 hrg hrg1 hrw hrw1 hy hmem
  obtain ⟨Y, hY⟩ : ∃ Y, fc y = Y := ⟨_, rfl⟩
  rw [hY] at iY HYS H2 HRG
  have HYE := Lib.hid hY
  clear hY
  have q0 : ¬ ((n : Int) < 1) := by omega
  go_enter Try.func64, Try.ntmps64
  go_upto_region 3 with fail
  rw [zeroF, H1.out.1]
  have HG : Hid (w.heap.size + 1 = w1.heap.size) := Lib.hid H1.out.2.2.2.symm
  go_upto_region 4 with (first
    | ((with_reducible show wpList _ _ _ ((⟨_, Op.load 30 (.tmp 12), _, _, _, _⟩ : Oper) :: _) _ _); refine wpList_load_midG (by rfl) _ (.tmp 12) rfl b off rfl Y _ HRG.out und rfl iY ?_)
    | ((with_reducible show wpList _ _ _ ((⟨_, Op.store 30 (.tmp 5) _, _, _, _, _⟩ : Oper) :: _) _ _); rw [zeroF]; refine wpList_store_row rfl _ (.tmp 5) (.tmp 13) rfl w1.heap.size Y.toArray rfl rfl 30 _ (Whole.new w1 _ _) (by rw [HYS.out.1]; exact info38) (by rw [HYS.out.1]; rfl) HYS.out.2 ?_)
    | fail)
  have HJ0 : Hid (∃ x X, (∀ i, i < 1 → μ (R.getD i d0).1 ≤ μ x.1) ∧ x ∈ R ∧ fc x = X ∧ FB ((w1.alloc (.cells zf 30)).setRow w1.heap.size Y.toArray) w1.heap.size X.toArray x.2 x.1 ∧ Rw ((w1.alloc (.cells zf 30)).setRow w1.heap.size Y.toArray) (fun b => b < w.heap.size) x ∧ Whole ((w1.alloc (.cells zf 30)).setRow w1.heap.size Y.toArray) w.heap.size 30 zf ∧ Below w.heap.size w ((w1.alloc (.cells zf 30)).setRow w1.heap.size Y.toArray)) :=
    Lib.hid ⟨y, Y, fun i hi => by rw [show i = 0 by omega, HY.out.1]; exact Int.le_refl _, HY.out.2.1, HYE.out, H2.out.1, HY.out.2.2.below H2.out.2 (fun b hb _ => hb), H1.out.2.2.1.below H2.out.2 H1.out.2.2.1.lt, H1.out.2.1.trans (H2.out.2.mono H1.out.2.1.size)⟩
  generalize hw3 : (w1.alloc (.cells zf 30)).setRow w1.heap.size Y.toArray = w3 at *
  clear hw3 H2 HRG HY HYE HYS iY
  generalize w1.heap.size = G at *
  go_wp2
  go_loopw [6] (fun i wr => ∃ j : Nat, 1 ≤ j ∧ j ≤ n ∧ i = .int .i64 (j : Int) ∧ Hid (∃ x X, (∀ i, i < j → μ (R.getD i d0).1 ≤ μ x.1) ∧ x ∈ R ∧ fc x = X ∧ FB wr G X.toArray x.2 x.1 ∧ Rw wr (fun b => b < w.heap.size) x ∧ Whole wr w.heap.size 30 zf ∧ Below w.heap.size w wr)) (fun i _ => n - (intOf i).toNat)
  case atStart => exact ⟨1, Nat.le_refl _, h0, rfl, HJ0⟩
  case round =>
    clear HJ0
    obtain ⟨j, hj1, hj, rfl, HJ⟩ := hrel
    obtain ⟨x, X, hJ⟩ := HJ.out
    have HX := Lib.hid hJ
    clear hJ HJ
    by_cases hlt : j < n
    · obtain ⟨b', off', hadr, _, hbl, hrg, hrw⟩ := (H.out.below HX.out.2.2.2.2.2.2 (fun _ _ h => h) (fun _ _ h => h)).at_ hlt
      injection hadr with hadr
      injection hadr with hadr1 hadr2
      subst hadr1 hadr2
      obtain ⟨y, hy⟩ : ∃ y, R.getD j d0 = y := ⟨_, rfl⟩
      have hmem : y ∈ R := by
        rw [← hy]
        have : j < R.length := by rw [HLN.out]; exact hlt
        simp [this]
      rw [hy] at hrg hrw
      have iY := info_fact hrw
      have iX : (Try.prog.info? 30).map (·.size) = some X.length := by rw [← HX.out.2.2.1]; exact info_fact HX.out.2.2.2.2.1
      have HY := Lib.hid (And.intro hy (And.intro hmem hrw))
      have HYS := Lib.hid (fc_arr hrw)
      have hcmp := compare_any eg HM.out (hrw.keep (w' := wr.drew) (Nat.le_refl _) (fun _ _ _ => rfl)) (HX.out.2.2.2.2.1.keep (w' := wr.drew) (Nat.le_refl _) (fun _ _ _ => rfl))
      rw [HX.out.2.2.1] at hcmp
      clear hy hmem hrw
      obtain ⟨Y, hY⟩ : ∃ Y, fc y = Y := ⟨_, rfl⟩
      rw [hY] at iY HYS hcmp hrg
      have HYE := Lib.hid hY
      have HC := Lib.hid hcmp
      clear hY hcmp
      have rgY : wr.drew.rangeAt b (off + j * 38) Y := hrg
      have rgX : wr.drew.rangeAt G 0 X := fun k v hv => by rw [Nat.zero_add]; exact (HX.out.2.2.2.1.whole.cell k).trans (by rw [List.getElem?_toArray]; exact hv)
      have q1 : (j : Int) < (n : Int) := by omega
      go_upto_region 7 with fail
      refine wp_region_held_drew (S := fun w' => w'.rangeAt b (off + j * 38) Y ∧ w'.rangeAt G 0 X) (by kernel_rfl) ⟨rgY, rgX⟩ (fun hHeld => ?_)
      refine wpAnyH_take (i := 0) (v := .func (.func 65) #[.func (.func g) #[] #[]] #[]) rfl (by kernel_rfl) (by kernel_rfl) (by kernel_rfl) (fun _ _ _ h => h) (Or.inl ⟨by rfl, (by intro w hSw; (try dsimp only at hSw); go_simp)⟩) (by assumption) ?_
      try simp only [Act.put, List.getElem_toArray, List.getElem_cons_zero, List.getElem_cons_succ, List.setIfInBounds_toArray, List.set_cons_zero, List.set_cons_succ]
      refine wpAnyH_take (i := 1) (v := .slice (some ⟨b, off, none⟩) n c) rfl (by kernel_rfl) (by kernel_rfl) (by kernel_rfl) (fun _ _ _ h => h) (Or.inl ⟨by rfl, (by intro w hSw; (try dsimp only at hSw); go_simp)⟩) (by assumption) ?_
      try simp only [Act.put, List.getElem_toArray, List.getElem_cons_zero, List.getElem_cons_succ, List.setIfInBounds_toArray, List.set_cons_zero, List.set_cons_succ]
      refine wpAnyH_take (i := 2) (v := .int .i64 (j : Int)) rfl (by kernel_rfl) (by kernel_rfl) (by kernel_rfl) (fun _ _ _ h => h) (Or.inl ⟨by rfl, (by intro w hSw; (try dsimp only at hSw); go_simp)⟩) (by assumption) ?_
      try simp only [Act.put, List.getElem_toArray, List.getElem_cons_zero, List.getElem_cons_succ, List.setIfInBounds_toArray, List.set_cons_zero, List.set_cons_succ]
      refine wpAnyH_take (i := 3) (v := .pointer (some ⟨b, off + j * 38, none⟩)) rfl (by kernel_rfl) (by kernel_rfl) (by kernel_rfl) (fun _ _ _ h => h) (Or.inl ⟨by rfl, (by intro w hSw; (try dsimp only at hSw); go_simp)⟩) (by assumption) ?_
      try simp only [Act.put, List.getElem_toArray, List.getElem_cons_zero, List.getElem_cons_succ, List.setIfInBounds_toArray, List.set_cons_zero, List.set_cons_succ]
      refine wpAnyH_take (i := 4) (v := .agg Y.toArray) rfl (by kernel_rfl) (by kernel_rfl) (by kernel_rfl) (fun _ _ _ h => h) (yieldsIf_load_mid (by rfl) _ _ rfl _ _ rfl _ _ (fun w hSw => hSw.1) und rfl iY) (by assumption) ?_
      try simp only [Act.put, List.getElem_toArray, List.getElem_cons_zero, List.getElem_cons_succ, List.setIfInBounds_toArray, List.set_cons_zero, List.set_cons_succ]
      refine wpAnyH_take (i := 5) (v := .agg X.toArray) rfl (by kernel_rfl) (by kernel_rfl) (by kernel_rfl) (fun _ _ _ h => h) (yieldsIf_load_mid (by rfl) _ _ rfl _ _ rfl _ _ (fun w hSw => hSw.2) und rfl iX) (by assumption) ?_
      try simp only [Act.put, List.getElem_toArray, List.getElem_cons_zero, List.getElem_cons_succ, List.setIfInBounds_toArray, List.set_cons_zero, List.set_cons_succ]
      refine wpAnyH_ready (rs := [6]) (by kernel_rfl) (by simp) (AllReadyH.cons rfl (fun K hK => ?_) AllReadyH.nil)
      try simp only [List.getElem_toArray, List.getElem_cons_zero, List.getElem_cons_succ]
      go_simp
      refine HC.out.mono ?_
      rintro e w4 ⟨rfl, hb4⟩
      have hb4' : Below wr.heap.size wr w4 := below_drew hb4
      have H4 : Hid (x ∈ R ∧ FB w4 G X.toArray x.2 x.1 ∧ Rw w4 (fun b => b < w.heap.size) x ∧ Whole w4 w.heap.size 30 zf ∧ Below w.heap.size w w4) := Lib.hid ⟨HX.out.2.1, HX.out.2.2.2.1.below hb4', HX.out.2.2.2.2.1.below (hb4'.mono HX.out.2.2.2.2.2.2.size) (fun _ _ h => h), HX.out.2.2.2.2.2.1.below hb4' HX.out.2.2.2.2.2.1.lt, HX.out.2.2.2.2.2.2.trans (hb4'.mono HX.out.2.2.2.2.2.2.size)⟩
      have HY4 : Hid (Rw w4 (fun b => b < w.heap.size) y) := Lib.hid (HY.out.2.2.below (hb4'.mono HX.out.2.2.2.2.2.2.size) (fun _ _ h => h))
      have HR4 : Hid (w4.rangeAt b (off + j * 38) Y) := Lib.hid (range_below hrg hb4' hbl)
      have r4 : w4.rangeAt b (off + j * 38) Y ∧ w4.rangeAt G 0 X := ⟨HR4.out, fun k v hv => by rw [Nat.zero_add]; exact (H4.out.2.1.whole.cell k).trans (by rw [List.getElem?_toArray]; exact hv)⟩
      clear hb4 hb4' hHeld rgX rgY hrg HC
      go_wp2_with fail
      refine hK.out _ _ r4 (fun hHeld => ?_)
      clear hK K hHeld
      try simp only [Act.put, List.getElem_toArray, List.getElem_cons_zero, List.getElem_cons_succ, List.setIfInBounds_toArray, List.set_cons_zero, List.set_cons_succ]
      have hHeld := r4
      obtain ⟨r, hr⟩ : ∃ r, La.cmp (μ y.1) (μ x.1) = r := ⟨_, rfl⟩
      rw [hr]
      have HR := Lib.hid hr
      clear hr
      by_cases hp : 0 < r
      · have q2 : r > 0 := hp
        have HN : Hid (∀ i, i < j + 1 → μ (R.getD i d0).1 ≤ μ y.1) := Lib.hid (fun i hi => by
          have hlt' : μ x.1 < μ y.1 := La.cmp_pos.1 (by rw [HR.out]; exact hp)
          by_cases hij : i = j
          · rw [hij, HY.out.1]; exact Int.le_refl _
          · have := HX.out.1 i (by omega); omega)
        clear hp
        refine wpAnyH_take (i := 7) (v := .bool true) rfl (by kernel_rfl) (by kernel_rfl) (by kernel_rfl) (fun _ _ _ h => h) (Or.inl ⟨by rfl, (by intro w hSw; (try dsimp only at hSw); go_simp)⟩) (by assumption) ?_
        try simp only [Act.put, List.getElem_toArray, List.getElem_cons_zero, List.getElem_cons_succ, List.setIfInBounds_toArray, List.set_cons_zero, List.set_cons_succ]
        refine wpAnyH_done (by kernel_rfl) ?_ _
        clear r4 hHeld
        go_upto_region 6 with (first
          | ((with_reducible show wpList _ _ _ ((⟨_, Op.load 30 (.tmp 30), _, _, _, _⟩ : Oper) :: _) _ _); refine wpList_load_midG (by rfl) _ (.tmp 30) rfl b (off + j * 38) rfl Y _ HR4.out und rfl iY ?_)
          | ((with_reducible show wpList _ _ _ ((⟨_, Op.store 30 (.tmp 5) _, _, _, _, _⟩ : Oper) :: _) _ _); refine wpList_store_row rfl _ (.tmp 5) (.tmp 31) rfl G Y.toArray rfl rfl 30 _ H4.out.2.1.whole (by rw [HYS.out.1]; exact info38) (by rw [HYS.out.1, H4.out.2.1.size]) HYS.out.2 ?_)
          | fail)
        have hb5 : Below G w4 (w4.setRow G Y.toArray) := below_row (Below.refl _ w4) (Nat.le_refl _) _
        have hy5 : Rw (w4.setRow G Y.toArray) (fun b => b < w.heap.size) y := HY4.out.below (hb5.mono (show w.heap.size ≤ G by have := HG.out; omega)) (fun _ _ h => h)
        have HJ5 : Hid (∃ x X, (∀ i, i < j + 1 → μ (R.getD i d0).1 ≤ μ x.1) ∧ x ∈ R ∧ fc x = X ∧ FB (w4.setRow G Y.toArray) G X.toArray x.2 x.1 ∧ Rw (w4.setRow G Y.toArray) (fun b => b < w.heap.size) x ∧ Whole (w4.setRow G Y.toArray) w.heap.size 30 zf ∧ Below w.heap.size w (w4.setRow G Y.toArray)) :=
          Lib.hid ⟨y, Y, HN.out, HY.out.2.1, HYE.out, ⟨H4.out.2.1.whole.row Y.toArray, by rw [← HYE.out]; rfl, hy5.1.old, hy5.2.1, hy5.2.2⟩, hy5, H4.out.2.2.2.1.below hb5 (by have := HG.out; omega), below_row H4.out.2.2.2.2 (by have := HG.out; omega) _⟩
        clear hb5 hy5
        generalize w4.setRow G Y.toArray = w5 at *
        go_wp2
        exact ⟨⟨j + 1, by omega, by omega, by go_num, HJ5⟩, by simp [intOf]; omega⟩
      · have q2 : ¬ (r > 0) := hp
        have HN : Hid (∀ i, i < j + 1 → μ (R.getD i d0).1 ≤ μ x.1) := Lib.hid (fun i hi => by
          have hlt' : ¬ μ x.1 < μ y.1 := fun h => hp (by rw [← HR.out]; exact La.cmp_pos.2 h)
          by_cases hij : i = j
          · rw [hij, HY.out.1]; omega
          · exact HX.out.1 i (by omega))
        have HJ5 : Hid (∃ x X, (∀ i, i < j + 1 → μ (R.getD i d0).1 ≤ μ x.1) ∧ x ∈ R ∧ fc x = X ∧ FB w4 G X.toArray x.2 x.1 ∧ Rw w4 (fun b => b < w.heap.size) x ∧ Whole w4 w.heap.size 30 zf ∧ Below w.heap.size w w4) := Lib.hid ⟨x, X, HN.out, H4.out.1, HX.out.2.2.1, H4.out.2⟩
        clear hp
        refine wpAnyH_take (i := 7) (v := .bool false) rfl (by kernel_rfl) (by kernel_rfl) (by kernel_rfl) (fun _ _ _ h => h) (Or.inl ⟨by rfl, (by intro w hSw; (try dsimp only at hSw); go_simp)⟩) (by assumption) ?_
        try simp only [Act.put, List.getElem_toArray, List.getElem_cons_zero, List.getElem_cons_succ, List.setIfInBounds_toArray, List.set_cons_zero, List.set_cons_succ]
        refine wpAnyH_done (by kernel_rfl) ?_ _
        clear r4 hHeld
        go_wp2
        exact ⟨⟨j + 1, by omega, by omega, by go_num, HJ5⟩, by simp [intOf]; omega⟩
    · have q1 : ¬ ((j : Int) < (n : Int)) := by omega
      have HA : Hid (∀ y ∈ R, μ y.1 ≤ μ x.1) := Lib.hid (fun y hy => by
        obtain ⟨i, hi, rfl⟩ := List.getElem_of_mem hy
        have := HX.out.1 i (by rw [HLN.out] at hi; omega)
        simpa [hi] using this)
      have HXS : Hid (X.toArray.size = 38 ∧ X.toArray.all (·.oneCell') = true) := Lib.hid (by rw [← HX.out.2.2.1]; exact fc_arr HX.out.2.2.2.2.1)
      go_wp2_with (first
        | ((with_reducible show wpList _ _ _ ((⟨_, Op.load 30 (.tmp 5), _, _, _, _⟩ : Oper) :: _) _ _); refine fb_load HX.out.2.2.2.1 (by rfl) (.tmp 5) rfl rfl ?_)
        | ((with_reducible show wpList _ _ _ ((⟨_, Op.store 30 (.tmp 4) _, _, _, _, _⟩ : Oper) :: _) _ _); refine wpList_store_row rfl _ (.tmp 4) (.tmp 32) rfl w.heap.size X.toArray rfl rfl 30 _ HX.out.2.2.2.2.2.1 (by rw [HXS.out.1]; exact info38) (by rw [HXS.out.1]; rfl) HXS.out.2 ?_)
        | fail)
      refine bodyPost_ret (results_one_cell rfl _ _ _ _ rfl (run_loadVar_row _ _ _ _ _ (0, 0) _ (HX.out.2.2.2.2.2.1.row X.toArray) und rfl (by rw [HXS.out.1]; exact info38))) rfl ?_
      refine ⟨x, by rw [HX.out.2.2.1], HX.out.2.1, HA.out, HX.out.2.2.2.2.1.below (below_row (Below.refl _ wr) (Nat.le_refl _) X.toArray) (fun _ _ h => h), below_row HX.out.2.2.2.2.2.2 (Nat.le_refl _) _⟩
theorem eg_compare : ∀ args w, (callFunc 65 args).run Try.prog w = .ok (.enter 65 args) w := enters_of Try.func65 (by kernel_rfl) rfl
set_option maxHeartbeats 2000000 in
theorem most_any {g : Nat} {μ : Ft.Fact → Int} (eg : ∀ args w, (callFunc g args).run Try.prog w = .ok (.enter g args) w) (hm : Meas g μ) {w : World} {S D : Nat → Prop} {a : Option Addr} {n c : Nat} {R : List Fm} (h : Fts w S D a n R) (hn : n ≤ 100000) :
    Calls Try.prog 51 #[.func (.func g) #[] #[], .slice a n c] w (MostQ w μ (FS R)) := by
  have hmf : ∀ (fn : Fn) (first cap : Array Value) (w : World), (Instr.makeFunc fn first cap).run Try.prog w = .ok (.func fn first cap) w := fun _ _ _ _ => rfl
  by_cases z : n = 0
  · have HV : Hid (FS R = []) := Lib.hid (by
      have := h.1
      rw [z] at this
      rw [List.length_eq_zero_iff.1 this]
      rfl)
    have q : ((n : Int) == 0) = true := by simp [z]
    clear z h hm
    go_enter Try.func51, Try.ntmps51
    go_wp2
    go_ret
    exact ⟨0, rfl, Or.inl ⟨HV.out, rfl⟩, Below.refl _ _⟩
  · have q : ((n : Int) == 0) = false := by simp [z]
    have HC := Lib.hid (max_any (c := c) eg hm h (by omega) hn)
    have HM := Lib.hid hm
    clear z h hm
    go_enter Try.func51, Try.ntmps51
    go_wp2_with fail
    refine HC.out.mono ?_
    rintro e w2 ⟨x, rfl, hmem, hle, hrw, hb2⟩
    have HX := Lib.hid (And.intro hmem (And.intro hle hb2))
    have HC2 := Lib.hid (HM.out w2 _ x hrw)
    clear hmem hle hrw hb2 HC
    go_wp2_with fail
    refine HC2.out.mono ?_
    rintro e w3 ⟨rfl, hb3⟩
    have HB3 := Lib.hid (HX.out.2.2.trans (hb3.mono HX.out.2.2.size))
    clear hb3
    go_wp2
    go_ret
    refine ⟨_, rfl, Or.inr ⟨⟨x.1, List.mem_map.2 ⟨x, HX.out.1, rfl⟩, rfl⟩, fun f hf => ?_⟩, HB3.out⟩
    obtain ⟨y, hy, rfl⟩ := List.mem_map.1 hf
    exact HX.out.2.1 y hy
end Go.Proofs.Ytdfmfjahnnifnaa
