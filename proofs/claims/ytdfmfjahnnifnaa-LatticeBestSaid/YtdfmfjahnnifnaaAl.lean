/-
  The walks of Add and of Merge; what the package's functions answer, all together.
-/
import Derived.Test.YtdfmfjahnnifnaaAk
import Derived.Test.YtdfmfjahnnifnaaAc
namespace La
open Ft
theorem add_full {N : Int} {l : List Fact} {f : Fact} (h : 200 ≤ l.length) : (add N l f).1 = l := by
  unfold add
  split
  · rfl
  · split
    · rfl
    · rfl
theorem merge_full {N : Int} {b : List Fact} : ∀ {l : List Fact}, 200 ≤ l.length → merge N l b = l := by
  induction b with
  | nil => intro l _; rfl
  | cons f b ih =>
    intro l h
    rw [merge_cons, add_full h]
    exact ih h
theorem merge_two {N : Int} {b : List Fact} : ∀ {l : List Fact}, l.length ≤ 200 → (merge N l b).length ≤ 200 := by
  induction b with
  | nil => intro l h; exact h
  | cons f b ih =>
    intro l h
    rw [merge_cons]
    exact ih ((add_len N l f).2.1 h)
end La
namespace Go.Proofs.Ytdfmfjahnnifnaa
set_option maxRecDepth 20000
set_option linter.unusedSimpArgs false
set_option linter.unusedVariables false
open Go.RowKit Go.Great Go.Shelf
set_option maxHeartbeats 4000000 in
theorem add_any {w : World} {S D D' : Nat → Prop} {a : Option Addr} {n c : Nat} {R : List Fm} {x : Fm} (N : Int) (h : Fts w S D a n R) (hn : n ≤ 200) (hf : FewR R) (hx : Rw w D' x) (hfx : x.1.man.ds.length ≤ 100) :
    Calls Try.prog 14 #[.int .i64 N, .slice a n c, .agg (fc x).toArray] w (OwnsE w (La.add N (FS R) x.1).1 (La.add N (FS R) x.1).2) := by
  have hb1 := below_alloc w (.cells (fc x).toArray 30)
  have HF := Lib.hid (fb_new hx)
  have H := Lib.hid (h.old.below hb1 (fun _ _ h => h) (fun _ _ h => h))
  have HX := Lib.hid (hx.old.below hb1 (fun _ _ h => h))
  have HB1 := Lib.hid hb1
  have HXL := Lib.hid (fc_len hx)
  have hfew : ∀ f ∈ (La.add N (FS R) x.1).1, f.man.ds.length ≤ 1000 := fun f hfm => by
    rcases La.add_mem hfm with ⟨rfl, _⟩ | h
    · omega
    · obtain ⟨y, hy, rfl⟩ := List.mem_map.1 h
      have := hf y hy
      omega
  have hlen : (La.add N (FS R) x.1).1.length ≤ 1000 := by
    have := (La.add_len N (FS R) x.1).1
    have h2 := h.1
    rw [FS_len] at this
    omega
  have HA := Lib.hid (And.intro hfew hlen)
  clear h hx hb1 hf hfew hlen
  obtain ⟨X, hX⟩ : ∃ X, fc x = X := ⟨_, rfl⟩
  have HXE := Lib.hid hX
  rw [hX] at HF H HX HB1 HXL ⊢
  clear hX
  obtain ⟨w1, hw1⟩ : ∃ w1, w.alloc (.cells X.toArray 30) = w1 := ⟨_, rfl⟩
  rw [hw1] at HF H HX HB1
  have HW1 := Lib.hid hw1
  clear hw1
  obtain ⟨r, hr⟩ : ∃ r, La.add N (FS R) x.1 = r := ⟨_, rfl⟩
  rw [hr] at HA ⊢
  have HR := Lib.hid hr
  clear hr
  have und := Try.underlying30
  have iX : (Try.prog.info? 30).map (·.size) = some X.length := by rw [HXL.out]; exact info38
  go_enter Try.func14, Try.ntmps14
  go_upto_region 1 with fail
  rw [HW1.out]
  have rgX : w1.drew.rangeAt w.heap.size 0 X := fun k v hv => by rw [Nat.zero_add]; exact (HF.out.whole.cell k).trans (by rw [List.getElem?_toArray]; exact hv)
  refine wp_region_held_drew (S := fun w' => w'.rangeAt w.heap.size 0 X) (by kernel_rfl) rgX (fun hHeld => ?_)
  refine wpAnyH_take (i := 0) (v := .int .i64 N) rfl (by kernel_rfl) (by kernel_rfl) (by kernel_rfl) (fun _ _ _ h => h) (Or.inl ⟨by rfl, (by intro w hSw; (try dsimp only at hSw); go_simp)⟩) (by assumption) ?_
  try simp only [Act.put, List.getElem_toArray, List.getElem_cons_zero, List.getElem_cons_succ, List.setIfInBounds_toArray, List.set_cons_zero, List.set_cons_succ]
  refine wpAnyH_take (i := 1) (v := .slice a n c) rfl (by kernel_rfl) (by kernel_rfl) (by kernel_rfl) (fun _ _ _ h => h) (Or.inl ⟨by rfl, (by intro w hSw; (try dsimp only at hSw); go_simp)⟩) (by assumption) ?_
  try simp only [Act.put, List.getElem_toArray, List.getElem_cons_zero, List.getElem_cons_succ, List.setIfInBounds_toArray, List.set_cons_zero, List.set_cons_succ]
  refine wpAnyH_take (i := 3) (v := .agg X.toArray) rfl (by kernel_rfl) (by kernel_rfl) (by kernel_rfl) (fun _ _ _ h => h) (yieldsIf_load_mid (by rfl) _ _ rfl _ _ rfl _ _ (fun w hSw => hSw) und rfl iX) (by assumption) ?_
  try simp only [Act.put, List.getElem_toArray, List.getElem_cons_zero, List.getElem_cons_succ, List.setIfInBounds_toArray, List.set_cons_zero, List.set_cons_succ]
  refine wpAnyH_ready (rs := [2]) (by kernel_rfl) (by simp) (AllReadyH.cons rfl (fun K hK => ?_) AllReadyH.nil)
  try simp only [List.getElem_toArray, List.getElem_cons_zero, List.getElem_cons_succ]
  go_simp
  refine (cloneF_any (H.out.keep (w' := w1.drew) (Nat.le_refl _) (fun _ _ _ => rfl) (fun _ _ _ => rfl)) (by omega)).mono ?_
  rintro e w2 ⟨a2, c2, rfl, hl2, hb2⟩
  have hb2' : Below w1.heap.size w1 w2 := below_drew hb2
  have H2 : Hid (Lay w2 w1.heap.size a2 n c2 R ∧ Below w.heap.size w w2 ∧ FB w2 w.heap.size X.toArray x.2 x.1 ∧ Rw w2 (fun b => b < w1.heap.size) x ∧ w1.heap.size ≤ w2.heap.size) := Lib.hid ⟨hl2, HB1.out.trans (hb2'.mono HB1.out.size), HF.out.below hb2', (HX.out.below (hb2'.mono HB1.out.size) (fun _ _ h => h)).weak (fun b _ hb => Nat.lt_of_lt_of_le hb HB1.out.size), hb2'.size⟩
  have HGL := Lib.hid HF.out.whole.lt
  have r2 : w2.rangeAt w.heap.size 0 X := fun k v hv => by rw [Nat.zero_add]; exact (H2.out.2.2.1.whole.cell k).trans (by rw [List.getElem?_toArray]; exact hv)
  clear hl2 hb2 hb2' hHeld rgX H HF HX HB1 HW1
  generalize w1.heap.size = B at *
  go_wp2_with fail
  refine hK.out _ _ r2 (fun hHeld => ?_)
  clear hK K hHeld
  try simp only [Act.put, List.getElem_toArray, List.getElem_cons_zero, List.getElem_cons_succ, List.setIfInBounds_toArray, List.set_cons_zero, List.set_cons_succ]
  have hHeld := r2
  have hc4 := with_any H2.out.1 H2.out.2.2.2.2 (by omega) H2.out.2.2.2.1 N
  rw [HR.out, HXE.out] at hc4
  have HC4 := Lib.hid hc4
  clear hc4
  refine wpAnyH_ready (rs := [4]) (by kernel_rfl) (by simp) (AllReadyH.cons rfl (fun K hK => ?_) AllReadyH.nil)
  try simp only [List.getElem_toArray, List.getElem_cons_zero, List.getElem_cons_succ]
  go_simp
  refine HC4.out.mono ?_
  rintro e w3 ⟨a3, n3, c3, R3, rfl, hl3, hfs3, hb3⟩
  have H3 : Hid (Lay w3 B a3 n3 c3 R3 ∧ FS R3 = r.1 ∧ Below w.heap.size w w3 ∧ B ≤ w3.heap.size) := Lib.hid ⟨hl3, hfs3, H2.out.2.1.trans (hb3.mono (Nat.le_of_lt HGL.out)), Nat.le_trans H2.out.2.2.2.2 hb3.size⟩
  have r3 : w3.rangeAt w.heap.size 0 X := fun k v hv => (hb3.cell (p := ⟨w.heap.size, 0 + k, none⟩) HGL.out).trans (r2 k v hv)
  clear hl3 hfs3 hb3 hHeld r2 H2 HC4
  go_wp2_with fail
  refine hK.out _ _ r3 (fun hHeld => ?_)
  clear hK K hHeld
  try simp only [Act.put, List.getElem_toArray, List.getElem_cons_zero, List.getElem_cons_succ, List.setIfInBounds_toArray, List.set_cons_zero, List.set_cons_succ]
  have hHeld := r3
  obtain ⟨k, hk⟩ : ∃ k, r.2 = k := ⟨_, rfl⟩
  rw [hk]
  have HK := Lib.hid hk
  clear hk
  refine wpAnyH_take (i := 5) (v := .tuple #[.slice a3 n3 c3, .int .i64 k]) rfl (by kernel_rfl) (by kernel_rfl) (by kernel_rfl) (fun _ _ _ h => h) (Or.inl ⟨by rfl, (by intro w hSw; (try dsimp only at hSw); go_simp)⟩) (by assumption) ?_
  try simp only [Act.put, List.getElem_toArray, List.getElem_cons_zero, List.getElem_cons_succ, List.setIfInBounds_toArray, List.set_cons_zero, List.set_cons_succ]
  refine wpAnyH_take (i := 6) (v := .slice a3 n3 c3) rfl (by kernel_rfl) (by kernel_rfl) (by kernel_rfl) (fun _ _ _ h => h) (Or.inl ⟨by rfl, (by intro w hSw; (try dsimp only at hSw); go_simp)⟩) (by assumption) ?_
  try simp only [Act.put, List.getElem_toArray, List.getElem_cons_zero, List.getElem_cons_succ, List.setIfInBounds_toArray, List.set_cons_zero, List.set_cons_succ]
  refine wpAnyH_take (i := 7) (v := .int .i64 k) rfl (by kernel_rfl) (by kernel_rfl) (by kernel_rfl) (fun _ _ _ h => h) (Or.inl ⟨by rfl, (by intro w hSw; (try dsimp only at hSw); go_simp)⟩) (by assumption) ?_
  try simp only [Act.put, List.getElem_toArray, List.getElem_cons_zero, List.getElem_cons_succ, List.setIfInBounds_toArray, List.set_cons_zero, List.set_cons_succ]
  refine wpAnyH_take (i := 8) (v := .slice a3 n3 c3) rfl (by kernel_rfl) (by kernel_rfl) (by kernel_rfl) (fun _ _ _ h => h) (Or.inl ⟨by rfl, (by intro w hSw; (try dsimp only at hSw); go_simp)⟩) (by assumption) ?_
  try simp only [Act.put, List.getElem_toArray, List.getElem_cons_zero, List.getElem_cons_succ, List.setIfInBounds_toArray, List.set_cons_zero, List.set_cons_succ]
  refine wpAnyH_take (i := 9) (v := .int .i64 k) rfl (by kernel_rfl) (by kernel_rfl) (by kernel_rfl) (fun _ _ _ h => h) (Or.inl ⟨by rfl, (by intro w hSw; (try dsimp only at hSw); go_simp)⟩) (by assumption) ?_
  try simp only [Act.put, List.getElem_toArray, List.getElem_cons_zero, List.getElem_cons_succ, List.setIfInBounds_toArray, List.set_cons_zero, List.set_cons_succ]
  refine wpAnyH_done (by kernel_rfl) ?_ _
  clear hHeld r3
  go_wp2_with fail
  refine (apart_any H3.out.1 H3.out.2.2.2 (by rw [← H3.out.1.len, ← FS_len, H3.out.2.1]; have := HA.out.2; omega) (by rw [H3.out.2.1]; exact HA.out.1)).mono ?_
  rintro e w4 ⟨a4, n4, c4, R4, rfl, ho4, hfs4, hb4⟩
  have H4 := Lib.hid (And.intro (ho4.mono (Nat.le_of_lt HGL.out)) (And.intro (hfs4.trans H3.out.2.1) (H3.out.2.2.1.trans (hb4.mono (Nat.le_of_lt HGL.out)))))
  clear ho4 hfs4 hb4
  go_wp2
  go_ret2
  exact ⟨a4, n4, c4, R4, ret_sl HK.out.symm, H4.out.1, H4.out.2.1, H4.out.2.2⟩
set_option maxHeartbeats 8000000 in
theorem merge_any {w : World} {S D S' D' : Nat → Prop} {a b : Option Addr} {n c m d : Nat} {R Q : List Fm} (N : Int) (h : Fts w S D a n R) (hn : n ≤ 200) (hf : FewR R) (h' : Fts w S' D' b m Q) (hm : m ≤ 200) (hf' : FewR Q) :
    Calls Try.prog 32 #[.int .i64 N, .slice a n c, .slice b m d] w (Owns w (La.merge N (FS R) (FS Q))) := by
  have H' := Lib.hid h'.old
  have HLN := Lib.hid (And.intro (show (FS R).length = n by rw [FS_len, h.1]) (show (FS Q).length = m by rw [FS_len, h'.1]))
  have HC := Lib.hid (cloneF_any (c := c) h (by omega))
  have hfew : ∀ f ∈ La.merge N (FS R) (FS Q), f.man.ds.length ≤ 1000 := fun f hfm => by
    rcases La.merge_mem _ hfm with h | h
    · obtain ⟨y, hy, rfl⟩ := List.mem_map.1 h
      have := hf y hy
      omega
    · obtain ⟨y, hy, rfl⟩ := List.mem_map.1 h
      have := hf' y hy
      omega
  have hlen : (La.merge N (FS R) (FS Q)).length ≤ 100000 := by
    have := La.merge_two (N := N) (b := FS Q) (l := FS R) (by rw [HLN.out.1]; exact hn)
    omega
  have HA := Lib.hid (And.intro hfew hlen)
  clear h h' hf hf' hfew hlen
  go_enter Try.func32, Try.ntmps32
  go_wp2_with fail
  refine HC.out.mono ?_
  rintro e w1 ⟨a1, c1, rfl, hl1, hb1⟩
  have HJ0 : Hid (Lay w1 w.heap.size a1 n c1 R ∧ FS R = La.merge N (FS R) ((FS Q).take 0) ∧ Below w.heap.size w w1) := Lib.hid ⟨hl1, rfl, hb1⟩
  clear hl1 hb1 HC
  go_wp2
  generalize hBe : w.heap.size = B at *
  have HBE := Lib.hid hBe
  clear hBe
  go_loopw [7, 9, 14] (fun v _ i wr => ∃ (j n2 c2 : Nat) (a2 : Option Addr) (R2 : List Fm), j ≤ m ∧ n2 ≤ 200 ∧ v = .slice a2 n2 c2 ∧ i = .int .i64 (j : Int) ∧ Hid (Lay wr B a2 n2 c2 R2 ∧ FS R2 = La.merge N (FS R) ((FS Q).take j) ∧ Below B w wr)) (fun _ _ i _ => m - (intOf i).toNat)
  case atStart => exact ⟨0, n, c1, a1, R, Nat.zero_le _, hn, rfl, rfl, HJ0⟩
  case round =>
    clear HJ0
    obtain ⟨j, n2, c2, a2, R2, hj, hn2, rfl, rfl, HJ⟩ := hrel
    have HBW : Hid (B ≤ wr.heap.size) := Lib.hid (Nat.le_trans (by rw [HBE.out]; exact Nat.le_refl _) HJ.out.2.2.size)
    by_cases hlt : j < m
    case neg =>
      have q : ¬ ((j : Int) < (m : Int)) := by omega
      have HE : Hid (FS R2 = La.merge N (FS R) (FS Q)) := Lib.hid (by rw [HJ.out.2.1, List.take_of_length_le (by rw [HLN.out.2]; omega)])
      go_wp2_with fail
      refine (apart_any HJ.out.1 HBW.out (by rw [← HJ.out.1.len, ← FS_len, HE.out]; exact HA.out.2) (by rw [HE.out]; exact HA.out.1)).mono ?_
      rintro e w4 ⟨a4, n4, c4, R4, rfl, ho4, hfs4, hb4⟩
      have H4 := Lib.hid (And.intro ho4 (And.intro (hfs4.trans HE.out) (HJ.out.2.2.trans hb4)))
      clear ho4 hfs4 hb4
      go_wp2
      go_ret
      exact ⟨a4, n4, c4, R4, rfl, by rw [HBE.out]; exact H4.out.1, H4.out.2.1, by rw [HBE.out]; exact H4.out.2.2⟩
    have q : (j : Int) < (m : Int) := by omega
    obtain ⟨b, off, rfl, _, hbl, hrg, hrw⟩ := (H'.out.below HJ.out.2.2 (fun _ _ h => h) (fun _ _ h => h)).at_ hlt
    obtain ⟨y, hy⟩ : ∃ y, Q.getD j d0 = y := ⟨_, rfl⟩
    have hs := merge_snoc N (FS R) (FS Q) (j := j) (by rw [HLN.out.2]; exact hlt)
    rw [FS_get, ← HJ.out.2.1] at hs
    rw [hy] at hrg hrw hs
    have iY := info_fact hrw
    have und := Try.underlying30
    have hfb : FB ((wr.alloc (.cells zf 30)).setRow wr.heap.size (fc y).toArray) wr.heap.size (fc y).toArray y.2 y.1 := fb_put (S := fun b => b < B) rfl hrw.1 hrw.2.1 hrw.2.2 zf
    have HB2 := Lib.hid (show Below wr.heap.size wr ((wr.alloc (.cells zf 30)).setRow wr.heap.size (fc y).toArray) from put_below (Below.refl _ _) (Nat.le_refl _))
    have HF := Lib.hid hfb
    have HY := Lib.hid hrw
    have HYS := Lib.hid (fc_arr hrw)
    have HRG := Lib.hid hrg
    have HS := Lib.hid hs
    clear hs hrw hrg hy hfb
    obtain ⟨Y, hY⟩ : ∃ Y, fc y = Y := ⟨_, rfl⟩
    rw [hY] at HRG iY HYS HF HB2
    have HYE := Lib.hid hY
    clear hY
    go_upto_region 5 with (first
      | ((with_reducible show wpList _ _ _ ((⟨_, Op.load 30 (.tmp 16), _, _, _, _⟩ : Oper) :: _) _ _); refine wpList_load_midG (by rfl) _ (.tmp 16) rfl b (off + j * 38) rfl Y _ HRG.out und rfl iY ?_)
      | ((with_reducible show wpList _ _ _ ((⟨_, Op.store 30 (.tmp 9) _, _, _, _, _⟩ : Oper) :: _) _ _); rw [zeroF]; refine wpList_store_row rfl _ (.tmp 9) (.tmp 17) rfl wr.heap.size Y.toArray rfl rfl 30 _ (Whole.new wr _ _) (by rw [HYS.out.1]; exact info38) (by rw [HYS.out.1]; rfl) HYS.out.2 ?_)
      | fail)
    obtain ⟨w2, hw2⟩ : ∃ w2, (wr.alloc (.cells zf 30)).setRow wr.heap.size Y.toArray = w2 := ⟨_, rfl⟩
    rw [hw2] at HF HB2 ⊢
    clear hw2
    have HJ2 : Hid (Lay w2 B a2 n2 c2 R2 ∧ FS R2 = La.merge N (FS R) ((FS Q).take j) ∧ Below B w w2) := Lib.hid ⟨HJ.out.1.below HB2.out, HJ.out.2.1, HJ.out.2.2.trans (HB2.out.mono HBW.out)⟩
    have HY2 : Hid (Rw w2 (fun b => b < B) y) := Lib.hid (HY.out.below (HB2.out.mono HBW.out) (fun _ _ h => h))
    have HBW2 : Hid (B ≤ w2.heap.size) := Lib.hid (Nat.le_trans HBW.out HB2.out.size)
    clear HJ HBW HB2 HY
    by_cases hfull : 200 ≤ n2
    · have q2 : (n2 : Int) ≥ 200 := by omega
      have HE : Hid (FS R2 = La.merge N (FS R) (FS Q)) := Lib.hid (by
        have h1 := HJ2.out.2.1
        have h2 : FS Q = (FS Q).take j ++ (FS Q).drop j := (List.take_append_drop _ _).symm
        rw [h2, La.merge_append, ← h1, La.merge_full]
        rw [FS_len, HJ2.out.1.len]
        exact hfull)
      have HJ := HJ2
      have HBW := HBW2
      clear hfull HJ2 HBW2
      go_wp2_with fail
      refine (apart_any HJ.out.1 HBW.out (by rw [← HJ.out.1.len, ← FS_len, HE.out]; exact HA.out.2) (by rw [HE.out]; exact HA.out.1)).mono ?_
      rintro e w4 ⟨a4, n4, c4, R4, rfl, ho4, hfs4, hb4⟩
      have H4 := Lib.hid (And.intro ho4 (And.intro (hfs4.trans HE.out) (HJ.out.2.2.trans hb4)))
      clear ho4 hfs4 hb4
      go_wp2
      go_ret
      exact ⟨a4, n4, c4, R4, rfl, by rw [HBE.out]; exact H4.out.1, H4.out.2.1, by rw [HBE.out]; exact H4.out.2.2⟩
    · have q2 : ¬ ((n2 : Int) ≥ 200) := by omega
      have hc5 := with_any HJ2.out.1 HBW2.out (by omega) HY2.out N
      have hln : (La.add N (FS R2) y.1).1.length ≤ 200 := (La.add_len N (FS R2) y.1).2.1 (by rw [FS_len, HJ2.out.1.len]; exact hn2)
      obtain ⟨r, hr⟩ : ∃ r, La.add N (FS R2) y.1 = r := ⟨_, rfl⟩
      rw [hr] at hc5 HS hln
      rw [HYE.out] at hc5
      have HC5 := Lib.hid hc5
      clear hc5 hr hfull
      go_wp2_with (first | ((with_reducible show wpList _ _ _ ((⟨_, Op.load 30 (.tmp 9), _, _, _, _⟩ : Oper) :: _) _ _); refine fb_load HF.out (by rfl) (.tmp 9) rfl rfl ?_) | fail)
      refine HC5.out.mono ?_
      rintro e w5 ⟨a5, n5, c5, R5, rfl, hl5, hfs5, hb5⟩
      have hn5 : n5 ≤ 200 := by rw [← hl5.len, ← FS_len, hfs5]; exact hln
      have HJ5 : Hid (Lay w5 B a5 n5 c5 R5 ∧ FS R5 = La.merge N (FS R) ((FS Q).take (j + 1)) ∧ Below B w w5) := Lib.hid ⟨hl5, by rw [hfs5, HS.out], HJ2.out.2.2.trans hb5⟩
      obtain ⟨k, hk⟩ : ∃ k, r.2 = k := ⟨_, rfl⟩
      rw [hk]
      clear hl5 hfs5 hb5 hk
      go_wp2
      exact ⟨⟨j + 1, n5, c5, a5, R5, by omega, by omega, rfl, by go_num, HJ5⟩, by simp [intOf]; omega⟩
/-- What the package's functions answer. -/
theorem lat : Lat where
  add N h _ hn _ hf hx hfx := add_any N h hn hf hx hfx
  merge N h _ hn _ hf h' _ hm hf' := merge_any N h hn hf h' hm hf'
  has _ k e m h _ hn _ := has_any h (by omega) k e m
  who _ k e h _ hn _ := who_any h (by omega) k e
  mani _ e h _ hn _ hf := mani_any h (by omega) (fun x hx => by have := hf x hx; omega) e
  aborted _ e m h _ hn _ := aborted_any h (by omega) e m
  best N m h _ hn hg := best_any N m h (by omega) hg
  next _ h _ hn _ := next_any h (by omega)
end Go.Proofs.Ytdfmfjahnnifnaa
