/-
  The walk of LatticeRises.
-/
import Derived.Test.YtdfmfjahnnifnaaLh
namespace Go.Proofs.Ytdfmfjahnnifnaa
set_option maxRecDepth 20000
set_option linter.unusedSimpArgs false
set_option linter.unusedVariables false
open Go.RowKit Go.Great
/-- What stays while a law looks at two lists of its own and a fact. -/
structure Lk (w wr : World) (a : Option Addr) (n c : Nat) (l : List Ft.Fact) (b : Option Addr) (m d : Nat) (q : List Ft.Fact) (A : Nat) (X M : List Value) (f : Ft.Fact) : Prop where
  one : OL wr a n c l
  two : OL wr b m d q
  fb : FB wr A X.toArray M f
  below : Below w.heap.size w wr
theorem Lk.on {w wr wr' : World} {a b : Option Addr} {n c m d A : Nat} {l q : List Ft.Fact} {X M : List Value} {f : Ft.Fact} (h : Lk w wr a n c l b m d q A X M f) (hb : Below wr.heap.size wr wr') : Lk w wr' a n c l b m d q A X M f :=
  ⟨h.one.below hb, h.two.below hb, h.fb.below hb, h.below.trans (hb.mono h.below.size)⟩
theorem rise_pair {l : List Ft.Fact} (h : La.Rise l) {i : Nat} (hi : i + 1 < l.length) : (l.getD i Ft.nought).less (l.getD (i + 1) Ft.nought) := by
  have := List.pairwise_iff_getElem.1 h i (i + 1) (by omega) hi (by omega)
  simpa [show i < l.length by omega, hi] using this
set_option maxHeartbeats 4000000 in
theorem rises_walk (L : Lat) {w : World} {S D D' : Nat → Prop} {p : Option Addr} {n c : Nat} {R : List Fm} {x : Fm} (h : Fts w S D p n R) (hx : Rw w D' x) (N : Int) :
    Calls Try.prog 7 #[.int .i64 N, .slice p n c, .agg (fc x).toArray] w fun e w' => e = .returned (.bool true) ∧ Below w.heap.size w w' := by
  have hb1 := below_alloc w (.cells (fc x).toArray 30)
  have hfb : FB (w.alloc (.cells (fc x).toArray 30)) w.heap.size (fc x).toArray x.2 x.1 := ⟨Whole.new _ _ _, rfl, (hx.1.old.below hb1 (fun _ _ h => h)).old, hx.2.1, hx.2.2⟩
  have H := Lib.hid h.old
  have HX := Lib.hid hx.old
  have HB1 := Lib.hid hb1
  have HF1 := Lib.hid hfb
  clear hx hb1 hfb h
  obtain ⟨X, hX⟩ : ∃ X, fc x = X := ⟨_, rfl⟩
  rw [hX] at HF1 HB1 ⊢
  have HXE := Lib.hid hX
  clear hX
  obtain ⟨l, hl⟩ : ∃ l, La.grown N (FS R) 40 = l := ⟨_, rfl⟩
  have HL := Lib.hid hl
  have gl : Gd N l 40 := by rw [← hl]; exact Gd.grown _ _ _
  have GL := Lib.hid gl
  have ll : l.length ≤ 40 := gl.len
  obtain ⟨q, hq⟩ : ∃ q, (La.add N l x.1).1 = q := ⟨_, rfl⟩
  obtain ⟨k, hk⟩ : ∃ k, (La.add N l x.1).2 = k := ⟨_, rfl⟩
  have HQE := Lib.hid (And.intro hq hk)
  have HQG : Hid (La.Good N q) := Lib.hid (by rw [← hq]; exact La.add_good gl.good x.1)
  have hql : q.length ≤ l.length + 1 := by rw [← hq]; exact (La.add_len N l x.1).1
  have HSUB : Hid (∀ f ∈ l, La.has q f.kind f.epoch f.node) := Lib.hid (fun f hf => ⟨f, by rw [← hq]; exact La.mem_add hf, rfl, rfl, rfl⟩)
  have HKO : Hid (k = 0 ↔ x.1.ok N) := Lib.hid (by rw [← hk]; exact La.add_short (by omega))
  have HHS : Hid (k = 0 → La.has q x.1.kind x.1.epoch x.1.node) := Lib.hid (fun h => by rw [← hq]; exact (La.add_has (by rw [hk]; exact h)).2)
  clear hl gl hq hk
  generalize hw1 : w.alloc (.cells X.toArray 30) = w1 at *
  go_enter Try.func7, Try.ntmps7
  go_wp2_with fail
  refine (awake_any L _).mono ?_
  rintro e w2 ⟨rfl, hb2⟩
  have HF2 := Lib.hid (HF1.out.below hb2)
  have HB2 := Lib.hid (HB1.out.trans (hb2.mono HB1.out.size))
  clear hb2 HF1 HB1 hw1
  go_wp2_with (first | ((with_reducible show wpList _ _ _ ((⟨_, Op.load 30 (.tmp 5), _, _, _, _⟩ : Oper) :: _) _ _); refine fb_load HF2.out (by rfl) (.tmp 5) rfl rfl ?_) | fail)
  refine (few_any HF2.out.val).mono ?_
  rintro e w3 ⟨rfl, hb3⟩
  have HF3 := Lib.hid (HF2.out.below hb3)
  have HB3 := Lib.hid (HB2.out.trans (hb3.mono HB2.out.size))
  clear hb3 HF2 HB2
  by_cases hfew : x.1.man.ds.length ≤ 100
  case neg =>
    rw [decide_eq_false hfew]
    clear hfew
    go_wp2_with fail
    go_ret
    exact ⟨rfl, HB3.out⟩
  rw [decide_eq_true hfew]
  have HFW := Lib.hid hfew
  clear hfew
  go_wp2_with fail
  refine (ol_grown40 L (H.out.below HB3.out (fun _ _ h => h) (fun _ _ h => h)) N).mono ?_
  rintro e w4 ⟨ax, nx, cx, rfl, hox, hb4⟩
  rw [HL.out] at hox
  have hnx : nx ≤ 40 := by have := hox.len; omega
  have HO4 := Lib.hid (And.intro hox (HF3.out.below hb4))
  have HB4 := Lib.hid (HB3.out.trans (hb4.mono HB3.out.size))
  have HX4 := Lib.hid (HX.out.below HB4.out (fun _ _ h => h))
  clear hox hb4 HF3 HB3 H HX
  go_wp2_with (first | ((with_reducible show wpList _ _ _ ((⟨_, Op.load 30 (.tmp 5), _, _, _, _⟩ : Oper) :: _) _ _); refine fb_load HO4.out.2 (by rfl) (.tmp 5) rfl rfl ?_) | fail)
  refine (ol_add L (N := N) HO4.out.1 GL.out (by omega) HX4.out HFW.out HXE.out).mono ?_
  rintro e w5 ⟨ab, nb, cb, rfl, hob, hb5⟩
  rw [HQE.out.1] at hob
  rw [HQE.out.2]
  have hnb : nb ≤ nx + 1 := by have := hob.len; have := HO4.out.1.len; omega
  have HK5 : Hid (Lk w w5 ax nx cx l ab nb cb q w.heap.size X x.2 x.1) := Lib.hid ⟨HO4.out.1.below hb5, hob, HO4.out.2.below hb5, HB4.out.trans (hb5.mono HB4.out.size)⟩
  clear hob hb5 HO4 HB4 HX4
  go_wp2_with fail
  go_loopw [11] (fun i wr => ∃ j : Nat, j ≤ nb ∧ i = .int .i64 (j : Int) ∧ Hid (Lk w wr ax nx cx l ab nb cb q w.heap.size X x.2 x.1)) (fun i _ => nb - (intOf i).toNat)
  case atStart => exact ⟨0, Nat.zero_le _, rfl, HK5⟩
  case round =>
    clear HK5
    obtain ⟨j, hj, rfl, HK⟩ := hrel
    by_cases hlt : j < nb
    · have q0 : (j : Int) < (nb : Int) := by omega
      obtain ⟨b, off, M1, rfl, hbl, hrg, hrw⟩ := HK.out.two.at_ hlt
      obtain ⟨y, hy⟩ : ∃ y, q.getD j Ft.nought = y := ⟨_, rfl⟩
      rw [hy] at hrg hrw
      have hyq : y ∈ q := by rw [← hy]; exact getD_mem (by have := HK.out.two.len; omega)
      have iY := info_fact hrw
      have und := Try.underlying30
      have HV := Lib.hid hrw.fv
      have HC : Hid (y.chk N = 0) := Lib.hid (Ft.chk_ok (HQG.out.ok y hyq))
      obtain ⟨Y, hY⟩ : ∃ Y, fc (y, M1) = Y := ⟨_, rfl⟩
      rw [hY] at hrg iY HV
      have HRG := Lib.hid (And.intro hrg hbl)
      have rgY : wr.drew.rangeAt b (off + j * 38) Y := hrg
      clear hY hyq hrg hrw
      by_cases hj0 : j = 0
      · have q1 : ¬ (0 : Int) < (j : Int) := by omega
        clear hj0 hy
        go_upto_region 11 with fail
        refine wp_region_held_drew (S := fun w' => w'.rangeAt b (off + j * 38) Y) (by kernel_rfl) rgY (fun hHeld => ?_)
        refine wpAnyH_take (i := 0) (v := .int .i64 N) rfl (by kernel_rfl) (by kernel_rfl) (by kernel_rfl) (fun _ _ _ h => h) (Or.inl ⟨by rfl, (by intro w hSw; (try dsimp only at hSw); go_simp)⟩) (by assumption) ?_
        try simp only [Act.put, List.getElem_toArray, List.getElem_cons_zero, List.getElem_cons_succ, List.setIfInBounds_toArray, List.set_cons_zero, List.set_cons_succ]
        refine wpAnyH_take (i := 1) (v := .slice (some ⟨b, off, none⟩) nb cb) rfl (by kernel_rfl) (by kernel_rfl) (by kernel_rfl) (fun _ _ _ h => h) (Or.inl ⟨by rfl, (by intro w hSw; (try dsimp only at hSw); go_simp)⟩) (by assumption) ?_
        try simp only [Act.put, List.getElem_toArray, List.getElem_cons_zero, List.getElem_cons_succ, List.setIfInBounds_toArray, List.set_cons_zero, List.set_cons_succ]
        refine wpAnyH_take (i := 2) (v := .int .i64 (j : Int)) rfl (by kernel_rfl) (by kernel_rfl) (by kernel_rfl) (fun _ _ _ h => h) (Or.inl ⟨by rfl, (by intro w hSw; (try dsimp only at hSw); go_simp)⟩) (by assumption) ?_
        try simp only [Act.put, List.getElem_toArray, List.getElem_cons_zero, List.getElem_cons_succ, List.setIfInBounds_toArray, List.set_cons_zero, List.set_cons_succ]
        refine wpAnyH_take (i := 3) (v := .pointer (some ⟨b, off + j * 38, none⟩)) rfl (by kernel_rfl) (by kernel_rfl) (by kernel_rfl) (fun _ _ _ h => h) (Or.inl ⟨by rfl, (by intro w hSw; (try dsimp only at hSw); go_simp)⟩) (by assumption) ?_
        try simp only [Act.put, List.getElem_toArray, List.getElem_cons_zero, List.getElem_cons_succ, List.setIfInBounds_toArray, List.set_cons_zero, List.set_cons_succ]
        refine wpAnyH_take (i := 4) (v := .agg Y.toArray) rfl (by kernel_rfl) (by kernel_rfl) (by kernel_rfl) (fun _ _ _ h => h) (yieldsIf_load_mid (by rfl) _ _ rfl _ _ rfl _ _ (fun w hSw => hSw) und rfl iY) (by assumption) ?_
        try simp only [Act.put, List.getElem_toArray, List.getElem_cons_zero, List.getElem_cons_succ, List.setIfInBounds_toArray, List.set_cons_zero, List.set_cons_succ]
        refine wpAnyH_ready (rs := [5]) (by kernel_rfl) (by simp) (AllReadyH.cons rfl (fun K hK => ?_) AllReadyH.nil)
        try simp only [List.getElem_toArray, List.getElem_cons_zero, List.getElem_cons_succ]
        go_simp
        refine (fcheck_any (w := wr.drew) HV.out N).mono ?_
        rintro e v3 ⟨rfl, hb3⟩
        have hb3' : Below wr.heap.size wr v3 := below_drew hb3
        have HK3 := Lib.hid (HK.out.on hb3')
        have r3 : v3.rangeAt b (off + j * 38) Y := range_below HRG.out.1 hb3' HRG.out.2
        rw [HC.out]
        clear hb3 hb3' hHeld HK rgY
        go_wp2_with fail
        refine hK.out _ _ r3 (fun hHeld => ?_)
        clear hK K hHeld
        try simp only [Act.put, List.getElem_toArray, List.getElem_cons_zero, List.getElem_cons_succ, List.setIfInBounds_toArray, List.set_cons_zero, List.set_cons_succ]
        have hHeld := r3
        refine wpAnyH_take (i := 6) (v := .bool false) rfl (by kernel_rfl) (by kernel_rfl) (by kernel_rfl) (fun _ _ _ h => h) (Or.inl ⟨by rfl, (by intro w hSw; (try dsimp only at hSw); go_simp)⟩) (by assumption) ?_
        try simp only [Act.put, List.getElem_toArray, List.getElem_cons_zero, List.getElem_cons_succ, List.setIfInBounds_toArray, List.set_cons_zero, List.set_cons_succ]
        refine wpAnyH_take (i := 7) (v := .bool false) rfl (by kernel_rfl) (by kernel_rfl) (by kernel_rfl) (fun _ _ _ h => h) (Or.inl ⟨by rfl, (by intro w hSw; (try dsimp only at hSw); go_simp)⟩) (by assumption) ?_
        try simp only [Act.put, List.getElem_toArray, List.getElem_cons_zero, List.getElem_cons_succ, List.setIfInBounds_toArray, List.set_cons_zero, List.set_cons_succ]
        refine wpAnyH_take (i := 8) (v := .int .i64 (j : Int)) rfl (by kernel_rfl) (by kernel_rfl) (by kernel_rfl) (fun _ _ _ h => h) (Or.inl ⟨by rfl, (by intro w hSw; (try dsimp only at hSw); go_simp)⟩) (by assumption) ?_
        try simp only [Act.put, List.getElem_toArray, List.getElem_cons_zero, List.getElem_cons_succ, List.setIfInBounds_toArray, List.set_cons_zero, List.set_cons_succ]
        refine wpAnyH_take (i := 9) (v := .bool false) rfl (by kernel_rfl) (by kernel_rfl) (by kernel_rfl) (fun _ _ _ h => h) (Or.inl ⟨by rfl, (by intro w hSw; clear hSw; go_simp; omega)⟩) (by assumption) ?_
        try simp only [Act.put, List.getElem_toArray, List.getElem_cons_zero, List.getElem_cons_succ, List.setIfInBounds_toArray, List.set_cons_zero, List.set_cons_succ]
        refine wpAnyH_take (i := 10) (v := .bool false) rfl (by kernel_rfl) (by kernel_rfl) (by kernel_rfl) (fun _ _ _ h => h) (Or.inl ⟨by rfl, (by intro w hSw; (try dsimp only at hSw); go_simp)⟩) (by assumption) ?_
        try simp only [Act.put, List.getElem_toArray, List.getElem_cons_zero, List.getElem_cons_succ, List.setIfInBounds_toArray, List.set_cons_zero, List.set_cons_succ]
        refine wpAnyH_take (i := 11) (v := undef) rfl (by kernel_rfl) (by kernel_rfl) (by kernel_rfl) (fun _ _ _ h => h) (Or.inr ⟨by rfl, rfl⟩) (by assumption) ?_
        try simp only [Act.put, List.getElem_toArray, List.getElem_cons_zero, List.getElem_cons_succ, List.setIfInBounds_toArray, List.set_cons_zero, List.set_cons_succ]
        refine wpAnyH_take (i := 12) (v := undef) rfl (by kernel_rfl) (by kernel_rfl) (by kernel_rfl) (fun _ _ _ h => h) (Or.inr ⟨by rfl, rfl⟩) (by assumption) ?_
        try simp only [Act.put, List.getElem_toArray, List.getElem_cons_zero, List.getElem_cons_succ, List.setIfInBounds_toArray, List.set_cons_zero, List.set_cons_succ]
        refine wpAnyH_take (i := 13) (v := undef) rfl (by kernel_rfl) (by kernel_rfl) (by kernel_rfl) (fun _ _ _ h => h) (Or.inr ⟨by rfl, rfl⟩) (by assumption) ?_
        try simp only [Act.put, List.getElem_toArray, List.getElem_cons_zero, List.getElem_cons_succ, List.setIfInBounds_toArray, List.set_cons_zero, List.set_cons_succ]
        refine wpAnyH_take (i := 14) (v := undef) rfl (by kernel_rfl) (by kernel_rfl) (by kernel_rfl) (fun _ _ _ h => h) (Or.inr ⟨by rfl, rfl⟩) (by assumption) ?_
        try simp only [Act.put, List.getElem_toArray, List.getElem_cons_zero, List.getElem_cons_succ, List.setIfInBounds_toArray, List.set_cons_zero, List.set_cons_succ]
        refine wpAnyH_take (i := 15) (v := undef) rfl (by kernel_rfl) (by kernel_rfl) (by kernel_rfl) (fun _ _ _ h => h) (Or.inr ⟨by rfl, rfl⟩) (by assumption) ?_
        try simp only [Act.put, List.getElem_toArray, List.getElem_cons_zero, List.getElem_cons_succ, List.setIfInBounds_toArray, List.set_cons_zero, List.set_cons_succ]
        refine wpAnyH_take (i := 16) (v := undef) rfl (by kernel_rfl) (by kernel_rfl) (by kernel_rfl) (fun _ _ _ h => h) (Or.inr ⟨by rfl, rfl⟩) (by assumption) ?_
        try simp only [Act.put, List.getElem_toArray, List.getElem_cons_zero, List.getElem_cons_succ, List.setIfInBounds_toArray, List.set_cons_zero, List.set_cons_succ]
        refine wpAnyH_take (i := 17) (v := undef) rfl (by kernel_rfl) (by kernel_rfl) (by kernel_rfl) (fun _ _ _ h => h) (Or.inr ⟨by rfl, rfl⟩) (by assumption) ?_
        try simp only [Act.put, List.getElem_toArray, List.getElem_cons_zero, List.getElem_cons_succ, List.setIfInBounds_toArray, List.set_cons_zero, List.set_cons_succ]
        refine wpAnyH_take (i := 18) (v := undef) rfl (by kernel_rfl) (by kernel_rfl) (by kernel_rfl) (fun _ _ _ h => h) (Or.inr ⟨by rfl, rfl⟩) (by assumption) ?_
        try simp only [Act.put, List.getElem_toArray, List.getElem_cons_zero, List.getElem_cons_succ, List.setIfInBounds_toArray, List.set_cons_zero, List.set_cons_succ]
        refine wpAnyH_take (i := 19) (v := undef) rfl (by kernel_rfl) (by kernel_rfl) (by kernel_rfl) (fun _ _ _ h => h) (Or.inr ⟨by rfl, rfl⟩) (by assumption) ?_
        try simp only [Act.put, List.getElem_toArray, List.getElem_cons_zero, List.getElem_cons_succ, List.setIfInBounds_toArray, List.set_cons_zero, List.set_cons_succ]
        refine wpAnyH_take (i := 20) (v := undef) rfl (by kernel_rfl) (by kernel_rfl) (by kernel_rfl) (fun _ _ _ h => h) (Or.inr ⟨by rfl, rfl⟩) (by assumption) ?_
        try simp only [Act.put, List.getElem_toArray, List.getElem_cons_zero, List.getElem_cons_succ, List.setIfInBounds_toArray, List.set_cons_zero, List.set_cons_succ]
        refine wpAnyH_take (i := 21) (v := undef) rfl (by kernel_rfl) (by kernel_rfl) (by kernel_rfl) (fun _ _ _ h => h) (Or.inr ⟨by rfl, rfl⟩) (by assumption) ?_
        try simp only [Act.put, List.getElem_toArray, List.getElem_cons_zero, List.getElem_cons_succ, List.setIfInBounds_toArray, List.set_cons_zero, List.set_cons_succ]
        refine wpAnyH_take (i := 22) (v := .bool false) rfl (by kernel_rfl) (by kernel_rfl) (by kernel_rfl) (fun _ _ _ h => h) (Or.inl ⟨by rfl, (by intro w hSw; (try dsimp only at hSw); go_simp)⟩) (by assumption) ?_
        try simp only [Act.put, List.getElem_toArray, List.getElem_cons_zero, List.getElem_cons_succ, List.setIfInBounds_toArray, List.set_cons_zero, List.set_cons_succ]
        refine wpAnyH_take (i := 23) (v := .bool false) rfl (by kernel_rfl) (by kernel_rfl) (by kernel_rfl) (fun _ _ _ h => h) (Or.inl ⟨by rfl, (by intro w hSw; (try dsimp only at hSw); go_simp)⟩) (by assumption) ?_
        try simp only [Act.put, List.getElem_toArray, List.getElem_cons_zero, List.getElem_cons_succ, List.setIfInBounds_toArray, List.set_cons_zero, List.set_cons_succ]
        refine wpAnyH_done (by kernel_rfl) ?_ _
        clear hHeld r3 iY und
        go_wp2_with fail
        exact ⟨⟨j + 1, by omega, by go_num, HK3⟩, by simp [intOf]; omega⟩
      · obtain ⟨i, hi⟩ : ∃ i, j = i + 1 := ⟨j - 1, by omega⟩
        have q1 : (0 : Int) < (j : Int) := by omega
        obtain ⟨b', off', M2, hg', _, hrg2, hrw2⟩ := HK.out.two.at_ (j := i) (by omega)
        injection hg' with hg'
        injection hg' with e1 e2
        subst e1 e2
        obtain ⟨z, hz⟩ : ∃ z, q.getD i Ft.nought = z := ⟨_, rfl⟩
        rw [hz] at hrg2 hrw2
        have HLS : Hid (decide (z.less y) = true) := Lib.hid (decide_eq_true (by
          have := rise_pair HQG.out.rise (i := i) (by have := HK.out.two.len; omega)
          rwa [← hi, hy, hz] at this))
        have iZ := info_fact hrw2
        have HVZ := Lib.hid hrw2
        have HVY := HV
        obtain ⟨Z, hZ⟩ : ∃ Z, fc (z, M2) = Z := ⟨_, rfl⟩
        have HZE := Lib.hid hZ
        rw [hZ] at hrg2 iZ
        have HRG2 := Lib.hid hrg2
        have rgZ : wr.drew.rangeAt b (off + i * 38) Z := hrg2
        have qs : (j : Int) - 1 = (i : Int) := by omega
        have hin : i < nb := by omega
        clear hj0 hy hz hi hZ hrg2 hrw2
        go_upto_region 11 with fail
        refine wp_region_held_drew (S := fun w' => w'.rangeAt b (off + j * 38) Y ∧ w'.rangeAt b (off + i * 38) Z) (by kernel_rfl) ⟨rgY, rgZ⟩ (fun hHeld => ?_)
        refine wpAnyH_take (i := 0) (v := .int .i64 N) rfl (by kernel_rfl) (by kernel_rfl) (by kernel_rfl) (fun _ _ _ h => h) (Or.inl ⟨by rfl, (by intro w hSw; (try dsimp only at hSw); go_simp)⟩) (by assumption) ?_
        try simp only [Act.put, List.getElem_toArray, List.getElem_cons_zero, List.getElem_cons_succ, List.setIfInBounds_toArray, List.set_cons_zero, List.set_cons_succ]
        refine wpAnyH_take (i := 1) (v := .slice (some ⟨b, off, none⟩) nb cb) rfl (by kernel_rfl) (by kernel_rfl) (by kernel_rfl) (fun _ _ _ h => h) (Or.inl ⟨by rfl, (by intro w hSw; (try dsimp only at hSw); go_simp)⟩) (by assumption) ?_
        try simp only [Act.put, List.getElem_toArray, List.getElem_cons_zero, List.getElem_cons_succ, List.setIfInBounds_toArray, List.set_cons_zero, List.set_cons_succ]
        refine wpAnyH_take (i := 2) (v := .int .i64 (j : Int)) rfl (by kernel_rfl) (by kernel_rfl) (by kernel_rfl) (fun _ _ _ h => h) (Or.inl ⟨by rfl, (by intro w hSw; (try dsimp only at hSw); go_simp)⟩) (by assumption) ?_
        try simp only [Act.put, List.getElem_toArray, List.getElem_cons_zero, List.getElem_cons_succ, List.setIfInBounds_toArray, List.set_cons_zero, List.set_cons_succ]
        refine wpAnyH_take (i := 3) (v := .pointer (some ⟨b, off + j * 38, none⟩)) rfl (by kernel_rfl) (by kernel_rfl) (by kernel_rfl) (fun _ _ _ h => h) (Or.inl ⟨by rfl, (by intro w hSw; (try dsimp only at hSw); go_simp)⟩) (by assumption) ?_
        try simp only [Act.put, List.getElem_toArray, List.getElem_cons_zero, List.getElem_cons_succ, List.setIfInBounds_toArray, List.set_cons_zero, List.set_cons_succ]
        refine wpAnyH_take (i := 4) (v := .agg Y.toArray) rfl (by kernel_rfl) (by kernel_rfl) (by kernel_rfl) (fun _ _ _ h => h) (yieldsIf_load_mid (by rfl) _ _ rfl _ _ rfl _ _ (fun w hSw => hSw.1) und rfl iY) (by assumption) ?_
        try simp only [Act.put, List.getElem_toArray, List.getElem_cons_zero, List.getElem_cons_succ, List.setIfInBounds_toArray, List.set_cons_zero, List.set_cons_succ]
        refine wpAnyH_ready (rs := [5]) (by kernel_rfl) (by simp) (AllReadyH.cons rfl (fun K hK => ?_) AllReadyH.nil)
        try simp only [List.getElem_toArray, List.getElem_cons_zero, List.getElem_cons_succ]
        go_simp
        refine (fcheck_any (w := wr.drew) HV.out N).mono ?_
        rintro e v3 ⟨rfl, hb3⟩
        have hb3' : Below wr.heap.size wr v3 := below_drew hb3
        have HK3 := Lib.hid (HK.out.on hb3')
        have HRG3 := Lib.hid (And.intro (range_below HRG.out.1 hb3' HRG.out.2) (And.intro (range_below HRG2.out hb3' HRG.out.2) (Nat.lt_of_lt_of_le HRG.out.2 hb3'.size)))
        have HY3 := Lib.hid (HV.out.old.below hb3' (fun b h _ => h))
        have HZ3 := Lib.hid (HVZ.out.old.below hb3' (fun b h _ => h))
        have r3 : v3.rangeAt b (off + j * 38) Y ∧ v3.rangeAt b (off + i * 38) Z := ⟨HRG3.out.1, HRG3.out.2.1⟩
        rw [HC.out]
        clear hb3 hb3' hHeld HK rgY rgZ HRG HRG2
        go_wp2_with fail
        refine hK.out _ _ r3 (fun hHeld => ?_)
        clear hK K hHeld
        try simp only [Act.put, List.getElem_toArray, List.getElem_cons_zero, List.getElem_cons_succ, List.setIfInBounds_toArray, List.set_cons_zero, List.set_cons_succ]
        have hHeld := r3
        refine wpAnyH_take (i := 6) (v := .bool false) rfl (by kernel_rfl) (by kernel_rfl) (by kernel_rfl) (fun _ _ _ h => h) (Or.inl ⟨by rfl, (by intro w hSw; (try dsimp only at hSw); go_simp)⟩) (by assumption) ?_
        try simp only [Act.put, List.getElem_toArray, List.getElem_cons_zero, List.getElem_cons_succ, List.setIfInBounds_toArray, List.set_cons_zero, List.set_cons_succ]
        refine wpAnyH_take (i := 7) (v := .bool false) rfl (by kernel_rfl) (by kernel_rfl) (by kernel_rfl) (fun _ _ _ h => h) (Or.inl ⟨by rfl, (by intro w hSw; (try dsimp only at hSw); go_simp)⟩) (by assumption) ?_
        try simp only [Act.put, List.getElem_toArray, List.getElem_cons_zero, List.getElem_cons_succ, List.setIfInBounds_toArray, List.set_cons_zero, List.set_cons_succ]
        refine wpAnyH_take (i := 8) (v := .int .i64 (j : Int)) rfl (by kernel_rfl) (by kernel_rfl) (by kernel_rfl) (fun _ _ _ h => h) (Or.inl ⟨by rfl, (by intro w hSw; (try dsimp only at hSw); go_simp)⟩) (by assumption) ?_
        try simp only [Act.put, List.getElem_toArray, List.getElem_cons_zero, List.getElem_cons_succ, List.setIfInBounds_toArray, List.set_cons_zero, List.set_cons_succ]
        refine wpAnyH_take (i := 9) (v := .bool true) rfl (by kernel_rfl) (by kernel_rfl) (by kernel_rfl) (fun _ _ _ h => h) (Or.inl ⟨by rfl, (by intro w hSw; clear hSw; go_simp; omega)⟩) (by assumption) ?_
        try simp only [Act.put, List.getElem_toArray, List.getElem_cons_zero, List.getElem_cons_succ, List.setIfInBounds_toArray, List.set_cons_zero, List.set_cons_succ]
        refine wpAnyH_take (i := 10) (v := .bool true) rfl (by kernel_rfl) (by kernel_rfl) (by kernel_rfl) (fun _ _ _ h => h) (Or.inl ⟨by rfl, (by intro w hSw; (try dsimp only at hSw); go_simp)⟩) (by assumption) ?_
        try simp only [Act.put, List.getElem_toArray, List.getElem_cons_zero, List.getElem_cons_succ, List.setIfInBounds_toArray, List.set_cons_zero, List.set_cons_succ]
        refine wpAnyH_take (i := 11) (v := .slice (some ⟨b, off, none⟩) nb cb) rfl (by kernel_rfl) (by kernel_rfl) (by kernel_rfl) (fun _ _ _ h => h) (Or.inl ⟨by rfl, (by intro w hSw; (try dsimp only at hSw); go_simp)⟩) (by assumption) ?_
        try simp only [Act.put, List.getElem_toArray, List.getElem_cons_zero, List.getElem_cons_succ, List.setIfInBounds_toArray, List.set_cons_zero, List.set_cons_succ]
        refine wpAnyH_take (i := 12) (v := .int .i64 (j : Int)) rfl (by kernel_rfl) (by kernel_rfl) (by kernel_rfl) (fun _ _ _ h => h) (Or.inl ⟨by rfl, (by intro w hSw; (try dsimp only at hSw); go_simp)⟩) (by assumption) ?_
        try simp only [Act.put, List.getElem_toArray, List.getElem_cons_zero, List.getElem_cons_succ, List.setIfInBounds_toArray, List.set_cons_zero, List.set_cons_succ]
        refine wpAnyH_take (i := 13) (v := .int .i64 (i : Int)) rfl (by kernel_rfl) (by kernel_rfl) (by kernel_rfl) (fun _ _ _ h => h) (Or.inl ⟨by rfl, (by intro w hSw; clear hSw; go_simp; exact IntWalk.i64_in _ (by omega))⟩) (by assumption) ?_
        try simp only [Act.put, List.getElem_toArray, List.getElem_cons_zero, List.getElem_cons_succ, List.setIfInBounds_toArray, List.set_cons_zero, List.set_cons_succ]
        refine wpAnyH_take (i := 14) (v := .pointer (some ⟨b, off + i * 38, none⟩)) rfl (by kernel_rfl) (by kernel_rfl) (by kernel_rfl) (fun _ _ _ h => h) (Or.inl ⟨by rfl, (by intro w hSw; (try dsimp only at hSw); go_simp)⟩) (by assumption) ?_
        try simp only [Act.put, List.getElem_toArray, List.getElem_cons_zero, List.getElem_cons_succ, List.setIfInBounds_toArray, List.set_cons_zero, List.set_cons_succ]
        refine wpAnyH_take (i := 15) (v := .agg Z.toArray) rfl (by kernel_rfl) (by kernel_rfl) (by kernel_rfl) (fun _ _ _ h => h) (yieldsIf_load_mid (by rfl) _ _ rfl _ _ rfl _ _ (fun w hSw => hSw.2) und rfl iZ) (by assumption) ?_
        try simp only [Act.put, List.getElem_toArray, List.getElem_cons_zero, List.getElem_cons_succ, List.setIfInBounds_toArray, List.set_cons_zero, List.set_cons_succ]
        refine wpAnyH_take (i := 16) (v := .slice (some ⟨b, off, none⟩) nb cb) rfl (by kernel_rfl) (by kernel_rfl) (by kernel_rfl) (fun _ _ _ h => h) (Or.inl ⟨by rfl, (by intro w hSw; (try dsimp only at hSw); go_simp)⟩) (by assumption) ?_
        try simp only [Act.put, List.getElem_toArray, List.getElem_cons_zero, List.getElem_cons_succ, List.setIfInBounds_toArray, List.set_cons_zero, List.set_cons_succ]
        refine wpAnyH_take (i := 17) (v := .int .i64 (j : Int)) rfl (by kernel_rfl) (by kernel_rfl) (by kernel_rfl) (fun _ _ _ h => h) (Or.inl ⟨by rfl, (by intro w hSw; (try dsimp only at hSw); go_simp)⟩) (by assumption) ?_
        try simp only [Act.put, List.getElem_toArray, List.getElem_cons_zero, List.getElem_cons_succ, List.setIfInBounds_toArray, List.set_cons_zero, List.set_cons_succ]
        refine wpAnyH_take (i := 18) (v := .pointer (some ⟨b, off + j * 38, none⟩)) rfl (by kernel_rfl) (by kernel_rfl) (by kernel_rfl) (fun _ _ _ h => h) (Or.inl ⟨by rfl, (by intro w hSw; (try dsimp only at hSw); go_simp)⟩) (by assumption) ?_
        try simp only [Act.put, List.getElem_toArray, List.getElem_cons_zero, List.getElem_cons_succ, List.setIfInBounds_toArray, List.set_cons_zero, List.set_cons_succ]
        refine wpAnyH_take (i := 19) (v := .agg Y.toArray) rfl (by kernel_rfl) (by kernel_rfl) (by kernel_rfl) (fun _ _ _ h => h) (yieldsIf_load_mid (by rfl) _ _ rfl _ _ rfl _ _ (fun w hSw => hSw.1) und rfl iY) (by assumption) ?_
        try simp only [Act.put, List.getElem_toArray, List.getElem_cons_zero, List.getElem_cons_succ, List.setIfInBounds_toArray, List.set_cons_zero, List.set_cons_succ]
        refine wpAnyH_ready (rs := [20]) (by kernel_rfl) (by simp) (AllReadyH.cons rfl (fun K hK => ?_) AllReadyH.nil)
        try simp only [List.getElem_toArray, List.getElem_cons_zero, List.getElem_cons_succ]
        go_simp
        refine (fless_any (show Fv v3 _ (.agg Z.toArray) z by rw [← HZE.out]; exact HZ3.out.fv) HY3.out).mono ?_
        rintro e v4 ⟨rfl, hb4⟩
        have HK4 := Lib.hid (HK3.out.on hb4)
        have r4 : v4.rangeAt b (off + j * 38) Y ∧ v4.rangeAt b (off + i * 38) Z := ⟨range_below HRG3.out.1 hb4 HRG3.out.2.2, range_below HRG3.out.2.1 hb4 HRG3.out.2.2⟩
        rw [HLS.out]
        clear hb4 hHeld HK3 r3 HRG3 HY3 HZ3
        go_wp2_with fail
        refine hK.out _ _ r4 (fun hHeld => ?_)
        clear hK K hHeld
        try simp only [Act.put, List.getElem_toArray, List.getElem_cons_zero, List.getElem_cons_succ, List.setIfInBounds_toArray, List.set_cons_zero, List.set_cons_succ]
        have hHeld := r4
        refine wpAnyH_take (i := 21) (v := .bool false) rfl (by kernel_rfl) (by kernel_rfl) (by kernel_rfl) (fun _ _ _ h => h) (Or.inl ⟨by rfl, (by intro w hSw; (try dsimp only at hSw); go_simp)⟩) (by assumption) ?_
        try simp only [Act.put, List.getElem_toArray, List.getElem_cons_zero, List.getElem_cons_succ, List.setIfInBounds_toArray, List.set_cons_zero, List.set_cons_succ]
        refine wpAnyH_take (i := 22) (v := .bool false) rfl (by kernel_rfl) (by kernel_rfl) (by kernel_rfl) (fun _ _ _ h => h) (Or.inl ⟨by rfl, (by intro w hSw; (try dsimp only at hSw); go_simp)⟩) (by assumption) ?_
        try simp only [Act.put, List.getElem_toArray, List.getElem_cons_zero, List.getElem_cons_succ, List.setIfInBounds_toArray, List.set_cons_zero, List.set_cons_succ]
        refine wpAnyH_take (i := 23) (v := .bool false) rfl (by kernel_rfl) (by kernel_rfl) (by kernel_rfl) (fun _ _ _ h => h) (Or.inl ⟨by rfl, (by intro w hSw; (try dsimp only at hSw); go_simp)⟩) (by assumption) ?_
        try simp only [Act.put, List.getElem_toArray, List.getElem_cons_zero, List.getElem_cons_succ, List.setIfInBounds_toArray, List.set_cons_zero, List.set_cons_succ]
        refine wpAnyH_done (by kernel_rfl) ?_ _
        clear hHeld r4 iY iZ und
        go_wp2_with fail
        exact ⟨⟨j + 1, by omega, by go_num, HK4⟩, by simp [intOf]; omega⟩
    · have q0 : ¬ ((j : Int) < (nb : Int)) := by omega
      clear q0
      go_wp2_with fail
      go_loopw [12] (fun i wr => ∃ j : Nat, j ≤ nx ∧ i = .int .i64 (j : Int) ∧ Hid (Lk w wr ax nx cx l ab nb cb q w.heap.size X x.2 x.1)) (fun i _ => nx - (intOf i).toNat)
      case atStart => exact ⟨0, Nat.zero_le _, rfl, HK⟩
      case round =>
        clear HK
        obtain ⟨j, hj, rfl, HK⟩ := hrel
        by_cases hlt : j < nx
        · have q0 : (j : Int) < (nx : Int) := by omega
          obtain ⟨b, off, M1, rfl, hbl, hrg, hrw⟩ := HK.out.one.at_ hlt
          have hyl : l.getD j Ft.nought ∈ l := getD_mem (by have := HK.out.one.len; omega)
          generalize l.getD j Ft.nought = y at *
          obtain ⟨yk, ye, yn, ym⟩ := y
          have HH : Hid (decide (La.has q yk ye yn) = true) := Lib.hid (decide_eq_true (HSUB.out _ hyl))
          have c0 : wr.cell? ⟨b, off + j * 38, none⟩ = some (.int .i64 yk) := range_c0 hrg
          have c1 : wr.cell? ⟨b, off + j * 38 + 1, none⟩ = some (.int .i64 ye) := range_c1 hrg
          have c2 : wr.cell? ⟨b, off + j * 38 + 2, none⟩ = some (.int .i64 yn) := range_c2 hrg
          have HCC := Lib.hid (And.intro c0 (And.intro c1 (And.intro c2 hbl)))
          have rg : wr.drew.cell? ⟨b, off + j * 38, none⟩ = some (.int .i64 yk) ∧ wr.drew.cell? ⟨b, off + j * 38 + 1, none⟩ = some (.int .i64 ye) ∧ wr.drew.cell? ⟨b, off + j * 38 + 2, none⟩ = some (.int .i64 yn) := ⟨c0, c1, c2⟩
          clear hrg hrw hyl c0 c1 c2 hbl
          go_upto_region 16 with fail
          refine wp_region_held_drew (S := fun w' => w'.cell? ⟨b, off + j * 38, none⟩ = some (.int .i64 yk) ∧ w'.cell? ⟨b, off + j * 38 + 1, none⟩ = some (.int .i64 ye) ∧ w'.cell? ⟨b, off + j * 38 + 2, none⟩ = some (.int .i64 yn)) (by kernel_rfl) rg (fun hHeld => ?_)
          refine wpAnyH_take (i := 0) (v := .slice ab nb cb) rfl (by kernel_rfl) (by kernel_rfl) (by kernel_rfl) (fun _ _ _ h => h) (Or.inl ⟨by rfl, (by intro w hSw; (try dsimp only at hSw); go_simp)⟩) (by assumption) ?_
          try simp only [Act.put, List.getElem_toArray, List.getElem_cons_zero, List.getElem_cons_succ, List.setIfInBounds_toArray, List.set_cons_zero, List.set_cons_succ]
          refine wpAnyH_take (i := 1) (v := .slice (some ⟨b, off, none⟩) nx cx) rfl (by kernel_rfl) (by kernel_rfl) (by kernel_rfl) (fun _ _ _ h => h) (Or.inl ⟨by rfl, (by intro w hSw; (try dsimp only at hSw); go_simp)⟩) (by assumption) ?_
          try simp only [Act.put, List.getElem_toArray, List.getElem_cons_zero, List.getElem_cons_succ, List.setIfInBounds_toArray, List.set_cons_zero, List.set_cons_succ]
          refine wpAnyH_take (i := 2) (v := .int .i64 (j : Int)) rfl (by kernel_rfl) (by kernel_rfl) (by kernel_rfl) (fun _ _ _ h => h) (Or.inl ⟨by rfl, (by intro w hSw; (try dsimp only at hSw); go_simp)⟩) (by assumption) ?_
          try simp only [Act.put, List.getElem_toArray, List.getElem_cons_zero, List.getElem_cons_succ, List.setIfInBounds_toArray, List.set_cons_zero, List.set_cons_succ]
          refine wpAnyH_take (i := 3) (v := .pointer (some ⟨b, off + j * 38, none⟩)) rfl (by kernel_rfl) (by kernel_rfl) (by kernel_rfl) (fun _ _ _ h => h) (Or.inl ⟨by rfl, (by intro w hSw; (try dsimp only at hSw); go_simp)⟩) (by assumption) ?_
          try simp only [Act.put, List.getElem_toArray, List.getElem_cons_zero, List.getElem_cons_succ, List.setIfInBounds_toArray, List.set_cons_zero, List.set_cons_succ]
          refine wpAnyH_take (i := 4) (v := .pointer (some ⟨b, off + j * 38, none⟩)) rfl (by kernel_rfl) (by kernel_rfl) (by kernel_rfl) (fun _ _ _ h => h) (Or.inl ⟨by rfl, (by intro w hSw; (try dsimp only at hSw); go_simp)⟩) (by assumption) ?_
          try simp only [Act.put, List.getElem_toArray, List.getElem_cons_zero, List.getElem_cons_succ, List.setIfInBounds_toArray, List.set_cons_zero, List.set_cons_succ]
          refine wpAnyH_take (i := 5) (v := .int .i64 yk) rfl (by kernel_rfl) (by kernel_rfl) (by kernel_rfl) (fun _ _ _ h => h) (Or.inl ⟨by rfl, (by intro w hSw; (try dsimp only at hSw); go_simp)⟩) (by assumption) ?_
          try simp only [Act.put, List.getElem_toArray, List.getElem_cons_zero, List.getElem_cons_succ, List.setIfInBounds_toArray, List.set_cons_zero, List.set_cons_succ]
          refine wpAnyH_take (i := 6) (v := .slice (some ⟨b, off, none⟩) nx cx) rfl (by kernel_rfl) (by kernel_rfl) (by kernel_rfl) (fun _ _ _ h => h) (Or.inl ⟨by rfl, (by intro w hSw; (try dsimp only at hSw); go_simp)⟩) (by assumption) ?_
          try simp only [Act.put, List.getElem_toArray, List.getElem_cons_zero, List.getElem_cons_succ, List.setIfInBounds_toArray, List.set_cons_zero, List.set_cons_succ]
          refine wpAnyH_take (i := 7) (v := .int .i64 (j : Int)) rfl (by kernel_rfl) (by kernel_rfl) (by kernel_rfl) (fun _ _ _ h => h) (Or.inl ⟨by rfl, (by intro w hSw; (try dsimp only at hSw); go_simp)⟩) (by assumption) ?_
          try simp only [Act.put, List.getElem_toArray, List.getElem_cons_zero, List.getElem_cons_succ, List.setIfInBounds_toArray, List.set_cons_zero, List.set_cons_succ]
          refine wpAnyH_take (i := 8) (v := .pointer (some ⟨b, off + j * 38, none⟩)) rfl (by kernel_rfl) (by kernel_rfl) (by kernel_rfl) (fun _ _ _ h => h) (Or.inl ⟨by rfl, (by intro w hSw; (try dsimp only at hSw); go_simp)⟩) (by assumption) ?_
          try simp only [Act.put, List.getElem_toArray, List.getElem_cons_zero, List.getElem_cons_succ, List.setIfInBounds_toArray, List.set_cons_zero, List.set_cons_succ]
          refine wpAnyH_take (i := 9) (v := .pointer (some ⟨b, off + j * 38 + 1, none⟩)) rfl (by kernel_rfl) (by kernel_rfl) (by kernel_rfl) (fun _ _ _ h => h) (Or.inl ⟨by rfl, (by intro w hSw; (try dsimp only at hSw); go_simp)⟩) (by assumption) ?_
          try simp only [Act.put, List.getElem_toArray, List.getElem_cons_zero, List.getElem_cons_succ, List.setIfInBounds_toArray, List.set_cons_zero, List.set_cons_succ]
          refine wpAnyH_take (i := 10) (v := .int .i64 ye) rfl (by kernel_rfl) (by kernel_rfl) (by kernel_rfl) (fun _ _ _ h => h) (Or.inl ⟨by rfl, (by intro w hSw; (try dsimp only at hSw); go_simp)⟩) (by assumption) ?_
          try simp only [Act.put, List.getElem_toArray, List.getElem_cons_zero, List.getElem_cons_succ, List.setIfInBounds_toArray, List.set_cons_zero, List.set_cons_succ]
          refine wpAnyH_take (i := 11) (v := .slice (some ⟨b, off, none⟩) nx cx) rfl (by kernel_rfl) (by kernel_rfl) (by kernel_rfl) (fun _ _ _ h => h) (Or.inl ⟨by rfl, (by intro w hSw; (try dsimp only at hSw); go_simp)⟩) (by assumption) ?_
          try simp only [Act.put, List.getElem_toArray, List.getElem_cons_zero, List.getElem_cons_succ, List.setIfInBounds_toArray, List.set_cons_zero, List.set_cons_succ]
          refine wpAnyH_take (i := 12) (v := .int .i64 (j : Int)) rfl (by kernel_rfl) (by kernel_rfl) (by kernel_rfl) (fun _ _ _ h => h) (Or.inl ⟨by rfl, (by intro w hSw; (try dsimp only at hSw); go_simp)⟩) (by assumption) ?_
          try simp only [Act.put, List.getElem_toArray, List.getElem_cons_zero, List.getElem_cons_succ, List.setIfInBounds_toArray, List.set_cons_zero, List.set_cons_succ]
          refine wpAnyH_take (i := 13) (v := .pointer (some ⟨b, off + j * 38, none⟩)) rfl (by kernel_rfl) (by kernel_rfl) (by kernel_rfl) (fun _ _ _ h => h) (Or.inl ⟨by rfl, (by intro w hSw; (try dsimp only at hSw); go_simp)⟩) (by assumption) ?_
          try simp only [Act.put, List.getElem_toArray, List.getElem_cons_zero, List.getElem_cons_succ, List.setIfInBounds_toArray, List.set_cons_zero, List.set_cons_succ]
          refine wpAnyH_take (i := 14) (v := .pointer (some ⟨b, off + j * 38 + 2, none⟩)) rfl (by kernel_rfl) (by kernel_rfl) (by kernel_rfl) (fun _ _ _ h => h) (Or.inl ⟨by rfl, (by intro w hSw; (try dsimp only at hSw); go_simp)⟩) (by assumption) ?_
          try simp only [Act.put, List.getElem_toArray, List.getElem_cons_zero, List.getElem_cons_succ, List.setIfInBounds_toArray, List.set_cons_zero, List.set_cons_succ]
          refine wpAnyH_take (i := 15) (v := .int .i64 yn) rfl (by kernel_rfl) (by kernel_rfl) (by kernel_rfl) (fun _ _ _ h => h) (Or.inl ⟨by rfl, (by intro w hSw; (try dsimp only at hSw); go_simp)⟩) (by assumption) ?_
          try simp only [Act.put, List.getElem_toArray, List.getElem_cons_zero, List.getElem_cons_succ, List.setIfInBounds_toArray, List.set_cons_zero, List.set_cons_succ]
          refine wpAnyH_ready (rs := [16]) (by kernel_rfl) (by simp) (AllReadyH.cons rfl (fun K hK => ?_) AllReadyH.nil)
          try simp only [List.getElem_toArray, List.getElem_cons_zero, List.getElem_cons_succ]
          go_simp
          refine (ol_has L (w := wr.drew) (HK.out.two.below (Below.refl _ wr).drew) HQG.out (by omega) _ _ _).mono ?_
          rintro e v3 ⟨rfl, hb3⟩
          have hb3' : Below wr.heap.size wr v3 := below_drew hb3
          have HK3 := Lib.hid (HK.out.on hb3')
          have r3 : v3.cell? ⟨b, off + j * 38, none⟩ = some (.int .i64 yk) ∧ v3.cell? ⟨b, off + j * 38 + 1, none⟩ = some (.int .i64 ye) ∧ v3.cell? ⟨b, off + j * 38 + 2, none⟩ = some (.int .i64 yn) := ⟨(hb3'.cell (p := ⟨b, off + j * 38, none⟩) HCC.out.2.2.2).trans HCC.out.1, (hb3'.cell (p := ⟨b, off + j * 38 + 1, none⟩) HCC.out.2.2.2).trans HCC.out.2.1, (hb3'.cell (p := ⟨b, off + j * 38 + 2, none⟩) HCC.out.2.2.2).trans HCC.out.2.2.1⟩
          rw [HH.out]
          clear hb3 hb3' hHeld HK rg
          go_wp2_with fail
          refine hK.out _ _ r3 (fun hHeld => ?_)
          clear hK K hHeld
          try simp only [Act.put, List.getElem_toArray, List.getElem_cons_zero, List.getElem_cons_succ, List.setIfInBounds_toArray, List.set_cons_zero, List.set_cons_succ]
          have hHeld := r3
          refine wpAnyH_take (i := 17) (v := .bool false) rfl (by kernel_rfl) (by kernel_rfl) (by kernel_rfl) (fun _ _ _ h => h) (Or.inl ⟨by rfl, (by intro w hSw; (try dsimp only at hSw); go_simp)⟩) (by assumption) ?_
          try simp only [Act.put, List.getElem_toArray, List.getElem_cons_zero, List.getElem_cons_succ, List.setIfInBounds_toArray, List.set_cons_zero, List.set_cons_succ]
          refine wpAnyH_done (by kernel_rfl) ?_ _
          clear hHeld r3
          go_wp2_with fail
          exact ⟨⟨j + 1, by omega, by go_num, HK3⟩, by simp [intOf]; omega⟩
        · have q0 : ¬ ((j : Int) < (nx : Int)) := by omega
          have d9 : decide ((nb : Int) ≤ (nx : Int) + 1) = true := decide_eq_true (by omega)
          go_wp2_with (first | ((with_reducible show wpList _ _ _ ((⟨_, Op.load 30 (.tmp 5), _, _, _, _⟩ : Oper) :: _) _ _); refine fb_load HK.out.fb (by rfl) (.tmp 5) rfl rfl ?_) | fail)
          refine (fcheck_any HK.out.fb.val N).mono ?_
          rintro e v3 ⟨rfl, hb3⟩
          have HK3 := Lib.hid (HK.out.on hb3)
          clear hb3 HK
          by_cases hok : x.1.ok N
          · have hk0 : k = 0 := HKO.out.2 hok
            have HHH : Hid (decide (La.has q x.1.kind x.1.epoch x.1.node) = true) := Lib.hid (decide_eq_true (HHS.out hk0))
            rw [Ft.chk_ok hok]
            subst hk0
            clear hok
            have k0 := HK3.out.fb.c0
            have k1 := HK3.out.fb.c1
            have k2 := HK3.out.fb.c2
            go_wp2_with fail
            refine (ol_has L HK3.out.two HQG.out (by omega) _ _ _).mono ?_
            rintro e v4 ⟨rfl, hb4⟩
            rw [HHH.out]
            have HB4 := Lib.hid (HK3.out.below.trans (hb4.mono HK3.out.below.size))
            clear hb4 HK3 k0 k1 k2
            go_wp2_with fail
            go_ret
            exact ⟨rfl, HB4.out⟩
          · have hk0 : (k == 0) = false := by simp; exact fun h => hok (HKO.out.1 h)
            have hk1 : (k != 0) = true := by simp; exact fun h => hok (HKO.out.1 h)
            rw [Ft.chk_no hok]
            clear hok
            go_wp2_with fail
            go_ret
            exact ⟨rfl, HK3.out.below⟩
end Go.Proofs.Ytdfmfjahnnifnaa
