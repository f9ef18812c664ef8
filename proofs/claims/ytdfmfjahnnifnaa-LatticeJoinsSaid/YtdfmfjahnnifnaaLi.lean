/-
  The walk of LatticeWho.
-/
import Derived.Test.YtdfmfjahnnifnaaLg
namespace Go.Proofs.Ytdfmfjahnnifnaa
set_option maxRecDepth 20000
set_option linter.unusedSimpArgs false
set_option linter.unusedVariables false
open Go.RowKit Go.Great
theorem range_snoc (p : Nat → Bool) (j : Nat) : ((List.range (j + 1)).filter p).length = ((List.range j).filter p).length + if p j then 1 else 0 := by
  rw [List.range_succ, List.filter_append, List.length_append]
  by_cases h : p j = true
  · simp [List.filter_cons, h]
  · simp [List.filter_cons, h]
theorem rise_getD {l : List Int} (h : l.Pairwise (· < ·)) {i : Nat} (hi : i + 1 < l.length) : l.getD i 0 < l.getD (i + 1) 0 := by
  have := List.pairwise_iff_getElem.1 h i (i + 1) (by omega) hi (by omega)
  simpa [show i < l.length by omega, hi] using this
set_option maxHeartbeats 4000000 in
theorem who_walk (L : Lat) {w : World} {S D : Nat → Prop} {p : Option Addr} {n c : Nat} {R : List Fm} (h : Fts w S D p n R) (N K E M : Int) (hM : In64 M) :
    Calls Try.prog 10 #[.int .i64 N, .slice p n c, .int .i64 K, .int .i64 E, .int .i64 M] w fun e w' => e = .returned (.bool true) ∧ Below w.heap.size w w' := by
  have H := Lib.hid h.old
  clear h
  obtain ⟨hM0, hM1⟩ := hM
  obtain ⟨x, hx⟩ : ∃ x, La.grown N (FS R) 40 = x := ⟨_, rfl⟩
  have HX := Lib.hid hx
  have gx : Gd N x 40 := by rw [← hx]; exact Gd.grown _ _ _
  have GX := Lib.hid gx
  have lx : x.length ≤ 40 := gx.len
  obtain ⟨ws, hws⟩ : ∃ ws, La.who x K E = ws := ⟨_, rfl⟩
  have HWS := Lib.hid hws
  have HR : Hid (ws.Pairwise (· < ·)) := Lib.hid (by rw [← hws]; exact La.who_rise gx.good.rise K E)
  have HMEM : Hid (∀ k, k ∈ ws ↔ La.has x K E k) := Lib.hid (fun k => by rw [← hws]; exact La.mem_who)
  have HIN : Hid (∀ k ∈ ws, 0 ≤ k ∧ k < 9) := Lib.hid (fun k hk => by
    obtain ⟨f, hf, hk⟩ := (HMEM.out k).1 hk
    have := gx.good.ok f hf
    have h1 := this.2.1
    have h2 := this.2.2.1
    have h3 := this.2.2.2.1
    rw [hk.2.2] at h2 h3
    omega)
  have lw : ws.length ≤ 40 := by have := who_len x K E; rw [hws] at this; omega
  clear hx gx hws
  go_enter Try.func10, Try.ntmps10
  go_wp2_with (first | (go_at_call 12; refine (awake_any L _).mono ?_; rintro e w1 ⟨rfl, hb1⟩; have HB1 := Lib.hid hb1; clear hb1) | fail)
  refine (ol_grown40 L (H.out.below HB1.out (fun _ _ h => h) (fun _ _ h => h)) N).mono ?_
  rintro e w2 ⟨ax, nx, cx, rfl, hox, hb2⟩
  rw [HX.out] at hox
  have HO2 := Lib.hid hox
  have HB2 := Lib.hid (HB1.out.trans (hb2.mono HB1.out.size))
  clear hox hb2 HB1 H
  go_wp2_with fail
  refine (ol_who L HO2.out GX.out.good (by omega) K E).mono ?_
  rintro e w3 ⟨aw, nw, cw, rfl, hcw, hnw, hb3⟩
  rw [HWS.out] at hnw
  have HLW := Lib.hid hnw.1
  have hnw40 : nw ≤ 40 := by have := hnw.1; omega
  have HK3 : Hid (OL w3 ax nx cx x ∧ Ns w3 (fun b => b < w3.heap.size) aw nw ws ∧ Below w.heap.size w w3) := Lib.hid ⟨HO2.out.below hb3, hnw.old, HB2.out.trans (hb3.mono HB2.out.size)⟩
  clear hnw hb3 HO2 HB2
  go_wp2
  go_loopw [14] (fun i wr => ∃ j : Nat, j ≤ nw ∧ i = .int .i64 (j : Int) ∧ Hid (OL wr ax nx cx x ∧ Ns wr (fun b => b < wr.heap.size) aw nw ws ∧ Below w.heap.size w wr)) (fun i _ => nw - (intOf i).toNat)
  case atStart => exact ⟨0, Nat.zero_le _, rfl, HK3⟩
  case round =>
    clear HK3
    obtain ⟨j, hj, rfl, HK⟩ := hrel
    by_cases hlt : j < nw
    · have q : (j : Int) < (nw : Int) := by omega
      obtain ⟨g, o, rfl, _, hgl, hcj⟩ := HK.out.2.1.cell hlt
      obtain ⟨y, hy⟩ : ∃ y, ws.getD j 0 = y := ⟨_, rfl⟩
      rw [hy] at hcj
      have HHAS : Hid (decide (La.has x K E y) = true) := Lib.hid (decide_eq_true ((HMEM.out y).1 (by
        have hl : j < ws.length := by rw [HLW.out]; exact hlt
        rw [← hy]; simp [hl])))
      have hcj' : wr.drew.cell? ⟨g, o + j, none⟩ = some (.int .i64 y) := hcj
      by_cases hj0 : j = 0
      · have q0 : ¬ (0 : Int) < (j : Int) := by omega
        clear hy hj0
        go_upto_region 9 with fail
        refine wp_region_held_drew (S := fun w' => w'.cell? ⟨g, o + j, none⟩ = some (.int .i64 y)) (by kernel_rfl) hcj' (fun hHeld => ?_)
        refine wpAnyH_take (i := 0) (v := .int .i64 (j : Int)) rfl (by kernel_rfl) (by kernel_rfl) (by kernel_rfl) (fun _ _ _ h => h) (Or.inl ⟨by rfl, (by intro w hSw; (try dsimp only at hSw); go_simp)⟩) (by assumption) ?_
        try simp only [Act.put, List.getElem_toArray, List.getElem_cons_zero, List.getElem_cons_succ, List.setIfInBounds_toArray, List.set_cons_zero, List.set_cons_succ]
        refine wpAnyH_take (i := 1) (v := .bool false) rfl (by kernel_rfl) (by kernel_rfl) (by kernel_rfl) (fun _ _ _ h => h) (Or.inl ⟨by rfl, (by intro w hSw; go_simp; omega)⟩) (by assumption) ?_
        try simp only [Act.put, List.getElem_toArray, List.getElem_cons_zero, List.getElem_cons_succ, List.setIfInBounds_toArray, List.set_cons_zero, List.set_cons_succ]
        refine wpAnyH_take (i := 2) (v := .bool false) rfl (by kernel_rfl) (by kernel_rfl) (by kernel_rfl) (fun _ _ _ h => h) (Or.inl ⟨by rfl, (by intro w hSw; (try dsimp only at hSw); go_simp)⟩) (by assumption) ?_
        try simp only [Act.put, List.getElem_toArray, List.getElem_cons_zero, List.getElem_cons_succ, List.setIfInBounds_toArray, List.set_cons_zero, List.set_cons_succ]
        refine wpAnyH_take (i := 3) (v := undef) rfl (by kernel_rfl) (by kernel_rfl) (by kernel_rfl) (fun _ _ _ h => h) (Or.inr ⟨by rfl, rfl⟩) (by assumption) ?_
        try simp only [Act.put, List.getElem_toArray, List.getElem_cons_zero, List.getElem_cons_succ, List.setIfInBounds_toArray, List.set_cons_zero, List.set_cons_succ]
        refine wpAnyH_take (i := 4) (v := undef) rfl (by kernel_rfl) (by kernel_rfl) (by kernel_rfl) (fun _ _ _ h => h) (Or.inr ⟨by rfl, rfl⟩) (by assumption) ?_
        try simp only [Act.put, List.getElem_toArray, List.getElem_cons_zero, List.getElem_cons_succ, List.setIfInBounds_toArray, List.set_cons_zero, List.set_cons_succ]
        refine wpAnyH_take (i := 5) (v := undef) rfl (by kernel_rfl) (by kernel_rfl) (by kernel_rfl) (fun _ _ _ h => h) (Or.inr ⟨by rfl, rfl⟩) (by assumption) ?_
        try simp only [Act.put, List.getElem_toArray, List.getElem_cons_zero, List.getElem_cons_succ, List.setIfInBounds_toArray, List.set_cons_zero, List.set_cons_succ]
        refine wpAnyH_take (i := 6) (v := undef) rfl (by kernel_rfl) (by kernel_rfl) (by kernel_rfl) (fun _ _ _ h => h) (Or.inr ⟨by rfl, rfl⟩) (by assumption) ?_
        try simp only [Act.put, List.getElem_toArray, List.getElem_cons_zero, List.getElem_cons_succ, List.setIfInBounds_toArray, List.set_cons_zero, List.set_cons_succ]
        refine wpAnyH_take (i := 7) (v := undef) rfl (by kernel_rfl) (by kernel_rfl) (by kernel_rfl) (fun _ _ _ h => h) (Or.inr ⟨by rfl, rfl⟩) (by assumption) ?_
        try simp only [Act.put, List.getElem_toArray, List.getElem_cons_zero, List.getElem_cons_succ, List.setIfInBounds_toArray, List.set_cons_zero, List.set_cons_succ]
        refine wpAnyH_take (i := 8) (v := undef) rfl (by kernel_rfl) (by kernel_rfl) (by kernel_rfl) (fun _ _ _ h => h) (Or.inr ⟨by rfl, rfl⟩) (by assumption) ?_
        try simp only [Act.put, List.getElem_toArray, List.getElem_cons_zero, List.getElem_cons_succ, List.setIfInBounds_toArray, List.set_cons_zero, List.set_cons_succ]
        refine wpAnyH_take (i := 9) (v := undef) rfl (by kernel_rfl) (by kernel_rfl) (by kernel_rfl) (fun _ _ _ h => h) (Or.inr ⟨by rfl, rfl⟩) (by assumption) ?_
        try simp only [Act.put, List.getElem_toArray, List.getElem_cons_zero, List.getElem_cons_succ, List.setIfInBounds_toArray, List.set_cons_zero, List.set_cons_succ]
        refine wpAnyH_take (i := 10) (v := undef) rfl (by kernel_rfl) (by kernel_rfl) (by kernel_rfl) (fun _ _ _ h => h) (Or.inr ⟨by rfl, rfl⟩) (by assumption) ?_
        try simp only [Act.put, List.getElem_toArray, List.getElem_cons_zero, List.getElem_cons_succ, List.setIfInBounds_toArray, List.set_cons_zero, List.set_cons_succ]
        refine wpAnyH_take (i := 11) (v := undef) rfl (by kernel_rfl) (by kernel_rfl) (by kernel_rfl) (fun _ _ _ h => h) (Or.inr ⟨by rfl, rfl⟩) (by assumption) ?_
        try simp only [Act.put, List.getElem_toArray, List.getElem_cons_zero, List.getElem_cons_succ, List.setIfInBounds_toArray, List.set_cons_zero, List.set_cons_succ]
        refine wpAnyH_take (i := 12) (v := undef) rfl (by kernel_rfl) (by kernel_rfl) (by kernel_rfl) (fun _ _ _ h => h) (Or.inr ⟨by rfl, rfl⟩) (by assumption) ?_
        try simp only [Act.put, List.getElem_toArray, List.getElem_cons_zero, List.getElem_cons_succ, List.setIfInBounds_toArray, List.set_cons_zero, List.set_cons_succ]
        refine wpAnyH_take (i := 13) (v := .bool false) rfl (by kernel_rfl) (by kernel_rfl) (by kernel_rfl) (fun _ _ _ h => h) (Or.inl ⟨by rfl, (by intro w hSw; (try dsimp only at hSw); go_simp)⟩) (by assumption) ?_
        try simp only [Act.put, List.getElem_toArray, List.getElem_cons_zero, List.getElem_cons_succ, List.setIfInBounds_toArray, List.set_cons_zero, List.set_cons_succ]
        refine wpAnyH_take (i := 14) (v := .bool false) rfl (by kernel_rfl) (by kernel_rfl) (by kernel_rfl) (fun _ _ _ h => h) (Or.inl ⟨by rfl, (by intro w hSw; (try dsimp only at hSw); go_simp)⟩) (by assumption) ?_
        try simp only [Act.put, List.getElem_toArray, List.getElem_cons_zero, List.getElem_cons_succ, List.setIfInBounds_toArray, List.set_cons_zero, List.set_cons_succ]
        refine wpAnyH_take (i := 15) (v := .slice ax nx cx) rfl (by kernel_rfl) (by kernel_rfl) (by kernel_rfl) (fun _ _ _ h => h) (Or.inl ⟨by rfl, (by intro w hSw; (try dsimp only at hSw); go_simp)⟩) (by assumption) ?_
        try simp only [Act.put, List.getElem_toArray, List.getElem_cons_zero, List.getElem_cons_succ, List.setIfInBounds_toArray, List.set_cons_zero, List.set_cons_succ]
        refine wpAnyH_take (i := 16) (v := .int .i64 K) rfl (by kernel_rfl) (by kernel_rfl) (by kernel_rfl) (fun _ _ _ h => h) (Or.inl ⟨by rfl, (by intro w hSw; (try dsimp only at hSw); go_simp)⟩) (by assumption) ?_
        try simp only [Act.put, List.getElem_toArray, List.getElem_cons_zero, List.getElem_cons_succ, List.setIfInBounds_toArray, List.set_cons_zero, List.set_cons_succ]
        refine wpAnyH_take (i := 17) (v := .int .i64 E) rfl (by kernel_rfl) (by kernel_rfl) (by kernel_rfl) (fun _ _ _ h => h) (Or.inl ⟨by rfl, (by intro w hSw; (try dsimp only at hSw); go_simp)⟩) (by assumption) ?_
        try simp only [Act.put, List.getElem_toArray, List.getElem_cons_zero, List.getElem_cons_succ, List.setIfInBounds_toArray, List.set_cons_zero, List.set_cons_succ]
        refine wpAnyH_take (i := 18) (v := .slice (some ⟨g, o, none⟩) nw cw) rfl (by kernel_rfl) (by kernel_rfl) (by kernel_rfl) (fun _ _ _ h => h) (Or.inl ⟨by rfl, (by intro w hSw; (try dsimp only at hSw); go_simp)⟩) (by assumption) ?_
        try simp only [Act.put, List.getElem_toArray, List.getElem_cons_zero, List.getElem_cons_succ, List.setIfInBounds_toArray, List.set_cons_zero, List.set_cons_succ]
        refine wpAnyH_take (i := 19) (v := .int .i64 (j : Int)) rfl (by kernel_rfl) (by kernel_rfl) (by kernel_rfl) (fun _ _ _ h => h) (Or.inl ⟨by rfl, (by intro w hSw; (try dsimp only at hSw); go_simp)⟩) (by assumption) ?_
        try simp only [Act.put, List.getElem_toArray, List.getElem_cons_zero, List.getElem_cons_succ, List.setIfInBounds_toArray, List.set_cons_zero, List.set_cons_succ]
        refine wpAnyH_take (i := 20) (v := .pointer (some ⟨g, o + j, none⟩)) rfl (by kernel_rfl) (by kernel_rfl) (by kernel_rfl) (fun _ _ _ h => h) (Or.inl ⟨by rfl, (by intro w hSw; (try dsimp only at hSw); go_simp)⟩) (by assumption) ?_
        try simp only [Act.put, List.getElem_toArray, List.getElem_cons_zero, List.getElem_cons_succ, List.setIfInBounds_toArray, List.set_cons_zero, List.set_cons_succ]
        refine wpAnyH_take (i := 21) (v := .int .i64 y) rfl (by kernel_rfl) (by kernel_rfl) (by kernel_rfl) (fun _ _ _ h => h) (Or.inl ⟨by rfl, (by intro w hSw; (try dsimp only at hSw); go_simp)⟩) (by assumption) ?_
        try simp only [Act.put, List.getElem_toArray, List.getElem_cons_zero, List.getElem_cons_succ, List.setIfInBounds_toArray, List.set_cons_zero, List.set_cons_succ]
        refine wpAnyH_ready (rs := [22]) (by kernel_rfl) (by simp) (AllReadyH.cons rfl (fun K hK => ?_) AllReadyH.nil)
        try simp only [List.getElem_toArray, List.getElem_cons_zero, List.getElem_cons_succ]
        go_simp
        refine (ol_has L (w := wr.drew) (HK.out.1.below (Below.refl _ wr).drew) GX.out.good (by omega) _ _ _).mono ?_
        rintro e v3 ⟨rfl, hb3⟩
        have hb3' : Below wr.heap.size wr v3 := below_drew hb3
        have HK3 : Hid (OL v3 ax nx cx x ∧ Ns v3 (fun b => b < v3.heap.size) (some ⟨g, o, none⟩) nw ws ∧ Below w.heap.size w v3) := Lib.hid ⟨HK.out.1.below hb3', (HK.out.2.1.below hb3' (fun _ h _ => h)).old, HK.out.2.2.trans (hb3'.mono HK.out.2.2.size)⟩
        rw [HHAS.out]
        have r3 : v3.cell? ⟨g, o + j, none⟩ = some (.int .i64 y) := (hb3'.cell (p := ⟨g, o + j, none⟩) hgl).trans hcj
        clear hb3 hb3' hHeld HK
        go_wp2_with fail
        refine hK.out _ _ r3 (fun hHeld => ?_)
        clear hK K hHeld
        try simp only [Act.put, List.getElem_toArray, List.getElem_cons_zero, List.getElem_cons_succ, List.setIfInBounds_toArray, List.set_cons_zero, List.set_cons_succ]
        have hHeld := r3
        refine wpAnyH_take (i := 23) (v := .bool false) rfl (by kernel_rfl) (by kernel_rfl) (by kernel_rfl) (fun _ _ _ h => h) (Or.inl ⟨by rfl, (by intro w hSw; (try dsimp only at hSw); go_simp)⟩) (by assumption) ?_
        try simp only [Act.put, List.getElem_toArray, List.getElem_cons_zero, List.getElem_cons_succ, List.setIfInBounds_toArray, List.set_cons_zero, List.set_cons_succ]
        refine wpAnyH_take (i := 24) (v := .bool false) rfl (by kernel_rfl) (by kernel_rfl) (by kernel_rfl) (fun _ _ _ h => h) (Or.inl ⟨by rfl, (by intro w hSw; (try dsimp only at hSw); go_simp)⟩) (by assumption) ?_
        try simp only [Act.put, List.getElem_toArray, List.getElem_cons_zero, List.getElem_cons_succ, List.setIfInBounds_toArray, List.set_cons_zero, List.set_cons_succ]
        refine wpAnyH_done (by kernel_rfl) ?_ _
        clear hHeld r3
        go_wp2
        exact ⟨⟨j + 1, by omega, by go_num, HK3⟩, by simp [intOf]; omega⟩
      · obtain ⟨i, hi⟩ : ∃ i, j = i + 1 := ⟨j - 1, by omega⟩
        have q0 : (0 : Int) < (j : Int) := by omega
        obtain ⟨z, hz⟩ : ∃ z, ws.getD i 0 = z := ⟨_, rfl⟩
        have hlt9 := rise_getD HR.out (i := i) (by rw [HLW.out]; omega)
        rw [← hi, hy, hz] at hlt9
        obtain ⟨g', o', hg', _, _, hci⟩ := HK.out.2.1.cell (k := i) (by omega)
        injection hg' with hg'
        injection hg' with e1 e2
        subst e1 e2
        rw [hz] at hci
        have hci' : wr.drew.cell? ⟨g, o + i, none⟩ = some (.int .i64 z) := hci
        have q9 : ¬ y ≤ z := by omega
        have qs : (j : Int) - 1 = (i : Int) := by omega
        have hin : i < nw := by omega
        clear hy hz hlt9 hi hj0
        go_upto_region 9 with fail
        refine wp_region_held_drew (S := fun w' => w'.cell? ⟨g, o + j, none⟩ = some (.int .i64 y) ∧ w'.cell? ⟨g, o + i, none⟩ = some (.int .i64 z)) (by kernel_rfl) ⟨hcj', hci'⟩ (fun hHeld => ?_)
        refine wpAnyH_take (i := 0) (v := .int .i64 (j : Int)) rfl (by kernel_rfl) (by kernel_rfl) (by kernel_rfl) (fun _ _ _ h => h) (Or.inl ⟨by rfl, (by intro w hSw; (try dsimp only at hSw); go_simp)⟩) (by assumption) ?_
        try simp only [Act.put, List.getElem_toArray, List.getElem_cons_zero, List.getElem_cons_succ, List.setIfInBounds_toArray, List.set_cons_zero, List.set_cons_succ]
        refine wpAnyH_take (i := 1) (v := .bool true) rfl (by kernel_rfl) (by kernel_rfl) (by kernel_rfl) (fun _ _ _ h => h) (Or.inl ⟨by rfl, (by intro w hSw; go_simp; omega)⟩) (by assumption) ?_
        try simp only [Act.put, List.getElem_toArray, List.getElem_cons_zero, List.getElem_cons_succ, List.setIfInBounds_toArray, List.set_cons_zero, List.set_cons_succ]
        refine wpAnyH_take (i := 2) (v := .bool true) rfl (by kernel_rfl) (by kernel_rfl) (by kernel_rfl) (fun _ _ _ h => h) (Or.inl ⟨by rfl, (by intro w hSw; (try dsimp only at hSw); go_simp)⟩) (by assumption) ?_
        try simp only [Act.put, List.getElem_toArray, List.getElem_cons_zero, List.getElem_cons_succ, List.setIfInBounds_toArray, List.set_cons_zero, List.set_cons_succ]
        refine wpAnyH_take (i := 3) (v := .slice (some ⟨g, o, none⟩) nw cw) rfl (by kernel_rfl) (by kernel_rfl) (by kernel_rfl) (fun _ _ _ h => h) (Or.inl ⟨by rfl, (by intro w hSw; (try dsimp only at hSw); go_simp)⟩) (by assumption) ?_
        try simp only [Act.put, List.getElem_toArray, List.getElem_cons_zero, List.getElem_cons_succ, List.setIfInBounds_toArray, List.set_cons_zero, List.set_cons_succ]
        refine wpAnyH_take (i := 4) (v := .int .i64 (j : Int)) rfl (by kernel_rfl) (by kernel_rfl) (by kernel_rfl) (fun _ _ _ h => h) (Or.inl ⟨by rfl, (by intro w hSw; (try dsimp only at hSw); go_simp)⟩) (by assumption) ?_
        try simp only [Act.put, List.getElem_toArray, List.getElem_cons_zero, List.getElem_cons_succ, List.setIfInBounds_toArray, List.set_cons_zero, List.set_cons_succ]
        refine wpAnyH_take (i := 5) (v := .pointer (some ⟨g, o + j, none⟩)) rfl (by kernel_rfl) (by kernel_rfl) (by kernel_rfl) (fun _ _ _ h => h) (Or.inl ⟨by rfl, (by intro w hSw; (try dsimp only at hSw); go_simp)⟩) (by assumption) ?_
        try simp only [Act.put, List.getElem_toArray, List.getElem_cons_zero, List.getElem_cons_succ, List.setIfInBounds_toArray, List.set_cons_zero, List.set_cons_succ]
        refine wpAnyH_take (i := 6) (v := .int .i64 y) rfl (by kernel_rfl) (by kernel_rfl) (by kernel_rfl) (fun _ _ _ h => h) (Or.inl ⟨by rfl, (by intro w hSw; have hq := hSw.1; clear hSw; go_simp)⟩) (by assumption) ?_
        try simp only [Act.put, List.getElem_toArray, List.getElem_cons_zero, List.getElem_cons_succ, List.setIfInBounds_toArray, List.set_cons_zero, List.set_cons_succ]
        refine wpAnyH_take (i := 7) (v := .slice (some ⟨g, o, none⟩) nw cw) rfl (by kernel_rfl) (by kernel_rfl) (by kernel_rfl) (fun _ _ _ h => h) (Or.inl ⟨by rfl, (by intro w hSw; (try dsimp only at hSw); go_simp)⟩) (by assumption) ?_
        try simp only [Act.put, List.getElem_toArray, List.getElem_cons_zero, List.getElem_cons_succ, List.setIfInBounds_toArray, List.set_cons_zero, List.set_cons_succ]
        refine wpAnyH_take (i := 8) (v := .int .i64 (j : Int)) rfl (by kernel_rfl) (by kernel_rfl) (by kernel_rfl) (fun _ _ _ h => h) (Or.inl ⟨by rfl, (by intro w hSw; (try dsimp only at hSw); go_simp)⟩) (by assumption) ?_
        try simp only [Act.put, List.getElem_toArray, List.getElem_cons_zero, List.getElem_cons_succ, List.setIfInBounds_toArray, List.set_cons_zero, List.set_cons_succ]
        refine wpAnyH_take (i := 9) (v := .int .i64 (i : Int)) rfl (by kernel_rfl) (by kernel_rfl) (by kernel_rfl) (fun _ _ _ h => h) (Or.inl ⟨by rfl, (by intro w hSw; clear hSw; go_simp; exact IntWalk.i64_in _ (by omega))⟩) (by assumption) ?_
        try simp only [Act.put, List.getElem_toArray, List.getElem_cons_zero, List.getElem_cons_succ, List.setIfInBounds_toArray, List.set_cons_zero, List.set_cons_succ]
        refine wpAnyH_take (i := 10) (v := .pointer (some ⟨g, o + i, none⟩)) rfl (by kernel_rfl) (by kernel_rfl) (by kernel_rfl) (fun _ _ _ h => h) (Or.inl ⟨by rfl, (by intro w hSw; (try dsimp only at hSw); go_simp)⟩) (by assumption) ?_
        try simp only [Act.put, List.getElem_toArray, List.getElem_cons_zero, List.getElem_cons_succ, List.setIfInBounds_toArray, List.set_cons_zero, List.set_cons_succ]
        refine wpAnyH_take (i := 11) (v := .int .i64 z) rfl (by kernel_rfl) (by kernel_rfl) (by kernel_rfl) (fun _ _ _ h => h) (Or.inl ⟨by rfl, (by intro w hSw; have hq := hSw.2; clear hSw; go_simp)⟩) (by assumption) ?_
        try simp only [Act.put, List.getElem_toArray, List.getElem_cons_zero, List.getElem_cons_succ, List.setIfInBounds_toArray, List.set_cons_zero, List.set_cons_succ]
        refine wpAnyH_take (i := 12) (v := .bool false) rfl (by kernel_rfl) (by kernel_rfl) (by kernel_rfl) (fun _ _ _ h => h) (Or.inl ⟨by rfl, (by intro w hSw; (try dsimp only at hSw); go_simp)⟩) (by assumption) ?_
        try simp only [Act.put, List.getElem_toArray, List.getElem_cons_zero, List.getElem_cons_succ, List.setIfInBounds_toArray, List.set_cons_zero, List.set_cons_succ]
        refine wpAnyH_take (i := 13) (v := .bool false) rfl (by kernel_rfl) (by kernel_rfl) (by kernel_rfl) (fun _ _ _ h => h) (Or.inl ⟨by rfl, (by intro w hSw; (try dsimp only at hSw); go_simp)⟩) (by assumption) ?_
        try simp only [Act.put, List.getElem_toArray, List.getElem_cons_zero, List.getElem_cons_succ, List.setIfInBounds_toArray, List.set_cons_zero, List.set_cons_succ]
        refine wpAnyH_take (i := 14) (v := .bool false) rfl (by kernel_rfl) (by kernel_rfl) (by kernel_rfl) (fun _ _ _ h => h) (Or.inl ⟨by rfl, (by intro w hSw; (try dsimp only at hSw); go_simp)⟩) (by assumption) ?_
        try simp only [Act.put, List.getElem_toArray, List.getElem_cons_zero, List.getElem_cons_succ, List.setIfInBounds_toArray, List.set_cons_zero, List.set_cons_succ]
        refine wpAnyH_take (i := 15) (v := .slice ax nx cx) rfl (by kernel_rfl) (by kernel_rfl) (by kernel_rfl) (fun _ _ _ h => h) (Or.inl ⟨by rfl, (by intro w hSw; (try dsimp only at hSw); go_simp)⟩) (by assumption) ?_
        try simp only [Act.put, List.getElem_toArray, List.getElem_cons_zero, List.getElem_cons_succ, List.setIfInBounds_toArray, List.set_cons_zero, List.set_cons_succ]
        refine wpAnyH_take (i := 16) (v := .int .i64 K) rfl (by kernel_rfl) (by kernel_rfl) (by kernel_rfl) (fun _ _ _ h => h) (Or.inl ⟨by rfl, (by intro w hSw; (try dsimp only at hSw); go_simp)⟩) (by assumption) ?_
        try simp only [Act.put, List.getElem_toArray, List.getElem_cons_zero, List.getElem_cons_succ, List.setIfInBounds_toArray, List.set_cons_zero, List.set_cons_succ]
        refine wpAnyH_take (i := 17) (v := .int .i64 E) rfl (by kernel_rfl) (by kernel_rfl) (by kernel_rfl) (fun _ _ _ h => h) (Or.inl ⟨by rfl, (by intro w hSw; (try dsimp only at hSw); go_simp)⟩) (by assumption) ?_
        try simp only [Act.put, List.getElem_toArray, List.getElem_cons_zero, List.getElem_cons_succ, List.setIfInBounds_toArray, List.set_cons_zero, List.set_cons_succ]
        refine wpAnyH_take (i := 18) (v := .slice (some ⟨g, o, none⟩) nw cw) rfl (by kernel_rfl) (by kernel_rfl) (by kernel_rfl) (fun _ _ _ h => h) (Or.inl ⟨by rfl, (by intro w hSw; (try dsimp only at hSw); go_simp)⟩) (by assumption) ?_
        try simp only [Act.put, List.getElem_toArray, List.getElem_cons_zero, List.getElem_cons_succ, List.setIfInBounds_toArray, List.set_cons_zero, List.set_cons_succ]
        refine wpAnyH_take (i := 19) (v := .int .i64 (j : Int)) rfl (by kernel_rfl) (by kernel_rfl) (by kernel_rfl) (fun _ _ _ h => h) (Or.inl ⟨by rfl, (by intro w hSw; (try dsimp only at hSw); go_simp)⟩) (by assumption) ?_
        try simp only [Act.put, List.getElem_toArray, List.getElem_cons_zero, List.getElem_cons_succ, List.setIfInBounds_toArray, List.set_cons_zero, List.set_cons_succ]
        refine wpAnyH_take (i := 20) (v := .pointer (some ⟨g, o + j, none⟩)) rfl (by kernel_rfl) (by kernel_rfl) (by kernel_rfl) (fun _ _ _ h => h) (Or.inl ⟨by rfl, (by intro w hSw; (try dsimp only at hSw); go_simp)⟩) (by assumption) ?_
        try simp only [Act.put, List.getElem_toArray, List.getElem_cons_zero, List.getElem_cons_succ, List.setIfInBounds_toArray, List.set_cons_zero, List.set_cons_succ]
        refine wpAnyH_take (i := 21) (v := .int .i64 y) rfl (by kernel_rfl) (by kernel_rfl) (by kernel_rfl) (fun _ _ _ h => h) (Or.inl ⟨by rfl, (by intro w hSw; have hq := hSw.1; clear hSw; go_simp)⟩) (by assumption) ?_
        try simp only [Act.put, List.getElem_toArray, List.getElem_cons_zero, List.getElem_cons_succ, List.setIfInBounds_toArray, List.set_cons_zero, List.set_cons_succ]
        refine wpAnyH_ready (rs := [22]) (by kernel_rfl) (by simp) (AllReadyH.cons rfl (fun K hK => ?_) AllReadyH.nil)
        try simp only [List.getElem_toArray, List.getElem_cons_zero, List.getElem_cons_succ]
        go_simp
        refine (ol_has L (w := wr.drew) (HK.out.1.below (Below.refl _ wr).drew) GX.out.good (by omega) _ _ _).mono ?_
        rintro e v3 ⟨rfl, hb3⟩
        have hb3' : Below wr.heap.size wr v3 := below_drew hb3
        have HK3 : Hid (OL v3 ax nx cx x ∧ Ns v3 (fun b => b < v3.heap.size) (some ⟨g, o, none⟩) nw ws ∧ Below w.heap.size w v3) := Lib.hid ⟨HK.out.1.below hb3', (HK.out.2.1.below hb3' (fun _ h _ => h)).old, HK.out.2.2.trans (hb3'.mono HK.out.2.2.size)⟩
        rw [HHAS.out]
        have r3 : v3.cell? ⟨g, o + j, none⟩ = some (.int .i64 y) ∧ v3.cell? ⟨g, o + i, none⟩ = some (.int .i64 z) := ⟨(hb3'.cell (p := ⟨g, o + j, none⟩) hgl).trans hcj, (hb3'.cell (p := ⟨g, o + i, none⟩) hgl).trans hci⟩
        clear hb3 hb3' hHeld HK
        go_wp2_with fail
        refine hK.out _ _ r3 (fun hHeld => ?_)
        clear hK K hHeld
        try simp only [Act.put, List.getElem_toArray, List.getElem_cons_zero, List.getElem_cons_succ, List.setIfInBounds_toArray, List.set_cons_zero, List.set_cons_succ]
        have hHeld := r3
        refine wpAnyH_take (i := 23) (v := .bool false) rfl (by kernel_rfl) (by kernel_rfl) (by kernel_rfl) (fun _ _ _ h => h) (Or.inl ⟨by rfl, (by intro w hSw; (try dsimp only at hSw); go_simp)⟩) (by assumption) ?_
        try simp only [Act.put, List.getElem_toArray, List.getElem_cons_zero, List.getElem_cons_succ, List.setIfInBounds_toArray, List.set_cons_zero, List.set_cons_succ]
        refine wpAnyH_take (i := 24) (v := .bool false) rfl (by kernel_rfl) (by kernel_rfl) (by kernel_rfl) (fun _ _ _ h => h) (Or.inl ⟨by rfl, (by intro w hSw; (try dsimp only at hSw); go_simp)⟩) (by assumption) ?_
        try simp only [Act.put, List.getElem_toArray, List.getElem_cons_zero, List.getElem_cons_succ, List.setIfInBounds_toArray, List.set_cons_zero, List.set_cons_succ]
        refine wpAnyH_done (by kernel_rfl) ?_ _
        clear hHeld r3
        go_wp2
        exact ⟨⟨j + 1, by omega, by go_num, HK3⟩, by simp [intOf]; omega⟩
    · have q : ¬ ((j : Int) < (nw : Int)) := by omega
      have HK0 : Hid (OL wr ax nx cx x ∧ Below w.heap.size w wr) := Lib.hid ⟨HK.out.1, HK.out.2.2⟩
      clear HK
      go_wp2
      go_loopw [15, 16] (fun v i wr => ∃ j k : Nat, j ≤ 9 ∧ k ≤ j ∧ v = .int .i64 (k : Int) ∧ i = .int .i64 (j : Int) ∧ Hid (((List.range j).filter fun n => decide (((n : Nat) : Int) ∈ ws)).length = k) ∧ Hid (OL wr ax nx cx x ∧ Below w.heap.size w wr)) (fun _ i _ => 9 - (intOf i).toNat)
      case atStart => exact ⟨0, 0, by omega, Nat.le_refl _, rfl, rfl, Lib.hid rfl, HK0⟩
      case round =>
        clear HK0
        obtain ⟨j, k, hj, hkj, rfl, rfl, HC, HK⟩ := hrel
        by_cases hlt : j < 9
        · have q : (j : Int) < (9 : Int) := by omega
          have hs := range_snoc (fun n => decide (((n : Nat) : Int) ∈ ws)) j
          rw [HC.out] at hs
          have HS := Lib.hid hs
          clear hs
          go_wp2_with fail
          refine (ol_has L HK.out.1 GX.out.good (by omega) _ _ _).mono ?_
          rintro e v3 ⟨rfl, hb3⟩
          have HK3 : Hid (OL v3 ax nx cx x ∧ Below w.heap.size w v3) := Lib.hid ⟨HK.out.1.below hb3, HK.out.2.trans (hb3.mono HK.out.2.size)⟩
          clear hb3 HK
          by_cases hh : La.has x K E (j : Int)
          · have HS' : Hid (((List.range (j + 1)).filter fun n => decide (((n : Nat) : Int) ∈ ws)).length = k + 1) := Lib.hid (by rw [HS.out, if_pos (decide_eq_true ((HMEM.out _).2 hh))])
            rw [decide_eq_true hh]
            clear hh HS
            go_wp2
            exact ⟨⟨j + 1, k + 1, by omega, by omega, by go_num, by go_num, HS', HK3⟩, by simp [intOf]; omega⟩
          · have HS' : Hid (((List.range (j + 1)).filter fun n => decide (((n : Nat) : Int) ∈ ws)).length = k) := Lib.hid (by rw [HS.out, if_neg (fun h => hh ((HMEM.out _).1 (of_decide_eq_true h)))]; rfl)
            rw [decide_eq_false hh]
            clear hh HS
            go_wp2
            exact ⟨⟨j + 1, k, by omega, by omega, rfl, by go_num, HS', HK3⟩, by simp [intOf]; omega⟩
        · have q : ¬ (j : Int) < (9 : Int) := by omega
          have hkw : k = nw := by
            have h1 := La.count_rise 9 ws HR.out (fun x hx => HIN.out x hx)
            rw [← HC.out, show j = 9 by omega, h1]
            exact HLW.out
          have d9 : ((k : Int) == (nw : Int)) = true := by rw [hkw]; simp
          have hab : decide (La.aborted x E M) = decide (M ≤ ((La.who x 3 E).length : Nat)) := rfl
          clear hkw
          go_wp2_with fail
          refine (ol_aborted L HK.out.1 GX.out.good (by omega) E M).mono ?_
          rintro e v3 ⟨rfl, hb3⟩
          have HK3 : Hid (OL v3 ax nx cx x ∧ Below w.heap.size w v3) := Lib.hid ⟨HK.out.1.below hb3, HK.out.2.trans (hb3.mono HK.out.2.size)⟩
          clear hb3 HK hab
          by_cases ha : La.aborted x E M
          · have hle : M ≤ 40 := by have h1 := who_len x 3 E; unfold La.aborted at ha; omega
            have HA2 : Hid (decide (La.aborted x E (max M (-1099511627776) - 1)) = true) := Lib.hid (decide_eq_true (by unfold La.aborted at ha ⊢; omega))
            rw [decide_eq_true ha]
            have q2 : ¬ (1099511627776 : Int) < M := by omega
            clear ha
            go_wp2_with fail
            refine (ol_aborted L HK3.out.1 GX.out.good (by omega) _ _).mono ?_
            rintro e v4 ⟨rfl, hb4⟩
            rw [HA2.out]
            have HB4 := Lib.hid (HK3.out.2.trans (hb4.mono HK3.out.2.size))
            clear hb4 HK3
            go_wp2_with fail
            go_ret
            exact ⟨rfl, HB4.out⟩
          · rw [decide_eq_false ha]
            clear ha
            go_wp2_with fail
            go_ret
            exact ⟨rfl, HK3.out.2⟩
end Go.Proofs.Ytdfmfjahnnifnaa
