/-
  The walk of Did: a disk and the document's do one thing alike.
-/
import Derived.Test.YtfhaipeimpaeiaaYd
namespace Go.Proofs.Ytfhaipeimpaeiaa
open Go.RowKit
set_option linter.unusedVariables false
set_option linter.unusedSimpArgs false
/-- A disk and the document's, side by side. -/
structure Two (w : World) (B p bb mb r n : Nat) (A : Dm.A) : Prop where
  d : Dk w p bb mb A n
  r : ∃ vL vN vD, Rk w B r vL vN vD A n
  p : B ≤ p ∧ B ≤ bb ∧ B ≤ mb
  size : B ≤ w.heap.size
theorem Two.below {w w' : World} {B p bb mb r n : Nat} {A : Dm.A} (h : Two w B p bb mb r n A) (hb : Below w.heap.size w w') : Two w' B p bb mb r n A := by
  obtain ⟨vL, vN, vD, hr⟩ := h.r
  exact ⟨h.d.old hb, ⟨vL, vN, vD, hr.below hb⟩, h.p, by have := hb.size; have := h.size; omega⟩
theorem Two.steps {w w1 w2 : World} {B p bb mb r n : Nat} {A A' : Dm.A} (h : Two w B p bb mb r n A) (hd : Dk w1 p bb mb A' n) (ho : Only [p, bb, mb] w w1) (hr : ∃ vL vN vD, Rk w2 B r vL vN vD A' n) (hrf : RF B w1 w2) : Two w2 B p bb mb r n A' ∧ Below B w w2 :=
  ⟨⟨hrf.dk hd, hr, h.p, by have := ho.size; have := hrf.size; have := h.size; omega⟩, (ho.below h.size (fun j hj => by have := h.p; simp at hj; omega)).trans (hrf.below (by have := ho.size; have := h.size; omega))⟩
theorem cc_range {w : World} {g : Nat} {t : TypeId} {c : Cl} {v : Value} (h : Whole w g t (ccells c v).toArray) (hb : c.b.length = 64) : w.rangeAt g 2 (nums c.b) := fun j x hx => by
  rw [h.cell, List.getElem?_toArray, Nat.add_comm 2 j]
  unfold ccells
  simp only [List.getElem?_cons_succ]
  rw [List.getElem?_append_left (List.getElem?_eq_some_iff.1 hx).1]
  exact hx
theorem cc_last {w : World} {g : Nat} {t : TypeId} {c : Cl} {v : Value} (h : Whole w g t (ccells c v).toArray) (hb : c.b.length = 64) : w.cell? ⟨g, 66, none⟩ = some v := by
  rw [h.cell, List.getElem?_toArray]
  unfold ccells
  rw [show (66 : Nat) = 64 + 1 + 1 by rfl]
  simp only [List.getElem?_cons_succ]
  rw [List.getElem?_append_right (by rw [nums_len, hb]; omega), nums_len, hb]
  rfl
set_option maxHeartbeats 8000000 in
set_option maxRecDepth 100000 in
theorem did_any {w : World} {B p bb mb r n fl fc : Nat} {fa : Option Addr} {A : Dm.A} {c : Cl} (h : Two w B p bb mb r n A) (hf : Its w (· < B) fa fl c.f) (hfl : fl ≤ maxLen) (hb64 : c.b.length = 64) (hBy : Byt c.b) :
    Calls Try.prog 13 #[.pointer (some ⟨p, 0, none⟩), .pointer (some ⟨r, 0, none⟩), .agg (ccells c (.slice fa fl fc)).toArray] w fun e w' => e = .returned (.bool true) ∧ (∃ A', Two w' B p bb mb r n A') ∧ Below B w w' := by
  have hb : Below w.heap.size w (w.alloc (.cells (ccells c (.slice fa fl fc)).toArray 35)) := (Below.refl _ _).alloc (Nat.le_refl _) _
  have hw := Whole.new w 35 (ccells c (.slice fa fl fc)).toArray
  obtain ⟨C, hC⟩ : ∃ C, (ccells c (.slice fa fl fc)).toArray = C := ⟨_, rfl⟩
  rw [hC] at hb hw
  rw [hC]
  obtain ⟨w1, h1⟩ : ∃ w1, w.alloc (.cells C 35) = w1 := ⟨_, rfl⟩
  rw [h1] at hb hw
  have H1 : Hid (Two w1 B p bb mb r n A ∧ Whole w1 w.heap.size 35 (ccells c (.slice fa fl fc)).toArray ∧ Its w1 (· < B) fa fl c.f ∧ Below B w w1) := Lib.hid ⟨h.below hb, by rw [hC]; exact hw, hf.keep hb.size (fun b hb' _ => hb.block b hb'), ⟨hb.os, hb.tape, hb.output, hb.size, fun i hi => hb.block i (by have := h.size; omega)⟩⟩
  have HW := Lib.hid h1
  have HD := Lib.hid (And.intro hfl (And.intro hb64 hBy))
  have ck : w1.cell? ⟨w.heap.size, 0, none⟩ = some (.int .i64 c.kind) := H1.out.2.1.cell 0
  have cn : w1.cell? ⟨w.heap.size, 1, none⟩ = some (.int .i64 c.n) := H1.out.2.1.cell 1
  clear h hf hfl hb64 hBy hb hw hC h1
  by_cases k1 : c.kind = 1
  · rw [k1] at ck
    clear k1
    have rb := cc_range H1.out.2.1 HD.out.2.1
    go_enter Try.func13, Try.ntmps13
    go_upto_region 1 with (fail)
    rw [HW.out]
    go_upto_region 3 with (fail)
    refine wp_region_held_drew (S := fun w' => w'.cell? ⟨w.heap.size, 1, none⟩ = some (.int .i64 c.n) ∧ w'.rangeAt w.heap.size 2 (nums c.b)) (by kernel_rfl) ⟨cn, rb⟩ (fun hHeld => ?_)
    refine wpAnyH_take (i := 0) (v := .pointer (some ⟨p, 0, none⟩)) rfl (by kernel_rfl) (by kernel_rfl) (by kernel_rfl) (fun _ _ _ h => h) (Or.inl ⟨by rfl, (by intro w hSw; (try dsimp only at hSw); go_simp)⟩) (by assumption) ?_
    try simp only [Act.put, List.getElem_toArray, List.getElem_cons_zero, List.getElem_cons_succ, List.setIfInBounds_toArray, List.set_cons_zero, List.set_cons_succ]
    refine wpAnyH_take (i := 1) (v := .pointer (some ⟨w.heap.size, 1, none⟩)) rfl (by kernel_rfl) (by kernel_rfl) (by kernel_rfl) (fun _ _ _ h => h) (Or.inl ⟨by rfl, (by intro w hSw; (try dsimp only at hSw); go_simp)⟩) (by assumption) ?_
    try simp only [Act.put, List.getElem_toArray, List.getElem_cons_zero, List.getElem_cons_succ, List.setIfInBounds_toArray, List.set_cons_zero, List.set_cons_succ]
    refine wpAnyH_take (i := 2) (v := .int .i64 c.n) rfl (by kernel_rfl) (by kernel_rfl) (by kernel_rfl) (fun _ _ _ h => h) (Or.inl ⟨by rfl, (by intro w hSw; (try dsimp only at hSw); go_simp)⟩) (by assumption) ?_
    try simp only [Act.put, List.getElem_toArray, List.getElem_cons_zero, List.getElem_cons_succ, List.setIfInBounds_toArray, List.set_cons_zero, List.set_cons_succ]
    refine wpAnyH_take (i := 3) (v := .pointer (some ⟨w.heap.size, 2, none⟩)) rfl (by kernel_rfl) (by kernel_rfl) (by kernel_rfl) (fun _ _ _ h => h) (Or.inl ⟨by rfl, (by intro w hSw; (try dsimp only at hSw); go_simp)⟩) (by assumption) ?_
    try simp only [Act.put, List.getElem_toArray, List.getElem_cons_zero, List.getElem_cons_succ, List.setIfInBounds_toArray, List.set_cons_zero, List.set_cons_succ]
    refine wpAnyH_take (i := 4) (v := .agg (nums c.b).toArray) rfl (by kernel_rfl) (by kernel_rfl) (by kernel_rfl) (fun _ _ _ h => h) (yieldsIf_load_mid (by rfl) 32 _ rfl _ _ rfl _ _ (fun w hSw => hSw.2) und_b rfl (info_bm HD.out.2.1)) (by assumption) ?_
    try simp only [Act.put, List.getElem_toArray, List.getElem_cons_zero, List.getElem_cons_succ, List.setIfInBounds_toArray, List.set_cons_zero, List.set_cons_succ]
    refine wpAnyH_take (i := 6) (v := .pointer (some ⟨r, 0, none⟩)) rfl (by kernel_rfl) (by kernel_rfl) (by kernel_rfl) (fun _ _ _ h => h) (Or.inl ⟨by rfl, (by intro w hSw; (try dsimp only at hSw); go_simp)⟩) (by assumption) ?_
    try simp only [Act.put, List.getElem_toArray, List.getElem_cons_zero, List.getElem_cons_succ, List.setIfInBounds_toArray, List.set_cons_zero, List.set_cons_succ]
    refine wpAnyH_take (i := 7) (v := .pointer (some ⟨w.heap.size, 1, none⟩)) rfl (by kernel_rfl) (by kernel_rfl) (by kernel_rfl) (fun _ _ _ h => h) (Or.inl ⟨by rfl, (by intro w hSw; (try dsimp only at hSw); go_simp)⟩) (by assumption) ?_
    try simp only [Act.put, List.getElem_toArray, List.getElem_cons_zero, List.getElem_cons_succ, List.setIfInBounds_toArray, List.set_cons_zero, List.set_cons_succ]
    refine wpAnyH_take (i := 8) (v := .int .i64 c.n) rfl (by kernel_rfl) (by kernel_rfl) (by kernel_rfl) (fun _ _ _ h => h) (Or.inl ⟨by rfl, (by intro w hSw; (try dsimp only at hSw); go_simp)⟩) (by assumption) ?_
    try simp only [Act.put, List.getElem_toArray, List.getElem_cons_zero, List.getElem_cons_succ, List.setIfInBounds_toArray, List.set_cons_zero, List.set_cons_succ]
    refine wpAnyH_take (i := 9) (v := .pointer (some ⟨w.heap.size, 2, none⟩)) rfl (by kernel_rfl) (by kernel_rfl) (by kernel_rfl) (fun _ _ _ h => h) (Or.inl ⟨by rfl, (by intro w hSw; (try dsimp only at hSw); go_simp)⟩) (by assumption) ?_
    try simp only [Act.put, List.getElem_toArray, List.getElem_cons_zero, List.getElem_cons_succ, List.setIfInBounds_toArray, List.set_cons_zero, List.set_cons_succ]
    refine wpAnyH_take (i := 10) (v := .agg (nums c.b).toArray) rfl (by kernel_rfl) (by kernel_rfl) (by kernel_rfl) (fun _ _ _ h => h) (yieldsIf_load_mid (by rfl) 32 _ rfl _ _ rfl _ _ (fun w hSw => hSw.2) und_b rfl (info_bm HD.out.2.1)) (by assumption) ?_
    try simp only [Act.put, List.getElem_toArray, List.getElem_cons_zero, List.getElem_cons_succ, List.setIfInBounds_toArray, List.set_cons_zero, List.set_cons_succ]
    refine wpAnyH_ready (rs := [5]) (by kernel_rfl) (by simp) (AllReadyH.cons rfl (fun K hK => ?_) AllReadyH.nil)
    try simp only [List.getElem_toArray, List.getElem_cons_zero, List.getElem_cons_succ]
    go_simp
    go_at_call 21
    have hdd : Dk w1.drew p bb mb A n := H1.out.1.d.keep rfl rfl rfl
    refine (write_z (z := c.n) (b := c.b) hdd HD.out.2.1 HD.out.2.2).mono ?_
    rintro e v2 ⟨rfl, hd2, ho2'⟩
    have ho2 : Only [p, bb, mb] w1 v2 := ⟨ho2'.os, ho2'.tape, ho2'.output, ho2'.size, ho2'.block⟩
    obtain ⟨E, hE⟩ : ∃ E, bad A n c.n = E := ⟨_, rfl⟩
    rw [hE]
    have kb2 := whole_only H1.out.2.1 H1.out.1.d (by decide) (by decide) ho2
    have hr2 : ∃ vL vN vD, Rk v2 B r vL vN vD A n := by obtain ⟨vL, vN, vD, hr⟩ := H1.out.1.r; exact ⟨vL, vN, vD, hr.only H1.out.1.d ho2⟩
    have H2 := Lib.hid (And.intro hd2 (And.intro ho2 (And.intro kb2 (And.intro hr2 hE))))
    have s2 : v2.cell? ⟨w.heap.size, 1, none⟩ = some (.int .i64 c.n) ∧ v2.rangeAt w.heap.size 2 (nums c.b) := ⟨kb2.cell 1, cc_range kb2 HD.out.2.1⟩
    have HS2 := Lib.hid s2
    clear hdd hd2 ho2 ho2' hE kb2 hr2 s2 cn rb ck
    go_wp2_with fail
    refine hK.out _ _ HS2.out (fun hHeld => ?_)
    clear hK K
    try simp only [Act.put, List.getElem_toArray, List.getElem_cons_zero, List.getElem_cons_succ, List.setIfInBounds_toArray, List.set_cons_zero, List.set_cons_succ]
    refine wpAnyH_ready (rs := [11]) (by kernel_rfl) (by simp) (AllReadyH.cons rfl (fun K hK => ?_) AllReadyH.nil)
    try simp only [List.getElem_toArray, List.getElem_cons_zero, List.getElem_cons_succ]
    go_simp
    go_at_call 25
    obtain ⟨vL, vN, vD, hr2⟩ := H2.out.2.2.2.1
    refine (rwrite_z (z := c.n) (b := c.b) hr2 HD.out.2.1 HD.out.2.2 (by have := H2.out.2.1.size; have := H1.out.1.size; omega)).mono ?_
    rintro e v3 ⟨rfl, ⟨vD', hr3⟩, hrf⟩
    rw [H2.out.2.2.2.2]
    have kb3 := hrf.whole H2.out.2.2.1 (by decide) (by decide)
    have H3 := Lib.hid (H1.out.1.steps H2.out.1 H2.out.2.1 ⟨_, _, _, hr3⟩ hrf)
    have HS3 : Hid (v3.cell? ⟨w.heap.size, 1, none⟩ = some (.int .i64 c.n) ∧ v3.rangeAt w.heap.size 2 (nums c.b)) := Lib.hid ⟨kb3.cell 1, cc_range kb3 HD.out.2.1⟩
    clear hr2 hr3 hrf kb3
    go_wp2_with fail
    refine hK.out _ _ HS3.out (fun hHeld => ?_)
    clear hK K
    try simp only [Act.put, List.getElem_toArray, List.getElem_cons_zero, List.getElem_cons_succ, List.setIfInBounds_toArray, List.set_cons_zero, List.set_cons_succ]
    have q1 : (E == E) = true := by simp
    refine wpAnyH_take (i := 12) (v := .bool true) rfl (by kernel_rfl) (by kernel_rfl) (by kernel_rfl) (fun _ _ _ h => h) (Or.inl ⟨by rfl, (by intro w hSw; (try dsimp only at hSw); go_simp)⟩) (by assumption) ?_
    try simp only [Act.put, List.getElem_toArray, List.getElem_cons_zero, List.getElem_cons_succ, List.setIfInBounds_toArray, List.set_cons_zero, List.set_cons_succ]
    refine wpAnyH_take (i := 13) (v := .bool true) rfl (by kernel_rfl) (by kernel_rfl) (by kernel_rfl) (fun _ _ _ h => h) (Or.inl ⟨by rfl, (by intro w hSw; (try dsimp only at hSw); go_simp)⟩) (by assumption) ?_
    try simp only [Act.put, List.getElem_toArray, List.getElem_cons_zero, List.getElem_cons_succ, List.setIfInBounds_toArray, List.set_cons_zero, List.set_cons_succ]
    refine wpAnyH_done (by kernel_rfl) ?_ _
    go_wp2
    go_ret
    exact ⟨rfl, ⟨_, H3.out.1⟩, H1.out.2.2.2.trans H3.out.2⟩
  · have k1' : (c.kind == 1) = false := by simpa using k1
    clear k1
    by_cases k2 : c.kind = 2
    · rw [k2] at ck
      clear k2 k1'
      have cn' := cn
      go_enter Try.func13, Try.ntmps13
      go_upto_region 1 with (fail)
      rw [HW.out]
      go_wp2_with fail
      refine (read_z (z := c.n) H1.out.1.d).mono ?_
      rintro e v2 ⟨rfl, hb2⟩
      obtain ⟨E, hE⟩ : ∃ E, bad A n c.n = E := ⟨_, rfl⟩
      obtain ⟨X, hX⟩ : ∃ X, rdz A n c.n = X := ⟨_, rfl⟩
      rw [hE, hX]
      have hXl : X.length = 64 := by rw [← hX]; exact (rdz_len H1.out.1.d.ok).1
      obtain ⟨v3, h3, k3, b3⟩ := boxed v2 X
      have hb3 := hb2.trans (b3.mono hb2.size)
      have c3 : v3.cell? ⟨w.heap.size, 1, none⟩ = some (.int .i64 c.n) := (World.cell?_of_block (w := w1) (hb3.block _ H1.out.2.1.lt)).trans cn
      have H3 := Lib.hid (And.intro (H1.out.1.below hb3) (And.intro k3 (And.intro h3 (And.intro hXl (And.intro hE (And.intro hX hb3))))))
      have hzb := zero_b
      clear hb2 hE hX hXl h3 k3 b3 hb3 cn cn' ck
      go_wp2_with (first | ((with_reducible show wpList _ _ _ ((⟨_, Op.store 32 _ _, _, _, _, _⟩ : Oper) :: _) _ _); refine wpList_store_row rfl 32 (.tmp 7) (.tmp 35) rfl v2.heap.size (nums X).toArray rfl rfl 32 zb (Whole.new v2 _ _) (info_bn H3.out.2.2.2.1) (size_bn H3.out.2.2.2.1) (all_nums _) ?_; rw [H3.out.2.2.1]) | fail)
      obtain ⟨vL, vN, vD, hr⟩ := H3.out.1.r
      refine (rread_z (z := c.n) hr).mono ?_
      rintro e v4 ⟨rfl, hb4⟩
      rw [H3.out.2.2.2.2.1, H3.out.2.2.2.2.2.1]
      obtain ⟨v5, h5, k5, b5⟩ := boxed v4 X
      have hb5 := hb4.trans (b5.mono hb4.size)
      have H5 := Lib.hid (And.intro (H3.out.1.below hb5) (And.intro k5 (And.intro h5 (And.intro (H3.out.2.1.keep (hb5.block _ H3.out.2.1.lt)) (H3.out.2.2.2.2.2.2.trans (hb5.mono H3.out.2.2.2.2.2.2.size))))))
      have heq : ∀ w, (binOp .eql 32 (.agg (nums X).toArray) (.agg (nums X).toArray)).run Try.prog w = .ok (.bool true) w := fun w => by rw [eql64 X X H3.out.2.2.2.1 H3.out.2.2.2.1 w, decide_eq_true rfl]
      have q1 : (E == E) = true := by simp
      clear hr hb4 h5 k5 b5 hb5 c3
      go_wp2_with (first | ((with_reducible show wpList _ _ _ ((⟨_, Op.store 32 _ _, _, _, _, _⟩ : Oper) :: _) _ _); refine wpList_store_row rfl 32 (.tmp 9) (.tmp 42) rfl v4.heap.size (nums X).toArray rfl rfl 32 zb (Whole.new v4 _ _) (info_bn H3.out.2.2.2.1) (size_bn H3.out.2.2.2.1) (all_nums _) ?_; rw [H5.out.2.2.1]) | ((with_reducible show wpList _ _ _ ((⟨_, Op.load 32 _, _, _, _, _⟩ : Oper) :: _) _ _); refine wpList_load_row rfl 32 (.tmp 7) rfl v2.heap.size rfl 32 (nums X).toArray (0, 0) _ H5.out.2.2.2.1 und_b rfl (info_bn H3.out.2.2.2.1) ?_) | ((with_reducible show wpList _ _ _ ((⟨_, Op.load 32 _, _, _, _, _⟩ : Oper) :: _) _ _); refine wpList_load_row rfl 32 (.tmp 9) rfl v4.heap.size rfl 32 (nums X).toArray (0, 0) _ H5.out.2.1 und_b rfl (info_bn H3.out.2.2.2.1) ?_) | fail)
      go_ret
      exact ⟨rfl, ⟨_, H5.out.1⟩, H1.out.2.2.2.trans (H5.out.2.2.2.2.mono H1.out.1.size)⟩
    · have k2' : (c.kind == 2) = false := by simpa using k2
      clear k2
      by_cases k3 : c.kind = 3
      · rw [k3] at ck
        clear k3 k2' k1'
        by_cases hd : A.down = true
        · have c2 : w1.cell? ⟨p, 2, none⟩ = some (.bool true) := by rw [H1.out.1.d.c2, hd]
          have c3 : w1.cell? ⟨r, 3, none⟩ = some (.bool true) := by obtain ⟨vL, vN, vD, hr⟩ := H1.out.1.r; rw [hr.c3, hd]
          go_enter Try.func13, Try.ntmps13
          go_upto_region 1 with (fail)
          rw [HW.out]
          go_wp2_with (first | (go_at_call 22; refine (flush_bad (ready_down c2) (by omega)).mono ?_; rintro e v2 ⟨rfl, rfl⟩) | (go_at_call 27; refine (rflush_down c3).mono ?_; rintro e v2 ⟨rfl, rfl⟩) | fail)
          go_ret
          exact ⟨rfl, ⟨_, H1.out.1⟩, H1.out.2.2.2⟩
        · have hd' : A.down = false := by simpa using hd
          have HDN := Lib.hid hd'
          clear hd hd'
          go_enter Try.func13, Try.ntmps13
          go_upto_region 1 with (fail)
          rw [HW.out]
          go_wp2_with fail
          refine (flush_any H1.out.1.d HDN.out).mono ?_
          rintro e v2 ⟨rfl, hd2, ho2⟩
          obtain ⟨vL, vN, vD, hr⟩ := H1.out.1.r
          have hr2 := hr.only H1.out.1.d ho2
          have H2 := Lib.hid (And.intro hd2 (And.intro ho2 hr2))
          clear hd2 ho2 hr hr2 ck cn
          go_wp2_with fail
          refine (rflush_any H2.out.2.2 HDN.out (by have := H2.out.2.1.size; have := H1.out.1.size; omega)).mono ?_
          rintro e v3 ⟨rfl, hr3, hrf⟩
          have H3 := Lib.hid (H1.out.1.steps H2.out.1 H2.out.2.1 hr3 hrf)
          clear hr3 hrf
          go_wp2
          go_ret
          exact ⟨rfl, ⟨_, H3.out.1⟩, H1.out.2.2.2.trans H3.out.2⟩
      · have k3' : (c.kind == 3) = false := by simpa using k3
        clear k3
        by_cases k4 : c.kind = 4
        · rw [k4] at ck
          clear k4 k3' k2' k1'
          have cf : w1.cell? ⟨w.heap.size, 66, none⟩ = some (.slice fa fl fc) := cc_last H1.out.2.1 HD.out.2.1
          by_cases hd : A.down = true
          · have c2 : w1.cell? ⟨p, 2, none⟩ = some (.bool true) := by rw [H1.out.1.d.c2, hd]
            have c3 : w1.cell? ⟨r, 3, none⟩ = some (.bool true) := by obtain ⟨vL, vN, vD, hr⟩ := H1.out.1.r; rw [hr.c3, hd]
            go_enter Try.func13, Try.ntmps13
            go_upto_region 1 with (fail)
            rw [HW.out]
            go_wp2_with (first | (go_at_call 23; refine (crash_bad (ready_down c2) (by omega)).mono ?_; rintro e v2 ⟨rfl, rfl⟩) | (go_at_call 28; refine (rcrash_down c3).mono ?_; rintro e v2 ⟨rfl, rfl⟩) | fail)
            go_ret
            exact ⟨rfl, ⟨_, H1.out.1⟩, H1.out.2.2.2⟩
          · have hd' : A.down = false := by simpa using hd
            have HDN := Lib.hid hd'
            clear hd hd'
            go_enter Try.func13, Try.ntmps13
            go_upto_region 1 with (fail)
            rw [HW.out]
            go_wp2_with fail
            refine (crash_any H1.out.1.d HDN.out (H1.out.2.2.1.weak (fun b _ hb => by have := H1.out.1.p; omega)) HD.out.1).mono ?_
            rintro e v2 ⟨rfl, hd2, ho2⟩
            obtain ⟨vL, vN, vD, hr⟩ := H1.out.1.r
            have hr2 := hr.only H1.out.1.d ho2
            have hf2 := its_only H1.out.2.2.1 (fun b hb => by have := H1.out.1.p; simp; omega) ho2
            have cf2 : v2.cell? ⟨w.heap.size, 66, none⟩ = some (.slice fa fl fc) := cc_last (whole_only H1.out.2.1 H1.out.1.d (by decide) (by decide) ho2) HD.out.2.1
            have H2 := Lib.hid (And.intro hd2 (And.intro ho2 (And.intro hr2 hf2)))
            clear hd2 ho2 hr hr2 hf2 ck cn cf
            go_wp2_with fail
            refine (rcrash_any H2.out.2.2.1 HDN.out (by have := H2.out.2.1.size; have := H1.out.1.size; omega) H2.out.2.2.2 HD.out.1).mono ?_
            rintro e v3 ⟨rfl, hr3, hrf⟩
            have H3 := Lib.hid (H1.out.1.steps H2.out.1 H2.out.2.1 hr3 hrf)
            clear hr3 hrf
            go_wp2
            go_ret
            exact ⟨rfl, ⟨_, H3.out.1⟩, H1.out.2.2.2.trans H3.out.2⟩
        · have k4' : (c.kind == 4) = false := by simpa using k4
          clear k4
          by_cases k5 : c.kind = 5
          · rw [k5] at ck
            clear k5 k4' k3' k2' k1'
            go_enter Try.func13, Try.ntmps13
            go_upto_region 1 with (fail)
            rw [HW.out]
            go_wp2_with fail
            refine (start_any H1.out.1.d).mono ?_
            rintro e v2 ⟨rfl, hd2, hg2, _⟩
            have ho2 : Only [p, bb, mb] w1 v2 := Only.of_grown hg2 (by simp)
            obtain ⟨vL, vN, vD, hr⟩ := H1.out.1.r
            have hr2 := hr.only H1.out.1.d ho2
            have H2 := Lib.hid (And.intro hd2 (And.intro ho2 hr2))
            clear hd2 ho2 hr hr2 ck cn hg2
            go_wp2_with fail
            refine (rstart_any H2.out.2.2).mono ?_
            rintro e v3 ⟨rfl, hr3, hrf⟩
            have H3 := Lib.hid (H1.out.1.steps H2.out.1 H2.out.2.1 ⟨_, _, _, hr3⟩ hrf)
            clear hr3 hrf
            go_wp2
            go_ret
            exact ⟨rfl, ⟨_, H3.out.1⟩, H1.out.2.2.2.trans H3.out.2⟩
          · have k5' : (c.kind == 5) = false := by simpa using k5
            clear k5
            go_enter Try.func13, Try.ntmps13
            go_upto_region 1 with (fail)
            rw [HW.out]
            go_wp2
            go_ret
            exact ⟨rfl, ⟨_, H1.out.1⟩, H1.out.2.2.2⟩
end Go.Proofs.Ytfhaipeimpaeiaa
