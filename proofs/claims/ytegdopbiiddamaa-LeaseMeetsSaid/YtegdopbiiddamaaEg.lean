/-
  The walks of Majority, Gain, between, Holds, Late, Free, and Few.
-/
import Derived.Test.YtegdopbiiddamaaEf
namespace Go.Proofs.Ytegdopbiiddamaa
set_option linter.unusedVariables false
set_option linter.unusedSimpArgs false
set_option maxRecDepth 20000
open Go.RowKit
theorem between_any (a b : Int) (w : World) : Calls Try.prog 54 #[.int .i64 a, .int .i64 b] w fun e w' => e = .returned (.tuple #[.int .i64 (if Dr.tw a b then b - a else 0), .bool (decide (Dr.tw a b))]) ∧ w = w' := by
  by_cases h : Dr.tw a b
  · rw [if_pos h, decide_eq_true h]
    obtain ⟨h1, h2, h3⟩ := h
    have d1 : decide (a < 0) = false := decide_eq_false (by omega)
    have d2 : decide (b < a) = false := decide_eq_false (by omega)
    have d3 : decide (4611686018427387904 < b) = false := decide_eq_false (by omega)
    have e1 : IntKind.i64.wrap (b - a) = b - a := IntWalk.i64_in _ (by omega)
    go_enter Try.func54, Try.ntmps54
    go_wp2
    go_ret2
    exact ⟨rfl, rfl⟩
  · rw [if_neg h, decide_eq_false h]
    by_cases c1 : a < 0
    · have d1 : decide (a < 0) = true := decide_eq_true c1
      clear h
      go_enter Try.func54, Try.ntmps54
      go_wp2
      go_ret2
      exact ⟨rfl, rfl⟩
    have d1 : decide (a < 0) = false := decide_eq_false c1
    by_cases c2 : b < a
    · have d2 : decide (b < a) = true := decide_eq_true c2
      clear h
      go_enter Try.func54, Try.ntmps54
      go_wp2
      go_ret2
      exact ⟨rfl, rfl⟩
    have d2 : decide (b < a) = false := decide_eq_false c2
    have c3 : 4611686018427387904 < b := by unfold Dr.tw at h; omega
    have d3 : decide (4611686018427387904 < b) = true := decide_eq_true c3
    clear h
    go_enter Try.func54, Try.ntmps54
    go_wp2
    go_ret2
    exact ⟨rfl, rfl⟩
theorem Cc.four {w : World} {S : Nat → Prop} {C : Array Value} {p : Dr.P} (h : Cc w S C p) : C[0]? = some (.int .i64 p.nodes) ∧ C[3]? = some (.int .i64 p.hold) ∧ C[4]? = some (.int .i64 p.grant) ∧ C[5]? = some (.int .i64 p.guard) := by
  obtain ⟨a, n, c, a', n', c', rfl, _⟩ := h
  exact ⟨rfl, rfl, rfl, rfl⟩
theorem majority_any {w : World} {S : Nat → Prop} {C : Array Value} {p : Dr.P} (h : Cc w S C p) :
    Calls Try.prog 36 #[.agg C] w fun e w' => e = .returned (.int .i64 p.maj) ∧ Below w.heap.size w w' := by
  have HQ := Lib.hid h.four
  have h11 := h.size
  have hb1 := below_alloc w (.cells C 24)
  have hx1 := Box.new h
  obtain ⟨w1, h1⟩ : ∃ w1, w.alloc (.cells C 24) = w1 := ⟨_, rfl⟩
  rw [h1] at hb1 hx1
  have H1 := Lib.hid (And.intro h1 (And.intro hb1 hx1))
  clear h h1 hb1 hx1
  by_cases hok : p.ok
  · have HE : Hid (p.maj = p.nodes / 2 + 1) := Lib.hid (if_pos hok)
    have HK := Lib.hid (Dr.P.chk_ok hok)
    obtain ⟨g0, g1⟩ := hok.1
    clear hok
    go_enter Try.func36, Try.ntmps36
    go_upto_region 1 with fail
    rw [H1.out.1]
    go_wp2_with (first | ((with_reducible show wpList _ _ _ ((⟨_, Op.load 24 _, _, _, _, _⟩ : Oper) :: _) _ _); refine wpList_load_row rfl _ (.tmp 1) rfl w.heap.size rfl 24 C (0, 0) _ H1.out.2.2.1 Try.underlying24 rfl (by rw [h11]; exact info11) ?_) | (go_at_call 22; refine (check_any H1.out.2.2.2).mono ?_; rintro e w2 ⟨rfl, hb2⟩; rw [HK.out]; have H2 := Lib.hid (And.intro (H1.out.2.2.on hb2) (H1.out.2.1.trans (hb2.mono H1.out.2.1.size))); have k0 : w2.cell? ⟨w.heap.size, 0, none⟩ = some (.int .i64 p.nodes) := (H2.out.1.1.cell 0).trans HQ.out.1; have k3 : w2.cell? ⟨w.heap.size, 3, none⟩ = some (.int .i64 p.hold) := (H2.out.1.1.cell 3).trans HQ.out.2.1; have k4 : w2.cell? ⟨w.heap.size, 4, none⟩ = some (.int .i64 p.grant) := (H2.out.1.1.cell 4).trans HQ.out.2.2.1; have k5 : w2.cell? ⟨w.heap.size, 5, none⟩ = some (.int .i64 p.guard) := (H2.out.1.1.cell 5).trans HQ.out.2.2.2; clear hb2))
    go_ret
    exact ⟨ret_i64 HE.out.symm, H2.out.2⟩
  · have HE : Hid (p.maj = 0) := Lib.hid (if_neg hok)
    have HK := Lib.hid (Dr.P.chk_no hok)
    clear hok
    go_enter Try.func36, Try.ntmps36
    go_upto_region 1 with fail
    rw [H1.out.1]
    go_wp2_with (first | ((with_reducible show wpList _ _ _ ((⟨_, Op.load 24 _, _, _, _, _⟩ : Oper) :: _) _ _); refine wpList_load_row rfl _ (.tmp 1) rfl w.heap.size rfl 24 C (0, 0) _ H1.out.2.2.1 Try.underlying24 rfl (by rw [h11]; exact info11) ?_) | (go_at_call 22; refine (check_any H1.out.2.2.2).mono ?_; rintro e w2 ⟨rfl, hb2⟩; rw [HK.out]; have H2 := Lib.hid (And.intro (H1.out.2.2.on hb2) (H1.out.2.1.trans (hb2.mono H1.out.2.1.size))); have k0 : w2.cell? ⟨w.heap.size, 0, none⟩ = some (.int .i64 p.nodes) := (H2.out.1.1.cell 0).trans HQ.out.1; have k3 : w2.cell? ⟨w.heap.size, 3, none⟩ = some (.int .i64 p.hold) := (H2.out.1.1.cell 3).trans HQ.out.2.1; have k4 : w2.cell? ⟨w.heap.size, 4, none⟩ = some (.int .i64 p.grant) := (H2.out.1.1.cell 4).trans HQ.out.2.2.1; have k5 : w2.cell? ⟨w.heap.size, 5, none⟩ = some (.int .i64 p.guard) := (H2.out.1.1.cell 5).trans HQ.out.2.2.2; clear hb2))
    go_ret
    exact ⟨ret_i64 HE.out.symm, H2.out.2⟩
set_option maxHeartbeats 1000000 in
theorem gain_any {w : World} {S : Nat → Prop} {C : Array Value} {p : Dr.P} (h : Cc w S C p) (t : Int) :
    Calls Try.prog 24 #[.agg C, .int .i64 t] w fun e w' => e = .returned (.int .i64 (p.gain t)) ∧ Below w.heap.size w w' := by
  have HQ := Lib.hid h.four
  have h11 := h.size
  have hb1 := below_alloc w (.cells C 24)
  have hx1 := Box.new h
  obtain ⟨w1, h1⟩ : ∃ w1, w.alloc (.cells C 24) = w1 := ⟨_, rfl⟩
  rw [h1] at hb1 hx1
  have H1 := Lib.hid (And.intro h1 (And.intro hb1 hx1))
  clear h h1 hb1 hx1
  by_cases hok : p.ok
  · have HE : Hid (p.gain t = min (max t p.slow) p.fast) := Lib.hid (if_pos hok)
    have HK := Lib.hid (Dr.P.chk_ok hok)
    have H2' := Lib.hid hok.2.2.1
    obtain ⟨F, hF⟩ : ∃ F, p.fast = F := ⟨_, rfl⟩
    obtain ⟨L, hL⟩ : ∃ L, p.slow = L := ⟨_, rfl⟩
    obtain ⟨m, hm⟩ : ∃ m, (if t < L then L else t) = m := ⟨_, rfl⟩
    obtain ⟨n, hn⟩ : ∃ n, (if F < m then F else m) = n := ⟨_, rfl⟩
    have HN : Hid (p.gain t = n) := Lib.hid (by
      rw [HE.out, hF, hL, ← hn, ← hm]
      repeat' split
      all_goals omega)
    have HF := Lib.hid hF
    have HL := Lib.hid hL
    have HM := Lib.hid (And.intro hm hn)
    clear hok hF hL hm hn
    go_enter Try.func24, Try.ntmps24
    go_upto_region 1 with fail
    rw [H1.out.1]
    go_upto_region 3 with (first | ((with_reducible show wpList _ _ _ ((⟨_, Op.load 24 _, _, _, _, _⟩ : Oper) :: _) _ _); refine wpList_load_row rfl _ (.tmp 2) rfl w.heap.size rfl 24 C (0, 0) _ H1.out.2.2.1 Try.underlying24 rfl (by rw [h11]; exact info11) ?_) | (go_at_call 22; refine (check_any H1.out.2.2.2).mono ?_; rintro e w2 ⟨rfl, hb2⟩; rw [HK.out]; have H2 := Lib.hid (And.intro (H1.out.2.2.on hb2) (H1.out.2.1.trans (hb2.mono H1.out.2.1.size))); have k0 : w2.cell? ⟨w.heap.size, 0, none⟩ = some (.int .i64 p.nodes) := (H2.out.1.1.cell 0).trans HQ.out.1; have k3 : w2.cell? ⟨w.heap.size, 3, none⟩ = some (.int .i64 p.hold) := (H2.out.1.1.cell 3).trans HQ.out.2.1; have k4 : w2.cell? ⟨w.heap.size, 4, none⟩ = some (.int .i64 p.grant) := (H2.out.1.1.cell 4).trans HQ.out.2.2.1; have k5 : w2.cell? ⟨w.heap.size, 5, none⟩ = some (.int .i64 p.guard) := (H2.out.1.1.cell 5).trans HQ.out.2.2.2; clear hb2))
    have HW : Hid (Whole w2.drew w.heap.size 24 C ∧ Cc w2.drew (fun b => b < w1.heap.size) C p ∧ Below w.heap.size w w2.drew) := Lib.hid ⟨H2.out.1.1.keep rfl, H2.out.1.2.keep (Nat.le_refl _) (fun _ _ _ => rfl), H2.out.2.drew⟩
    clear k0 k3 k4 k5
    refine wp_region_held_drew (S := fun z => Whole z w.heap.size 24 C) (by kernel_rfl) HW.out.1 (fun hHeld => ?_)
    generalize w2.drew = w3 at *
    refine wpAnyH_take (i := 0) (v := .int .i64 t) rfl (by kernel_rfl) (by kernel_rfl) (by kernel_rfl) (fun _ _ _ h => h) (Or.inl ⟨by rfl, (by intro w hSw; (try dsimp only at hSw); go_simp)⟩) (by assumption) ?_
    try simp only [Act.put, List.getElem_toArray, List.getElem_cons_zero, List.getElem_cons_succ, List.setIfInBounds_toArray, List.set_cons_zero, List.set_cons_succ]
    refine wpAnyH_take (i := 1) (v := .agg C) rfl (by kernel_rfl) (by kernel_rfl) (by kernel_rfl) (fun _ _ _ h => h) (yields_plan (by rfl) _ rfl _ rfl _ (fun w h => h) h11) (by assumption) ?_
    try simp only [Act.put, List.getElem_toArray, List.getElem_cons_zero, List.getElem_cons_succ, List.setIfInBounds_toArray, List.set_cons_zero, List.set_cons_succ]
    refine wpAnyH_take (i := 4) (v := .agg C) rfl (by kernel_rfl) (by kernel_rfl) (by kernel_rfl) (fun _ _ _ h => h) (yields_plan (by rfl) _ rfl _ rfl _ (fun w h => h) h11) (by assumption) ?_
    try simp only [Act.put, List.getElem_toArray, List.getElem_cons_zero, List.getElem_cons_succ, List.setIfInBounds_toArray, List.set_cons_zero, List.set_cons_succ]
    refine wpAnyH_ready (rs := [2]) (by kernel_rfl) (by simp) (AllReadyH.cons rfl (fun K hK => ?_) AllReadyH.nil)
    try simp only [List.getElem_toArray, List.getElem_cons_zero, List.getElem_cons_succ]
    go_simp
    go_at_call 43
    refine (slow_any HW.out.2.1 H2'.out).mono ?_
    rintro e w4 ⟨rfl, hb4⟩
    rw [HL.out]
    refine hK.out _ _ (HW.out.1.below hb4 HW.out.1.lt) (fun hHeld => ?_)
    clear hK K
    try simp only [Act.put, List.getElem_toArray, List.getElem_cons_zero, List.getElem_cons_succ, List.setIfInBounds_toArray, List.set_cons_zero, List.set_cons_succ]
    have HB := Lib.hid (And.intro (HW.out.1.below hb4 HW.out.1.lt) (And.intro (HW.out.2.1.on hb4) (HW.out.2.2.trans (hb4.mono HW.out.2.2.size))))
    clear hb4
    refine wpAnyH_take (i := 3) (v := .int .i64 m) rfl (by kernel_rfl) (by kernel_rfl) (by kernel_rfl) (fun _ _ _ h => h) (Or.inl ⟨by rfl, (by intro w hSw; clear hSw; go_simp; exact HM.out.1)⟩) (by assumption) ?_
    try simp only [Act.put, List.getElem_toArray, List.getElem_cons_zero, List.getElem_cons_succ, List.setIfInBounds_toArray, List.set_cons_zero, List.set_cons_succ]
    refine wpAnyH_ready (rs := [5]) (by kernel_rfl) (by simp) (AllReadyH.cons rfl (fun K hK => ?_) AllReadyH.nil)
    try simp only [List.getElem_toArray, List.getElem_cons_zero, List.getElem_cons_succ]
    go_simp
    go_at_call 44
    refine (fast_any HB.out.2.1 H2'.out).mono ?_
    rintro e w5 ⟨rfl, hb5⟩
    rw [HF.out]
    refine hK.out _ _ (HB.out.1.below hb5 HB.out.1.lt) (fun hHeld => ?_)
    clear hK K
    try simp only [Act.put, List.getElem_toArray, List.getElem_cons_zero, List.getElem_cons_succ, List.setIfInBounds_toArray, List.set_cons_zero, List.set_cons_succ]
    have HB2 := Lib.hid (HB.out.2.2.trans (hb5.mono HB.out.2.2.size))
    clear hb5
    refine wpAnyH_take (i := 6) (v := .int .i64 n) rfl (by kernel_rfl) (by kernel_rfl) (by kernel_rfl) (fun _ _ _ h => h) (Or.inl ⟨by rfl, (by intro w hSw; clear hSw; go_simp; exact HM.out.2)⟩) (by assumption) ?_
    try simp only [Act.put, List.getElem_toArray, List.getElem_cons_zero, List.getElem_cons_succ, List.setIfInBounds_toArray, List.set_cons_zero, List.set_cons_succ]
    refine wpAnyH_take (i := 7) (v := .int .i64 n) rfl (by kernel_rfl) (by kernel_rfl) (by kernel_rfl) (fun _ _ _ h => h) (Or.inl ⟨by rfl, (by intro w hSw; (try dsimp only at hSw); go_simp)⟩) (by assumption) ?_
    try simp only [Act.put, List.getElem_toArray, List.getElem_cons_zero, List.getElem_cons_succ, List.setIfInBounds_toArray, List.set_cons_zero, List.set_cons_succ]
    refine wpAnyH_done (by kernel_rfl) ?_ _
    go_wp2
    go_ret
    exact ⟨ret_i64 HN.out.symm, HB2.out⟩
  · have HE : Hid (p.gain t = 0) := Lib.hid (if_neg hok)
    have HK := Lib.hid (Dr.P.chk_no hok)
    clear hok
    go_enter Try.func24, Try.ntmps24
    go_upto_region 1 with fail
    rw [H1.out.1]
    go_wp2_with (first | ((with_reducible show wpList _ _ _ ((⟨_, Op.load 24 _, _, _, _, _⟩ : Oper) :: _) _ _); refine wpList_load_row rfl _ (.tmp 2) rfl w.heap.size rfl 24 C (0, 0) _ H1.out.2.2.1 Try.underlying24 rfl (by rw [h11]; exact info11) ?_) | (go_at_call 22; refine (check_any H1.out.2.2.2).mono ?_; rintro e w2 ⟨rfl, hb2⟩; rw [HK.out]; have H2 := Lib.hid (And.intro (H1.out.2.2.on hb2) (H1.out.2.1.trans (hb2.mono H1.out.2.1.size))); have k0 : w2.cell? ⟨w.heap.size, 0, none⟩ = some (.int .i64 p.nodes) := (H2.out.1.1.cell 0).trans HQ.out.1; have k3 : w2.cell? ⟨w.heap.size, 3, none⟩ = some (.int .i64 p.hold) := (H2.out.1.1.cell 3).trans HQ.out.2.1; have k4 : w2.cell? ⟨w.heap.size, 4, none⟩ = some (.int .i64 p.grant) := (H2.out.1.1.cell 4).trans HQ.out.2.2.1; have k5 : w2.cell? ⟨w.heap.size, 5, none⟩ = some (.int .i64 p.guard) := (H2.out.1.1.cell 5).trans HQ.out.2.2.2; clear hb2))
    go_ret
    exact ⟨ret_i64 HE.out.symm, H2.out.2⟩
set_option maxHeartbeats 1000000 in
theorem holds_any {w : World} {S : Nat → Prop} {C : Array Value} {p : Dr.P} (h : Cc w S C p) (a b : Int) :
    Calls Try.prog 34 #[.agg C, .int .i64 a, .int .i64 b] w fun e w' => e = .returned (.bool (p.holds a b)) ∧ Below w.heap.size w w' := by
  have HQ := Lib.hid h.four
  have h11 := h.size
  have hb1 := below_alloc w (.cells C 24)
  have hx1 := Box.new h
  obtain ⟨w1, h1⟩ : ∃ w1, w.alloc (.cells C 24) = w1 := ⟨_, rfl⟩
  rw [h1] at hb1 hx1
  have H1 := Lib.hid (And.intro h1 (And.intro hb1 hx1))
  clear h h1 hb1 hx1
  by_cases hok : p.ok
  · have HK := Lib.hid (Dr.P.chk_ok hok)
    by_cases htw : Dr.tw a b
    · obtain ⟨x, hx⟩ : ∃ x, b - a = x := ⟨_, rfl⟩
      have HT : Hid ((if Dr.tw a b then b - a else 0) = x ∧ decide (Dr.tw a b) = true) := Lib.hid ⟨by rw [if_pos htw, hx], decide_eq_true htw⟩
      have HE : Hid (p.holds a b = decide (x < p.hold)) := Lib.hid (by unfold Dr.P.holds; rw [hx]; exact decide_eq_decide.2 ⟨fun h => h.2.2, fun h => ⟨hok, htw, h⟩⟩)
      clear hok htw hx
      go_enter Try.func34, Try.ntmps34
      go_upto_region 1 with fail
      rw [H1.out.1]
      go_wp2_with (first | ((with_reducible show wpList _ _ _ ((⟨_, Op.load 24 _, _, _, _, _⟩ : Oper) :: _) _ _); refine wpList_load_row rfl _ (.tmp 3) rfl w.heap.size rfl 24 C (0, 0) _ H1.out.2.2.1 Try.underlying24 rfl (by rw [h11]; exact info11) ?_) | (go_at_call 22; refine (check_any H1.out.2.2.2).mono ?_; rintro e w2 ⟨rfl, hb2⟩; rw [HK.out]; have H2 := Lib.hid (And.intro (H1.out.2.2.on hb2) (H1.out.2.1.trans (hb2.mono H1.out.2.1.size))); have k0 : w2.cell? ⟨w.heap.size, 0, none⟩ = some (.int .i64 p.nodes) := (H2.out.1.1.cell 0).trans HQ.out.1; have k3 : w2.cell? ⟨w.heap.size, 3, none⟩ = some (.int .i64 p.hold) := (H2.out.1.1.cell 3).trans HQ.out.2.1; have k4 : w2.cell? ⟨w.heap.size, 4, none⟩ = some (.int .i64 p.grant) := (H2.out.1.1.cell 4).trans HQ.out.2.2.1; have k5 : w2.cell? ⟨w.heap.size, 5, none⟩ = some (.int .i64 p.guard) := (H2.out.1.1.cell 5).trans HQ.out.2.2.2; clear hb2) | (go_at_call 54; refine (between_any _ _ _).mono ?_; rintro e w3 ⟨rfl, rfl⟩; rw [HT.out.1, HT.out.2]))
      go_ret
      exact ⟨ret_bool HE.out.symm, H2.out.2⟩
    · have HT : Hid ((if Dr.tw a b then b - a else 0) = 0 ∧ decide (Dr.tw a b) = false) := Lib.hid ⟨if_neg htw, decide_eq_false htw⟩
      have HE : Hid (p.holds a b = false) := Lib.hid (decide_eq_false fun h => htw h.2.1)
      clear hok htw
      go_enter Try.func34, Try.ntmps34
      go_upto_region 1 with fail
      rw [H1.out.1]
      go_wp2_with (first | ((with_reducible show wpList _ _ _ ((⟨_, Op.load 24 _, _, _, _, _⟩ : Oper) :: _) _ _); refine wpList_load_row rfl _ (.tmp 3) rfl w.heap.size rfl 24 C (0, 0) _ H1.out.2.2.1 Try.underlying24 rfl (by rw [h11]; exact info11) ?_) | (go_at_call 22; refine (check_any H1.out.2.2.2).mono ?_; rintro e w2 ⟨rfl, hb2⟩; rw [HK.out]; have H2 := Lib.hid (And.intro (H1.out.2.2.on hb2) (H1.out.2.1.trans (hb2.mono H1.out.2.1.size))); have k0 : w2.cell? ⟨w.heap.size, 0, none⟩ = some (.int .i64 p.nodes) := (H2.out.1.1.cell 0).trans HQ.out.1; have k3 : w2.cell? ⟨w.heap.size, 3, none⟩ = some (.int .i64 p.hold) := (H2.out.1.1.cell 3).trans HQ.out.2.1; have k4 : w2.cell? ⟨w.heap.size, 4, none⟩ = some (.int .i64 p.grant) := (H2.out.1.1.cell 4).trans HQ.out.2.2.1; have k5 : w2.cell? ⟨w.heap.size, 5, none⟩ = some (.int .i64 p.guard) := (H2.out.1.1.cell 5).trans HQ.out.2.2.2; clear hb2) | (go_at_call 54; refine (between_any _ _ _).mono ?_; rintro e w3 ⟨rfl, rfl⟩; rw [HT.out.1, HT.out.2]))
      go_ret
      exact ⟨ret_bool HE.out.symm, H2.out.2⟩
  · have HE : Hid (p.holds a b = false) := Lib.hid (decide_eq_false fun h => hok h.1)
    have HK := Lib.hid (Dr.P.chk_no hok)
    clear hok
    go_enter Try.func34, Try.ntmps34
    go_upto_region 1 with fail
    rw [H1.out.1]
    go_wp2_with (first | ((with_reducible show wpList _ _ _ ((⟨_, Op.load 24 _, _, _, _, _⟩ : Oper) :: _) _ _); refine wpList_load_row rfl _ (.tmp 3) rfl w.heap.size rfl 24 C (0, 0) _ H1.out.2.2.1 Try.underlying24 rfl (by rw [h11]; exact info11) ?_) | (go_at_call 22; refine (check_any H1.out.2.2.2).mono ?_; rintro e w2 ⟨rfl, hb2⟩; rw [HK.out]; have H2 := Lib.hid (And.intro (H1.out.2.2.on hb2) (H1.out.2.1.trans (hb2.mono H1.out.2.1.size))); have k0 : w2.cell? ⟨w.heap.size, 0, none⟩ = some (.int .i64 p.nodes) := (H2.out.1.1.cell 0).trans HQ.out.1; have k3 : w2.cell? ⟨w.heap.size, 3, none⟩ = some (.int .i64 p.hold) := (H2.out.1.1.cell 3).trans HQ.out.2.1; have k4 : w2.cell? ⟨w.heap.size, 4, none⟩ = some (.int .i64 p.grant) := (H2.out.1.1.cell 4).trans HQ.out.2.2.1; have k5 : w2.cell? ⟨w.heap.size, 5, none⟩ = some (.int .i64 p.guard) := (H2.out.1.1.cell 5).trans HQ.out.2.2.2; clear hb2))
    go_ret
    exact ⟨ret_bool HE.out.symm, H2.out.2⟩
set_option maxHeartbeats 1000000 in
theorem free_any {w : World} {S : Nat → Prop} {C : Array Value} {p : Dr.P} (h : Cc w S C p) (a b : Int) :
    Calls Try.prog 48 #[.agg C, .int .i64 a, .int .i64 b] w fun e w' => e = .returned (.bool (p.free a b)) ∧ Below w.heap.size w w' := by
  have HQ := Lib.hid h.four
  have h11 := h.size
  have hb1 := below_alloc w (.cells C 24)
  have hx1 := Box.new h
  obtain ⟨w1, h1⟩ : ∃ w1, w.alloc (.cells C 24) = w1 := ⟨_, rfl⟩
  rw [h1] at hb1 hx1
  have H1 := Lib.hid (And.intro h1 (And.intro hb1 hx1))
  clear h h1 hb1 hx1
  by_cases hok : p.ok
  · have HK := Lib.hid (Dr.P.chk_ok hok)
    by_cases htw : Dr.tw a b
    · obtain ⟨x, hx⟩ : ∃ x, b - a = x := ⟨_, rfl⟩
      have HT : Hid ((if Dr.tw a b then b - a else 0) = x ∧ decide (Dr.tw a b) = true) := Lib.hid ⟨by rw [if_pos htw, hx], decide_eq_true htw⟩
      have HE : Hid (p.free a b = decide (p.grant ≤ x)) := Lib.hid (by unfold Dr.P.free; rw [hx]; exact decide_eq_decide.2 ⟨fun h => h.2.2, fun h => ⟨hok, htw, h⟩⟩)
      clear hok htw hx
      go_enter Try.func48, Try.ntmps48
      go_upto_region 1 with fail
      rw [H1.out.1]
      go_wp2_with (first | ((with_reducible show wpList _ _ _ ((⟨_, Op.load 24 _, _, _, _, _⟩ : Oper) :: _) _ _); refine wpList_load_row rfl _ (.tmp 3) rfl w.heap.size rfl 24 C (0, 0) _ H1.out.2.2.1 Try.underlying24 rfl (by rw [h11]; exact info11) ?_) | (go_at_call 22; refine (check_any H1.out.2.2.2).mono ?_; rintro e w2 ⟨rfl, hb2⟩; rw [HK.out]; have H2 := Lib.hid (And.intro (H1.out.2.2.on hb2) (H1.out.2.1.trans (hb2.mono H1.out.2.1.size))); have k0 : w2.cell? ⟨w.heap.size, 0, none⟩ = some (.int .i64 p.nodes) := (H2.out.1.1.cell 0).trans HQ.out.1; have k3 : w2.cell? ⟨w.heap.size, 3, none⟩ = some (.int .i64 p.hold) := (H2.out.1.1.cell 3).trans HQ.out.2.1; have k4 : w2.cell? ⟨w.heap.size, 4, none⟩ = some (.int .i64 p.grant) := (H2.out.1.1.cell 4).trans HQ.out.2.2.1; have k5 : w2.cell? ⟨w.heap.size, 5, none⟩ = some (.int .i64 p.guard) := (H2.out.1.1.cell 5).trans HQ.out.2.2.2; clear hb2) | (go_at_call 54; refine (between_any _ _ _).mono ?_; rintro e w3 ⟨rfl, rfl⟩; rw [HT.out.1, HT.out.2]))
      go_ret
      exact ⟨ret_bool HE.out.symm, H2.out.2⟩
    · have HT : Hid ((if Dr.tw a b then b - a else 0) = 0 ∧ decide (Dr.tw a b) = false) := Lib.hid ⟨if_neg htw, decide_eq_false htw⟩
      have HE : Hid (p.free a b = false) := Lib.hid (decide_eq_false fun h => htw h.2.1)
      clear hok htw
      go_enter Try.func48, Try.ntmps48
      go_upto_region 1 with fail
      rw [H1.out.1]
      go_wp2_with (first | ((with_reducible show wpList _ _ _ ((⟨_, Op.load 24 _, _, _, _, _⟩ : Oper) :: _) _ _); refine wpList_load_row rfl _ (.tmp 3) rfl w.heap.size rfl 24 C (0, 0) _ H1.out.2.2.1 Try.underlying24 rfl (by rw [h11]; exact info11) ?_) | (go_at_call 22; refine (check_any H1.out.2.2.2).mono ?_; rintro e w2 ⟨rfl, hb2⟩; rw [HK.out]; have H2 := Lib.hid (And.intro (H1.out.2.2.on hb2) (H1.out.2.1.trans (hb2.mono H1.out.2.1.size))); have k0 : w2.cell? ⟨w.heap.size, 0, none⟩ = some (.int .i64 p.nodes) := (H2.out.1.1.cell 0).trans HQ.out.1; have k3 : w2.cell? ⟨w.heap.size, 3, none⟩ = some (.int .i64 p.hold) := (H2.out.1.1.cell 3).trans HQ.out.2.1; have k4 : w2.cell? ⟨w.heap.size, 4, none⟩ = some (.int .i64 p.grant) := (H2.out.1.1.cell 4).trans HQ.out.2.2.1; have k5 : w2.cell? ⟨w.heap.size, 5, none⟩ = some (.int .i64 p.guard) := (H2.out.1.1.cell 5).trans HQ.out.2.2.2; clear hb2) | (go_at_call 54; refine (between_any _ _ _).mono ?_; rintro e w3 ⟨rfl, rfl⟩; rw [HT.out.1, HT.out.2]))
      go_ret
      exact ⟨ret_bool HE.out.symm, H2.out.2⟩
  · have HE : Hid (p.free a b = false) := Lib.hid (decide_eq_false fun h => hok h.1)
    have HK := Lib.hid (Dr.P.chk_no hok)
    clear hok
    go_enter Try.func48, Try.ntmps48
    go_upto_region 1 with fail
    rw [H1.out.1]
    go_wp2_with (first | ((with_reducible show wpList _ _ _ ((⟨_, Op.load 24 _, _, _, _, _⟩ : Oper) :: _) _ _); refine wpList_load_row rfl _ (.tmp 3) rfl w.heap.size rfl 24 C (0, 0) _ H1.out.2.2.1 Try.underlying24 rfl (by rw [h11]; exact info11) ?_) | (go_at_call 22; refine (check_any H1.out.2.2.2).mono ?_; rintro e w2 ⟨rfl, hb2⟩; rw [HK.out]; have H2 := Lib.hid (And.intro (H1.out.2.2.on hb2) (H1.out.2.1.trans (hb2.mono H1.out.2.1.size))); have k0 : w2.cell? ⟨w.heap.size, 0, none⟩ = some (.int .i64 p.nodes) := (H2.out.1.1.cell 0).trans HQ.out.1; have k3 : w2.cell? ⟨w.heap.size, 3, none⟩ = some (.int .i64 p.hold) := (H2.out.1.1.cell 3).trans HQ.out.2.1; have k4 : w2.cell? ⟨w.heap.size, 4, none⟩ = some (.int .i64 p.grant) := (H2.out.1.1.cell 4).trans HQ.out.2.2.1; have k5 : w2.cell? ⟨w.heap.size, 5, none⟩ = some (.int .i64 p.guard) := (H2.out.1.1.cell 5).trans HQ.out.2.2.2; clear hb2))
    go_ret
    exact ⟨ret_bool HE.out.symm, H2.out.2⟩
set_option maxHeartbeats 1000000 in
theorem late_any {w : World} {S : Nat → Prop} {C : Array Value} {p : Dr.P} (h : Cc w S C p) (a b : Int) :
    Calls Try.prog 40 #[.agg C, .int .i64 a, .int .i64 b] w fun e w' => e = .returned (.bool (p.late a b)) ∧ Below w.heap.size w w' := by
  have HQ := Lib.hid h.four
  have h11 := h.size
  have hb1 := below_alloc w (.cells C 24)
  have hx1 := Box.new h
  obtain ⟨w1, h1⟩ : ∃ w1, w.alloc (.cells C 24) = w1 := ⟨_, rfl⟩
  rw [h1] at hb1 hx1
  have H1 := Lib.hid (And.intro h1 (And.intro hb1 hx1))
  clear h h1 hb1 hx1
  by_cases hok : p.ok
  · have HK := Lib.hid (Dr.P.chk_ok hok)
    by_cases htw : Dr.tw a b
    · obtain ⟨x, hx⟩ : ∃ x, b - a = x := ⟨_, rfl⟩
      have HT : Hid ((if Dr.tw a b then b - a else 0) = x ∧ decide (Dr.tw a b) = true) := Lib.hid ⟨by rw [if_pos htw, hx], decide_eq_true htw⟩
      have HE : Hid (p.late a b = decide (p.hold - x ≤ p.guard)) := Lib.hid (by unfold Dr.P.late; rw [hx]; exact decide_eq_decide.2 ⟨fun h => h.2.resolve_left (fun h => h htw), fun h => ⟨hok, Or.inr h⟩⟩)
      have e1 : IntKind.i64.wrap (p.hold - x) = p.hold - x := IntWalk.i64_in _ (by obtain ⟨t1, t2⟩ := hok.2.2.2.1.1; obtain ⟨y1, y2, y3⟩ := htw; omega)
      clear hok htw hx
      go_enter Try.func40, Try.ntmps40
      go_upto_region 1 with fail
      rw [H1.out.1]
      go_wp2_with (first | ((with_reducible show wpList _ _ _ ((⟨_, Op.load 24 _, _, _, _, _⟩ : Oper) :: _) _ _); refine wpList_load_row rfl _ (.tmp 3) rfl w.heap.size rfl 24 C (0, 0) _ H1.out.2.2.1 Try.underlying24 rfl (by rw [h11]; exact info11) ?_) | (go_at_call 22; refine (check_any H1.out.2.2.2).mono ?_; rintro e w2 ⟨rfl, hb2⟩; rw [HK.out]; have H2 := Lib.hid (And.intro (H1.out.2.2.on hb2) (H1.out.2.1.trans (hb2.mono H1.out.2.1.size))); have k0 : w2.cell? ⟨w.heap.size, 0, none⟩ = some (.int .i64 p.nodes) := (H2.out.1.1.cell 0).trans HQ.out.1; have k3 : w2.cell? ⟨w.heap.size, 3, none⟩ = some (.int .i64 p.hold) := (H2.out.1.1.cell 3).trans HQ.out.2.1; have k4 : w2.cell? ⟨w.heap.size, 4, none⟩ = some (.int .i64 p.grant) := (H2.out.1.1.cell 4).trans HQ.out.2.2.1; have k5 : w2.cell? ⟨w.heap.size, 5, none⟩ = some (.int .i64 p.guard) := (H2.out.1.1.cell 5).trans HQ.out.2.2.2; clear hb2) | (go_at_call 54; refine (between_any _ _ _).mono ?_; rintro e w3 ⟨rfl, rfl⟩; rw [HT.out.1, HT.out.2]))
      go_ret
      exact ⟨ret_bool HE.out.symm, H2.out.2⟩
    · have HT : Hid ((if Dr.tw a b then b - a else 0) = 0 ∧ decide (Dr.tw a b) = false) := Lib.hid ⟨if_neg htw, decide_eq_false htw⟩
      have HE : Hid (p.late a b = true) := Lib.hid (decide_eq_true ⟨hok, Or.inl htw⟩)
      clear hok htw
      go_enter Try.func40, Try.ntmps40
      go_upto_region 1 with fail
      rw [H1.out.1]
      go_wp2_with (first | ((with_reducible show wpList _ _ _ ((⟨_, Op.load 24 _, _, _, _, _⟩ : Oper) :: _) _ _); refine wpList_load_row rfl _ (.tmp 3) rfl w.heap.size rfl 24 C (0, 0) _ H1.out.2.2.1 Try.underlying24 rfl (by rw [h11]; exact info11) ?_) | (go_at_call 22; refine (check_any H1.out.2.2.2).mono ?_; rintro e w2 ⟨rfl, hb2⟩; rw [HK.out]; have H2 := Lib.hid (And.intro (H1.out.2.2.on hb2) (H1.out.2.1.trans (hb2.mono H1.out.2.1.size))); have k0 : w2.cell? ⟨w.heap.size, 0, none⟩ = some (.int .i64 p.nodes) := (H2.out.1.1.cell 0).trans HQ.out.1; have k3 : w2.cell? ⟨w.heap.size, 3, none⟩ = some (.int .i64 p.hold) := (H2.out.1.1.cell 3).trans HQ.out.2.1; have k4 : w2.cell? ⟨w.heap.size, 4, none⟩ = some (.int .i64 p.grant) := (H2.out.1.1.cell 4).trans HQ.out.2.2.1; have k5 : w2.cell? ⟨w.heap.size, 5, none⟩ = some (.int .i64 p.guard) := (H2.out.1.1.cell 5).trans HQ.out.2.2.2; clear hb2) | (go_at_call 54; refine (between_any _ _ _).mono ?_; rintro e w3 ⟨rfl, rfl⟩; rw [HT.out.1, HT.out.2]))
      go_ret
      exact ⟨ret_bool HE.out.symm, H2.out.2⟩
  · have HE : Hid (p.late a b = false) := Lib.hid (decide_eq_false fun h => hok h.1)
    have HK := Lib.hid (Dr.P.chk_no hok)
    clear hok
    go_enter Try.func40, Try.ntmps40
    go_upto_region 1 with fail
    rw [H1.out.1]
    go_wp2_with (first | ((with_reducible show wpList _ _ _ ((⟨_, Op.load 24 _, _, _, _, _⟩ : Oper) :: _) _ _); refine wpList_load_row rfl _ (.tmp 3) rfl w.heap.size rfl 24 C (0, 0) _ H1.out.2.2.1 Try.underlying24 rfl (by rw [h11]; exact info11) ?_) | (go_at_call 22; refine (check_any H1.out.2.2.2).mono ?_; rintro e w2 ⟨rfl, hb2⟩; rw [HK.out]; have H2 := Lib.hid (And.intro (H1.out.2.2.on hb2) (H1.out.2.1.trans (hb2.mono H1.out.2.1.size))); have k0 : w2.cell? ⟨w.heap.size, 0, none⟩ = some (.int .i64 p.nodes) := (H2.out.1.1.cell 0).trans HQ.out.1; have k3 : w2.cell? ⟨w.heap.size, 3, none⟩ = some (.int .i64 p.hold) := (H2.out.1.1.cell 3).trans HQ.out.2.1; have k4 : w2.cell? ⟨w.heap.size, 4, none⟩ = some (.int .i64 p.grant) := (H2.out.1.1.cell 4).trans HQ.out.2.2.1; have k5 : w2.cell? ⟨w.heap.size, 5, none⟩ = some (.int .i64 p.guard) := (H2.out.1.1.cell 5).trans HQ.out.2.2.2; clear hb2))
    go_ret
    exact ⟨ret_bool HE.out.symm, H2.out.2⟩
/-- At most twenty stages, and needs. -/
def few (p : Dr.P) : Bool := decide (p.stages.length ≤ 20 ∧ p.needs.length ≤ 20)
theorem few_any {w : World} {S : Nat → Prop} {C : Array Value} {p : Dr.P} (h : Cc w S C p) :
    Calls Try.prog 9 #[.agg C] w fun e w' => e = .returned (.bool (few p)) ∧ Below w.heap.size w w' := by
  obtain ⟨a, n, c, a', n', c', q0, q1, q2, q3, q4, q5, q6, q7, q8, q9, q10, hnc, hnc', hm', hs, hd, hp⟩ := h.get
  have HE : Hid (few p = decide (n ≤ 20 ∧ n' ≤ 20)) := Lib.hid (by unfold few; rw [hs.1, hd.1])
  clear q0 q1 q2 q3 q4 q5 q6 q9 q10 hs hd hp
  have h11 := h.size
  have hb1 := below_alloc w (.cells C 24)
  have hx1 := Box.new h
  obtain ⟨w1, h1⟩ : ∃ w1, w.alloc (.cells C 24) = w1 := ⟨_, rfl⟩
  rw [h1] at hb1 hx1
  have H1 := Lib.hid (And.intro h1 (And.intro hb1 hx1))
  clear h h1 hb1 hx1
  have k7 : w1.cell? ⟨w.heap.size, 7, none⟩ = some (.slice a n c) := (H1.out.2.2.1.cell 7).trans q7
  have k8 : w1.cell? ⟨w.heap.size, 8, none⟩ = some (.slice a' n' c') := (H1.out.2.2.1.cell 8).trans q8
  clear q7 q8
  by_cases h1 : n ≤ 20
  · have d1 : decide ((n : Int) ≤ 20) = true := decide_eq_true (by omega)
    obtain ⟨z, hz⟩ : ∃ z, few p = z := ⟨_, rfl⟩
    have HZ : Hid (z = decide ((n' : Int) ≤ 20)) := Lib.hid (by rw [← hz, HE.out]; exact decide_eq_decide.2 ⟨fun h => by omega, fun h => ⟨h1, by omega⟩⟩)
    rw [hz]
    clear hz h1
    go_enter Try.func9, Try.ntmps9
    go_upto_region 1 with fail
    rw [H1.out.1]
    go_wp2_with fail
    go_ret
    exact ⟨ret_bool HZ.out.symm, H1.out.2.1⟩
  · have d1 : decide ((n : Int) ≤ 20) = false := decide_eq_false (by omega)
    have HZ : Hid (few p = false) := Lib.hid (by rw [HE.out]; exact decide_eq_false fun h => h1 h.1)
    clear h1
    go_enter Try.func9, Try.ntmps9
    go_upto_region 1 with fail
    rw [H1.out.1]
    go_wp2_with fail
    go_ret
    exact ⟨ret_bool HZ.out.symm, H1.out.2.1⟩
end Go.Proofs.Ytegdopbiiddamaa
