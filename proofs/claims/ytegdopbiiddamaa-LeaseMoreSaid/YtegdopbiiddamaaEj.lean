/-
  The document's Majority, Gain, Holds, Late and Free.
-/
import Derived.Test.YtegdopbiiddamaaEi
namespace Go.Proofs.Ytegdopbiiddamaa
set_option linter.unusedVariables false
set_option linter.unusedSimpArgs false
set_option maxRecDepth 20000
open Go.RowKit
theorem Cc.five {w : World} {S : Nat → Prop} {C : Array Value} {p : Dr.P} (h : Cc w S C p) : C[0]? = some (.int .i64 p.nodes) ∧ C[3]? = some (.int .i64 p.hold) ∧ C[4]? = some (.int .i64 p.grant) ∧ C[5]? = some (.int .i64 p.guard) ∧ C[2]? = some (.int .i64 p.rho) := by
  obtain ⟨a, n, c, a', n', c', rfl, _⟩ := h
  exact ⟨rfl, rfl, rfl, rfl, rfl⟩
set_option maxHeartbeats 1000000 in
theorem rholds_any {w : World} {S : Nat → Prop} {C : Array Value} {p : Dr.P} (h : Cc w S C p) (a b : Int) :
    Calls Try.prog 37 #[.agg C, .int .i64 a, .int .i64 b] w fun e w' => e = .returned (.bool (p.holds a b)) ∧ Below w.heap.size w w' := by
  have HQ := Lib.hid h.five
  have h11 := h.size
  have hb1 := below_alloc w (.cells C 24)
  have hx1 := Box.new h
  obtain ⟨w1, h1⟩ : ∃ w1, w.alloc (.cells C 24) = w1 := ⟨_, rfl⟩
  rw [h1] at hb1 hx1
  have H1 := Lib.hid (And.intro h1 (And.intro hb1 hx1))
  clear h h1 hb1 hx1
  by_cases hok : p.ok
  case neg =>
    have HE : Hid (p.holds a b = false) := Lib.hid (decide_eq_false fun h => hok h.1)
    have HK := Lib.hid (Dr.P.chk_no hok)
    clear hok
    obtain ⟨T, hT⟩ : ∃ T, decide (Dr.tw a b) = T := ⟨_, rfl⟩
    have HT := Lib.hid hT
    clear hT
    go_enter Try.func37, Try.ntmps37
    go_upto_region 1 with fail
    rw [H1.out.1]
    go_wp2_with (first | ((with_reducible show wpList _ _ _ ((⟨_, Op.load 24 _, _, _, _, _⟩ : Oper) :: _) _ _); refine wpList_load_row rfl _ (.tmp 3) rfl w.heap.size rfl 24 C (0, 0) _ H1.out.2.2.1 Try.underlying24 rfl (by rw [h11]; exact info11) ?_) | (go_at_call 33; refine (rcheck_any H1.out.2.2.2).mono ?_; rintro e w2 ⟨rfl, hb2⟩; rw [HK.out]; have H2 := Lib.hid (And.intro (H1.out.2.2.on hb2) (H1.out.2.1.trans (hb2.mono H1.out.2.1.size))); have k2 : w2.cell? ⟨w.heap.size, 2, none⟩ = some (.int .i64 p.rho) := (H2.out.1.1.cell 2).trans HQ.out.2.2.2.2; have k3 : w2.cell? ⟨w.heap.size, 3, none⟩ = some (.int .i64 p.hold) := (H2.out.1.1.cell 3).trans HQ.out.2.1; have k4 : w2.cell? ⟨w.heap.size, 4, none⟩ = some (.int .i64 p.grant) := (H2.out.1.1.cell 4).trans HQ.out.2.2.1; have k5 : w2.cell? ⟨w.heap.size, 5, none⟩ = some (.int .i64 p.guard) := (H2.out.1.1.cell 5).trans HQ.out.2.2.2.1; clear hb2) | (go_at_call 55; refine (rtime_any _ _ _).mono ?_; rintro e w3 ⟨rfl, rfl⟩; rw [HT.out]))
    go_ret
    exact ⟨ret_bool HE.out.symm, H2.out.2⟩
  have HK := Lib.hid (Dr.P.chk_ok hok)
  by_cases htw : Dr.tw a b
  case neg =>
    have HT : Hid (decide (Dr.tw a b) = false) := Lib.hid (decide_eq_false htw)
    have HE : Hid (p.holds a b = false) := Lib.hid (decide_eq_false fun h => htw h.2.1)
    clear hok htw
    go_enter Try.func37, Try.ntmps37
    go_upto_region 1 with fail
    rw [H1.out.1]
    go_wp2_with (first | ((with_reducible show wpList _ _ _ ((⟨_, Op.load 24 _, _, _, _, _⟩ : Oper) :: _) _ _); refine wpList_load_row rfl _ (.tmp 3) rfl w.heap.size rfl 24 C (0, 0) _ H1.out.2.2.1 Try.underlying24 rfl (by rw [h11]; exact info11) ?_) | (go_at_call 33; refine (rcheck_any H1.out.2.2.2).mono ?_; rintro e w2 ⟨rfl, hb2⟩; rw [HK.out]; have H2 := Lib.hid (And.intro (H1.out.2.2.on hb2) (H1.out.2.1.trans (hb2.mono H1.out.2.1.size))); have k2 : w2.cell? ⟨w.heap.size, 2, none⟩ = some (.int .i64 p.rho) := (H2.out.1.1.cell 2).trans HQ.out.2.2.2.2; have k3 : w2.cell? ⟨w.heap.size, 3, none⟩ = some (.int .i64 p.hold) := (H2.out.1.1.cell 3).trans HQ.out.2.1; have k4 : w2.cell? ⟨w.heap.size, 4, none⟩ = some (.int .i64 p.grant) := (H2.out.1.1.cell 4).trans HQ.out.2.2.1; have k5 : w2.cell? ⟨w.heap.size, 5, none⟩ = some (.int .i64 p.guard) := (H2.out.1.1.cell 5).trans HQ.out.2.2.2.1; clear hb2) | (go_at_call 55; refine (rtime_any _ _ _).mono ?_; rintro e w3 ⟨rfl, rfl⟩; rw [HT.out]))
    go_ret
    exact ⟨ret_bool HE.out.symm, H2.out.2⟩
  obtain ⟨x, hx⟩ : ∃ x, b - a = x := ⟨_, rfl⟩
  have HT : Hid (decide (Dr.tw a b) = true) := Lib.hid (decide_eq_true htw)
  have HE : Hid (p.holds a b = decide (x < p.hold)) := Lib.hid (by unfold Dr.P.holds; rw [hx]; exact decide_eq_decide.2 ⟨fun h => h.2.2, fun h => ⟨hok, htw, h⟩⟩)
  have e1 : wrap64 (b - a) = x := by rw [hx]; exact IntWalk.wrap64_in _ (by obtain ⟨y1, y2, y3⟩ := htw; omega)
  clear hok htw hx
  go_enter Try.func37, Try.ntmps37
  go_upto_region 1 with fail
  rw [H1.out.1]
  go_wp2_with (first | ((with_reducible show wpList _ _ _ ((⟨_, Op.load 24 _, _, _, _, _⟩ : Oper) :: _) _ _); refine wpList_load_row rfl _ (.tmp 3) rfl w.heap.size rfl 24 C (0, 0) _ H1.out.2.2.1 Try.underlying24 rfl (by rw [h11]; exact info11) ?_) | (go_at_call 33; refine (rcheck_any H1.out.2.2.2).mono ?_; rintro e w2 ⟨rfl, hb2⟩; rw [HK.out]; have H2 := Lib.hid (And.intro (H1.out.2.2.on hb2) (H1.out.2.1.trans (hb2.mono H1.out.2.1.size))); have k2 : w2.cell? ⟨w.heap.size, 2, none⟩ = some (.int .i64 p.rho) := (H2.out.1.1.cell 2).trans HQ.out.2.2.2.2; have k3 : w2.cell? ⟨w.heap.size, 3, none⟩ = some (.int .i64 p.hold) := (H2.out.1.1.cell 3).trans HQ.out.2.1; have k4 : w2.cell? ⟨w.heap.size, 4, none⟩ = some (.int .i64 p.grant) := (H2.out.1.1.cell 4).trans HQ.out.2.2.1; have k5 : w2.cell? ⟨w.heap.size, 5, none⟩ = some (.int .i64 p.guard) := (H2.out.1.1.cell 5).trans HQ.out.2.2.2.1; clear hb2) | (go_at_call 55; refine (rtime_any _ _ _).mono ?_; rintro e w3 ⟨rfl, rfl⟩; rw [HT.out]))
  go_ret
  exact ⟨ret_bool HE.out.symm, H2.out.2⟩
set_option maxHeartbeats 1000000 in
theorem rlate_any {w : World} {S : Nat → Prop} {C : Array Value} {p : Dr.P} (h : Cc w S C p) (a b : Int) :
    Calls Try.prog 41 #[.agg C, .int .i64 a, .int .i64 b] w fun e w' => e = .returned (.bool (p.late a b)) ∧ Below w.heap.size w w' := by
  have HQ := Lib.hid h.five
  have h11 := h.size
  have hb1 := below_alloc w (.cells C 24)
  have hx1 := Box.new h
  obtain ⟨w1, h1⟩ : ∃ w1, w.alloc (.cells C 24) = w1 := ⟨_, rfl⟩
  rw [h1] at hb1 hx1
  have H1 := Lib.hid (And.intro h1 (And.intro hb1 hx1))
  clear h h1 hb1 hx1
  by_cases hok : p.ok
  case neg =>
    have HE : Hid (p.late a b = false) := Lib.hid (decide_eq_false fun h => hok h.1)
    have HK := Lib.hid (Dr.P.chk_no hok)
    clear hok
    go_enter Try.func41, Try.ntmps41
    go_upto_region 1 with fail
    rw [H1.out.1]
    go_wp2_with (first | ((with_reducible show wpList _ _ _ ((⟨_, Op.load 24 _, _, _, _, _⟩ : Oper) :: _) _ _); refine wpList_load_row rfl _ (.tmp 3) rfl w.heap.size rfl 24 C (0, 0) _ H1.out.2.2.1 Try.underlying24 rfl (by rw [h11]; exact info11) ?_) | (go_at_call 33; refine (rcheck_any H1.out.2.2.2).mono ?_; rintro e w2 ⟨rfl, hb2⟩; rw [HK.out]; have H2 := Lib.hid (And.intro (H1.out.2.2.on hb2) (H1.out.2.1.trans (hb2.mono H1.out.2.1.size))); have k2 : w2.cell? ⟨w.heap.size, 2, none⟩ = some (.int .i64 p.rho) := (H2.out.1.1.cell 2).trans HQ.out.2.2.2.2; have k3 : w2.cell? ⟨w.heap.size, 3, none⟩ = some (.int .i64 p.hold) := (H2.out.1.1.cell 3).trans HQ.out.2.1; have k4 : w2.cell? ⟨w.heap.size, 4, none⟩ = some (.int .i64 p.grant) := (H2.out.1.1.cell 4).trans HQ.out.2.2.1; have k5 : w2.cell? ⟨w.heap.size, 5, none⟩ = some (.int .i64 p.guard) := (H2.out.1.1.cell 5).trans HQ.out.2.2.2.1; clear hb2))
    go_ret
    exact ⟨ret_bool HE.out.symm, H2.out.2⟩
  have HK := Lib.hid (Dr.P.chk_ok hok)
  by_cases hh : Dr.tw a b ∧ b - a < p.hold
  case neg =>
    have HT : Hid (p.holds a b = false) := Lib.hid (decide_eq_false fun h => hh h.2)
    have HE : Hid (p.late a b = true) := Lib.hid (decide_eq_true ⟨hok, by
      by_cases htw : Dr.tw a b
      · refine Or.inr ?_
        have h1 : 1 ≤ p.guard := hok.2.2.2.1.2.2.1.1
        have h2 : ¬ (b - a < p.hold) := fun h => hh ⟨htw, h⟩
        omega
      · exact Or.inl htw⟩)
    clear hok hh
    go_enter Try.func41, Try.ntmps41
    go_upto_region 1 with fail
    rw [H1.out.1]
    go_wp2_with (first | ((with_reducible show wpList _ _ _ ((⟨_, Op.load 24 _, _, _, _, _⟩ : Oper) :: _) _ _); refine wpList_load_row rfl _ (.tmp 3) rfl w.heap.size rfl 24 C (0, 0) _ H1.out.2.2.1 Try.underlying24 rfl (by rw [h11]; exact info11) ?_) | ((with_reducible show wpList _ _ _ ((⟨_, Op.load 24 _, _, _, _, _⟩ : Oper) :: _) _ _); refine wpList_load_row rfl _ (.tmp 3) rfl w.heap.size rfl 24 C (0, 0) _ H2.out.1.1 Try.underlying24 rfl (by rw [h11]; exact info11) ?_) | (go_at_call 33; refine (rcheck_any H1.out.2.2.2).mono ?_; rintro e w2 ⟨rfl, hb2⟩; rw [HK.out]; have H2 := Lib.hid (And.intro (H1.out.2.2.on hb2) (H1.out.2.1.trans (hb2.mono H1.out.2.1.size))); have k2 : w2.cell? ⟨w.heap.size, 2, none⟩ = some (.int .i64 p.rho) := (H2.out.1.1.cell 2).trans HQ.out.2.2.2.2; have k3 : w2.cell? ⟨w.heap.size, 3, none⟩ = some (.int .i64 p.hold) := (H2.out.1.1.cell 3).trans HQ.out.2.1; have k4 : w2.cell? ⟨w.heap.size, 4, none⟩ = some (.int .i64 p.grant) := (H2.out.1.1.cell 4).trans HQ.out.2.2.1; have k5 : w2.cell? ⟨w.heap.size, 5, none⟩ = some (.int .i64 p.guard) := (H2.out.1.1.cell 5).trans HQ.out.2.2.2.1; clear hb2) | (go_at_call 37; refine (rholds_any H2.out.1.2 _ _).mono ?_; rintro e w3 ⟨rfl, hb3⟩; rw [HT.out]; have H3 := Lib.hid (And.intro (H2.out.1.on hb3) (H2.out.2.trans (hb3.mono H2.out.2.size))); have m3 : w3.cell? ⟨w.heap.size, 3, none⟩ = some (.int .i64 p.hold) := (H3.out.1.1.cell 3).trans HQ.out.2.1; have m5 : w3.cell? ⟨w.heap.size, 5, none⟩ = some (.int .i64 p.guard) := (H3.out.1.1.cell 5).trans HQ.out.2.2.2.1; clear hb3))
    go_ret
    exact ⟨ret_bool HE.out.symm, H3.out.2⟩
  obtain ⟨htw, hlt⟩ := hh
  obtain ⟨x, hx⟩ : ∃ x, b - a = x := ⟨_, rfl⟩
  have HT : Hid (p.holds a b = true) := Lib.hid (decide_eq_true ⟨hok, htw, hlt⟩)
  have HE : Hid (p.late a b = decide (p.hold - x ≤ p.guard)) := Lib.hid (by unfold Dr.P.late; rw [hx]; exact decide_eq_decide.2 ⟨fun h => h.2.resolve_left (fun h => h htw), fun h => ⟨hok, Or.inr h⟩⟩)
  have e1 : wrap64 (b - a) = x := by rw [hx]; exact IntWalk.wrap64_in _ (by obtain ⟨y1, y2, y3⟩ := htw; omega)
  have e2 : wrap64 (p.hold - x) = p.hold - x := IntWalk.wrap64_in _ (by obtain ⟨t1, t2⟩ := hok.2.2.2.1.1; obtain ⟨y1, y2, y3⟩ := htw; omega)
  clear hok htw hx hlt
  go_enter Try.func41, Try.ntmps41
  go_upto_region 1 with fail
  rw [H1.out.1]
  go_wp2_with (first | ((with_reducible show wpList _ _ _ ((⟨_, Op.load 24 _, _, _, _, _⟩ : Oper) :: _) _ _); refine wpList_load_row rfl _ (.tmp 3) rfl w.heap.size rfl 24 C (0, 0) _ H1.out.2.2.1 Try.underlying24 rfl (by rw [h11]; exact info11) ?_) | ((with_reducible show wpList _ _ _ ((⟨_, Op.load 24 _, _, _, _, _⟩ : Oper) :: _) _ _); refine wpList_load_row rfl _ (.tmp 3) rfl w.heap.size rfl 24 C (0, 0) _ H2.out.1.1 Try.underlying24 rfl (by rw [h11]; exact info11) ?_) | (go_at_call 33; refine (rcheck_any H1.out.2.2.2).mono ?_; rintro e w2 ⟨rfl, hb2⟩; rw [HK.out]; have H2 := Lib.hid (And.intro (H1.out.2.2.on hb2) (H1.out.2.1.trans (hb2.mono H1.out.2.1.size))); have k2 : w2.cell? ⟨w.heap.size, 2, none⟩ = some (.int .i64 p.rho) := (H2.out.1.1.cell 2).trans HQ.out.2.2.2.2; have k3 : w2.cell? ⟨w.heap.size, 3, none⟩ = some (.int .i64 p.hold) := (H2.out.1.1.cell 3).trans HQ.out.2.1; have k4 : w2.cell? ⟨w.heap.size, 4, none⟩ = some (.int .i64 p.grant) := (H2.out.1.1.cell 4).trans HQ.out.2.2.1; have k5 : w2.cell? ⟨w.heap.size, 5, none⟩ = some (.int .i64 p.guard) := (H2.out.1.1.cell 5).trans HQ.out.2.2.2.1; clear hb2) | (go_at_call 37; refine (rholds_any H2.out.1.2 _ _).mono ?_; rintro e w3 ⟨rfl, hb3⟩; rw [HT.out]; have H3 := Lib.hid (And.intro (H2.out.1.on hb3) (H2.out.2.trans (hb3.mono H2.out.2.size))); have m3 : w3.cell? ⟨w.heap.size, 3, none⟩ = some (.int .i64 p.hold) := (H3.out.1.1.cell 3).trans HQ.out.2.1; have m5 : w3.cell? ⟨w.heap.size, 5, none⟩ = some (.int .i64 p.guard) := (H3.out.1.1.cell 5).trans HQ.out.2.2.2.1; clear hb3))
  go_ret
  exact ⟨ret_bool HE.out.symm, H3.out.2⟩
set_option maxHeartbeats 1000000 in
theorem rmajority_any {w : World} {S : Nat → Prop} {C : Array Value} {p : Dr.P} (h : Cc w S C p) :
    Calls Try.prog 38 #[.agg C] w fun e w' => e = .returned (.int .i64 p.maj) ∧ Below w.heap.size w w' := by
  have HQ := Lib.hid h.five
  have h11 := h.size
  have hb1 := below_alloc w (.cells C 24)
  have hx1 := Box.new h
  obtain ⟨w1, h1⟩ : ∃ w1, w.alloc (.cells C 24) = w1 := ⟨_, rfl⟩
  rw [h1] at hb1 hx1
  have H1 := Lib.hid (And.intro h1 (And.intro hb1 hx1))
  clear h h1 hb1 hx1
  by_cases hok : p.ok
  · have HE : Hid (p.maj = p.nodes / 2 + 1) := Lib.hid (if_pos hok)
    have HK := Lib.hid (Dr.P.chk_ok hok)
    obtain ⟨g0, g1⟩ := hok.1
    clear hok
    go_enter Try.func38, Try.ntmps38
    go_upto_region 1 with fail
    rw [H1.out.1]
    go_wp2
    go_loopw [3] (fun i wr => ∃ k : Int, i = .int .i64 k ∧ 0 ≤ k ∧ k ≤ 10 ∧ (k = 0 ∨ 2 * k - 2 ≤ p.nodes) ∧ Hid (Box wr (fun _ => True) w.heap.size C p ∧ Below w.heap.size w wr)) (fun i _ => 20 - (intOf i).toNat)
    case atStart => exact ⟨0, rfl, by omega, by omega, Or.inl rfl, Lib.hid ⟨H1.out.2.2.weak fun _ _ => trivial, H1.out.2.1⟩⟩
    case round =>
      obtain ⟨k, rfl, hk0, hk9, hk, HB⟩ := hrel
      have k0 : wr.cell? ⟨w.heap.size, 0, none⟩ = some (.int .i64 p.nodes) := (HB.out.1.1.cell 0).trans HQ.out.1
      by_cases c1 : 2 * k ≤ p.nodes
      · have d1 : decide (2 * k ≤ p.nodes) = true := decide_eq_true c1
        go_wp2_with (first | ((with_reducible show wpList _ _ _ ((⟨_, Op.load 24 _, _, _, _, _⟩ : Oper) :: _) _ _); refine wpList_load_row rfl _ (.tmp 1) rfl w.heap.size rfl 24 C (0, 0) _ HB.out.1.1 Try.underlying24 rfl (by rw [h11]; exact info11) ?_) | (go_at_call 33; refine (rcheck_any HB.out.1.2).mono ?_; rintro e w2 ⟨rfl, hb2⟩; rw [HK.out]; have H2 := Lib.hid (And.intro ((HB.out.1.on hb2).weak (fun _ _ => trivial)) (HB.out.2.trans (hb2.mono HB.out.2.size))); have m0 : w2.cell? ⟨w.heap.size, 0, none⟩ = some (.int .i64 p.nodes) := (H2.out.1.1.cell 0).trans HQ.out.1; clear hb2))
        go_roundw
        case rel => exact ⟨k + 1, by go_num, by omega, by omega, Or.inr (by omega), H2⟩
        case measure => simp [intOf]; omega
      · have d1 : decide (2 * k ≤ p.nodes) = false := decide_eq_false c1
        have HZ : Hid (k = p.nodes / 2 + 1) := Lib.hid (by omega)
        clear hk
        go_wp2_with (first | ((with_reducible show wpList _ _ _ ((⟨_, Op.load 24 _, _, _, _, _⟩ : Oper) :: _) _ _); refine wpList_load_row rfl _ (.tmp 1) rfl w.heap.size rfl 24 C (0, 0) _ HB.out.1.1 Try.underlying24 rfl (by rw [h11]; exact info11) ?_) | (go_at_call 33; refine (rcheck_any HB.out.1.2).mono ?_; rintro e w2 ⟨rfl, hb2⟩; rw [HK.out]; have H2 := Lib.hid (And.intro ((HB.out.1.on hb2).weak (fun _ _ => trivial)) (HB.out.2.trans (hb2.mono HB.out.2.size))); have m0 : w2.cell? ⟨w.heap.size, 0, none⟩ = some (.int .i64 p.nodes) := (H2.out.1.1.cell 0).trans HQ.out.1; clear hb2))
        go_ret
        exact ⟨ret_i64 (HZ.out.trans HE.out.symm), H2.out.2⟩
  · have HE : Hid (p.maj = 0) := Lib.hid (if_neg hok)
    have HK := Lib.hid (Dr.P.chk_no hok)
    clear hok
    go_enter Try.func38, Try.ntmps38
    go_upto_region 1 with fail
    rw [H1.out.1]
    go_wp2
    go_loopw [3] (fun i wr => i = .int .i64 0 ∧ wr = w1) (fun i _ => 1)
    case atStart => exact ⟨rfl, rfl⟩
    case round =>
      obtain ⟨rfl, rfl⟩ := hrel
      go_wp2_with (first | ((with_reducible show wpList _ _ _ ((⟨_, Op.load 24 _, _, _, _, _⟩ : Oper) :: _) _ _); refine wpList_load_row rfl _ (.tmp 1) rfl w.heap.size rfl 24 C (0, 0) _ H1.out.2.2.1 Try.underlying24 rfl (by rw [h11]; exact info11) ?_) | (go_at_call 33; refine (rcheck_any H1.out.2.2.2).mono ?_; rintro e w2 ⟨rfl, hb2⟩; rw [HK.out]; have H2 := Lib.hid (And.intro (H1.out.2.2.on hb2) (H1.out.2.1.trans (hb2.mono H1.out.2.1.size))); have k2 : w2.cell? ⟨w.heap.size, 2, none⟩ = some (.int .i64 p.rho) := (H2.out.1.1.cell 2).trans HQ.out.2.2.2.2; have k3 : w2.cell? ⟨w.heap.size, 3, none⟩ = some (.int .i64 p.hold) := (H2.out.1.1.cell 3).trans HQ.out.2.1; have k4 : w2.cell? ⟨w.heap.size, 4, none⟩ = some (.int .i64 p.grant) := (H2.out.1.1.cell 4).trans HQ.out.2.2.1; have k5 : w2.cell? ⟨w.heap.size, 5, none⟩ = some (.int .i64 p.guard) := (H2.out.1.1.cell 5).trans HQ.out.2.2.2.1; clear hb2))
      go_ret
      exact ⟨ret_i64 HE.out.symm, H2.out.2⟩
end Go.Proofs.Ytegdopbiiddamaa
