/-
  The document's Check.
-/
import Derived.Test.YtegdopbiiddamaaEh
namespace Go.Proofs.Ytegdopbiiddamaa
set_option linter.unusedVariables false
set_option linter.unusedSimpArgs false
set_option maxRecDepth 20000
open Go.RowKit
set_option maxHeartbeats 8000000 in
theorem rcheck_any {w : World} {S : Nat → Prop} {C : Array Value} {p : Dr.P} (h : Cc w S C p) :
    Calls Try.prog 33 #[.agg C] w fun e w' => e = .returned (.int .i64 p.chk) ∧ Below w.heap.size w w' := by
  obtain ⟨a, n, c, a', n', c', q0, q1, q2, q3, q4, q5, q6, q7, q8, q9, q10, hnc, hnc', hm', hs0, hd0, hp⟩ := h.get
  clear hs0 hd0 q7 q8
  have hP := Lib.hid hp
  clear hp
  have h11 := h.size
  have hb1 := below_alloc w (.cells C 24)
  have hx1 := Box.new h
  obtain ⟨w1, h1⟩ : ∃ w1, w.alloc (.cells C 24) = w1 := ⟨_, rfl⟩
  rw [h1] at hb1 hx1
  have H1 := Lib.hid (And.intro h1 (And.intro hb1 hx1))
  clear h1 hb1 hx1
  have hW := H1.out.2.2.1
  have k0 : w1.cell? ⟨w.heap.size, 0, none⟩ = some (.int .i64 p.nodes) := (hW.cell 0).trans q0
  have k1 : w1.cell? ⟨w.heap.size, 1, none⟩ = some (.int .i64 p.slots) := (hW.cell 1).trans q1
  have k2 : w1.cell? ⟨w.heap.size, 2, none⟩ = some (.int .i64 p.rho) := (hW.cell 2).trans q2
  have k3 : w1.cell? ⟨w.heap.size, 3, none⟩ = some (.int .i64 p.hold) := (hW.cell 3).trans q3
  have k4 : w1.cell? ⟨w.heap.size, 4, none⟩ = some (.int .i64 p.grant) := (hW.cell 4).trans q4
  have k5 : w1.cell? ⟨w.heap.size, 5, none⟩ = some (.int .i64 p.guard) := (hW.cell 5).trans q5
  have k6 : w1.cell? ⟨w.heap.size, 6, none⟩ = some (.int .i64 p.work) := (hW.cell 6).trans q6
  have HC := Lib.hid h
  clear h hW
  by_cases c1 : p.nodes < 1
  · have d1 : decide (p.nodes < 1) = true := by simpa using c1
    have HZ : Hid (p.chk = 90) := Lib.hid (Dr.P.chk_no fun h => by have h' := h.1.1; omega)
    clear c1
    go_enter Try.func33, Try.ntmps33
    go_upto_region 1 with fail
    rw [H1.out.1]
    go_wp2
    go_ret
    exact ⟨ret_i64 HZ.out.symm, H1.out.2.1⟩
  have d1 : decide (p.nodes < 1) = false := by simpa using c1
  by_cases c2 : 9 < p.nodes
  · have d2 : decide (9 < p.nodes) = true := by simpa using c2
    have HZ : Hid (p.chk = 90) := Lib.hid (Dr.P.chk_no fun h => by have h' := h.1.2; omega)
    clear c2
    go_enter Try.func33, Try.ntmps33
    go_upto_region 1 with fail
    rw [H1.out.1]
    go_wp2
    go_ret
    exact ⟨ret_i64 HZ.out.symm, H1.out.2.1⟩
  have d2 : decide (9 < p.nodes) = false := by simpa using c2
  by_cases c3 : p.slots < 1
  · have d3 : decide (p.slots < 1) = true := by simpa using c3
    have HZ : Hid (p.chk = 90) := Lib.hid (Dr.P.chk_no fun h => by have h' := h.2.1.1; omega)
    clear c3
    go_enter Try.func33, Try.ntmps33
    go_upto_region 1 with fail
    rw [H1.out.1]
    go_wp2
    go_ret
    exact ⟨ret_i64 HZ.out.symm, H1.out.2.1⟩
  have d3 : decide (p.slots < 1) = false := by simpa using c3
  by_cases c4 : p.nodes < p.slots
  · have d4 : decide (p.nodes < p.slots) = true := by simpa using c4
    have HZ : Hid (p.chk = 90) := Lib.hid (Dr.P.chk_no fun h => by have h' := h.2.1.2; omega)
    clear c4
    go_enter Try.func33, Try.ntmps33
    go_upto_region 1 with fail
    rw [H1.out.1]
    go_wp2
    go_ret
    exact ⟨ret_i64 HZ.out.symm, H1.out.2.1⟩
  have d4 : decide (p.nodes < p.slots) = false := by simpa using c4
  by_cases c5 : p.rho < 0
  · have d5 : decide (p.rho < 0) = true := by simpa using c5
    have HZ : Hid (p.chk = 90) := Lib.hid (Dr.P.chk_no fun h => by have h' := h.2.2.1.1; omega)
    clear c5
    go_enter Try.func33, Try.ntmps33
    go_upto_region 1 with fail
    rw [H1.out.1]
    go_wp2
    go_ret
    exact ⟨ret_i64 HZ.out.symm, H1.out.2.1⟩
  have d5 : decide (p.rho < 0) = false := by simpa using c5
  by_cases c6 : 500 < p.rho
  · have d6 : decide (500 < p.rho) = true := by simpa using c6
    have HZ : Hid (p.chk = 90) := Lib.hid (Dr.P.chk_no fun h => by have h' := h.2.2.1.2; omega)
    clear c6
    go_enter Try.func33, Try.ntmps33
    go_upto_region 1 with fail
    rw [H1.out.1]
    go_wp2
    go_ret
    exact ⟨ret_i64 HZ.out.symm, H1.out.2.1⟩
  have d6 : decide (500 < p.rho) = false := by simpa using c6
  by_cases c7 : Dr.tm p.hold
  case neg =>
    have d7 : decide (Dr.tm p.hold) = false := decide_eq_false c7
    have HZ : Hid (p.chk = 90) := Lib.hid (Dr.P.chk_no fun h => c7 h.2.2.2.1.1)
    clear c7
    go_enter Try.func33, Try.ntmps33
    go_upto_region 1 with fail
    rw [H1.out.1]
    go_wp2_with (go_at_call 52; refine (rwithin_any _ _).mono ?_; rintro e w' ⟨rfl, rfl⟩)
    go_ret
    exact ⟨ret_i64 HZ.out.symm, H1.out.2.1⟩
  have d7 : decide (Dr.tm p.hold) = true := decide_eq_true c7
  by_cases c8 : Dr.tm p.grant
  case neg =>
    have d8 : decide (Dr.tm p.grant) = false := decide_eq_false c8
    have HZ : Hid (p.chk = 90) := Lib.hid (Dr.P.chk_no fun h => c8 h.2.2.2.1.2.1)
    clear c8
    go_enter Try.func33, Try.ntmps33
    go_upto_region 1 with fail
    rw [H1.out.1]
    go_wp2_with (go_at_call 52; refine (rwithin_any _ _).mono ?_; rintro e w' ⟨rfl, rfl⟩)
    go_ret
    exact ⟨ret_i64 HZ.out.symm, H1.out.2.1⟩
  have d8 : decide (Dr.tm p.grant) = true := decide_eq_true c8
  by_cases c9 : Dr.tm p.guard
  case neg =>
    have d9 : decide (Dr.tm p.guard) = false := decide_eq_false c9
    have HZ : Hid (p.chk = 90) := Lib.hid (Dr.P.chk_no fun h => c9 h.2.2.2.1.2.2.1)
    clear c9
    go_enter Try.func33, Try.ntmps33
    go_upto_region 1 with fail
    rw [H1.out.1]
    go_wp2_with (go_at_call 52; refine (rwithin_any _ _).mono ?_; rintro e w' ⟨rfl, rfl⟩)
    go_ret
    exact ⟨ret_i64 HZ.out.symm, H1.out.2.1⟩
  have d9 : decide (Dr.tm p.guard) = true := decide_eq_true c9
  by_cases c10 : Dr.tm p.work
  case neg =>
    have d10 : decide (Dr.tm p.work) = false := decide_eq_false c10
    have HZ : Hid (p.chk = 90) := Lib.hid (Dr.P.chk_no fun h => c10 h.2.2.2.1.2.2.2)
    clear c10
    go_enter Try.func33, Try.ntmps33
    go_upto_region 1 with fail
    rw [H1.out.1]
    go_wp2_with (go_at_call 52; refine (rwithin_any _ _).mono ?_; rintro e w' ⟨rfl, rfl⟩)
    go_ret
    exact ⟨ret_i64 HZ.out.symm, H1.out.2.1⟩
  have d10 : decide (Dr.tm p.work) = true := decide_eq_true c10
  have HG : Hid (p.g0 ∧ p.g1 ∧ p.g2 ∧ p.g3) := Lib.hid ⟨⟨by omega, by omega⟩, ⟨by omega, by omega⟩, ⟨by omega, by omega⟩, c7, c8, c9, c10⟩
  obtain ⟨x, hx⟩ : ∃ x, p.hold * (1000 + p.rho) = x := ⟨_, rfl⟩
  obtain ⟨y, hy⟩ : ∃ y, p.grant * (1000 - p.rho) = y := ⟨_, rfl⟩
  have hx1 := mul_small (a := 0) (b := 0) (x := p.hold) (y := 1000 + p.rho) c7.1 c7.2 (by omega) (by omega)
  have hy1 := mul_small (a := 0) (b := 0) (x := p.grant) (y := 1000 - p.rho) c8.1 c8.2 (by omega) (by omega)
  rw [hx] at hx1
  rw [hy] at hy1
  have ex : IntKind.i64.wrap (p.hold * (1000 + p.rho)) = x := by rw [hx]; exact IntWalk.i64_in _ (by omega)
  have ey : IntKind.i64.wrap (p.grant * (1000 - p.rho)) = y := by rw [hy]; exact IntWalk.i64_in _ (by omega)
  have ex' : wrap64 (p.hold * (1000 + p.rho)) = x := by rw [hx]; exact IntWalk.wrap64_in _ (by omega)
  have ey' : wrap64 (p.grant * (1000 - p.rho)) = y := by rw [hy]; exact IntWalk.wrap64_in _ (by omega)
  have HX : Hid (p.g4 ↔ x < y) := Lib.hid (by unfold Dr.P.g4; rw [hx, hy])
  clear hx hy hx1 hy1 c7 c8 c9 c10
  by_cases c11 : y ≤ x
  · have d11 : decide (y ≤ x) = true := decide_eq_true c11
    have HZ : Hid (p.chk = 90) := Lib.hid (Dr.P.chk_no fun h => by have := HX.out.1 h.2.2.2.2.1; omega)
    clear c11
    go_enter Try.func33, Try.ntmps33
    go_upto_region 1 with fail
    rw [H1.out.1]
    go_wp2_with (first | (go_at_call 52; refine (rwithin_any _ _).mono ?_; rintro e w' ⟨rfl, rfl⟩) | ((with_reducible show wpList _ _ _ ((⟨_, Op.load 24 _, _, _, _, _⟩ : Oper) :: _) _ _); refine wpList_load_row rfl _ (.tmp 1) rfl w.heap.size rfl 24 C (0, 0) _ H1.out.2.2.1 Try.underlying24 rfl (by rw [h11]; exact info11) ?_) | (go_at_call 53; refine (rstages_any H1.out.2.2.2 HG.out.1).mono ?_; rintro e w2 ⟨rfl, hb2⟩; have H2 := Lib.hid (And.intro (H1.out.2.2.1.below hb2 H1.out.2.2.1.lt) (H1.out.2.1.trans (hb2.mono H1.out.2.1.size))); have m3 : w2.cell? ⟨w.heap.size, 3, none⟩ = some (.int .i64 p.hold) := (H2.out.1.cell 3).trans q3; have m4 : w2.cell? ⟨w.heap.size, 4, none⟩ = some (.int .i64 p.grant) := (H2.out.1.cell 4).trans q4; have m5 : w2.cell? ⟨w.heap.size, 5, none⟩ = some (.int .i64 p.guard) := (H2.out.1.cell 5).trans q5; have m9 : w2.cell? ⟨w.heap.size, 9, none⟩ = some (.int .i64 p.soak) := (H2.out.1.cell 9).trans q9; have m10 : w2.cell? ⟨w.heap.size, 10, none⟩ = some (.int .i64 p.pass) := (H2.out.1.cell 10).trans q10; clear hb2))
    go_ret
    exact ⟨ret_i64 HZ.out.symm, H2.out.2⟩
  have d11 : decide (y ≤ x) = false := decide_eq_false c11
  by_cases c12 : p.guard < 1000 + p.rho
  · have d12 : decide (p.guard < 1000 + p.rho) = true := by simpa using c12
    have HZ : Hid (p.chk = 90) := Lib.hid (Dr.P.chk_no fun h => by have h' := (show 1000 + p.rho ≤ p.guard from h.2.2.2.2.2.1); omega)
    clear c12
    go_enter Try.func33, Try.ntmps33
    go_upto_region 1 with fail
    rw [H1.out.1]
    go_wp2_with (first | (go_at_call 52; refine (rwithin_any _ _).mono ?_; rintro e w' ⟨rfl, rfl⟩) | ((with_reducible show wpList _ _ _ ((⟨_, Op.load 24 _, _, _, _, _⟩ : Oper) :: _) _ _); refine wpList_load_row rfl _ (.tmp 1) rfl w.heap.size rfl 24 C (0, 0) _ H1.out.2.2.1 Try.underlying24 rfl (by rw [h11]; exact info11) ?_) | (go_at_call 53; refine (rstages_any H1.out.2.2.2 HG.out.1).mono ?_; rintro e w2 ⟨rfl, hb2⟩; have H2 := Lib.hid (And.intro (H1.out.2.2.1.below hb2 H1.out.2.2.1.lt) (H1.out.2.1.trans (hb2.mono H1.out.2.1.size))); have m3 : w2.cell? ⟨w.heap.size, 3, none⟩ = some (.int .i64 p.hold) := (H2.out.1.cell 3).trans q3; have m4 : w2.cell? ⟨w.heap.size, 4, none⟩ = some (.int .i64 p.grant) := (H2.out.1.cell 4).trans q4; have m5 : w2.cell? ⟨w.heap.size, 5, none⟩ = some (.int .i64 p.guard) := (H2.out.1.cell 5).trans q5; have m9 : w2.cell? ⟨w.heap.size, 9, none⟩ = some (.int .i64 p.soak) := (H2.out.1.cell 9).trans q9; have m10 : w2.cell? ⟨w.heap.size, 10, none⟩ = some (.int .i64 p.pass) := (H2.out.1.cell 10).trans q10; clear hb2))
    go_ret
    exact ⟨ret_i64 HZ.out.symm, H2.out.2⟩
  have d12 : decide (p.guard < 1000 + p.rho) = false := by simpa using c12
  by_cases c13 : p.g6 ∧ p.g7
  case neg =>
    have d13 : decide (p.g6 ∧ p.g7) = false := decide_eq_false c13
    have HZ : Hid (p.chk = 90) := Lib.hid (Dr.P.chk_no fun h => c13 ⟨h.2.2.2.2.2.2.1, h.2.2.2.2.2.2.2.1⟩)
    clear c13
    go_enter Try.func33, Try.ntmps33
    go_upto_region 1 with fail
    rw [H1.out.1]
    go_wp2_with (first | (go_at_call 52; refine (rwithin_any _ _).mono ?_; rintro e w' ⟨rfl, rfl⟩) | ((with_reducible show wpList _ _ _ ((⟨_, Op.load 24 _, _, _, _, _⟩ : Oper) :: _) _ _); refine wpList_load_row rfl _ (.tmp 1) rfl w.heap.size rfl 24 C (0, 0) _ H1.out.2.2.1 Try.underlying24 rfl (by rw [h11]; exact info11) ?_) | (go_at_call 53; refine (rstages_any H1.out.2.2.2 HG.out.1).mono ?_; rintro e w2 ⟨rfl, hb2⟩; have H2 := Lib.hid (And.intro (H1.out.2.2.1.below hb2 H1.out.2.2.1.lt) (H1.out.2.1.trans (hb2.mono H1.out.2.1.size))); have m3 : w2.cell? ⟨w.heap.size, 3, none⟩ = some (.int .i64 p.hold) := (H2.out.1.cell 3).trans q3; have m4 : w2.cell? ⟨w.heap.size, 4, none⟩ = some (.int .i64 p.grant) := (H2.out.1.cell 4).trans q4; have m5 : w2.cell? ⟨w.heap.size, 5, none⟩ = some (.int .i64 p.guard) := (H2.out.1.cell 5).trans q5; have m9 : w2.cell? ⟨w.heap.size, 9, none⟩ = some (.int .i64 p.soak) := (H2.out.1.cell 9).trans q9; have m10 : w2.cell? ⟨w.heap.size, 10, none⟩ = some (.int .i64 p.pass) := (H2.out.1.cell 10).trans q10; clear hb2))
    go_ret
    exact ⟨ret_i64 HZ.out.symm, H2.out.2⟩
  have d13 : decide (p.g6 ∧ p.g7) = true := decide_eq_true c13
  have HS := Lib.hid c13
  clear c13
  by_cases c14 : p.soak < 1
  · have d14 : decide (p.soak < 1) = true := by simpa using c14
    have HZ : Hid (p.chk = 90) := Lib.hid (Dr.P.chk_no fun h => by have h' := (show 1 ≤ p.soak from h.2.2.2.2.2.2.2.2.1.1); omega)
    clear c14
    go_enter Try.func33, Try.ntmps33
    go_upto_region 1 with fail
    rw [H1.out.1]
    go_wp2_with (first | (go_at_call 52; refine (rwithin_any _ _).mono ?_; rintro e w' ⟨rfl, rfl⟩) | ((with_reducible show wpList _ _ _ ((⟨_, Op.load 24 _, _, _, _, _⟩ : Oper) :: _) _ _); refine wpList_load_row rfl _ (.tmp 1) rfl w.heap.size rfl 24 C (0, 0) _ H1.out.2.2.1 Try.underlying24 rfl (by rw [h11]; exact info11) ?_) | (go_at_call 53; refine (rstages_any H1.out.2.2.2 HG.out.1).mono ?_; rintro e w2 ⟨rfl, hb2⟩; have H2 := Lib.hid (And.intro (H1.out.2.2.1.below hb2 H1.out.2.2.1.lt) (H1.out.2.1.trans (hb2.mono H1.out.2.1.size))); have m3 : w2.cell? ⟨w.heap.size, 3, none⟩ = some (.int .i64 p.hold) := (H2.out.1.cell 3).trans q3; have m4 : w2.cell? ⟨w.heap.size, 4, none⟩ = some (.int .i64 p.grant) := (H2.out.1.cell 4).trans q4; have m5 : w2.cell? ⟨w.heap.size, 5, none⟩ = some (.int .i64 p.guard) := (H2.out.1.cell 5).trans q5; have m9 : w2.cell? ⟨w.heap.size, 9, none⟩ = some (.int .i64 p.soak) := (H2.out.1.cell 9).trans q9; have m10 : w2.cell? ⟨w.heap.size, 10, none⟩ = some (.int .i64 p.pass) := (H2.out.1.cell 10).trans q10; clear hb2))
    go_ret
    exact ⟨ret_i64 HZ.out.symm, H2.out.2⟩
  have d14 : decide (p.soak < 1) = false := by simpa using c14
  by_cases c15 : 20 < p.soak
  · have d15 : decide (20 < p.soak) = true := by simpa using c15
    have HZ : Hid (p.chk = 90) := Lib.hid (Dr.P.chk_no fun h => by have h' := (show p.soak ≤ 20 from h.2.2.2.2.2.2.2.2.1.2); omega)
    clear c15
    go_enter Try.func33, Try.ntmps33
    go_upto_region 1 with fail
    rw [H1.out.1]
    go_wp2_with (first | (go_at_call 52; refine (rwithin_any _ _).mono ?_; rintro e w' ⟨rfl, rfl⟩) | ((with_reducible show wpList _ _ _ ((⟨_, Op.load 24 _, _, _, _, _⟩ : Oper) :: _) _ _); refine wpList_load_row rfl _ (.tmp 1) rfl w.heap.size rfl 24 C (0, 0) _ H1.out.2.2.1 Try.underlying24 rfl (by rw [h11]; exact info11) ?_) | (go_at_call 53; refine (rstages_any H1.out.2.2.2 HG.out.1).mono ?_; rintro e w2 ⟨rfl, hb2⟩; have H2 := Lib.hid (And.intro (H1.out.2.2.1.below hb2 H1.out.2.2.1.lt) (H1.out.2.1.trans (hb2.mono H1.out.2.1.size))); have m3 : w2.cell? ⟨w.heap.size, 3, none⟩ = some (.int .i64 p.hold) := (H2.out.1.cell 3).trans q3; have m4 : w2.cell? ⟨w.heap.size, 4, none⟩ = some (.int .i64 p.grant) := (H2.out.1.cell 4).trans q4; have m5 : w2.cell? ⟨w.heap.size, 5, none⟩ = some (.int .i64 p.guard) := (H2.out.1.cell 5).trans q5; have m9 : w2.cell? ⟨w.heap.size, 9, none⟩ = some (.int .i64 p.soak) := (H2.out.1.cell 9).trans q9; have m10 : w2.cell? ⟨w.heap.size, 10, none⟩ = some (.int .i64 p.pass) := (H2.out.1.cell 10).trans q10; clear hb2))
    go_ret
    exact ⟨ret_i64 HZ.out.symm, H2.out.2⟩
  have d15 : decide (20 < p.soak) = false := by simpa using c15
  by_cases c16 : p.pass < 0
  · have d16 : decide (p.pass < 0) = true := by simpa using c16
    have HZ : Hid (p.chk = 90) := Lib.hid (Dr.P.chk_no fun h => by have h' := (show 0 ≤ p.pass from h.2.2.2.2.2.2.2.2.2.1); omega)
    clear c16
    go_enter Try.func33, Try.ntmps33
    go_upto_region 1 with fail
    rw [H1.out.1]
    go_wp2_with (first | (go_at_call 52; refine (rwithin_any _ _).mono ?_; rintro e w' ⟨rfl, rfl⟩) | ((with_reducible show wpList _ _ _ ((⟨_, Op.load 24 _, _, _, _, _⟩ : Oper) :: _) _ _); refine wpList_load_row rfl _ (.tmp 1) rfl w.heap.size rfl 24 C (0, 0) _ H1.out.2.2.1 Try.underlying24 rfl (by rw [h11]; exact info11) ?_) | (go_at_call 53; refine (rstages_any H1.out.2.2.2 HG.out.1).mono ?_; rintro e w2 ⟨rfl, hb2⟩; have H2 := Lib.hid (And.intro (H1.out.2.2.1.below hb2 H1.out.2.2.1.lt) (H1.out.2.1.trans (hb2.mono H1.out.2.1.size))); have m3 : w2.cell? ⟨w.heap.size, 3, none⟩ = some (.int .i64 p.hold) := (H2.out.1.cell 3).trans q3; have m4 : w2.cell? ⟨w.heap.size, 4, none⟩ = some (.int .i64 p.grant) := (H2.out.1.cell 4).trans q4; have m5 : w2.cell? ⟨w.heap.size, 5, none⟩ = some (.int .i64 p.guard) := (H2.out.1.cell 5).trans q5; have m9 : w2.cell? ⟨w.heap.size, 9, none⟩ = some (.int .i64 p.soak) := (H2.out.1.cell 9).trans q9; have m10 : w2.cell? ⟨w.heap.size, 10, none⟩ = some (.int .i64 p.pass) := (H2.out.1.cell 10).trans q10; clear hb2))
    go_ret
    exact ⟨ret_i64 HZ.out.symm, H2.out.2⟩
  have d16 : decide (p.pass < 0) = false := by simpa using c16
  by_cases c17 : 1000 < p.pass
  · have d17 : decide (1000 < p.pass) = true := by simpa using c17
    have HZ : Hid (p.chk = 90) := Lib.hid (Dr.P.chk_no fun h => by have h' := (show p.pass ≤ 1000 from h.2.2.2.2.2.2.2.2.2.2); omega)
    clear c17
    go_enter Try.func33, Try.ntmps33
    go_upto_region 1 with fail
    rw [H1.out.1]
    go_wp2_with (first | (go_at_call 52; refine (rwithin_any _ _).mono ?_; rintro e w' ⟨rfl, rfl⟩) | ((with_reducible show wpList _ _ _ ((⟨_, Op.load 24 _, _, _, _, _⟩ : Oper) :: _) _ _); refine wpList_load_row rfl _ (.tmp 1) rfl w.heap.size rfl 24 C (0, 0) _ H1.out.2.2.1 Try.underlying24 rfl (by rw [h11]; exact info11) ?_) | (go_at_call 53; refine (rstages_any H1.out.2.2.2 HG.out.1).mono ?_; rintro e w2 ⟨rfl, hb2⟩; have H2 := Lib.hid (And.intro (H1.out.2.2.1.below hb2 H1.out.2.2.1.lt) (H1.out.2.1.trans (hb2.mono H1.out.2.1.size))); have m3 : w2.cell? ⟨w.heap.size, 3, none⟩ = some (.int .i64 p.hold) := (H2.out.1.cell 3).trans q3; have m4 : w2.cell? ⟨w.heap.size, 4, none⟩ = some (.int .i64 p.grant) := (H2.out.1.cell 4).trans q4; have m5 : w2.cell? ⟨w.heap.size, 5, none⟩ = some (.int .i64 p.guard) := (H2.out.1.cell 5).trans q5; have m9 : w2.cell? ⟨w.heap.size, 9, none⟩ = some (.int .i64 p.soak) := (H2.out.1.cell 9).trans q9; have m10 : w2.cell? ⟨w.heap.size, 10, none⟩ = some (.int .i64 p.pass) := (H2.out.1.cell 10).trans q10; clear hb2))
    go_ret
    exact ⟨ret_i64 HZ.out.symm, H2.out.2⟩
  have d17 : decide (1000 < p.pass) = false := by simpa using c17
  have HZ : Hid (p.chk = 0) := Lib.hid (Dr.P.chk_ok ⟨HG.out.1, HG.out.2.1, HG.out.2.2.1, HG.out.2.2.2, HX.out.2 (by omega), (show 1000 + p.rho ≤ p.guard by omega), HS.out.1, HS.out.2, ⟨by omega, by omega⟩, ⟨by omega, by omega⟩⟩)
  · go_enter Try.func33, Try.ntmps33
    go_upto_region 1 with fail
    rw [H1.out.1]
    go_wp2_with (first | (go_at_call 52; refine (rwithin_any _ _).mono ?_; rintro e w' ⟨rfl, rfl⟩) | ((with_reducible show wpList _ _ _ ((⟨_, Op.load 24 _, _, _, _, _⟩ : Oper) :: _) _ _); refine wpList_load_row rfl _ (.tmp 1) rfl w.heap.size rfl 24 C (0, 0) _ H1.out.2.2.1 Try.underlying24 rfl (by rw [h11]; exact info11) ?_) | (go_at_call 53; refine (rstages_any H1.out.2.2.2 HG.out.1).mono ?_; rintro e w2 ⟨rfl, hb2⟩; have H2 := Lib.hid (And.intro (H1.out.2.2.1.below hb2 H1.out.2.2.1.lt) (H1.out.2.1.trans (hb2.mono H1.out.2.1.size))); have m3 : w2.cell? ⟨w.heap.size, 3, none⟩ = some (.int .i64 p.hold) := (H2.out.1.cell 3).trans q3; have m4 : w2.cell? ⟨w.heap.size, 4, none⟩ = some (.int .i64 p.grant) := (H2.out.1.cell 4).trans q4; have m5 : w2.cell? ⟨w.heap.size, 5, none⟩ = some (.int .i64 p.guard) := (H2.out.1.cell 5).trans q5; have m9 : w2.cell? ⟨w.heap.size, 9, none⟩ = some (.int .i64 p.soak) := (H2.out.1.cell 9).trans q9; have m10 : w2.cell? ⟨w.heap.size, 10, none⟩ = some (.int .i64 p.pass) := (H2.out.1.cell 10).trans q10; clear hb2))
    go_ret
    exact ⟨ret_i64 HZ.out.symm, H2.out.2⟩
end Go.Proofs.Ytegdopbiiddamaa
