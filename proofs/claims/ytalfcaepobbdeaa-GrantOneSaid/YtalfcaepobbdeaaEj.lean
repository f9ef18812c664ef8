/-
  The document's Majority, Gain, Holds, Late and Free.
-/
import Derived.Test.YtalfcaepobbdeaaEi
namespace Go.Proofs.Ytalfcaepobbdeaa
set_option linter.unusedVariables false
set_option linter.unusedSimpArgs false
set_option maxRecDepth 20000
open Go.RowKit
theorem Cc.five {w : World} {S : Nat → Prop} {C : Array Value} {p : Dr.P} (h : Cc w S C p) : C[0]? = some (.int .i64 p.nodes) ∧ C[3]? = some (.int .i64 p.hold) ∧ C[4]? = some (.int .i64 p.grant) ∧ C[5]? = some (.int .i64 p.guard) ∧ C[2]? = some (.int .i64 p.rho) := by
  obtain ⟨a, n, c, a', n', c', rfl, _⟩ := h
  exact ⟨rfl, rfl, rfl, rfl, rfl⟩
set_option maxHeartbeats 1000000 in
theorem rfree_any {w : World} {S : Nat → Prop} {C : Array Value} {p : Dr.P} (h : Cc w S C p) (a b : Int) :
    Calls Try.prog 25 #[.agg C, .int .i64 a, .int .i64 b] w fun e w' => e = .returned (.bool (p.free a b)) ∧ Below w.heap.size w w' := by
  have HQ := Lib.hid h.five
  have h11 := h.size
  have hb1 := below_alloc w (.cells C 24)
  have hx1 := Box.new h
  obtain ⟨w1, h1⟩ : ∃ w1, w.alloc (.cells C 24) = w1 := ⟨_, rfl⟩
  rw [h1] at hb1 hx1
  have H1 := Lib.hid (And.intro h1 (And.intro hb1 hx1))
  clear h h1 hb1 hx1
  by_cases hok : p.ok
  case neg =>
    have HE : Hid (p.free a b = false) := Lib.hid (decide_eq_false fun h => hok h.1)
    have HK := Lib.hid (Dr.P.chk_no hok)
    clear hok
    obtain ⟨T, hT⟩ : ∃ T, decide (Dr.tw a b) = T := ⟨_, rfl⟩
    have HT := Lib.hid hT
    clear hT
    go_enter Try.func25, Try.ntmps25
    go_upto_region 1 with fail
    rw [H1.out.1]
    go_wp2_with (first | ((with_reducible show wpList _ _ _ ((⟨_, Op.load 24 _, _, _, _, _⟩ : Oper) :: _) _ _); refine wpList_load_row rfl _ (.tmp 3) rfl w.heap.size rfl 24 C (0, 0) _ H1.out.2.2.1 Try.underlying24 rfl (by rw [h11]; exact info11) ?_) | (go_at_call 18; refine (rcheck_any H1.out.2.2.2).mono ?_; rintro e w2 ⟨rfl, hb2⟩; rw [HK.out]; have H2 := Lib.hid (And.intro (H1.out.2.2.on hb2) (H1.out.2.1.trans (hb2.mono H1.out.2.1.size))); have k2 : w2.cell? ⟨w.heap.size, 2, none⟩ = some (.int .i64 p.rho) := (H2.out.1.1.cell 2).trans HQ.out.2.2.2.2; have k3 : w2.cell? ⟨w.heap.size, 3, none⟩ = some (.int .i64 p.hold) := (H2.out.1.1.cell 3).trans HQ.out.2.1; have k4 : w2.cell? ⟨w.heap.size, 4, none⟩ = some (.int .i64 p.grant) := (H2.out.1.1.cell 4).trans HQ.out.2.2.1; have k5 : w2.cell? ⟨w.heap.size, 5, none⟩ = some (.int .i64 p.guard) := (H2.out.1.1.cell 5).trans HQ.out.2.2.2.1; clear hb2) | (go_at_call 33; refine (rtime_any _ _ _).mono ?_; rintro e w3 ⟨rfl, rfl⟩; rw [HT.out]))
    go_ret
    exact ⟨ret_bool HE.out.symm, H2.out.2⟩
  have HK := Lib.hid (Dr.P.chk_ok hok)
  by_cases htw : Dr.tw a b
  case neg =>
    have HT : Hid (decide (Dr.tw a b) = false) := Lib.hid (decide_eq_false htw)
    have HE : Hid (p.free a b = false) := Lib.hid (decide_eq_false fun h => htw h.2.1)
    clear hok htw
    go_enter Try.func25, Try.ntmps25
    go_upto_region 1 with fail
    rw [H1.out.1]
    go_wp2_with (first | ((with_reducible show wpList _ _ _ ((⟨_, Op.load 24 _, _, _, _, _⟩ : Oper) :: _) _ _); refine wpList_load_row rfl _ (.tmp 3) rfl w.heap.size rfl 24 C (0, 0) _ H1.out.2.2.1 Try.underlying24 rfl (by rw [h11]; exact info11) ?_) | (go_at_call 18; refine (rcheck_any H1.out.2.2.2).mono ?_; rintro e w2 ⟨rfl, hb2⟩; rw [HK.out]; have H2 := Lib.hid (And.intro (H1.out.2.2.on hb2) (H1.out.2.1.trans (hb2.mono H1.out.2.1.size))); have k2 : w2.cell? ⟨w.heap.size, 2, none⟩ = some (.int .i64 p.rho) := (H2.out.1.1.cell 2).trans HQ.out.2.2.2.2; have k3 : w2.cell? ⟨w.heap.size, 3, none⟩ = some (.int .i64 p.hold) := (H2.out.1.1.cell 3).trans HQ.out.2.1; have k4 : w2.cell? ⟨w.heap.size, 4, none⟩ = some (.int .i64 p.grant) := (H2.out.1.1.cell 4).trans HQ.out.2.2.1; have k5 : w2.cell? ⟨w.heap.size, 5, none⟩ = some (.int .i64 p.guard) := (H2.out.1.1.cell 5).trans HQ.out.2.2.2.1; clear hb2) | (go_at_call 33; refine (rtime_any _ _ _).mono ?_; rintro e w3 ⟨rfl, rfl⟩; rw [HT.out]))
    go_ret
    exact ⟨ret_bool HE.out.symm, H2.out.2⟩
  obtain ⟨x, hx⟩ : ∃ x, b - a = x := ⟨_, rfl⟩
  have HT : Hid (decide (Dr.tw a b) = true) := Lib.hid (decide_eq_true htw)
  have HE : Hid (p.free a b = decide (p.grant ≤ x)) := Lib.hid (by unfold Dr.P.free; rw [hx]; exact decide_eq_decide.2 ⟨fun h => h.2.2, fun h => ⟨hok, htw, h⟩⟩)
  have e1 : wrap64 (b - a) = x := by rw [hx]; exact IntWalk.wrap64_in _ (by obtain ⟨y1, y2, y3⟩ := htw; omega)
  clear hok htw hx
  go_enter Try.func25, Try.ntmps25
  go_upto_region 1 with fail
  rw [H1.out.1]
  go_wp2_with (first | ((with_reducible show wpList _ _ _ ((⟨_, Op.load 24 _, _, _, _, _⟩ : Oper) :: _) _ _); refine wpList_load_row rfl _ (.tmp 3) rfl w.heap.size rfl 24 C (0, 0) _ H1.out.2.2.1 Try.underlying24 rfl (by rw [h11]; exact info11) ?_) | (go_at_call 18; refine (rcheck_any H1.out.2.2.2).mono ?_; rintro e w2 ⟨rfl, hb2⟩; rw [HK.out]; have H2 := Lib.hid (And.intro (H1.out.2.2.on hb2) (H1.out.2.1.trans (hb2.mono H1.out.2.1.size))); have k2 : w2.cell? ⟨w.heap.size, 2, none⟩ = some (.int .i64 p.rho) := (H2.out.1.1.cell 2).trans HQ.out.2.2.2.2; have k3 : w2.cell? ⟨w.heap.size, 3, none⟩ = some (.int .i64 p.hold) := (H2.out.1.1.cell 3).trans HQ.out.2.1; have k4 : w2.cell? ⟨w.heap.size, 4, none⟩ = some (.int .i64 p.grant) := (H2.out.1.1.cell 4).trans HQ.out.2.2.1; have k5 : w2.cell? ⟨w.heap.size, 5, none⟩ = some (.int .i64 p.guard) := (H2.out.1.1.cell 5).trans HQ.out.2.2.2.1; clear hb2) | (go_at_call 33; refine (rtime_any _ _ _).mono ?_; rintro e w3 ⟨rfl, rfl⟩; rw [HT.out]))
  go_ret
  exact ⟨ret_bool HE.out.symm, H2.out.2⟩
end Go.Proofs.Ytalfcaepobbdeaa
