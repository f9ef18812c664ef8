/-
  The walk of majorities and gains (DriftMost).
-/
import Derived.Test.YtfjdjhjhpphogaaEk
namespace Go.Proofs.Ytfjdjhjhpphogaa
set_option linter.unusedVariables false
set_option linter.unusedSimpArgs false
set_option maxRecDepth 20000
open Go.RowKit
theorem gain_in {p : Dr.P} (h : p.ok) (t : Int) : 1000 - p.rho ≤ p.gain t ∧ p.gain t ≤ 1000 + p.rho ∧ 500 ≤ p.gain t ∧ p.gain t ≤ 1500 := by
  have e : p.gain t = min (max t (1000 - p.rho)) (1000 + p.rho) := if_pos h
  obtain ⟨r0, r1⟩ := h.2.2.1
  rw [e]
  omega
theorem gain_mono {p : Dr.P} {s t : Int} (h : s ≤ t) : p.gain s ≤ p.gain t := by
  unfold Dr.P.gain
  split
  · omega
  · exact Int.le_refl _
set_option maxHeartbeats 4000000 in
theorem most_walk (C : Array Value) (p : Dr.P) (a b : Int) (w : World) (h : Cc w (· < w.heap.size) C p) (ha : -9223372036854775808 ≤ a) (ha' : a ≤ 9223372036854775807) (hb : -9223372036854775808 ≤ b) (hb' : b ≤ 9223372036854775807) :
    Calls Try.prog 7 #[.agg C, .int .i64 a, .int .i64 b] w fun e w' => e = .returned (.bool true) ∧ Below w.heap.size w w' := by
  have h11 := h.size
  have HQ := Lib.hid h.five
  have bx := Box.new h
  have bb := below_alloc w (.cells C 25)
  obtain ⟨w0, h0⟩ : ∃ w0, w.alloc (.cells C 25) = w0 := ⟨_, rfl⟩
  rw [h0] at bx bb
  have HB : Hid (Box w0 (fun _ => True) w.heap.size C p ∧ Below w.heap.size w w0) := Lib.hid ⟨bx.weak fun _ _ => trivial, bb⟩
  have H0 := Lib.hid h0
  clear h bx bb h0
  by_cases hf : few p = true
  case neg =>
    have HF : Hid (few p = false) := Lib.hid (by simpa using hf)
    clear hf
    go_enter Try.func7, Try.ntmps7
    go_upto_region 1 with fail
    rw [H0.out]
    go_wp2_with ((with_reducible show wpList _ _ _ ((⟨_, Op.load 25 _, _, _, _, _⟩ : Oper) :: _) _ _); first | refine wpList_load_row rfl _ (.tmp 3) rfl w.heap.size rfl 25 C (0, 0) _ HB.out.1.1 Try.underlying25 rfl (by rw [h11]; exact info11) ?_ | refine wpList_load_rowG (by rfl) _ (.tmp 3) rfl w.heap.size rfl 25 C (0, 0) _ HB.out.1.1 Try.underlying25 rfl (by rw [h11]; exact info11) ?_)
    (refine (awake_any _).mono ?_; rintro e wn ⟨rfl, hbn⟩; have HB := Lib.hid (And.intro ((HB.out.1.on hbn).weak (fun _ _ => trivial)) (HB.out.2.trans (hbn.mono HB.out.2.size))); clear hbn)
    go_wp2_with ((with_reducible show wpList _ _ _ ((⟨_, Op.load 25 _, _, _, _, _⟩ : Oper) :: _) _ _); first | refine wpList_load_row rfl _ (.tmp 3) rfl w.heap.size rfl 25 C (0, 0) _ HB.out.1.1 Try.underlying25 rfl (by rw [h11]; exact info11) ?_ | refine wpList_load_rowG (by rfl) _ (.tmp 3) rfl w.heap.size rfl 25 C (0, 0) _ HB.out.1.1 Try.underlying25 rfl (by rw [h11]; exact info11) ?_)
    (refine (few_any HB.out.1.2).mono ?_; rintro e wn ⟨rfl, hbn⟩; rw [HF.out]; have HB := Lib.hid (And.intro ((HB.out.1.on hbn).weak (fun _ _ => trivial)) (HB.out.2.trans (hbn.mono HB.out.2.size))); clear hbn)
    go_wp2
    go_ret
    exact ⟨rfl, HB.out.2⟩
  have HF := Lib.hid hf
  clear hf
  by_cases hok : p.ok
  case neg =>
    have HV : Hid (p.maj = 0 ∧ p.gain a = 0 ∧ p.gain b = 0 ∧ p.chk = 90) := Lib.hid ⟨if_neg hok, if_neg hok, if_neg hok, if_neg hok⟩
    clear hok
    go_enter Try.func7, Try.ntmps7
    go_upto_region 1 with fail
    rw [H0.out]
    go_wp2_with ((with_reducible show wpList _ _ _ ((⟨_, Op.load 25 _, _, _, _, _⟩ : Oper) :: _) _ _); first | refine wpList_load_row rfl _ (.tmp 3) rfl w.heap.size rfl 25 C (0, 0) _ HB.out.1.1 Try.underlying25 rfl (by rw [h11]; exact info11) ?_ | refine wpList_load_rowG (by rfl) _ (.tmp 3) rfl w.heap.size rfl 25 C (0, 0) _ HB.out.1.1 Try.underlying25 rfl (by rw [h11]; exact info11) ?_)
    (refine (awake_any _).mono ?_; rintro e wn ⟨rfl, hbn⟩; have HB := Lib.hid (And.intro ((HB.out.1.on hbn).weak (fun _ _ => trivial)) (HB.out.2.trans (hbn.mono HB.out.2.size))); clear hbn)
    go_wp2_with ((with_reducible show wpList _ _ _ ((⟨_, Op.load 25 _, _, _, _, _⟩ : Oper) :: _) _ _); first | refine wpList_load_row rfl _ (.tmp 3) rfl w.heap.size rfl 25 C (0, 0) _ HB.out.1.1 Try.underlying25 rfl (by rw [h11]; exact info11) ?_ | refine wpList_load_rowG (by rfl) _ (.tmp 3) rfl w.heap.size rfl 25 C (0, 0) _ HB.out.1.1 Try.underlying25 rfl (by rw [h11]; exact info11) ?_)
    (refine (few_any HB.out.1.2).mono ?_; rintro e wn ⟨rfl, hbn⟩; rw [HF.out]; have HB := Lib.hid (And.intro ((HB.out.1.on hbn).weak (fun _ _ => trivial)) (HB.out.2.trans (hbn.mono HB.out.2.size))); clear hbn)
    go_wp2_with ((with_reducible show wpList _ _ _ ((⟨_, Op.load 25 _, _, _, _, _⟩ : Oper) :: _) _ _); first | refine wpList_load_row rfl _ (.tmp 3) rfl w.heap.size rfl 25 C (0, 0) _ HB.out.1.1 Try.underlying25 rfl (by rw [h11]; exact info11) ?_ | refine wpList_load_rowG (by rfl) _ (.tmp 3) rfl w.heap.size rfl 25 C (0, 0) _ HB.out.1.1 Try.underlying25 rfl (by rw [h11]; exact info11) ?_)
    (refine (majority_any HB.out.1.2).mono ?_; rintro e wn ⟨rfl, hbn⟩; rw [HV.out.1]; have HB := Lib.hid (And.intro ((HB.out.1.on hbn).weak (fun _ _ => trivial)) (HB.out.2.trans (hbn.mono HB.out.2.size))); clear hbn)
    go_wp2_with ((with_reducible show wpList _ _ _ ((⟨_, Op.load 25 _, _, _, _, _⟩ : Oper) :: _) _ _); first | refine wpList_load_row rfl _ (.tmp 3) rfl w.heap.size rfl 25 C (0, 0) _ HB.out.1.1 Try.underlying25 rfl (by rw [h11]; exact info11) ?_ | refine wpList_load_rowG (by rfl) _ (.tmp 3) rfl w.heap.size rfl 25 C (0, 0) _ HB.out.1.1 Try.underlying25 rfl (by rw [h11]; exact info11) ?_)
    (refine (gain_any HB.out.1.2 _).mono ?_; rintro e wn ⟨rfl, hbn⟩; rw [HV.out.2.1]; have HB := Lib.hid (And.intro ((HB.out.1.on hbn).weak (fun _ _ => trivial)) (HB.out.2.trans (hbn.mono HB.out.2.size))); clear hbn)
    go_wp2_with ((with_reducible show wpList _ _ _ ((⟨_, Op.load 25 _, _, _, _, _⟩ : Oper) :: _) _ _); first | refine wpList_load_row rfl _ (.tmp 3) rfl w.heap.size rfl 25 C (0, 0) _ HB.out.1.1 Try.underlying25 rfl (by rw [h11]; exact info11) ?_ | refine wpList_load_rowG (by rfl) _ (.tmp 3) rfl w.heap.size rfl 25 C (0, 0) _ HB.out.1.1 Try.underlying25 rfl (by rw [h11]; exact info11) ?_)
    (refine (gain_any HB.out.1.2 _).mono ?_; rintro e wn ⟨rfl, hbn⟩; rw [HV.out.2.2.1]; have HB := Lib.hid (And.intro ((HB.out.1.on hbn).weak (fun _ _ => trivial)) (HB.out.2.trans (hbn.mono HB.out.2.size))); clear hbn)
    go_wp2_with ((with_reducible show wpList _ _ _ ((⟨_, Op.load 25 _, _, _, _, _⟩ : Oper) :: _) _ _); first | refine wpList_load_row rfl _ (.tmp 3) rfl w.heap.size rfl 25 C (0, 0) _ HB.out.1.1 Try.underlying25 rfl (by rw [h11]; exact info11) ?_ | refine wpList_load_rowG (by rfl) _ (.tmp 3) rfl w.heap.size rfl 25 C (0, 0) _ HB.out.1.1 Try.underlying25 rfl (by rw [h11]; exact info11) ?_)
    (refine (check_any HB.out.1.2).mono ?_; rintro e wn ⟨rfl, hbn⟩; rw [HV.out.2.2.2]; have HB := Lib.hid (And.intro ((HB.out.1.on hbn).weak (fun _ _ => trivial)) (HB.out.2.trans (hbn.mono HB.out.2.size))); clear hbn)
    go_wp2
    go_ret
    exact ⟨rfl, HB.out.2⟩
  obtain ⟨m, hm⟩ : ∃ m, p.maj = m := ⟨_, rfl⟩
  obtain ⟨x, hx⟩ : ∃ x, p.gain a = x := ⟨_, rfl⟩
  obtain ⟨y, hy⟩ : ∃ y, p.gain b = y := ⟨_, rfl⟩
  have HV : Hid (p.maj = m ∧ p.gain a = x ∧ p.gain b = y ∧ p.chk = 0) := Lib.hid ⟨hm, hx, hy, if_pos hok⟩
  have hm' : m = p.nodes / 2 + 1 := hm.symm.trans (if_pos hok)
  obtain ⟨g0, g1⟩ := hok.1
  obtain ⟨r0, r1⟩ := hok.2.2.1
  have m1 : p.nodes < 2 * m := by omega
  have m2 : 2 * (m - 1) ≤ p.nodes := by omega
  have m3 : 1 ≤ m := by omega
  have m4 : m ≤ 5 := by omega
  have hxi := gain_in hok a
  have hyi := gain_in hok b
  have hmo : a ≤ b → x ≤ y := fun h => by rw [← hx, ← hy]; exact gain_mono h
  rw [hx] at hxi
  rw [hy] at hyi
  obtain ⟨x1, x2, x3, x4⟩ := hxi
  obtain ⟨y1, y2, y3, y4⟩ := hyi
  have d1 : decide (p.nodes < 2 * m) = true := decide_eq_true m1
  have d2 : decide (2 * (m - 1) ≤ p.nodes) = true := decide_eq_true m2
  have d3 : decide (1000 - p.rho ≤ x) = true := decide_eq_true x1
  have d4 : decide (x ≤ 1000 + p.rho) = true := decide_eq_true x2
  clear hok hm hx hy hm'
  by_cases hab : b < a
  · have d5 : decide (b < a) = true := decide_eq_true hab
    clear hmo hab
    go_enter Try.func7, Try.ntmps7
    go_upto_region 1 with fail
    rw [H0.out]
    go_wp2_with ((with_reducible show wpList _ _ _ ((⟨_, Op.load 25 _, _, _, _, _⟩ : Oper) :: _) _ _); first | refine wpList_load_row rfl _ (.tmp 3) rfl w.heap.size rfl 25 C (0, 0) _ HB.out.1.1 Try.underlying25 rfl (by rw [h11]; exact info11) ?_ | refine wpList_load_rowG (by rfl) _ (.tmp 3) rfl w.heap.size rfl 25 C (0, 0) _ HB.out.1.1 Try.underlying25 rfl (by rw [h11]; exact info11) ?_)
    (refine (awake_any _).mono ?_; rintro e wn ⟨rfl, hbn⟩; have HB := Lib.hid (And.intro ((HB.out.1.on hbn).weak (fun _ _ => trivial)) (HB.out.2.trans (hbn.mono HB.out.2.size))); clear hbn)
    go_wp2_with ((with_reducible show wpList _ _ _ ((⟨_, Op.load 25 _, _, _, _, _⟩ : Oper) :: _) _ _); first | refine wpList_load_row rfl _ (.tmp 3) rfl w.heap.size rfl 25 C (0, 0) _ HB.out.1.1 Try.underlying25 rfl (by rw [h11]; exact info11) ?_ | refine wpList_load_rowG (by rfl) _ (.tmp 3) rfl w.heap.size rfl 25 C (0, 0) _ HB.out.1.1 Try.underlying25 rfl (by rw [h11]; exact info11) ?_)
    (refine (few_any HB.out.1.2).mono ?_; rintro e wn ⟨rfl, hbn⟩; rw [HF.out]; have HB := Lib.hid (And.intro ((HB.out.1.on hbn).weak (fun _ _ => trivial)) (HB.out.2.trans (hbn.mono HB.out.2.size))); clear hbn)
    go_wp2_with ((with_reducible show wpList _ _ _ ((⟨_, Op.load 25 _, _, _, _, _⟩ : Oper) :: _) _ _); first | refine wpList_load_row rfl _ (.tmp 3) rfl w.heap.size rfl 25 C (0, 0) _ HB.out.1.1 Try.underlying25 rfl (by rw [h11]; exact info11) ?_ | refine wpList_load_rowG (by rfl) _ (.tmp 3) rfl w.heap.size rfl 25 C (0, 0) _ HB.out.1.1 Try.underlying25 rfl (by rw [h11]; exact info11) ?_)
    (refine (majority_any HB.out.1.2).mono ?_; rintro e wn ⟨rfl, hbn⟩; rw [HV.out.1]; have HB := Lib.hid (And.intro ((HB.out.1.on hbn).weak (fun _ _ => trivial)) (HB.out.2.trans (hbn.mono HB.out.2.size))); clear hbn)
    go_wp2_with ((with_reducible show wpList _ _ _ ((⟨_, Op.load 25 _, _, _, _, _⟩ : Oper) :: _) _ _); first | refine wpList_load_row rfl _ (.tmp 3) rfl w.heap.size rfl 25 C (0, 0) _ HB.out.1.1 Try.underlying25 rfl (by rw [h11]; exact info11) ?_ | refine wpList_load_rowG (by rfl) _ (.tmp 3) rfl w.heap.size rfl 25 C (0, 0) _ HB.out.1.1 Try.underlying25 rfl (by rw [h11]; exact info11) ?_)
    (refine (gain_any HB.out.1.2 _).mono ?_; rintro e wn ⟨rfl, hbn⟩; rw [HV.out.2.1]; have HB := Lib.hid (And.intro ((HB.out.1.on hbn).weak (fun _ _ => trivial)) (HB.out.2.trans (hbn.mono HB.out.2.size))); clear hbn)
    go_wp2_with ((with_reducible show wpList _ _ _ ((⟨_, Op.load 25 _, _, _, _, _⟩ : Oper) :: _) _ _); first | refine wpList_load_row rfl _ (.tmp 3) rfl w.heap.size rfl 25 C (0, 0) _ HB.out.1.1 Try.underlying25 rfl (by rw [h11]; exact info11) ?_ | refine wpList_load_rowG (by rfl) _ (.tmp 3) rfl w.heap.size rfl 25 C (0, 0) _ HB.out.1.1 Try.underlying25 rfl (by rw [h11]; exact info11) ?_)
    (refine (gain_any HB.out.1.2 _).mono ?_; rintro e wn ⟨rfl, hbn⟩; rw [HV.out.2.2.1]; have HB := Lib.hid (And.intro ((HB.out.1.on hbn).weak (fun _ _ => trivial)) (HB.out.2.trans (hbn.mono HB.out.2.size))); clear hbn)
    go_wp2_with ((with_reducible show wpList _ _ _ ((⟨_, Op.load 25 _, _, _, _, _⟩ : Oper) :: _) _ _); first | refine wpList_load_row rfl _ (.tmp 3) rfl w.heap.size rfl 25 C (0, 0) _ HB.out.1.1 Try.underlying25 rfl (by rw [h11]; exact info11) ?_ | refine wpList_load_rowG (by rfl) _ (.tmp 3) rfl w.heap.size rfl 25 C (0, 0) _ HB.out.1.1 Try.underlying25 rfl (by rw [h11]; exact info11) ?_)
    (refine (check_any HB.out.1.2).mono ?_; rintro e wn ⟨rfl, hbn⟩; rw [HV.out.2.2.2]; have HB := Lib.hid (And.intro ((HB.out.1.on hbn).weak (fun _ _ => trivial)) (HB.out.2.trans (hbn.mono HB.out.2.size))); clear hbn)
    have k0 : wn.cell? ⟨w.heap.size, 0, none⟩ = some (.int .i64 p.nodes) := (HB.out.1.1.cell 0).trans HQ.out.1
    have k2 : wn.cell? ⟨w.heap.size, 2, none⟩ = some (.int .i64 p.rho) := (HB.out.1.1.cell 2).trans HQ.out.2.2.2.2
    go_wp2
    go_ret
    exact ⟨rfl, HB.out.2⟩
  · have d5 : decide (b < a) = false := decide_eq_false hab
    have hxy := hmo (by omega)
    have d6 : decide (x ≤ y) = true := decide_eq_true hxy
    clear hmo hab
    go_enter Try.func7, Try.ntmps7
    go_upto_region 1 with fail
    rw [H0.out]
    go_wp2_with ((with_reducible show wpList _ _ _ ((⟨_, Op.load 25 _, _, _, _, _⟩ : Oper) :: _) _ _); first | refine wpList_load_row rfl _ (.tmp 3) rfl w.heap.size rfl 25 C (0, 0) _ HB.out.1.1 Try.underlying25 rfl (by rw [h11]; exact info11) ?_ | refine wpList_load_rowG (by rfl) _ (.tmp 3) rfl w.heap.size rfl 25 C (0, 0) _ HB.out.1.1 Try.underlying25 rfl (by rw [h11]; exact info11) ?_)
    (refine (awake_any _).mono ?_; rintro e wn ⟨rfl, hbn⟩; have HB := Lib.hid (And.intro ((HB.out.1.on hbn).weak (fun _ _ => trivial)) (HB.out.2.trans (hbn.mono HB.out.2.size))); clear hbn)
    go_wp2_with ((with_reducible show wpList _ _ _ ((⟨_, Op.load 25 _, _, _, _, _⟩ : Oper) :: _) _ _); first | refine wpList_load_row rfl _ (.tmp 3) rfl w.heap.size rfl 25 C (0, 0) _ HB.out.1.1 Try.underlying25 rfl (by rw [h11]; exact info11) ?_ | refine wpList_load_rowG (by rfl) _ (.tmp 3) rfl w.heap.size rfl 25 C (0, 0) _ HB.out.1.1 Try.underlying25 rfl (by rw [h11]; exact info11) ?_)
    (refine (few_any HB.out.1.2).mono ?_; rintro e wn ⟨rfl, hbn⟩; rw [HF.out]; have HB := Lib.hid (And.intro ((HB.out.1.on hbn).weak (fun _ _ => trivial)) (HB.out.2.trans (hbn.mono HB.out.2.size))); clear hbn)
    go_wp2_with ((with_reducible show wpList _ _ _ ((⟨_, Op.load 25 _, _, _, _, _⟩ : Oper) :: _) _ _); first | refine wpList_load_row rfl _ (.tmp 3) rfl w.heap.size rfl 25 C (0, 0) _ HB.out.1.1 Try.underlying25 rfl (by rw [h11]; exact info11) ?_ | refine wpList_load_rowG (by rfl) _ (.tmp 3) rfl w.heap.size rfl 25 C (0, 0) _ HB.out.1.1 Try.underlying25 rfl (by rw [h11]; exact info11) ?_)
    (refine (majority_any HB.out.1.2).mono ?_; rintro e wn ⟨rfl, hbn⟩; rw [HV.out.1]; have HB := Lib.hid (And.intro ((HB.out.1.on hbn).weak (fun _ _ => trivial)) (HB.out.2.trans (hbn.mono HB.out.2.size))); clear hbn)
    go_wp2_with ((with_reducible show wpList _ _ _ ((⟨_, Op.load 25 _, _, _, _, _⟩ : Oper) :: _) _ _); first | refine wpList_load_row rfl _ (.tmp 3) rfl w.heap.size rfl 25 C (0, 0) _ HB.out.1.1 Try.underlying25 rfl (by rw [h11]; exact info11) ?_ | refine wpList_load_rowG (by rfl) _ (.tmp 3) rfl w.heap.size rfl 25 C (0, 0) _ HB.out.1.1 Try.underlying25 rfl (by rw [h11]; exact info11) ?_)
    (refine (gain_any HB.out.1.2 _).mono ?_; rintro e wn ⟨rfl, hbn⟩; rw [HV.out.2.1]; have HB := Lib.hid (And.intro ((HB.out.1.on hbn).weak (fun _ _ => trivial)) (HB.out.2.trans (hbn.mono HB.out.2.size))); clear hbn)
    go_wp2_with ((with_reducible show wpList _ _ _ ((⟨_, Op.load 25 _, _, _, _, _⟩ : Oper) :: _) _ _); first | refine wpList_load_row rfl _ (.tmp 3) rfl w.heap.size rfl 25 C (0, 0) _ HB.out.1.1 Try.underlying25 rfl (by rw [h11]; exact info11) ?_ | refine wpList_load_rowG (by rfl) _ (.tmp 3) rfl w.heap.size rfl 25 C (0, 0) _ HB.out.1.1 Try.underlying25 rfl (by rw [h11]; exact info11) ?_)
    (refine (gain_any HB.out.1.2 _).mono ?_; rintro e wn ⟨rfl, hbn⟩; rw [HV.out.2.2.1]; have HB := Lib.hid (And.intro ((HB.out.1.on hbn).weak (fun _ _ => trivial)) (HB.out.2.trans (hbn.mono HB.out.2.size))); clear hbn)
    go_wp2_with ((with_reducible show wpList _ _ _ ((⟨_, Op.load 25 _, _, _, _, _⟩ : Oper) :: _) _ _); first | refine wpList_load_row rfl _ (.tmp 3) rfl w.heap.size rfl 25 C (0, 0) _ HB.out.1.1 Try.underlying25 rfl (by rw [h11]; exact info11) ?_ | refine wpList_load_rowG (by rfl) _ (.tmp 3) rfl w.heap.size rfl 25 C (0, 0) _ HB.out.1.1 Try.underlying25 rfl (by rw [h11]; exact info11) ?_)
    (refine (check_any HB.out.1.2).mono ?_; rintro e wn ⟨rfl, hbn⟩; rw [HV.out.2.2.2]; have HB := Lib.hid (And.intro ((HB.out.1.on hbn).weak (fun _ _ => trivial)) (HB.out.2.trans (hbn.mono HB.out.2.size))); clear hbn)
    have k0 : wn.cell? ⟨w.heap.size, 0, none⟩ = some (.int .i64 p.nodes) := (HB.out.1.1.cell 0).trans HQ.out.1
    have k2 : wn.cell? ⟨w.heap.size, 2, none⟩ = some (.int .i64 p.rho) := (HB.out.1.1.cell 2).trans HQ.out.2.2.2.2
    go_wp2
    go_ret
    exact ⟨rfl, HB.out.2⟩
end Go.Proofs.Ytfjdjhjhpphogaa
