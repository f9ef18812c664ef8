/-
  The walk of times by one clock (DriftTimes).
-/
import Derived.Test.YtfjdjhjhpphogaaEm
namespace Go.Proofs.Ytfjdjhjhpphogaa
set_option linter.unusedVariables false
set_option linter.unusedSimpArgs false
set_option maxRecDepth 20000
open Go.RowKit
theorem hold_grant {p : Dr.P} (h : p.ok) : p.hold < p.grant := by
  obtain ⟨r0, r1⟩ := h.2.2.1
  have h4 : p.hold * (1000 + p.rho) < p.grant * (1000 - p.rho) := h.2.2.2.2.1
  have t3 := h.2.2.2.1.1.1
  have t4 := h.2.2.2.1.2.1.1
  apply Decidable.byContradiction
  intro hh
  have h1 : p.grant * (1000 - p.rho) ≤ p.hold * (1000 - p.rho) := Int.mul_le_mul_of_nonneg_right (by omega) (by omega)
  have h2 : p.hold * (1000 - p.rho) ≤ p.hold * (1000 + p.rho) := Int.mul_le_mul_of_nonneg_left (by omega) (by omega)
  omega
set_option maxHeartbeats 8000000 in
theorem times_walk (C : Array Value) (p : Dr.P) (a b m : Int) (w : World) (h : Cc w (· < w.heap.size) C p) (ha : -9223372036854775808 ≤ a) (ha' : a ≤ 9223372036854775807) (hb : -9223372036854775808 ≤ b) (hb' : b ≤ 9223372036854775807) (hm : 0 ≤ m) (hm' : m < 4294967296) :
    Calls Try.prog 8 #[.agg C, .int .i64 a, .int .i64 b, .int .u32 m] w fun e w' => e = .returned (.bool true) ∧ Below w.heap.size w w' := by
  have h11 := h.size
  have HQ := Lib.hid h.five
  have bx := Box.new h
  have bb := below_alloc w (.cells C 25)
  obtain ⟨w0, h0⟩ : ∃ w0, w.alloc (.cells C 25) = w0 := ⟨_, rfl⟩
  rw [h0] at bx bb
  have HB : Hid (Box w0 (fun _ => True) w.heap.size C p ∧ Below w.heap.size w w0) := Lib.hid ⟨bx.weak fun _ _ => trivial, bb⟩
  have H0 := Lib.hid h0
  clear h bx bb h0
  by_cases hf : few p = true
  case neg =>
    have HF : Hid (few p = false) := Lib.hid (by simpa using hf)
    clear hf
    go_enter Try.func8, Try.ntmps8
    go_upto_region 1 with fail
    rw [H0.out]
    go_wp2_with ((with_reducible show wpList _ _ _ ((⟨_, Op.load 25 _, _, _, _, _⟩ : Oper) :: _) _ _); first | refine wpList_load_row rfl _ (.tmp 4) rfl w.heap.size rfl 25 C (0, 0) _ HB.out.1.1 Try.underlying25 rfl (by rw [h11]; exact info11) ?_ | refine wpList_load_rowG (by rfl) _ (.tmp 4) rfl w.heap.size rfl 25 C (0, 0) _ HB.out.1.1 Try.underlying25 rfl (by rw [h11]; exact info11) ?_)
    (refine (awake_any _).mono ?_; rintro e wn ⟨rfl, hbn⟩; have HB := Lib.hid (And.intro ((HB.out.1.on hbn).weak (fun _ _ => trivial)) (HB.out.2.trans (hbn.mono HB.out.2.size))); clear hbn)
    go_wp2_with ((with_reducible show wpList _ _ _ ((⟨_, Op.load 25 _, _, _, _, _⟩ : Oper) :: _) _ _); first | refine wpList_load_row rfl _ (.tmp 4) rfl w.heap.size rfl 25 C (0, 0) _ HB.out.1.1 Try.underlying25 rfl (by rw [h11]; exact info11) ?_ | refine wpList_load_rowG (by rfl) _ (.tmp 4) rfl w.heap.size rfl 25 C (0, 0) _ HB.out.1.1 Try.underlying25 rfl (by rw [h11]; exact info11) ?_)
    (refine (few_any HB.out.1.2).mono ?_; rintro e wn ⟨rfl, hbn⟩; rw [HF.out]; have HB := Lib.hid (And.intro ((HB.out.1.on hbn).weak (fun _ _ => trivial)) (HB.out.2.trans (hbn.mono HB.out.2.size))); clear hbn)
    go_wp2
    go_ret
    exact ⟨rfl, HB.out.2⟩
  have HF := Lib.hid hf
  clear hf
  by_cases hok : p.ok
  case neg =>
    have HK := Lib.hid (Dr.P.chk_no hok)
    have HT := Lib.hid (show True from trivial)
    clear hok
    clear HT
    go_enter Try.func8, Try.ntmps8
    go_upto_region 1 with fail
    rw [H0.out]
    go_wp2_with ((with_reducible show wpList _ _ _ ((⟨_, Op.load 25 _, _, _, _, _⟩ : Oper) :: _) _ _); first | refine wpList_load_row rfl _ (.tmp 4) rfl w.heap.size rfl 25 C (0, 0) _ HB.out.1.1 Try.underlying25 rfl (by rw [h11]; exact info11) ?_ | refine wpList_load_rowG (by rfl) _ (.tmp 4) rfl w.heap.size rfl 25 C (0, 0) _ HB.out.1.1 Try.underlying25 rfl (by rw [h11]; exact info11) ?_)
    (refine (awake_any _).mono ?_; rintro e wn ⟨rfl, hbn⟩; have HB := Lib.hid (And.intro ((HB.out.1.on hbn).weak (fun _ _ => trivial)) (HB.out.2.trans (hbn.mono HB.out.2.size))); clear hbn)
    go_wp2_with ((with_reducible show wpList _ _ _ ((⟨_, Op.load 25 _, _, _, _, _⟩ : Oper) :: _) _ _); first | refine wpList_load_row rfl _ (.tmp 4) rfl w.heap.size rfl 25 C (0, 0) _ HB.out.1.1 Try.underlying25 rfl (by rw [h11]; exact info11) ?_ | refine wpList_load_rowG (by rfl) _ (.tmp 4) rfl w.heap.size rfl 25 C (0, 0) _ HB.out.1.1 Try.underlying25 rfl (by rw [h11]; exact info11) ?_)
    (refine (few_any HB.out.1.2).mono ?_; rintro e wn ⟨rfl, hbn⟩; rw [HF.out]; have HB := Lib.hid (And.intro ((HB.out.1.on hbn).weak (fun _ _ => trivial)) (HB.out.2.trans (hbn.mono HB.out.2.size))); clear hbn)
    go_wp2_with ((with_reducible show wpList _ _ _ ((⟨_, Op.load 25 _, _, _, _, _⟩ : Oper) :: _) _ _); first | refine wpList_load_row rfl _ (.tmp 4) rfl w.heap.size rfl 25 C (0, 0) _ HB.out.1.1 Try.underlying25 rfl (by rw [h11]; exact info11) ?_ | refine wpList_load_rowG (by rfl) _ (.tmp 4) rfl w.heap.size rfl 25 C (0, 0) _ HB.out.1.1 Try.underlying25 rfl (by rw [h11]; exact info11) ?_)
    (refine (check_any HB.out.1.2).mono ?_; rintro e wn ⟨rfl, hbn⟩; rw [HK.out]; have HB := Lib.hid (And.intro ((HB.out.1.on hbn).weak (fun _ _ => trivial)) (HB.out.2.trans (hbn.mono HB.out.2.size))); clear hbn)
    go_wp2
    go_ret
    exact ⟨rfl, HB.out.2⟩
  have HK := Lib.hid (Dr.P.chk_ok hok)
  have HT := Lib.hid hok
  clear hok
  by_cases c1 : a < 0
  · have d1 : decide (a < 0) = true := decide_eq_true c1
    clear c1
    clear HT
    go_enter Try.func8, Try.ntmps8
    go_upto_region 1 with fail
    rw [H0.out]
    go_wp2_with ((with_reducible show wpList _ _ _ ((⟨_, Op.load 25 _, _, _, _, _⟩ : Oper) :: _) _ _); first | refine wpList_load_row rfl _ (.tmp 4) rfl w.heap.size rfl 25 C (0, 0) _ HB.out.1.1 Try.underlying25 rfl (by rw [h11]; exact info11) ?_ | refine wpList_load_rowG (by rfl) _ (.tmp 4) rfl w.heap.size rfl 25 C (0, 0) _ HB.out.1.1 Try.underlying25 rfl (by rw [h11]; exact info11) ?_)
    (refine (awake_any _).mono ?_; rintro e wn ⟨rfl, hbn⟩; have HB := Lib.hid (And.intro ((HB.out.1.on hbn).weak (fun _ _ => trivial)) (HB.out.2.trans (hbn.mono HB.out.2.size))); clear hbn)
    go_wp2_with ((with_reducible show wpList _ _ _ ((⟨_, Op.load 25 _, _, _, _, _⟩ : Oper) :: _) _ _); first | refine wpList_load_row rfl _ (.tmp 4) rfl w.heap.size rfl 25 C (0, 0) _ HB.out.1.1 Try.underlying25 rfl (by rw [h11]; exact info11) ?_ | refine wpList_load_rowG (by rfl) _ (.tmp 4) rfl w.heap.size rfl 25 C (0, 0) _ HB.out.1.1 Try.underlying25 rfl (by rw [h11]; exact info11) ?_)
    (refine (few_any HB.out.1.2).mono ?_; rintro e wn ⟨rfl, hbn⟩; rw [HF.out]; have HB := Lib.hid (And.intro ((HB.out.1.on hbn).weak (fun _ _ => trivial)) (HB.out.2.trans (hbn.mono HB.out.2.size))); clear hbn)
    go_wp2_with ((with_reducible show wpList _ _ _ ((⟨_, Op.load 25 _, _, _, _, _⟩ : Oper) :: _) _ _); first | refine wpList_load_row rfl _ (.tmp 4) rfl w.heap.size rfl 25 C (0, 0) _ HB.out.1.1 Try.underlying25 rfl (by rw [h11]; exact info11) ?_ | refine wpList_load_rowG (by rfl) _ (.tmp 4) rfl w.heap.size rfl 25 C (0, 0) _ HB.out.1.1 Try.underlying25 rfl (by rw [h11]; exact info11) ?_)
    (refine (check_any HB.out.1.2).mono ?_; rintro e wn ⟨rfl, hbn⟩; rw [HK.out]; have HB := Lib.hid (And.intro ((HB.out.1.on hbn).weak (fun _ _ => trivial)) (HB.out.2.trans (hbn.mono HB.out.2.size))); clear hbn)
    go_wp2
    go_ret
    exact ⟨rfl, HB.out.2⟩
  have d1 : decide (a < 0) = false := decide_eq_false c1
  by_cases c2 : b < a
  · have d2 : decide (b < a) = true := decide_eq_true c2
    clear c2
    clear HT
    go_enter Try.func8, Try.ntmps8
    go_upto_region 1 with fail
    rw [H0.out]
    go_wp2_with ((with_reducible show wpList _ _ _ ((⟨_, Op.load 25 _, _, _, _, _⟩ : Oper) :: _) _ _); first | refine wpList_load_row rfl _ (.tmp 4) rfl w.heap.size rfl 25 C (0, 0) _ HB.out.1.1 Try.underlying25 rfl (by rw [h11]; exact info11) ?_ | refine wpList_load_rowG (by rfl) _ (.tmp 4) rfl w.heap.size rfl 25 C (0, 0) _ HB.out.1.1 Try.underlying25 rfl (by rw [h11]; exact info11) ?_)
    (refine (awake_any _).mono ?_; rintro e wn ⟨rfl, hbn⟩; have HB := Lib.hid (And.intro ((HB.out.1.on hbn).weak (fun _ _ => trivial)) (HB.out.2.trans (hbn.mono HB.out.2.size))); clear hbn)
    go_wp2_with ((with_reducible show wpList _ _ _ ((⟨_, Op.load 25 _, _, _, _, _⟩ : Oper) :: _) _ _); first | refine wpList_load_row rfl _ (.tmp 4) rfl w.heap.size rfl 25 C (0, 0) _ HB.out.1.1 Try.underlying25 rfl (by rw [h11]; exact info11) ?_ | refine wpList_load_rowG (by rfl) _ (.tmp 4) rfl w.heap.size rfl 25 C (0, 0) _ HB.out.1.1 Try.underlying25 rfl (by rw [h11]; exact info11) ?_)
    (refine (few_any HB.out.1.2).mono ?_; rintro e wn ⟨rfl, hbn⟩; rw [HF.out]; have HB := Lib.hid (And.intro ((HB.out.1.on hbn).weak (fun _ _ => trivial)) (HB.out.2.trans (hbn.mono HB.out.2.size))); clear hbn)
    go_wp2_with ((with_reducible show wpList _ _ _ ((⟨_, Op.load 25 _, _, _, _, _⟩ : Oper) :: _) _ _); first | refine wpList_load_row rfl _ (.tmp 4) rfl w.heap.size rfl 25 C (0, 0) _ HB.out.1.1 Try.underlying25 rfl (by rw [h11]; exact info11) ?_ | refine wpList_load_rowG (by rfl) _ (.tmp 4) rfl w.heap.size rfl 25 C (0, 0) _ HB.out.1.1 Try.underlying25 rfl (by rw [h11]; exact info11) ?_)
    (refine (check_any HB.out.1.2).mono ?_; rintro e wn ⟨rfl, hbn⟩; rw [HK.out]; have HB := Lib.hid (And.intro ((HB.out.1.on hbn).weak (fun _ _ => trivial)) (HB.out.2.trans (hbn.mono HB.out.2.size))); clear hbn)
    go_wp2
    go_ret
    exact ⟨rfl, HB.out.2⟩
  have d2 : decide (b < a) = false := decide_eq_false c2
  by_cases c3 : 1152921504606846976 < b
  · have d3 : decide (1152921504606846976 < b) = true := decide_eq_true c3
    clear c3
    clear HT
    go_enter Try.func8, Try.ntmps8
    go_upto_region 1 with fail
    rw [H0.out]
    go_wp2_with ((with_reducible show wpList _ _ _ ((⟨_, Op.load 25 _, _, _, _, _⟩ : Oper) :: _) _ _); first | refine wpList_load_row rfl _ (.tmp 4) rfl w.heap.size rfl 25 C (0, 0) _ HB.out.1.1 Try.underlying25 rfl (by rw [h11]; exact info11) ?_ | refine wpList_load_rowG (by rfl) _ (.tmp 4) rfl w.heap.size rfl 25 C (0, 0) _ HB.out.1.1 Try.underlying25 rfl (by rw [h11]; exact info11) ?_)
    (refine (awake_any _).mono ?_; rintro e wn ⟨rfl, hbn⟩; have HB := Lib.hid (And.intro ((HB.out.1.on hbn).weak (fun _ _ => trivial)) (HB.out.2.trans (hbn.mono HB.out.2.size))); clear hbn)
    go_wp2_with ((with_reducible show wpList _ _ _ ((⟨_, Op.load 25 _, _, _, _, _⟩ : Oper) :: _) _ _); first | refine wpList_load_row rfl _ (.tmp 4) rfl w.heap.size rfl 25 C (0, 0) _ HB.out.1.1 Try.underlying25 rfl (by rw [h11]; exact info11) ?_ | refine wpList_load_rowG (by rfl) _ (.tmp 4) rfl w.heap.size rfl 25 C (0, 0) _ HB.out.1.1 Try.underlying25 rfl (by rw [h11]; exact info11) ?_)
    (refine (few_any HB.out.1.2).mono ?_; rintro e wn ⟨rfl, hbn⟩; rw [HF.out]; have HB := Lib.hid (And.intro ((HB.out.1.on hbn).weak (fun _ _ => trivial)) (HB.out.2.trans (hbn.mono HB.out.2.size))); clear hbn)
    go_wp2_with ((with_reducible show wpList _ _ _ ((⟨_, Op.load 25 _, _, _, _, _⟩ : Oper) :: _) _ _); first | refine wpList_load_row rfl _ (.tmp 4) rfl w.heap.size rfl 25 C (0, 0) _ HB.out.1.1 Try.underlying25 rfl (by rw [h11]; exact info11) ?_ | refine wpList_load_rowG (by rfl) _ (.tmp 4) rfl w.heap.size rfl 25 C (0, 0) _ HB.out.1.1 Try.underlying25 rfl (by rw [h11]; exact info11) ?_)
    (refine (check_any HB.out.1.2).mono ?_; rintro e wn ⟨rfl, hbn⟩; rw [HK.out]; have HB := Lib.hid (And.intro ((HB.out.1.on hbn).weak (fun _ _ => trivial)) (HB.out.2.trans (hbn.mono HB.out.2.size))); clear hbn)
    go_wp2
    go_ret
    exact ⟨rfl, HB.out.2⟩
  have d3 : decide (1152921504606846976 < b) = false := decide_eq_false c3
  have hok := HT.out
  have hhg := hold_grant hok
  have t3 : 1 ≤ p.hold := hok.2.2.2.1.1.1
  have t5 : 1 ≤ p.guard := hok.2.2.2.1.2.2.1.1
  have w1 : Dr.tw a b := ⟨by omega, by omega, by omega⟩
  have w2 : Dr.tw a (b + m) := ⟨by omega, by omega, by omega⟩
  have w3 : Dr.tw a a := ⟨by omega, by omega, by omega⟩
  have v1 : p.holds a b = decide (b - a < p.hold) := decide_eq_decide.2 ⟨fun h => h.2.2, fun h => ⟨hok, w1, h⟩⟩
  have v2 : p.late a b = decide (p.hold - (b - a) ≤ p.guard) := decide_eq_decide.2 ⟨fun h => h.2.resolve_left (fun h => h w1), fun h => ⟨hok, Or.inr h⟩⟩
  have v3 : p.free a b = decide (p.grant ≤ b - a) := decide_eq_decide.2 ⟨fun h => h.2.2, fun h => ⟨hok, w1, h⟩⟩
  have v4 : p.late a b = true → p.late a (b + m) = true := fun h => by
    rw [v2] at h
    have h := of_decide_eq_true h
    exact decide_eq_true ⟨hok, Or.inr (by omega)⟩
  have v5 : p.free a b = true → p.free a (b + m) = true := fun h => by
    rw [v3] at h
    have h := of_decide_eq_true h
    exact decide_eq_true ⟨hok, w2, by omega⟩
  have v6 : p.holds a a = true := decide_eq_true ⟨hok, w3, by omega⟩
  have e1 : wrap64 (b + m) = b + m := IntWalk.wrap64_in _ (by omega)
  have V6 := Lib.hid v6
  by_cases hH0 : b - a < p.hold
  · have hH : p.holds a b = true := by rw [v1]; exact decide_eq_true hH0
    have hF : p.free a b = false := by rw [v3]; exact decide_eq_false (by omega)
    by_cases hL0 : p.hold - (b - a) ≤ p.guard
    case neg =>
      have hL : p.late a b = false := by rw [v2]; exact decide_eq_false hL0
      have V := Lib.hid (And.intro hH (And.intro hF (And.intro hL trivial)))
      clear hH hF hL v1 v2 v3 v4 v5 v6 w1 w2 w3 hhg hok HT t3 t5 hH0 hL0
      · go_enter Try.func8, Try.ntmps8
        go_upto_region 1 with fail
        rw [H0.out]
        go_wp2_with ((with_reducible show wpList _ _ _ ((⟨_, Op.load 25 _, _, _, _, _⟩ : Oper) :: _) _ _); first | refine wpList_load_row rfl _ (.tmp 4) rfl w.heap.size rfl 25 C (0, 0) _ HB.out.1.1 Try.underlying25 rfl (by rw [h11]; exact info11) ?_ | refine wpList_load_rowG (by rfl) _ (.tmp 4) rfl w.heap.size rfl 25 C (0, 0) _ HB.out.1.1 Try.underlying25 rfl (by rw [h11]; exact info11) ?_)
        (refine (awake_any _).mono ?_; rintro e wn ⟨rfl, hbn⟩; have HB := Lib.hid (And.intro ((HB.out.1.on hbn).weak (fun _ _ => trivial)) (HB.out.2.trans (hbn.mono HB.out.2.size))); clear hbn)
        go_wp2_with ((with_reducible show wpList _ _ _ ((⟨_, Op.load 25 _, _, _, _, _⟩ : Oper) :: _) _ _); first | refine wpList_load_row rfl _ (.tmp 4) rfl w.heap.size rfl 25 C (0, 0) _ HB.out.1.1 Try.underlying25 rfl (by rw [h11]; exact info11) ?_ | refine wpList_load_rowG (by rfl) _ (.tmp 4) rfl w.heap.size rfl 25 C (0, 0) _ HB.out.1.1 Try.underlying25 rfl (by rw [h11]; exact info11) ?_)
        (refine (few_any HB.out.1.2).mono ?_; rintro e wn ⟨rfl, hbn⟩; rw [HF.out]; have HB := Lib.hid (And.intro ((HB.out.1.on hbn).weak (fun _ _ => trivial)) (HB.out.2.trans (hbn.mono HB.out.2.size))); clear hbn)
        go_wp2_with ((with_reducible show wpList _ _ _ ((⟨_, Op.load 25 _, _, _, _, _⟩ : Oper) :: _) _ _); first | refine wpList_load_row rfl _ (.tmp 4) rfl w.heap.size rfl 25 C (0, 0) _ HB.out.1.1 Try.underlying25 rfl (by rw [h11]; exact info11) ?_ | refine wpList_load_rowG (by rfl) _ (.tmp 4) rfl w.heap.size rfl 25 C (0, 0) _ HB.out.1.1 Try.underlying25 rfl (by rw [h11]; exact info11) ?_)
        (refine (check_any HB.out.1.2).mono ?_; rintro e wn ⟨rfl, hbn⟩; rw [HK.out]; have HB := Lib.hid (And.intro ((HB.out.1.on hbn).weak (fun _ _ => trivial)) (HB.out.2.trans (hbn.mono HB.out.2.size))); clear hbn)
        go_wp2_with ((with_reducible show wpList _ _ _ ((⟨_, Op.load 25 _, _, _, _, _⟩ : Oper) :: _) _ _); first | refine wpList_load_row rfl _ (.tmp 4) rfl w.heap.size rfl 25 C (0, 0) _ HB.out.1.1 Try.underlying25 rfl (by rw [h11]; exact info11) ?_ | refine wpList_load_rowG (by rfl) _ (.tmp 4) rfl w.heap.size rfl 25 C (0, 0) _ HB.out.1.1 Try.underlying25 rfl (by rw [h11]; exact info11) ?_)
        (refine (late_any HB.out.1.2 _ _).mono ?_; rintro e wn ⟨rfl, hbn⟩; rw [V.out.2.2.1]; have HB := Lib.hid (And.intro ((HB.out.1.on hbn).weak (fun _ _ => trivial)) (HB.out.2.trans (hbn.mono HB.out.2.size))); clear hbn)
        go_wp2_with ((with_reducible show wpList _ _ _ ((⟨_, Op.load 25 _, _, _, _, _⟩ : Oper) :: _) _ _); first | refine wpList_load_row rfl _ (.tmp 4) rfl w.heap.size rfl 25 C (0, 0) _ HB.out.1.1 Try.underlying25 rfl (by rw [h11]; exact info11) ?_ | refine wpList_load_rowG (by rfl) _ (.tmp 4) rfl w.heap.size rfl 25 C (0, 0) _ HB.out.1.1 Try.underlying25 rfl (by rw [h11]; exact info11) ?_)
        (refine (free_any HB.out.1.2 _ _).mono ?_; rintro e wn ⟨rfl, hbn⟩; rw [V.out.2.1]; have HB := Lib.hid (And.intro ((HB.out.1.on hbn).weak (fun _ _ => trivial)) (HB.out.2.trans (hbn.mono HB.out.2.size))); clear hbn)
        go_wp2_with ((with_reducible show wpList _ _ _ ((⟨_, Op.load 25 _, _, _, _, _⟩ : Oper) :: _) _ _); first | refine wpList_load_row rfl _ (.tmp 4) rfl w.heap.size rfl 25 C (0, 0) _ HB.out.1.1 Try.underlying25 rfl (by rw [h11]; exact info11) ?_ | refine wpList_load_rowG (by rfl) _ (.tmp 4) rfl w.heap.size rfl 25 C (0, 0) _ HB.out.1.1 Try.underlying25 rfl (by rw [h11]; exact info11) ?_)
        (refine (holds_any HB.out.1.2 _ _).mono ?_; rintro e wn ⟨rfl, hbn⟩; rw [V.out.1]; have HB := Lib.hid (And.intro ((HB.out.1.on hbn).weak (fun _ _ => trivial)) (HB.out.2.trans (hbn.mono HB.out.2.size))); clear hbn)
        go_wp2_with ((with_reducible show wpList _ _ _ ((⟨_, Op.load 25 _, _, _, _, _⟩ : Oper) :: _) _ _); first | refine wpList_load_row rfl _ (.tmp 4) rfl w.heap.size rfl 25 C (0, 0) _ HB.out.1.1 Try.underlying25 rfl (by rw [h11]; exact info11) ?_ | refine wpList_load_rowG (by rfl) _ (.tmp 4) rfl w.heap.size rfl 25 C (0, 0) _ HB.out.1.1 Try.underlying25 rfl (by rw [h11]; exact info11) ?_)
        (refine (holds_any HB.out.1.2 _ _).mono ?_; rintro e wn ⟨rfl, hbn⟩; rw [V6.out]; have HB := Lib.hid (And.intro ((HB.out.1.on hbn).weak (fun _ _ => trivial)) (HB.out.2.trans (hbn.mono HB.out.2.size))); clear hbn)
        go_wp2
        go_ret
        exact ⟨rfl, HB.out.2⟩
    have hL : p.late a b = true := by rw [v2]; exact decide_eq_true hL0
    have V := Lib.hid (And.intro hH (And.intro hF (And.intro hL (v4 hL))))
    clear hH hF hL v1 v2 v3 v4 v5 v6 w1 w2 w3 hhg hok HT t3 t5 hH0 hL0
    go_enter Try.func8, Try.ntmps8
    go_upto_region 1 with fail
    rw [H0.out]
    go_wp2_with ((with_reducible show wpList _ _ _ ((⟨_, Op.load 25 _, _, _, _, _⟩ : Oper) :: _) _ _); first | refine wpList_load_row rfl _ (.tmp 4) rfl w.heap.size rfl 25 C (0, 0) _ HB.out.1.1 Try.underlying25 rfl (by rw [h11]; exact info11) ?_ | refine wpList_load_rowG (by rfl) _ (.tmp 4) rfl w.heap.size rfl 25 C (0, 0) _ HB.out.1.1 Try.underlying25 rfl (by rw [h11]; exact info11) ?_)
    (refine (awake_any _).mono ?_; rintro e wn ⟨rfl, hbn⟩; have HB := Lib.hid (And.intro ((HB.out.1.on hbn).weak (fun _ _ => trivial)) (HB.out.2.trans (hbn.mono HB.out.2.size))); clear hbn)
    go_wp2_with ((with_reducible show wpList _ _ _ ((⟨_, Op.load 25 _, _, _, _, _⟩ : Oper) :: _) _ _); first | refine wpList_load_row rfl _ (.tmp 4) rfl w.heap.size rfl 25 C (0, 0) _ HB.out.1.1 Try.underlying25 rfl (by rw [h11]; exact info11) ?_ | refine wpList_load_rowG (by rfl) _ (.tmp 4) rfl w.heap.size rfl 25 C (0, 0) _ HB.out.1.1 Try.underlying25 rfl (by rw [h11]; exact info11) ?_)
    (refine (few_any HB.out.1.2).mono ?_; rintro e wn ⟨rfl, hbn⟩; rw [HF.out]; have HB := Lib.hid (And.intro ((HB.out.1.on hbn).weak (fun _ _ => trivial)) (HB.out.2.trans (hbn.mono HB.out.2.size))); clear hbn)
    go_wp2_with ((with_reducible show wpList _ _ _ ((⟨_, Op.load 25 _, _, _, _, _⟩ : Oper) :: _) _ _); first | refine wpList_load_row rfl _ (.tmp 4) rfl w.heap.size rfl 25 C (0, 0) _ HB.out.1.1 Try.underlying25 rfl (by rw [h11]; exact info11) ?_ | refine wpList_load_rowG (by rfl) _ (.tmp 4) rfl w.heap.size rfl 25 C (0, 0) _ HB.out.1.1 Try.underlying25 rfl (by rw [h11]; exact info11) ?_)
    (refine (check_any HB.out.1.2).mono ?_; rintro e wn ⟨rfl, hbn⟩; rw [HK.out]; have HB := Lib.hid (And.intro ((HB.out.1.on hbn).weak (fun _ _ => trivial)) (HB.out.2.trans (hbn.mono HB.out.2.size))); clear hbn)
    go_wp2_with ((with_reducible show wpList _ _ _ ((⟨_, Op.load 25 _, _, _, _, _⟩ : Oper) :: _) _ _); first | refine wpList_load_row rfl _ (.tmp 4) rfl w.heap.size rfl 25 C (0, 0) _ HB.out.1.1 Try.underlying25 rfl (by rw [h11]; exact info11) ?_ | refine wpList_load_rowG (by rfl) _ (.tmp 4) rfl w.heap.size rfl 25 C (0, 0) _ HB.out.1.1 Try.underlying25 rfl (by rw [h11]; exact info11) ?_)
    (refine (late_any HB.out.1.2 _ _).mono ?_; rintro e wn ⟨rfl, hbn⟩; rw [V.out.2.2.1]; have HB := Lib.hid (And.intro ((HB.out.1.on hbn).weak (fun _ _ => trivial)) (HB.out.2.trans (hbn.mono HB.out.2.size))); clear hbn)
    go_wp2_with ((with_reducible show wpList _ _ _ ((⟨_, Op.load 25 _, _, _, _, _⟩ : Oper) :: _) _ _); first | refine wpList_load_row rfl _ (.tmp 4) rfl w.heap.size rfl 25 C (0, 0) _ HB.out.1.1 Try.underlying25 rfl (by rw [h11]; exact info11) ?_ | refine wpList_load_rowG (by rfl) _ (.tmp 4) rfl w.heap.size rfl 25 C (0, 0) _ HB.out.1.1 Try.underlying25 rfl (by rw [h11]; exact info11) ?_)
    (refine (free_any HB.out.1.2 _ _).mono ?_; rintro e wn ⟨rfl, hbn⟩; rw [V.out.2.1]; have HB := Lib.hid (And.intro ((HB.out.1.on hbn).weak (fun _ _ => trivial)) (HB.out.2.trans (hbn.mono HB.out.2.size))); clear hbn)
    go_wp2_with ((with_reducible show wpList _ _ _ ((⟨_, Op.load 25 _, _, _, _, _⟩ : Oper) :: _) _ _); first | refine wpList_load_row rfl _ (.tmp 4) rfl w.heap.size rfl 25 C (0, 0) _ HB.out.1.1 Try.underlying25 rfl (by rw [h11]; exact info11) ?_ | refine wpList_load_rowG (by rfl) _ (.tmp 4) rfl w.heap.size rfl 25 C (0, 0) _ HB.out.1.1 Try.underlying25 rfl (by rw [h11]; exact info11) ?_)
    (refine (holds_any HB.out.1.2 _ _).mono ?_; rintro e wn ⟨rfl, hbn⟩; rw [V.out.1]; have HB := Lib.hid (And.intro ((HB.out.1.on hbn).weak (fun _ _ => trivial)) (HB.out.2.trans (hbn.mono HB.out.2.size))); clear hbn)
    go_wp2_with ((with_reducible show wpList _ _ _ ((⟨_, Op.load 25 _, _, _, _, _⟩ : Oper) :: _) _ _); first | refine wpList_load_row rfl _ (.tmp 4) rfl w.heap.size rfl 25 C (0, 0) _ HB.out.1.1 Try.underlying25 rfl (by rw [h11]; exact info11) ?_ | refine wpList_load_rowG (by rfl) _ (.tmp 4) rfl w.heap.size rfl 25 C (0, 0) _ HB.out.1.1 Try.underlying25 rfl (by rw [h11]; exact info11) ?_)
    (refine (late_any HB.out.1.2 _ _).mono ?_; rintro e wn ⟨rfl, hbn⟩; rw [V.out.2.2.2]; have HB := Lib.hid (And.intro ((HB.out.1.on hbn).weak (fun _ _ => trivial)) (HB.out.2.trans (hbn.mono HB.out.2.size))); clear hbn)
    go_wp2_with ((with_reducible show wpList _ _ _ ((⟨_, Op.load 25 _, _, _, _, _⟩ : Oper) :: _) _ _); first | refine wpList_load_row rfl _ (.tmp 4) rfl w.heap.size rfl 25 C (0, 0) _ HB.out.1.1 Try.underlying25 rfl (by rw [h11]; exact info11) ?_ | refine wpList_load_rowG (by rfl) _ (.tmp 4) rfl w.heap.size rfl 25 C (0, 0) _ HB.out.1.1 Try.underlying25 rfl (by rw [h11]; exact info11) ?_)
    (refine (holds_any HB.out.1.2 _ _).mono ?_; rintro e wn ⟨rfl, hbn⟩; rw [V6.out]; have HB := Lib.hid (And.intro ((HB.out.1.on hbn).weak (fun _ _ => trivial)) (HB.out.2.trans (hbn.mono HB.out.2.size))); clear hbn)
    go_wp2
    go_ret
    exact ⟨rfl, HB.out.2⟩
  have hH : p.holds a b = false := by rw [v1]; exact decide_eq_false hH0
  have hL : p.late a b = true := by rw [v2]; exact decide_eq_true (by omega)
  by_cases hF0 : p.grant ≤ b - a
  case neg =>
    have hF : p.free a b = false := by rw [v3]; exact decide_eq_false hF0
    have V := Lib.hid (And.intro hH (And.intro hF (And.intro hL (v4 hL))))
    clear hH hF hL v1 v2 v3 v4 v5 v6 w1 w2 w3 hhg hok HT t3 t5 hH0 hF0
    go_enter Try.func8, Try.ntmps8
    go_upto_region 1 with fail
    rw [H0.out]
    go_wp2_with ((with_reducible show wpList _ _ _ ((⟨_, Op.load 25 _, _, _, _, _⟩ : Oper) :: _) _ _); first | refine wpList_load_row rfl _ (.tmp 4) rfl w.heap.size rfl 25 C (0, 0) _ HB.out.1.1 Try.underlying25 rfl (by rw [h11]; exact info11) ?_ | refine wpList_load_rowG (by rfl) _ (.tmp 4) rfl w.heap.size rfl 25 C (0, 0) _ HB.out.1.1 Try.underlying25 rfl (by rw [h11]; exact info11) ?_)
    (refine (awake_any _).mono ?_; rintro e wn ⟨rfl, hbn⟩; have HB := Lib.hid (And.intro ((HB.out.1.on hbn).weak (fun _ _ => trivial)) (HB.out.2.trans (hbn.mono HB.out.2.size))); clear hbn)
    go_wp2_with ((with_reducible show wpList _ _ _ ((⟨_, Op.load 25 _, _, _, _, _⟩ : Oper) :: _) _ _); first | refine wpList_load_row rfl _ (.tmp 4) rfl w.heap.size rfl 25 C (0, 0) _ HB.out.1.1 Try.underlying25 rfl (by rw [h11]; exact info11) ?_ | refine wpList_load_rowG (by rfl) _ (.tmp 4) rfl w.heap.size rfl 25 C (0, 0) _ HB.out.1.1 Try.underlying25 rfl (by rw [h11]; exact info11) ?_)
    (refine (few_any HB.out.1.2).mono ?_; rintro e wn ⟨rfl, hbn⟩; rw [HF.out]; have HB := Lib.hid (And.intro ((HB.out.1.on hbn).weak (fun _ _ => trivial)) (HB.out.2.trans (hbn.mono HB.out.2.size))); clear hbn)
    go_wp2_with ((with_reducible show wpList _ _ _ ((⟨_, Op.load 25 _, _, _, _, _⟩ : Oper) :: _) _ _); first | refine wpList_load_row rfl _ (.tmp 4) rfl w.heap.size rfl 25 C (0, 0) _ HB.out.1.1 Try.underlying25 rfl (by rw [h11]; exact info11) ?_ | refine wpList_load_rowG (by rfl) _ (.tmp 4) rfl w.heap.size rfl 25 C (0, 0) _ HB.out.1.1 Try.underlying25 rfl (by rw [h11]; exact info11) ?_)
    (refine (check_any HB.out.1.2).mono ?_; rintro e wn ⟨rfl, hbn⟩; rw [HK.out]; have HB := Lib.hid (And.intro ((HB.out.1.on hbn).weak (fun _ _ => trivial)) (HB.out.2.trans (hbn.mono HB.out.2.size))); clear hbn)
    go_wp2_with ((with_reducible show wpList _ _ _ ((⟨_, Op.load 25 _, _, _, _, _⟩ : Oper) :: _) _ _); first | refine wpList_load_row rfl _ (.tmp 4) rfl w.heap.size rfl 25 C (0, 0) _ HB.out.1.1 Try.underlying25 rfl (by rw [h11]; exact info11) ?_ | refine wpList_load_rowG (by rfl) _ (.tmp 4) rfl w.heap.size rfl 25 C (0, 0) _ HB.out.1.1 Try.underlying25 rfl (by rw [h11]; exact info11) ?_)
    (refine (late_any HB.out.1.2 _ _).mono ?_; rintro e wn ⟨rfl, hbn⟩; rw [V.out.2.2.1]; have HB := Lib.hid (And.intro ((HB.out.1.on hbn).weak (fun _ _ => trivial)) (HB.out.2.trans (hbn.mono HB.out.2.size))); clear hbn)
    go_wp2_with ((with_reducible show wpList _ _ _ ((⟨_, Op.load 25 _, _, _, _, _⟩ : Oper) :: _) _ _); first | refine wpList_load_row rfl _ (.tmp 4) rfl w.heap.size rfl 25 C (0, 0) _ HB.out.1.1 Try.underlying25 rfl (by rw [h11]; exact info11) ?_ | refine wpList_load_rowG (by rfl) _ (.tmp 4) rfl w.heap.size rfl 25 C (0, 0) _ HB.out.1.1 Try.underlying25 rfl (by rw [h11]; exact info11) ?_)
    (refine (free_any HB.out.1.2 _ _).mono ?_; rintro e wn ⟨rfl, hbn⟩; rw [V.out.2.1]; have HB := Lib.hid (And.intro ((HB.out.1.on hbn).weak (fun _ _ => trivial)) (HB.out.2.trans (hbn.mono HB.out.2.size))); clear hbn)
    go_wp2_with ((with_reducible show wpList _ _ _ ((⟨_, Op.load 25 _, _, _, _, _⟩ : Oper) :: _) _ _); first | refine wpList_load_row rfl _ (.tmp 4) rfl w.heap.size rfl 25 C (0, 0) _ HB.out.1.1 Try.underlying25 rfl (by rw [h11]; exact info11) ?_ | refine wpList_load_rowG (by rfl) _ (.tmp 4) rfl w.heap.size rfl 25 C (0, 0) _ HB.out.1.1 Try.underlying25 rfl (by rw [h11]; exact info11) ?_)
    (refine (holds_any HB.out.1.2 _ _).mono ?_; rintro e wn ⟨rfl, hbn⟩; rw [V.out.1]; have HB := Lib.hid (And.intro ((HB.out.1.on hbn).weak (fun _ _ => trivial)) (HB.out.2.trans (hbn.mono HB.out.2.size))); clear hbn)
    go_wp2_with ((with_reducible show wpList _ _ _ ((⟨_, Op.load 25 _, _, _, _, _⟩ : Oper) :: _) _ _); first | refine wpList_load_row rfl _ (.tmp 4) rfl w.heap.size rfl 25 C (0, 0) _ HB.out.1.1 Try.underlying25 rfl (by rw [h11]; exact info11) ?_ | refine wpList_load_rowG (by rfl) _ (.tmp 4) rfl w.heap.size rfl 25 C (0, 0) _ HB.out.1.1 Try.underlying25 rfl (by rw [h11]; exact info11) ?_)
    (refine (late_any HB.out.1.2 _ _).mono ?_; rintro e wn ⟨rfl, hbn⟩; rw [V.out.2.2.2]; have HB := Lib.hid (And.intro ((HB.out.1.on hbn).weak (fun _ _ => trivial)) (HB.out.2.trans (hbn.mono HB.out.2.size))); clear hbn)
    go_wp2_with ((with_reducible show wpList _ _ _ ((⟨_, Op.load 25 _, _, _, _, _⟩ : Oper) :: _) _ _); first | refine wpList_load_row rfl _ (.tmp 4) rfl w.heap.size rfl 25 C (0, 0) _ HB.out.1.1 Try.underlying25 rfl (by rw [h11]; exact info11) ?_ | refine wpList_load_rowG (by rfl) _ (.tmp 4) rfl w.heap.size rfl 25 C (0, 0) _ HB.out.1.1 Try.underlying25 rfl (by rw [h11]; exact info11) ?_)
    (refine (holds_any HB.out.1.2 _ _).mono ?_; rintro e wn ⟨rfl, hbn⟩; rw [V6.out]; have HB := Lib.hid (And.intro ((HB.out.1.on hbn).weak (fun _ _ => trivial)) (HB.out.2.trans (hbn.mono HB.out.2.size))); clear hbn)
    go_wp2
    go_ret
    exact ⟨rfl, HB.out.2⟩
  · have hF : p.free a b = true := by rw [v3]; exact decide_eq_true hF0
    have V := Lib.hid (And.intro hH (And.intro hF (And.intro hL (v4 hL))))
    have V' := Lib.hid (v5 hF)
    clear hH hF hL v1 v2 v3 v4 v5 v6 w1 w2 w3 hhg hok HT t3 t5 hH0 hF0
    go_enter Try.func8, Try.ntmps8
    go_upto_region 1 with fail
    rw [H0.out]
    go_wp2_with ((with_reducible show wpList _ _ _ ((⟨_, Op.load 25 _, _, _, _, _⟩ : Oper) :: _) _ _); first | refine wpList_load_row rfl _ (.tmp 4) rfl w.heap.size rfl 25 C (0, 0) _ HB.out.1.1 Try.underlying25 rfl (by rw [h11]; exact info11) ?_ | refine wpList_load_rowG (by rfl) _ (.tmp 4) rfl w.heap.size rfl 25 C (0, 0) _ HB.out.1.1 Try.underlying25 rfl (by rw [h11]; exact info11) ?_)
    (refine (awake_any _).mono ?_; rintro e wn ⟨rfl, hbn⟩; have HB := Lib.hid (And.intro ((HB.out.1.on hbn).weak (fun _ _ => trivial)) (HB.out.2.trans (hbn.mono HB.out.2.size))); clear hbn)
    go_wp2_with ((with_reducible show wpList _ _ _ ((⟨_, Op.load 25 _, _, _, _, _⟩ : Oper) :: _) _ _); first | refine wpList_load_row rfl _ (.tmp 4) rfl w.heap.size rfl 25 C (0, 0) _ HB.out.1.1 Try.underlying25 rfl (by rw [h11]; exact info11) ?_ | refine wpList_load_rowG (by rfl) _ (.tmp 4) rfl w.heap.size rfl 25 C (0, 0) _ HB.out.1.1 Try.underlying25 rfl (by rw [h11]; exact info11) ?_)
    (refine (few_any HB.out.1.2).mono ?_; rintro e wn ⟨rfl, hbn⟩; rw [HF.out]; have HB := Lib.hid (And.intro ((HB.out.1.on hbn).weak (fun _ _ => trivial)) (HB.out.2.trans (hbn.mono HB.out.2.size))); clear hbn)
    go_wp2_with ((with_reducible show wpList _ _ _ ((⟨_, Op.load 25 _, _, _, _, _⟩ : Oper) :: _) _ _); first | refine wpList_load_row rfl _ (.tmp 4) rfl w.heap.size rfl 25 C (0, 0) _ HB.out.1.1 Try.underlying25 rfl (by rw [h11]; exact info11) ?_ | refine wpList_load_rowG (by rfl) _ (.tmp 4) rfl w.heap.size rfl 25 C (0, 0) _ HB.out.1.1 Try.underlying25 rfl (by rw [h11]; exact info11) ?_)
    (refine (check_any HB.out.1.2).mono ?_; rintro e wn ⟨rfl, hbn⟩; rw [HK.out]; have HB := Lib.hid (And.intro ((HB.out.1.on hbn).weak (fun _ _ => trivial)) (HB.out.2.trans (hbn.mono HB.out.2.size))); clear hbn)
    go_wp2_with ((with_reducible show wpList _ _ _ ((⟨_, Op.load 25 _, _, _, _, _⟩ : Oper) :: _) _ _); first | refine wpList_load_row rfl _ (.tmp 4) rfl w.heap.size rfl 25 C (0, 0) _ HB.out.1.1 Try.underlying25 rfl (by rw [h11]; exact info11) ?_ | refine wpList_load_rowG (by rfl) _ (.tmp 4) rfl w.heap.size rfl 25 C (0, 0) _ HB.out.1.1 Try.underlying25 rfl (by rw [h11]; exact info11) ?_)
    (refine (late_any HB.out.1.2 _ _).mono ?_; rintro e wn ⟨rfl, hbn⟩; rw [V.out.2.2.1]; have HB := Lib.hid (And.intro ((HB.out.1.on hbn).weak (fun _ _ => trivial)) (HB.out.2.trans (hbn.mono HB.out.2.size))); clear hbn)
    go_wp2_with ((with_reducible show wpList _ _ _ ((⟨_, Op.load 25 _, _, _, _, _⟩ : Oper) :: _) _ _); first | refine wpList_load_row rfl _ (.tmp 4) rfl w.heap.size rfl 25 C (0, 0) _ HB.out.1.1 Try.underlying25 rfl (by rw [h11]; exact info11) ?_ | refine wpList_load_rowG (by rfl) _ (.tmp 4) rfl w.heap.size rfl 25 C (0, 0) _ HB.out.1.1 Try.underlying25 rfl (by rw [h11]; exact info11) ?_)
    (refine (free_any HB.out.1.2 _ _).mono ?_; rintro e wn ⟨rfl, hbn⟩; rw [V.out.2.1]; have HB := Lib.hid (And.intro ((HB.out.1.on hbn).weak (fun _ _ => trivial)) (HB.out.2.trans (hbn.mono HB.out.2.size))); clear hbn)
    go_wp2_with ((with_reducible show wpList _ _ _ ((⟨_, Op.load 25 _, _, _, _, _⟩ : Oper) :: _) _ _); first | refine wpList_load_row rfl _ (.tmp 4) rfl w.heap.size rfl 25 C (0, 0) _ HB.out.1.1 Try.underlying25 rfl (by rw [h11]; exact info11) ?_ | refine wpList_load_rowG (by rfl) _ (.tmp 4) rfl w.heap.size rfl 25 C (0, 0) _ HB.out.1.1 Try.underlying25 rfl (by rw [h11]; exact info11) ?_)
    (refine (holds_any HB.out.1.2 _ _).mono ?_; rintro e wn ⟨rfl, hbn⟩; rw [V.out.1]; have HB := Lib.hid (And.intro ((HB.out.1.on hbn).weak (fun _ _ => trivial)) (HB.out.2.trans (hbn.mono HB.out.2.size))); clear hbn)
    go_wp2_with ((with_reducible show wpList _ _ _ ((⟨_, Op.load 25 _, _, _, _, _⟩ : Oper) :: _) _ _); first | refine wpList_load_row rfl _ (.tmp 4) rfl w.heap.size rfl 25 C (0, 0) _ HB.out.1.1 Try.underlying25 rfl (by rw [h11]; exact info11) ?_ | refine wpList_load_rowG (by rfl) _ (.tmp 4) rfl w.heap.size rfl 25 C (0, 0) _ HB.out.1.1 Try.underlying25 rfl (by rw [h11]; exact info11) ?_)
    (refine (late_any HB.out.1.2 _ _).mono ?_; rintro e wn ⟨rfl, hbn⟩; rw [V.out.2.2.2]; have HB := Lib.hid (And.intro ((HB.out.1.on hbn).weak (fun _ _ => trivial)) (HB.out.2.trans (hbn.mono HB.out.2.size))); clear hbn)
    go_wp2_with ((with_reducible show wpList _ _ _ ((⟨_, Op.load 25 _, _, _, _, _⟩ : Oper) :: _) _ _); first | refine wpList_load_row rfl _ (.tmp 4) rfl w.heap.size rfl 25 C (0, 0) _ HB.out.1.1 Try.underlying25 rfl (by rw [h11]; exact info11) ?_ | refine wpList_load_rowG (by rfl) _ (.tmp 4) rfl w.heap.size rfl 25 C (0, 0) _ HB.out.1.1 Try.underlying25 rfl (by rw [h11]; exact info11) ?_)
    (refine (free_any HB.out.1.2 _ _).mono ?_; rintro e wn ⟨rfl, hbn⟩; rw [V'.out]; have HB := Lib.hid (And.intro ((HB.out.1.on hbn).weak (fun _ _ => trivial)) (HB.out.2.trans (hbn.mono HB.out.2.size))); clear hbn)
    go_wp2_with ((with_reducible show wpList _ _ _ ((⟨_, Op.load 25 _, _, _, _, _⟩ : Oper) :: _) _ _); first | refine wpList_load_row rfl _ (.tmp 4) rfl w.heap.size rfl 25 C (0, 0) _ HB.out.1.1 Try.underlying25 rfl (by rw [h11]; exact info11) ?_ | refine wpList_load_rowG (by rfl) _ (.tmp 4) rfl w.heap.size rfl 25 C (0, 0) _ HB.out.1.1 Try.underlying25 rfl (by rw [h11]; exact info11) ?_)
    (refine (holds_any HB.out.1.2 _ _).mono ?_; rintro e wn ⟨rfl, hbn⟩; rw [V6.out]; have HB := Lib.hid (And.intro ((HB.out.1.on hbn).weak (fun _ _ => trivial)) (HB.out.2.trans (hbn.mono HB.out.2.size))); clear hbn)
    go_wp2
    go_ret
    exact ⟨rfl, HB.out.2⟩
end Go.Proofs.Ytfjdjhjhpphogaa
