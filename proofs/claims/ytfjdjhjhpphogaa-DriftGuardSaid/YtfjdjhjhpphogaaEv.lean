/-
  The walk of one who is not late (DriftGuard).
-/
import Derived.Test.YtfjdjhjhpphogaaEm
namespace Go.Proofs.Ytfjdjhjhpphogaa
set_option linter.unusedVariables false
set_option linter.unusedSimpArgs false
set_option maxRecDepth 20000
open Go.RowKit
set_option maxHeartbeats 8000000 in
theorem guard_walk (C : Array Value) (p : Dr.P) (a b t : Int) (w : World) (h : Cc w (· < w.heap.size) C p) (ha : -9223372036854775808 ≤ a) (ha' : a ≤ 9223372036854775807) (hb : -9223372036854775808 ≤ b) (hb' : b ≤ 9223372036854775807) (ht : -9223372036854775808 ≤ t) (ht' : t ≤ 9223372036854775807) :
    Calls Try.prog 6 #[.agg C, .int .i64 a, .int .i64 b, .int .i64 t] w fun e w' => e = .returned (.bool true) ∧ Below w.heap.size w w' := by
  have h11 := h.size
  have HQ := Lib.hid h.five
  have bx := Box.new h
  have bb := below_alloc w (.cells C 25)
  obtain ⟨w0, h0⟩ : ∃ w0, w.alloc (.cells C 25) = w0 := ⟨_, rfl⟩
  rw [h0] at bx bb
  have HB : Hid (Box w0 (fun _ => True) w.heap.size C p ∧ Below w.heap.size w w0) := Lib.hid ⟨bx.weak fun _ _ => trivial, bb⟩
  have H0 := Lib.hid h0
  clear h bx bb h0
  by_cases hf : few p = true
  case neg =>
    have HF : Hid (few p = false) := Lib.hid (by simpa using hf)
    clear hf
    go_enter Try.func6, Try.ntmps6
    go_upto_region 1 with fail
    rw [H0.out]
    go_wp2_with fail
    (refine (awake_any _).mono ?_; rintro e wn ⟨rfl, hbn⟩; have HB := Lib.hid (And.intro ((HB.out.1.on hbn).weak (fun _ _ => trivial)) (HB.out.2.trans (hbn.mono HB.out.2.size))); clear hbn)
    go_wp2_with ((with_reducible show wpList _ _ _ ((⟨some 13, Op.load 25 _, _, _, _, _⟩ : Oper) :: _) _ _); refine wpList_load_row rfl _ (.tmp 4) rfl w.heap.size rfl 25 C (0, 0) _ HB.out.1.1 Try.underlying25 rfl (by rw [h11]; exact info11) ?_)
    (refine (few_any HB.out.1.2).mono ?_; rintro e wn ⟨rfl, hbn⟩; rw [HF.out]; have HB := Lib.hid (And.intro ((HB.out.1.on hbn).weak (fun _ _ => trivial)) (HB.out.2.trans (hbn.mono HB.out.2.size))); clear hbn)
    go_wp2
    go_ret
    exact ⟨rfl, HB.out.2⟩
  have HF := Lib.hid hf
  clear hf
  by_cases hok : p.ok
  case neg =>
    have HK := Lib.hid (Dr.P.chk_no hok)
    clear hok
    go_enter Try.func6, Try.ntmps6
    go_upto_region 1 with fail
    rw [H0.out]
    go_wp2_with fail
    (refine (awake_any _).mono ?_; rintro e wn ⟨rfl, hbn⟩; have HB := Lib.hid (And.intro ((HB.out.1.on hbn).weak (fun _ _ => trivial)) (HB.out.2.trans (hbn.mono HB.out.2.size))); clear hbn)
    go_wp2_with ((with_reducible show wpList _ _ _ ((⟨some 13, Op.load 25 _, _, _, _, _⟩ : Oper) :: _) _ _); refine wpList_load_row rfl _ (.tmp 4) rfl w.heap.size rfl 25 C (0, 0) _ HB.out.1.1 Try.underlying25 rfl (by rw [h11]; exact info11) ?_)
    (refine (few_any HB.out.1.2).mono ?_; rintro e wn ⟨rfl, hbn⟩; rw [HF.out]; have HB := Lib.hid (And.intro ((HB.out.1.on hbn).weak (fun _ _ => trivial)) (HB.out.2.trans (hbn.mono HB.out.2.size))); clear hbn)
    go_wp2_with ((with_reducible show wpList _ _ _ ((⟨some 17, Op.load 25 _, _, _, _, _⟩ : Oper) :: _) _ _); refine wpList_load_rowG (by rfl) _ (.tmp 4) rfl w.heap.size rfl 25 C (0, 0) _ HB.out.1.1 Try.underlying25 rfl (by rw [h11]; exact info11) ?_)
    (refine (check_any HB.out.1.2).mono ?_; rintro e wn ⟨rfl, hbn⟩; rw [HK.out]; have HB := Lib.hid (And.intro ((HB.out.1.on hbn).weak (fun _ _ => trivial)) (HB.out.2.trans (hbn.mono HB.out.2.size))); clear hbn)
    go_wp2
    go_ret
    exact ⟨rfl, HB.out.2⟩
  have HK := Lib.hid (Dr.P.chk_ok hok)
  by_cases c3 : 1152921504606846976 < b
  · have d3 : decide (1152921504606846976 < b) = true := decide_eq_true c3
    clear c3 hok
    go_enter Try.func6, Try.ntmps6
    go_upto_region 1 with fail
    rw [H0.out]
    go_wp2_with fail
    (refine (awake_any _).mono ?_; rintro e wn ⟨rfl, hbn⟩; have HB := Lib.hid (And.intro ((HB.out.1.on hbn).weak (fun _ _ => trivial)) (HB.out.2.trans (hbn.mono HB.out.2.size))); clear hbn)
    go_wp2_with ((with_reducible show wpList _ _ _ ((⟨some 13, Op.load 25 _, _, _, _, _⟩ : Oper) :: _) _ _); refine wpList_load_row rfl _ (.tmp 4) rfl w.heap.size rfl 25 C (0, 0) _ HB.out.1.1 Try.underlying25 rfl (by rw [h11]; exact info11) ?_)
    (refine (few_any HB.out.1.2).mono ?_; rintro e wn ⟨rfl, hbn⟩; rw [HF.out]; have HB := Lib.hid (And.intro ((HB.out.1.on hbn).weak (fun _ _ => trivial)) (HB.out.2.trans (hbn.mono HB.out.2.size))); clear hbn)
    go_wp2_with ((with_reducible show wpList _ _ _ ((⟨some 17, Op.load 25 _, _, _, _, _⟩ : Oper) :: _) _ _); refine wpList_load_rowG (by rfl) _ (.tmp 4) rfl w.heap.size rfl 25 C (0, 0) _ HB.out.1.1 Try.underlying25 rfl (by rw [h11]; exact info11) ?_)
    (refine (check_any HB.out.1.2).mono ?_; rintro e wn ⟨rfl, hbn⟩; rw [HK.out]; have HB := Lib.hid (And.intro ((HB.out.1.on hbn).weak (fun _ _ => trivial)) (HB.out.2.trans (hbn.mono HB.out.2.size))); clear hbn)
    go_wp2
    go_ret
    exact ⟨rfl, HB.out.2⟩
  have d3 : decide (1152921504606846976 < b) = false := decide_eq_false c3
  obtain ⟨g, hg⟩ : ∃ g, p.gain t = g := ⟨_, rfl⟩
  have gi := gain_in hok t
  rw [hg] at gi
  obtain ⟨_, g2, g3, g4⟩ := gi
  have HG := Lib.hid hg
  have t6 : 1000 + p.rho ≤ p.guard := hok.2.2.2.2.2.1
  have t3 : 1 ≤ p.hold := hok.2.2.2.1.1.1
  have e1 : wrap64 (b + g) = b + g := IntWalk.wrap64_in _ (by omega)
  by_cases hl : ¬ Dr.tw a b ∨ p.hold - (b - a) ≤ p.guard
  case neg =>
    have hw : Dr.tw a b := Decidable.byContradiction fun h => hl (Or.inl h)
    have hx : ¬ (p.hold - (b - a) ≤ p.guard) := fun h => hl (Or.inr h)
    have w2 : Dr.tw a (b + g) := by obtain ⟨y1, y2, y3⟩ := hw; exact ⟨y1, by omega, by omega⟩
    have HL : Hid (p.late a b = false) := Lib.hid (decide_eq_false fun h => hl h.2)
    have HH : Hid (p.holds a b = true ∧ p.holds a (b + g) = true) := Lib.hid ⟨decide_eq_true ⟨hok, hw, by omega⟩, decide_eq_true ⟨hok, w2, by omega⟩⟩
    clear hl hw hx w2 hok hg t6 t3
    go_enter Try.func6, Try.ntmps6
    go_upto_region 1 with fail
    rw [H0.out]
    go_wp2_with fail
    (refine (awake_any _).mono ?_; rintro e wn ⟨rfl, hbn⟩; have HB := Lib.hid (And.intro ((HB.out.1.on hbn).weak (fun _ _ => trivial)) (HB.out.2.trans (hbn.mono HB.out.2.size))); clear hbn)
    go_wp2_with ((with_reducible show wpList _ _ _ ((⟨some 13, Op.load 25 _, _, _, _, _⟩ : Oper) :: _) _ _); refine wpList_load_row rfl _ (.tmp 4) rfl w.heap.size rfl 25 C (0, 0) _ HB.out.1.1 Try.underlying25 rfl (by rw [h11]; exact info11) ?_)
    (refine (few_any HB.out.1.2).mono ?_; rintro e wn ⟨rfl, hbn⟩; rw [HF.out]; have HB := Lib.hid (And.intro ((HB.out.1.on hbn).weak (fun _ _ => trivial)) (HB.out.2.trans (hbn.mono HB.out.2.size))); clear hbn)
    go_wp2_with ((with_reducible show wpList _ _ _ ((⟨some 17, Op.load 25 _, _, _, _, _⟩ : Oper) :: _) _ _); refine wpList_load_rowG (by rfl) _ (.tmp 4) rfl w.heap.size rfl 25 C (0, 0) _ HB.out.1.1 Try.underlying25 rfl (by rw [h11]; exact info11) ?_)
    (refine (check_any HB.out.1.2).mono ?_; rintro e wn ⟨rfl, hbn⟩; rw [HK.out]; have HB := Lib.hid (And.intro ((HB.out.1.on hbn).weak (fun _ _ => trivial)) (HB.out.2.trans (hbn.mono HB.out.2.size))); clear hbn)
    go_wp2_with ((with_reducible show wpList _ _ _ ((⟨some 27, Op.load 25 _, _, _, _, _⟩ : Oper) :: _) _ _); refine wpList_load_row rfl _ (.tmp 4) rfl w.heap.size rfl 25 C (0, 0) _ HB.out.1.1 Try.underlying25 rfl (by rw [h11]; exact info11) ?_)
    (refine (gain_any HB.out.1.2 _).mono ?_; rintro e wn ⟨rfl, hbn⟩; rw [HG.out]; have HB := Lib.hid (And.intro ((HB.out.1.on hbn).weak (fun _ _ => trivial)) (HB.out.2.trans (hbn.mono HB.out.2.size))); clear hbn)
    go_wp2_with ((with_reducible show wpList _ _ _ ((⟨some 31, Op.load 25 _, _, _, _, _⟩ : Oper) :: _) _ _); refine wpList_load_row rfl _ (.tmp 4) rfl w.heap.size rfl 25 C (0, 0) _ HB.out.1.1 Try.underlying25 rfl (by rw [h11]; exact info11) ?_)
    (refine (late_any HB.out.1.2 _ _).mono ?_; rintro e wn ⟨rfl, hbn⟩; rw [HL.out]; have HB := Lib.hid (And.intro ((HB.out.1.on hbn).weak (fun _ _ => trivial)) (HB.out.2.trans (hbn.mono HB.out.2.size))); clear hbn)
    go_wp2_with ((with_reducible show wpList _ _ _ ((⟨some 39, Op.load 25 _, _, _, _, _⟩ : Oper) :: _) _ _); refine wpList_load_rowG (by rfl) _ (.tmp 4) rfl w.heap.size rfl 25 C (0, 0) _ HB.out.1.1 Try.underlying25 rfl (by rw [h11]; exact info11) ?_)
    (refine (holds_any HB.out.1.2 _ _).mono ?_; rintro e wn ⟨rfl, hbn⟩; rw [HH.out.1]; have HB := Lib.hid (And.intro ((HB.out.1.on hbn).weak (fun _ _ => trivial)) (HB.out.2.trans (hbn.mono HB.out.2.size))); clear hbn)
    go_wp2_with ((with_reducible show wpList _ _ _ ((⟨some 44, Op.load 25 _, _, _, _, _⟩ : Oper) :: _) _ _); refine wpList_load_rowG (by rfl) _ (.tmp 4) rfl w.heap.size rfl 25 C (0, 0) _ HB.out.1.1 Try.underlying25 rfl (by rw [h11]; exact info11) ?_)
    (refine (holds_any HB.out.1.2 _ _).mono ?_; rintro e wn ⟨rfl, hbn⟩; rw [HH.out.2]; have HB := Lib.hid (And.intro ((HB.out.1.on hbn).weak (fun _ _ => trivial)) (HB.out.2.trans (hbn.mono HB.out.2.size))); clear hbn)
    go_wp2
    go_ret
    exact ⟨rfl, HB.out.2⟩
  have HL : Hid (p.late a b = true) := Lib.hid (decide_eq_true ⟨hok, hl⟩)
  by_cases c4 : b < a
  · have d4 : decide (b < a) = true := decide_eq_true c4
    obtain ⟨z, hz⟩ : ∃ z, p.late a (b + g) = z := ⟨_, rfl⟩
    have HH := Lib.hid hz
    clear hl hok hg t6 t3 hz c4
    cases z
    · go_enter Try.func6, Try.ntmps6
      go_upto_region 1 with fail
      rw [H0.out]
      go_wp2_with fail
      (refine (awake_any _).mono ?_; rintro e wn ⟨rfl, hbn⟩; have HB := Lib.hid (And.intro ((HB.out.1.on hbn).weak (fun _ _ => trivial)) (HB.out.2.trans (hbn.mono HB.out.2.size))); clear hbn)
      go_wp2_with ((with_reducible show wpList _ _ _ ((⟨some 13, Op.load 25 _, _, _, _, _⟩ : Oper) :: _) _ _); refine wpList_load_row rfl _ (.tmp 4) rfl w.heap.size rfl 25 C (0, 0) _ HB.out.1.1 Try.underlying25 rfl (by rw [h11]; exact info11) ?_)
      (refine (few_any HB.out.1.2).mono ?_; rintro e wn ⟨rfl, hbn⟩; rw [HF.out]; have HB := Lib.hid (And.intro ((HB.out.1.on hbn).weak (fun _ _ => trivial)) (HB.out.2.trans (hbn.mono HB.out.2.size))); clear hbn)
      go_wp2_with ((with_reducible show wpList _ _ _ ((⟨some 17, Op.load 25 _, _, _, _, _⟩ : Oper) :: _) _ _); refine wpList_load_rowG (by rfl) _ (.tmp 4) rfl w.heap.size rfl 25 C (0, 0) _ HB.out.1.1 Try.underlying25 rfl (by rw [h11]; exact info11) ?_)
      (refine (check_any HB.out.1.2).mono ?_; rintro e wn ⟨rfl, hbn⟩; rw [HK.out]; have HB := Lib.hid (And.intro ((HB.out.1.on hbn).weak (fun _ _ => trivial)) (HB.out.2.trans (hbn.mono HB.out.2.size))); clear hbn)
      go_wp2_with ((with_reducible show wpList _ _ _ ((⟨some 27, Op.load 25 _, _, _, _, _⟩ : Oper) :: _) _ _); refine wpList_load_row rfl _ (.tmp 4) rfl w.heap.size rfl 25 C (0, 0) _ HB.out.1.1 Try.underlying25 rfl (by rw [h11]; exact info11) ?_)
      (refine (gain_any HB.out.1.2 _).mono ?_; rintro e wn ⟨rfl, hbn⟩; rw [HG.out]; have HB := Lib.hid (And.intro ((HB.out.1.on hbn).weak (fun _ _ => trivial)) (HB.out.2.trans (hbn.mono HB.out.2.size))); clear hbn)
      go_wp2_with ((with_reducible show wpList _ _ _ ((⟨some 31, Op.load 25 _, _, _, _, _⟩ : Oper) :: _) _ _); refine wpList_load_row rfl _ (.tmp 4) rfl w.heap.size rfl 25 C (0, 0) _ HB.out.1.1 Try.underlying25 rfl (by rw [h11]; exact info11) ?_)
      (refine (late_any HB.out.1.2 _ _).mono ?_; rintro e wn ⟨rfl, hbn⟩; rw [HL.out]; have HB := Lib.hid (And.intro ((HB.out.1.on hbn).weak (fun _ _ => trivial)) (HB.out.2.trans (hbn.mono HB.out.2.size))); clear hbn)
      go_wp2_with ((with_reducible show wpList _ _ _ ((⟨some 55, Op.load 25 _, _, _, _, _⟩ : Oper) :: _) _ _); refine wpList_load_rowG (by rfl) _ (.tmp 4) rfl w.heap.size rfl 25 C (0, 0) _ HB.out.1.1 Try.underlying25 rfl (by rw [h11]; exact info11) ?_)
      (refine (late_any HB.out.1.2 _ _).mono ?_; rintro e wn ⟨rfl, hbn⟩; rw [HH.out]; have HB := Lib.hid (And.intro ((HB.out.1.on hbn).weak (fun _ _ => trivial)) (HB.out.2.trans (hbn.mono HB.out.2.size))); clear hbn)
      go_wp2
      go_ret
      exact ⟨rfl, HB.out.2⟩
    · go_enter Try.func6, Try.ntmps6
      go_upto_region 1 with fail
      rw [H0.out]
      go_wp2_with fail
      (refine (awake_any _).mono ?_; rintro e wn ⟨rfl, hbn⟩; have HB := Lib.hid (And.intro ((HB.out.1.on hbn).weak (fun _ _ => trivial)) (HB.out.2.trans (hbn.mono HB.out.2.size))); clear hbn)
      go_wp2_with ((with_reducible show wpList _ _ _ ((⟨some 13, Op.load 25 _, _, _, _, _⟩ : Oper) :: _) _ _); refine wpList_load_row rfl _ (.tmp 4) rfl w.heap.size rfl 25 C (0, 0) _ HB.out.1.1 Try.underlying25 rfl (by rw [h11]; exact info11) ?_)
      (refine (few_any HB.out.1.2).mono ?_; rintro e wn ⟨rfl, hbn⟩; rw [HF.out]; have HB := Lib.hid (And.intro ((HB.out.1.on hbn).weak (fun _ _ => trivial)) (HB.out.2.trans (hbn.mono HB.out.2.size))); clear hbn)
      go_wp2_with ((with_reducible show wpList _ _ _ ((⟨some 17, Op.load 25 _, _, _, _, _⟩ : Oper) :: _) _ _); refine wpList_load_rowG (by rfl) _ (.tmp 4) rfl w.heap.size rfl 25 C (0, 0) _ HB.out.1.1 Try.underlying25 rfl (by rw [h11]; exact info11) ?_)
      (refine (check_any HB.out.1.2).mono ?_; rintro e wn ⟨rfl, hbn⟩; rw [HK.out]; have HB := Lib.hid (And.intro ((HB.out.1.on hbn).weak (fun _ _ => trivial)) (HB.out.2.trans (hbn.mono HB.out.2.size))); clear hbn)
      go_wp2_with ((with_reducible show wpList _ _ _ ((⟨some 27, Op.load 25 _, _, _, _, _⟩ : Oper) :: _) _ _); refine wpList_load_row rfl _ (.tmp 4) rfl w.heap.size rfl 25 C (0, 0) _ HB.out.1.1 Try.underlying25 rfl (by rw [h11]; exact info11) ?_)
      (refine (gain_any HB.out.1.2 _).mono ?_; rintro e wn ⟨rfl, hbn⟩; rw [HG.out]; have HB := Lib.hid (And.intro ((HB.out.1.on hbn).weak (fun _ _ => trivial)) (HB.out.2.trans (hbn.mono HB.out.2.size))); clear hbn)
      go_wp2_with ((with_reducible show wpList _ _ _ ((⟨some 31, Op.load 25 _, _, _, _, _⟩ : Oper) :: _) _ _); refine wpList_load_row rfl _ (.tmp 4) rfl w.heap.size rfl 25 C (0, 0) _ HB.out.1.1 Try.underlying25 rfl (by rw [h11]; exact info11) ?_)
      (refine (late_any HB.out.1.2 _ _).mono ?_; rintro e wn ⟨rfl, hbn⟩; rw [HL.out]; have HB := Lib.hid (And.intro ((HB.out.1.on hbn).weak (fun _ _ => trivial)) (HB.out.2.trans (hbn.mono HB.out.2.size))); clear hbn)
      go_wp2_with ((with_reducible show wpList _ _ _ ((⟨some 55, Op.load 25 _, _, _, _, _⟩ : Oper) :: _) _ _); refine wpList_load_rowG (by rfl) _ (.tmp 4) rfl w.heap.size rfl 25 C (0, 0) _ HB.out.1.1 Try.underlying25 rfl (by rw [h11]; exact info11) ?_)
      (refine (late_any HB.out.1.2 _ _).mono ?_; rintro e wn ⟨rfl, hbn⟩; rw [HH.out]; have HB := Lib.hid (And.intro ((HB.out.1.on hbn).weak (fun _ _ => trivial)) (HB.out.2.trans (hbn.mono HB.out.2.size))); clear hbn)
      go_wp2
      go_ret
      exact ⟨rfl, HB.out.2⟩
  · have HH : Hid (p.late a (b + g) = true) := Lib.hid (decide_eq_true ⟨hok, by
      by_cases hw : Dr.tw a b
      · refine Or.inr ?_
        have hx := hl.resolve_left (fun h => h hw)
        omega
      · refine Or.inl fun hw' => hw ?_
        obtain ⟨y1, y2, y3⟩ := hw'
        exact ⟨y1, by omega, by omega⟩⟩)
    clear hl hok hg t6 t3 c4
    go_enter Try.func6, Try.ntmps6
    go_upto_region 1 with fail
    rw [H0.out]
    go_wp2_with fail
    (refine (awake_any _).mono ?_; rintro e wn ⟨rfl, hbn⟩; have HB := Lib.hid (And.intro ((HB.out.1.on hbn).weak (fun _ _ => trivial)) (HB.out.2.trans (hbn.mono HB.out.2.size))); clear hbn)
    go_wp2_with ((with_reducible show wpList _ _ _ ((⟨some 13, Op.load 25 _, _, _, _, _⟩ : Oper) :: _) _ _); refine wpList_load_row rfl _ (.tmp 4) rfl w.heap.size rfl 25 C (0, 0) _ HB.out.1.1 Try.underlying25 rfl (by rw [h11]; exact info11) ?_)
    (refine (few_any HB.out.1.2).mono ?_; rintro e wn ⟨rfl, hbn⟩; rw [HF.out]; have HB := Lib.hid (And.intro ((HB.out.1.on hbn).weak (fun _ _ => trivial)) (HB.out.2.trans (hbn.mono HB.out.2.size))); clear hbn)
    go_wp2_with ((with_reducible show wpList _ _ _ ((⟨some 17, Op.load 25 _, _, _, _, _⟩ : Oper) :: _) _ _); refine wpList_load_rowG (by rfl) _ (.tmp 4) rfl w.heap.size rfl 25 C (0, 0) _ HB.out.1.1 Try.underlying25 rfl (by rw [h11]; exact info11) ?_)
    (refine (check_any HB.out.1.2).mono ?_; rintro e wn ⟨rfl, hbn⟩; rw [HK.out]; have HB := Lib.hid (And.intro ((HB.out.1.on hbn).weak (fun _ _ => trivial)) (HB.out.2.trans (hbn.mono HB.out.2.size))); clear hbn)
    go_wp2_with ((with_reducible show wpList _ _ _ ((⟨some 27, Op.load 25 _, _, _, _, _⟩ : Oper) :: _) _ _); refine wpList_load_row rfl _ (.tmp 4) rfl w.heap.size rfl 25 C (0, 0) _ HB.out.1.1 Try.underlying25 rfl (by rw [h11]; exact info11) ?_)
    (refine (gain_any HB.out.1.2 _).mono ?_; rintro e wn ⟨rfl, hbn⟩; rw [HG.out]; have HB := Lib.hid (And.intro ((HB.out.1.on hbn).weak (fun _ _ => trivial)) (HB.out.2.trans (hbn.mono HB.out.2.size))); clear hbn)
    go_wp2_with ((with_reducible show wpList _ _ _ ((⟨some 31, Op.load 25 _, _, _, _, _⟩ : Oper) :: _) _ _); refine wpList_load_row rfl _ (.tmp 4) rfl w.heap.size rfl 25 C (0, 0) _ HB.out.1.1 Try.underlying25 rfl (by rw [h11]; exact info11) ?_)
    (refine (late_any HB.out.1.2 _ _).mono ?_; rintro e wn ⟨rfl, hbn⟩; rw [HL.out]; have HB := Lib.hid (And.intro ((HB.out.1.on hbn).weak (fun _ _ => trivial)) (HB.out.2.trans (hbn.mono HB.out.2.size))); clear hbn)
    go_wp2_with ((with_reducible show wpList _ _ _ ((⟨some 55, Op.load 25 _, _, _, _, _⟩ : Oper) :: _) _ _); refine wpList_load_rowG (by rfl) _ (.tmp 4) rfl w.heap.size rfl 25 C (0, 0) _ HB.out.1.1 Try.underlying25 rfl (by rw [h11]; exact info11) ?_)
    (refine (late_any HB.out.1.2 _ _).mono ?_; rintro e wn ⟨rfl, hbn⟩; rw [HH.out]; have HB := Lib.hid (And.intro ((HB.out.1.on hbn).weak (fun _ _ => trivial)) (HB.out.2.trans (hbn.mono HB.out.2.size))); clear hbn)
    go_wp2
    go_ret
    exact ⟨rfl, HB.out.2⟩
end Go.Proofs.Ytfjdjhjhpphogaa
