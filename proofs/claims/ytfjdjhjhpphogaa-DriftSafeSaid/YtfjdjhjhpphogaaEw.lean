/-
  The walk of two clocks (DriftSafe).
-/
import Derived.Test.YtfjdjhjhpphogaaEm
namespace Go.Proofs.Ytfjdjhjhpphogaa
set_option linter.unusedVariables false
set_option linter.unusedSimpArgs false
set_option maxRecDepth 20000
open Go.RowKit
theorem safe_two {p : Dr.P} (h : p.ok) {k u v : Int} (hk : 0 ≤ k) (h1 : k * (1000 - p.rho) ≤ u) (h2 : v ≤ k * (1000 + p.rho)) : ¬ (u < p.hold ∧ p.grant ≤ v) := by
  rintro ⟨h3, h4⟩
  obtain ⟨r0, r1⟩ := h.2.2.1
  have h5 : p.hold * (1000 + p.rho) < p.grant * (1000 - p.rho) := h.2.2.2.2.1
  have h6 : k * (1000 - p.rho) * (1000 + p.rho) ≤ p.hold * (1000 + p.rho) := Int.mul_le_mul_of_nonneg_right (by omega) (by omega)
  have h7 : p.grant * (1000 - p.rho) ≤ k * (1000 + p.rho) * (1000 - p.rho) := Int.mul_le_mul_of_nonneg_right (by omega) (by omega)
  have h8 : k * (1000 - p.rho) * (1000 + p.rho) = k * (1000 + p.rho) * (1000 - p.rho) := by rw [Int.mul_assoc, Int.mul_assoc, Int.mul_comm (1000 - p.rho)]
  omega
set_option maxHeartbeats 8000000 in
theorem safe_walk (C : Array Value) (p : Dr.P) (a1 : Option Addr) (n1 c1 : Nat) (l1 : List Int) (a2 : Option Addr) (n2 c2 : Nat) (l2 : List Int) (f o t : Int) (w : World) (h : Cc w (· < w.heap.size) C p) (hs1 : Ns w (· < w.heap.size) a1 n1 l1) (hs2 : Ns w (· < w.heap.size) a2 n2 l2)
    (hf : -9223372036854775808 ≤ f) (hf' : f ≤ 9223372036854775807) (ho : -9223372036854775808 ≤ o) (ho' : o ≤ 9223372036854775807) (ht : 0 ≤ t) (ht' : t < 256) :
    Calls Try.prog 5 #[.agg C, .slice a1 n1 c1, .slice a2 n2 c2, .int .i64 f, .int .i64 o, .int .u8 t] w fun e w' => e = .returned (.bool true) ∧ Below w.heap.size w w' := by
  have h11 := h.size
  have HQ := Lib.hid h.five
  have bx := Box.new h
  have bb := below_alloc w (.cells C 25)
  obtain ⟨w0, h0⟩ : ∃ w0, w.alloc (.cells C 25) = w0 := ⟨_, rfl⟩
  rw [h0] at bx bb
  have HB : Hid (Box w0 (fun _ => True) w.heap.size C p ∧ Below w.heap.size w w0) := Lib.hid ⟨bx.weak fun _ _ => trivial, bb⟩
  have H0 := Lib.hid h0
  clear h bx bb h0
  have HS := Lib.hid (And.intro hs1 hs2)
  clear hs1 hs2
  by_cases hfw : few p = true
  case neg =>
    have HF : Hid (few p = false) := Lib.hid (by simpa using hfw)
    clear hfw
    go_enter Try.func5, Try.ntmps5
    go_upto_region 1 with fail
    rw [H0.out]
    go_wp2_with fail
    (refine (awake_any _).mono ?_; rintro e wn ⟨rfl, hbn⟩; have HB := Lib.hid (And.intro ((HB.out.1.on hbn).weak (fun _ _ => trivial)) (HB.out.2.trans (hbn.mono HB.out.2.size))); clear hbn)
    go_wp2_with ((with_reducible show wpList _ _ _ ((⟨some 21, Op.load 25 _, _, _, _, _⟩ : Oper) :: _) _ _); refine wpList_load_row rfl _ (.tmp 6) rfl w.heap.size rfl 25 C (0, 0) _ HB.out.1.1 Try.underlying25 rfl (by rw [h11]; exact info11) ?_)
    (refine (few_any HB.out.1.2).mono ?_; rintro e wn ⟨rfl, hbn⟩; rw [HF.out]; have HB := Lib.hid (And.intro ((HB.out.1.on hbn).weak (fun _ _ => trivial)) (HB.out.2.trans (hbn.mono HB.out.2.size))); clear hbn)
    go_wp2
    go_ret
    exact ⟨rfl, HB.out.2⟩
  have HF := Lib.hid hfw
  clear hfw
  by_cases hok : p.ok
  case neg =>
    have HK := Lib.hid (Dr.P.chk_no hok)
    clear hok
    go_enter Try.func5, Try.ntmps5
    go_upto_region 1 with fail
    rw [H0.out]
    go_wp2_with fail
    (refine (awake_any _).mono ?_; rintro e wn ⟨rfl, hbn⟩; have HB := Lib.hid (And.intro ((HB.out.1.on hbn).weak (fun _ _ => trivial)) (HB.out.2.trans (hbn.mono HB.out.2.size))); clear hbn)
    go_wp2_with ((with_reducible show wpList _ _ _ ((⟨some 21, Op.load 25 _, _, _, _, _⟩ : Oper) :: _) _ _); refine wpList_load_row rfl _ (.tmp 6) rfl w.heap.size rfl 25 C (0, 0) _ HB.out.1.1 Try.underlying25 rfl (by rw [h11]; exact info11) ?_)
    (refine (few_any HB.out.1.2).mono ?_; rintro e wn ⟨rfl, hbn⟩; rw [HF.out]; have HB := Lib.hid (And.intro ((HB.out.1.on hbn).weak (fun _ _ => trivial)) (HB.out.2.trans (hbn.mono HB.out.2.size))); clear hbn)
    go_wp2_with ((with_reducible show wpList _ _ _ ((⟨some 25, Op.load 25 _, _, _, _, _⟩ : Oper) :: _) _ _); refine wpList_load_rowG (by rfl) _ (.tmp 6) rfl w.heap.size rfl 25 C (0, 0) _ HB.out.1.1 Try.underlying25 rfl (by rw [h11]; exact info11) ?_)
    (refine (check_any HB.out.1.2).mono ?_; rintro e wn ⟨rfl, hbn⟩; rw [HK.out]; have HB := Lib.hid (And.intro ((HB.out.1.on hbn).weak (fun _ _ => trivial)) (HB.out.2.trans (hbn.mono HB.out.2.size))); clear hbn)
    go_wp2
    go_ret
    exact ⟨rfl, HB.out.2⟩
  have HK := Lib.hid (Dr.P.chk_ok hok)
  have HO := Lib.hid hok
  clear hok
  by_cases x1 : f < 0
  · have d1 : decide (f < 0) = true := decide_eq_true x1
    clear x1
    go_enter Try.func5, Try.ntmps5
    go_upto_region 1 with fail
    rw [H0.out]
    go_wp2_with fail
    (refine (awake_any _).mono ?_; rintro e wn ⟨rfl, hbn⟩; have HB := Lib.hid (And.intro ((HB.out.1.on hbn).weak (fun _ _ => trivial)) (HB.out.2.trans (hbn.mono HB.out.2.size))); clear hbn)
    go_wp2_with ((with_reducible show wpList _ _ _ ((⟨some 21, Op.load 25 _, _, _, _, _⟩ : Oper) :: _) _ _); refine wpList_load_row rfl _ (.tmp 6) rfl w.heap.size rfl 25 C (0, 0) _ HB.out.1.1 Try.underlying25 rfl (by rw [h11]; exact info11) ?_)
    (refine (few_any HB.out.1.2).mono ?_; rintro e wn ⟨rfl, hbn⟩; rw [HF.out]; have HB := Lib.hid (And.intro ((HB.out.1.on hbn).weak (fun _ _ => trivial)) (HB.out.2.trans (hbn.mono HB.out.2.size))); clear hbn)
    go_wp2_with ((with_reducible show wpList _ _ _ ((⟨some 25, Op.load 25 _, _, _, _, _⟩ : Oper) :: _) _ _); refine wpList_load_rowG (by rfl) _ (.tmp 6) rfl w.heap.size rfl 25 C (0, 0) _ HB.out.1.1 Try.underlying25 rfl (by rw [h11]; exact info11) ?_)
    (refine (check_any HB.out.1.2).mono ?_; rintro e wn ⟨rfl, hbn⟩; rw [HK.out]; have HB := Lib.hid (And.intro ((HB.out.1.on hbn).weak (fun _ _ => trivial)) (HB.out.2.trans (hbn.mono HB.out.2.size))); clear hbn)
    go_wp2
    go_ret
    exact ⟨rfl, HB.out.2⟩
  have d1 : decide (f < 0) = false := decide_eq_false x1
  by_cases x2 : o < 0
  · have d2 : decide (o < 0) = true := decide_eq_true x2
    clear x2
    go_enter Try.func5, Try.ntmps5
    go_upto_region 1 with fail
    rw [H0.out]
    go_wp2_with fail
    (refine (awake_any _).mono ?_; rintro e wn ⟨rfl, hbn⟩; have HB := Lib.hid (And.intro ((HB.out.1.on hbn).weak (fun _ _ => trivial)) (HB.out.2.trans (hbn.mono HB.out.2.size))); clear hbn)
    go_wp2_with ((with_reducible show wpList _ _ _ ((⟨some 21, Op.load 25 _, _, _, _, _⟩ : Oper) :: _) _ _); refine wpList_load_row rfl _ (.tmp 6) rfl w.heap.size rfl 25 C (0, 0) _ HB.out.1.1 Try.underlying25 rfl (by rw [h11]; exact info11) ?_)
    (refine (few_any HB.out.1.2).mono ?_; rintro e wn ⟨rfl, hbn⟩; rw [HF.out]; have HB := Lib.hid (And.intro ((HB.out.1.on hbn).weak (fun _ _ => trivial)) (HB.out.2.trans (hbn.mono HB.out.2.size))); clear hbn)
    go_wp2_with ((with_reducible show wpList _ _ _ ((⟨some 25, Op.load 25 _, _, _, _, _⟩ : Oper) :: _) _ _); refine wpList_load_rowG (by rfl) _ (.tmp 6) rfl w.heap.size rfl 25 C (0, 0) _ HB.out.1.1 Try.underlying25 rfl (by rw [h11]; exact info11) ?_)
    (refine (check_any HB.out.1.2).mono ?_; rintro e wn ⟨rfl, hbn⟩; rw [HK.out]; have HB := Lib.hid (And.intro ((HB.out.1.on hbn).weak (fun _ _ => trivial)) (HB.out.2.trans (hbn.mono HB.out.2.size))); clear hbn)
    go_wp2
    go_ret
    exact ⟨rfl, HB.out.2⟩
  have d2 : decide (o < 0) = false := decide_eq_false x2
  by_cases x3 : 1152921504606846976 < f
  · have d3 : decide (1152921504606846976 < f) = true := decide_eq_true x3
    clear x3
    go_enter Try.func5, Try.ntmps5
    go_upto_region 1 with fail
    rw [H0.out]
    go_wp2_with fail
    (refine (awake_any _).mono ?_; rintro e wn ⟨rfl, hbn⟩; have HB := Lib.hid (And.intro ((HB.out.1.on hbn).weak (fun _ _ => trivial)) (HB.out.2.trans (hbn.mono HB.out.2.size))); clear hbn)
    go_wp2_with ((with_reducible show wpList _ _ _ ((⟨some 21, Op.load 25 _, _, _, _, _⟩ : Oper) :: _) _ _); refine wpList_load_row rfl _ (.tmp 6) rfl w.heap.size rfl 25 C (0, 0) _ HB.out.1.1 Try.underlying25 rfl (by rw [h11]; exact info11) ?_)
    (refine (few_any HB.out.1.2).mono ?_; rintro e wn ⟨rfl, hbn⟩; rw [HF.out]; have HB := Lib.hid (And.intro ((HB.out.1.on hbn).weak (fun _ _ => trivial)) (HB.out.2.trans (hbn.mono HB.out.2.size))); clear hbn)
    go_wp2_with ((with_reducible show wpList _ _ _ ((⟨some 25, Op.load 25 _, _, _, _, _⟩ : Oper) :: _) _ _); refine wpList_load_rowG (by rfl) _ (.tmp 6) rfl w.heap.size rfl 25 C (0, 0) _ HB.out.1.1 Try.underlying25 rfl (by rw [h11]; exact info11) ?_)
    (refine (check_any HB.out.1.2).mono ?_; rintro e wn ⟨rfl, hbn⟩; rw [HK.out]; have HB := Lib.hid (And.intro ((HB.out.1.on hbn).weak (fun _ _ => trivial)) (HB.out.2.trans (hbn.mono HB.out.2.size))); clear hbn)
    go_wp2
    go_ret
    exact ⟨rfl, HB.out.2⟩
  have d3 : decide (1152921504606846976 < f) = false := decide_eq_false x3
  by_cases x4 : 1152921504606846976 < o
  · have d4 : decide (1152921504606846976 < o) = true := decide_eq_true x4
    clear x4
    go_enter Try.func5, Try.ntmps5
    go_upto_region 1 with fail
    rw [H0.out]
    go_wp2_with fail
    (refine (awake_any _).mono ?_; rintro e wn ⟨rfl, hbn⟩; have HB := Lib.hid (And.intro ((HB.out.1.on hbn).weak (fun _ _ => trivial)) (HB.out.2.trans (hbn.mono HB.out.2.size))); clear hbn)
    go_wp2_with ((with_reducible show wpList _ _ _ ((⟨some 21, Op.load 25 _, _, _, _, _⟩ : Oper) :: _) _ _); refine wpList_load_row rfl _ (.tmp 6) rfl w.heap.size rfl 25 C (0, 0) _ HB.out.1.1 Try.underlying25 rfl (by rw [h11]; exact info11) ?_)
    (refine (few_any HB.out.1.2).mono ?_; rintro e wn ⟨rfl, hbn⟩; rw [HF.out]; have HB := Lib.hid (And.intro ((HB.out.1.on hbn).weak (fun _ _ => trivial)) (HB.out.2.trans (hbn.mono HB.out.2.size))); clear hbn)
    go_wp2_with ((with_reducible show wpList _ _ _ ((⟨some 25, Op.load 25 _, _, _, _, _⟩ : Oper) :: _) _ _); refine wpList_load_rowG (by rfl) _ (.tmp 6) rfl w.heap.size rfl 25 C (0, 0) _ HB.out.1.1 Try.underlying25 rfl (by rw [h11]; exact info11) ?_)
    (refine (check_any HB.out.1.2).mono ?_; rintro e wn ⟨rfl, hbn⟩; rw [HK.out]; have HB := Lib.hid (And.intro ((HB.out.1.on hbn).weak (fun _ _ => trivial)) (HB.out.2.trans (hbn.mono HB.out.2.size))); clear hbn)
    go_wp2
    go_ret
    exact ⟨rfl, HB.out.2⟩
  have d4 : decide (1152921504606846976 < o) = false := decide_eq_false x4
  obtain ⟨N, hN, hN1, hN2, hN3⟩ : ∃ N : Nat, (if (100 : Int) < (if n2 < n1 then (n2 : Int) else (n1 : Int)) then (100 : Int) else if n2 < n1 then (n2 : Int) else (n1 : Int)) = (N : Int) ∧ N ≤ n1 ∧ N ≤ n2 ∧ N ≤ 100 := by
    by_cases h : n2 < n1
    · rw [if_pos h]
      by_cases h' : (100 : Int) < n2
      · exact ⟨100, by rw [if_pos h']; rfl, by omega, by omega, by omega⟩
      · exact ⟨n2, by rw [if_neg h'], by omega, by omega, by omega⟩
    · rw [if_neg h]
      by_cases h' : (100 : Int) < n1
      · exact ⟨100, by rw [if_pos h']; rfl, by omega, by omega, by omega⟩
      · exact ⟨n1, by rw [if_neg h'], by omega, by omega, by omega⟩
  have HN := Lib.hid hN
  clear hN
  · go_enter Try.func5, Try.ntmps5
    go_upto_region 1 with fail
    rw [H0.out]
    go_wp2_with fail
    (refine (awake_any _).mono ?_; rintro e wn ⟨rfl, hbn⟩; have HB := Lib.hid (And.intro ((HB.out.1.on hbn).weak (fun _ _ => trivial)) (HB.out.2.trans (hbn.mono HB.out.2.size))); clear hbn)
    go_wp2_with ((with_reducible show wpList _ _ _ ((⟨some 21, Op.load 25 _, _, _, _, _⟩ : Oper) :: _) _ _); refine wpList_load_row rfl _ (.tmp 6) rfl w.heap.size rfl 25 C (0, 0) _ HB.out.1.1 Try.underlying25 rfl (by rw [h11]; exact info11) ?_)
    (refine (few_any HB.out.1.2).mono ?_; rintro e wn ⟨rfl, hbn⟩; rw [HF.out]; have HB := Lib.hid (And.intro ((HB.out.1.on hbn).weak (fun _ _ => trivial)) (HB.out.2.trans (hbn.mono HB.out.2.size))); clear hbn)
    go_wp2_with ((with_reducible show wpList _ _ _ ((⟨some 25, Op.load 25 _, _, _, _, _⟩ : Oper) :: _) _ _); refine wpList_load_rowG (by rfl) _ (.tmp 6) rfl w.heap.size rfl 25 C (0, 0) _ HB.out.1.1 Try.underlying25 rfl (by rw [h11]; exact info11) ?_)
    (refine (check_any HB.out.1.2).mono ?_; rintro e wn ⟨rfl, hbn⟩; rw [HK.out]; have HB := Lib.hid (And.intro ((HB.out.1.on hbn).weak (fun _ _ => trivial)) (HB.out.2.trans (hbn.mono HB.out.2.size))); clear hbn)
    go_upto_region 9 with fail
    rw [HN.out]
    go_wp2
    go_loopw [12, 15, 16, 17, 19] (fun r x y z i wr => ∃ (k : Nat) (X Y Z : Int), r = .bool false ∧ x = .int .i64 X ∧ y = .int .i64 Y ∧ z = .int .i64 Z ∧ i = .int .i64 (k : Int) ∧ k ≤ N ∧ f ≤ X ∧ X ≤ f + 1500 * (k : Int) ∧ o ≤ Z ∧ Z ≤ Y ∧ Y ≤ o + 1500 * (k : Int) ∧ Hid ((k : Int) * (1000 - p.rho) ≤ X - f ∧ Y - Z ≤ (k : Int) * (1000 + p.rho)) ∧ Hid (Box wr (fun _ => True) w.heap.size C p ∧ Below w.heap.size w wr)) (fun _ _ _ _ i _ => N - (intOf i).toNat)
    case atStart => exact ⟨0, f, o, o, rfl, rfl, rfl, rfl, rfl, by omega, by omega, by omega, by omega, by omega, by omega, Lib.hid ⟨by simp, by simp⟩, HB⟩
    case round =>
      obtain ⟨k, X, Y, Z, rfl, rfl, rfl, rfl, rfl, hk, hX, hX', hZ, hZY, hY, HI, HBr⟩ := hrel
      clear HB
      have HB := HBr
      clear HBr
      by_cases hlt : k < N
      case neg =>
        have e1 : decide ((k : Int) < (N : Int)) = false := decide_eq_false (by omega)
        go_wp2
        go_ret
        exact ⟨rfl, HB.out.2⟩
      have e1 : decide ((k : Int) < (N : Int)) = true := decide_eq_true (by omega)
      go_upto_region 12 with fail
      go_upto_if 64 with fail
      go_cut [17] (fun v wx => ∃ Z' : Int, v = .int .i64 Z' ∧ Hid (Z' = Z ∨ Z' = Y) ∧ wx = wr)
      case first =>
        go_wp2
        · go_meet
          case rel => exact ⟨_, rfl, Lib.hid (Or.inr rfl), rfl⟩
        · go_meet
          case rel => exact ⟨_, rfl, Lib.hid (Or.inl rfl), rfl⟩
      case rest =>
      obtain ⟨Z', rfl, HZ, hwx⟩ := hcut
      subst hwx
      obtain ⟨b1, o1, rfl, _, hb1, hc1⟩ := HS.out.1.cell (k := k) (by omega)
      obtain ⟨b2, o2, rfl, _, hb2, hc2⟩ := HS.out.2.cell (k := k) (by omega)
      obtain ⟨m1, hm1⟩ : ∃ m, l1.getD k 0 = m := ⟨_, rfl⟩
      obtain ⟨m2, hm2⟩ : ∃ m, l2.getD k 0 = m := ⟨_, rfl⟩
      rw [hm1] at hc1
      rw [hm2] at hc2
      obtain ⟨g1, hg1⟩ : ∃ g, p.gain m1 = g := ⟨_, rfl⟩
      obtain ⟨g2, hg2⟩ : ∃ g, p.gain m2 = g := ⟨_, rfl⟩
      have gi1 := gain_in HO.out m1
      have gi2 := gain_in HO.out m2
      rw [hg1] at gi1
      rw [hg2] at gi2
      obtain ⟨i1, i2, i3, i4⟩ := gi1
      obtain ⟨j1, j2, j3, j4⟩ := gi2
      have f1 : IntKind.i64.wrap (X + g1) = X + g1 := IntWalk.i64_in _ (by omega)
      have f2 : IntKind.i64.wrap (Y + g2) = Y + g2 := IntWalk.i64_in _ (by omega)
      have q1 : (k : Int) < (n1 : Int) := by omega
      have q2 : (k : Int) < (n2 : Int) := by omega
      have HG := Lib.hid (And.intro hg1 hg2)
      have HCL := Lib.hid (And.intro (And.intro hb1 hc1) (And.intro hb2 hc2))
      clear hb1 hb2 hc1 hc2 hm1 hm2 hg1 hg2
      go_upto_region 14 with fail
      have HW : Hid (Whole wc.drew w.heap.size 25 C ∧ Cc wc.drew (fun _ => True) C p ∧ Below w.heap.size w wc.drew) := Lib.hid ⟨HB.out.1.1.keep rfl, HB.out.1.2.keep (Nat.le_refl _) (fun _ _ _ => rfl), HB.out.2.drew⟩
      have hcl : wc.drew.cell? ⟨b1, o1 + k, none⟩ = some (.int .i64 m1) := (World.cell?_of_block (w := w) (HW.out.2.2.block b1 HCL.out.1.1)).trans HCL.out.1.2
      refine wp_region_held_drew (S := fun z => Whole z w.heap.size 25 C ∧ z.cell? ⟨b1, o1 + k, none⟩ = some (.int .i64 m1)) (by kernel_rfl) ⟨HW.out.1, hcl⟩ (fun hHeld => ?_)
      clear hcl
      generalize wc.drew = w14 at *
      refine wpAnyH_take (i := 0) (v := .int .i64 X) rfl (by kernel_rfl) (by kernel_rfl) (by kernel_rfl) (fun _ _ _ h => h) (Or.inl ⟨by rfl, (by intro w hSw; (try dsimp only at hSw); go_simp)⟩) (by assumption) ?_
      try simp only [Act.put, List.getElem_toArray, List.getElem_cons_zero, List.getElem_cons_succ, List.setIfInBounds_toArray, List.set_cons_zero, List.set_cons_succ]
      refine wpAnyH_take (i := 1) (v := .agg C) rfl (by kernel_rfl) (by kernel_rfl) (by kernel_rfl) (fun _ _ _ h => h) (yields_plan (by rfl) _ rfl _ rfl _ (fun w h => h.1) h11) (by assumption) ?_
      try simp only [Act.put, List.getElem_toArray, List.getElem_cons_zero, List.getElem_cons_succ, List.setIfInBounds_toArray, List.set_cons_zero, List.set_cons_succ]
      refine wpAnyH_take (i := 2) (v := .slice (some ⟨b1, o1, none⟩) n1 c1) rfl (by kernel_rfl) (by kernel_rfl) (by kernel_rfl) (fun _ _ _ h => h) (Or.inl ⟨by rfl, (by intro w hSw; (try dsimp only at hSw); go_simp)⟩) (by assumption) ?_
      try simp only [Act.put, List.getElem_toArray, List.getElem_cons_zero, List.getElem_cons_succ, List.setIfInBounds_toArray, List.set_cons_zero, List.set_cons_succ]
      refine wpAnyH_take (i := 3) (v := .int .i64 (k : Int)) rfl (by kernel_rfl) (by kernel_rfl) (by kernel_rfl) (fun _ _ _ h => h) (Or.inl ⟨by rfl, (by intro w hSw; (try dsimp only at hSw); go_simp)⟩) (by assumption) ?_
      try simp only [Act.put, List.getElem_toArray, List.getElem_cons_zero, List.getElem_cons_succ, List.setIfInBounds_toArray, List.set_cons_zero, List.set_cons_succ]
      refine wpAnyH_take (i := 4) (v := .pointer (some ⟨b1, o1 + k, none⟩)) rfl (by kernel_rfl) (by kernel_rfl) (by kernel_rfl) (fun _ _ _ h => h) (Or.inl ⟨by rfl, (by intro w hSw; (try dsimp only at hSw); go_simp)⟩) (by assumption) ?_
      try simp only [Act.put, List.getElem_toArray, List.getElem_cons_zero, List.getElem_cons_succ, List.setIfInBounds_toArray, List.set_cons_zero, List.set_cons_succ]
      refine wpAnyH_take (i := 5) (v := .int .i64 m1) rfl (by kernel_rfl) (by kernel_rfl) (by kernel_rfl) (fun _ _ _ h => h) (Or.inl ⟨by rfl, (by intro w hSw; have hq := hSw.2; clear hSw; go_simp)⟩) (by assumption) ?_
      try simp only [Act.put, List.getElem_toArray, List.getElem_cons_zero, List.getElem_cons_succ, List.setIfInBounds_toArray, List.set_cons_zero, List.set_cons_succ]
      refine wpAnyH_ready (rs := [6]) (by kernel_rfl) (by simp) (AllReadyH.cons rfl (fun K hK => ?_) AllReadyH.nil)
      try simp only [List.getElem_toArray, List.getElem_cons_zero, List.getElem_cons_succ]
      go_simp
      go_at_call 16
      refine (gain_any HW.out.2.1 _).mono ?_
      rintro e v14 ⟨rfl, hbn⟩
      rw [HG.out.1]
      refine hK.out _ _ ⟨HW.out.1.below hbn HW.out.1.lt, (World.cell?_of_block (w := w) ((HW.out.2.2.trans (hbn.mono HW.out.2.2.size)).block b1 HCL.out.1.1)).trans HCL.out.1.2⟩ (fun hHeld => ?_)
      clear hK K
      try simp only [Act.put, List.getElem_toArray, List.getElem_cons_zero, List.getElem_cons_succ, List.setIfInBounds_toArray, List.set_cons_zero, List.set_cons_succ]
      have HB : Hid (Box v14 (fun _ => True) w.heap.size C p ∧ Below w.heap.size w v14) := Lib.hid ⟨⟨HW.out.1.below hbn HW.out.1.lt, (HW.out.2.1.on hbn).weak fun _ _ _ => trivial⟩, HW.out.2.2.trans (hbn.mono HW.out.2.2.size)⟩
      clear hbn
      refine wpAnyH_take (i := 7) (v := .int .i64 (X + g1)) rfl (by kernel_rfl) (by kernel_rfl) (by kernel_rfl) (fun _ _ _ h => h) (Or.inl ⟨by rfl, (by intro w hSw; (try dsimp only at hSw); go_simp)⟩) (by assumption) ?_
      try simp only [Act.put, List.getElem_toArray, List.getElem_cons_zero, List.getElem_cons_succ, List.setIfInBounds_toArray, List.set_cons_zero, List.set_cons_succ]
      refine wpAnyH_take (i := 8) (v := .int .i64 (X + g1)) rfl (by kernel_rfl) (by kernel_rfl) (by kernel_rfl) (fun _ _ _ h => h) (Or.inl ⟨by rfl, (by intro w hSw; (try dsimp only at hSw); go_simp)⟩) (by assumption) ?_
      try simp only [Act.put, List.getElem_toArray, List.getElem_cons_zero, List.getElem_cons_succ, List.setIfInBounds_toArray, List.set_cons_zero, List.set_cons_succ]
      refine wpAnyH_done (by kernel_rfl) ?_ _
      clear hHeld
      go_upto_region 15 with fail
      have HW : Hid (Whole v14.drew w.heap.size 25 C ∧ Cc v14.drew (fun _ => True) C p ∧ Below w.heap.size w v14.drew) := Lib.hid ⟨HB.out.1.1.keep rfl, HB.out.1.2.keep (Nat.le_refl _) (fun _ _ _ => rfl), HB.out.2.drew⟩
      have hcl : v14.drew.cell? ⟨b2, o2 + k, none⟩ = some (.int .i64 m2) := (World.cell?_of_block (w := w) (HW.out.2.2.block b2 HCL.out.2.1)).trans HCL.out.2.2
      refine wp_region_held_drew (S := fun z => Whole z w.heap.size 25 C ∧ z.cell? ⟨b2, o2 + k, none⟩ = some (.int .i64 m2)) (by kernel_rfl) ⟨HW.out.1, hcl⟩ (fun hHeld => ?_)
      clear hcl
      generalize v14.drew = w15 at *
      refine wpAnyH_take (i := 0) (v := .int .i64 Y) rfl (by kernel_rfl) (by kernel_rfl) (by kernel_rfl) (fun _ _ _ h => h) (Or.inl ⟨by rfl, (by intro w hSw; (try dsimp only at hSw); go_simp)⟩) (by assumption) ?_
      try simp only [Act.put, List.getElem_toArray, List.getElem_cons_zero, List.getElem_cons_succ, List.setIfInBounds_toArray, List.set_cons_zero, List.set_cons_succ]
      refine wpAnyH_take (i := 1) (v := .agg C) rfl (by kernel_rfl) (by kernel_rfl) (by kernel_rfl) (fun _ _ _ h => h) (yields_plan (by rfl) _ rfl _ rfl _ (fun w h => h.1) h11) (by assumption) ?_
      try simp only [Act.put, List.getElem_toArray, List.getElem_cons_zero, List.getElem_cons_succ, List.setIfInBounds_toArray, List.set_cons_zero, List.set_cons_succ]
      refine wpAnyH_take (i := 2) (v := .slice (some ⟨b2, o2, none⟩) n2 c2) rfl (by kernel_rfl) (by kernel_rfl) (by kernel_rfl) (fun _ _ _ h => h) (Or.inl ⟨by rfl, (by intro w hSw; (try dsimp only at hSw); go_simp)⟩) (by assumption) ?_
      try simp only [Act.put, List.getElem_toArray, List.getElem_cons_zero, List.getElem_cons_succ, List.setIfInBounds_toArray, List.set_cons_zero, List.set_cons_succ]
      refine wpAnyH_take (i := 3) (v := .int .i64 (k : Int)) rfl (by kernel_rfl) (by kernel_rfl) (by kernel_rfl) (fun _ _ _ h => h) (Or.inl ⟨by rfl, (by intro w hSw; (try dsimp only at hSw); go_simp)⟩) (by assumption) ?_
      try simp only [Act.put, List.getElem_toArray, List.getElem_cons_zero, List.getElem_cons_succ, List.setIfInBounds_toArray, List.set_cons_zero, List.set_cons_succ]
      refine wpAnyH_take (i := 4) (v := .pointer (some ⟨b2, o2 + k, none⟩)) rfl (by kernel_rfl) (by kernel_rfl) (by kernel_rfl) (fun _ _ _ h => h) (Or.inl ⟨by rfl, (by intro w hSw; (try dsimp only at hSw); go_simp)⟩) (by assumption) ?_
      try simp only [Act.put, List.getElem_toArray, List.getElem_cons_zero, List.getElem_cons_succ, List.setIfInBounds_toArray, List.set_cons_zero, List.set_cons_succ]
      refine wpAnyH_take (i := 5) (v := .int .i64 m2) rfl (by kernel_rfl) (by kernel_rfl) (by kernel_rfl) (fun _ _ _ h => h) (Or.inl ⟨by rfl, (by intro w hSw; have hq := hSw.2; clear hSw; go_simp)⟩) (by assumption) ?_
      try simp only [Act.put, List.getElem_toArray, List.getElem_cons_zero, List.getElem_cons_succ, List.setIfInBounds_toArray, List.set_cons_zero, List.set_cons_succ]
      refine wpAnyH_ready (rs := [6]) (by kernel_rfl) (by simp) (AllReadyH.cons rfl (fun K hK => ?_) AllReadyH.nil)
      try simp only [List.getElem_toArray, List.getElem_cons_zero, List.getElem_cons_succ]
      go_simp
      go_at_call 16
      refine (gain_any HW.out.2.1 _).mono ?_
      rintro e v15 ⟨rfl, hbn⟩
      rw [HG.out.2]
      refine hK.out _ _ ⟨HW.out.1.below hbn HW.out.1.lt, (World.cell?_of_block (w := w) ((HW.out.2.2.trans (hbn.mono HW.out.2.2.size)).block b2 HCL.out.2.1)).trans HCL.out.2.2⟩ (fun hHeld => ?_)
      clear hK K
      try simp only [Act.put, List.getElem_toArray, List.getElem_cons_zero, List.getElem_cons_succ, List.setIfInBounds_toArray, List.set_cons_zero, List.set_cons_succ]
      have HB : Hid (Box v15 (fun _ => True) w.heap.size C p ∧ Below w.heap.size w v15) := Lib.hid ⟨⟨HW.out.1.below hbn HW.out.1.lt, (HW.out.2.1.on hbn).weak fun _ _ _ => trivial⟩, HW.out.2.2.trans (hbn.mono HW.out.2.2.size)⟩
      clear hbn
      refine wpAnyH_take (i := 7) (v := .int .i64 (Y + g2)) rfl (by kernel_rfl) (by kernel_rfl) (by kernel_rfl) (fun _ _ _ h => h) (Or.inl ⟨by rfl, (by intro w hSw; (try dsimp only at hSw); go_simp)⟩) (by assumption) ?_
      try simp only [Act.put, List.getElem_toArray, List.getElem_cons_zero, List.getElem_cons_succ, List.setIfInBounds_toArray, List.set_cons_zero, List.set_cons_succ]
      refine wpAnyH_take (i := 8) (v := .int .i64 (Y + g2)) rfl (by kernel_rfl) (by kernel_rfl) (by kernel_rfl) (fun _ _ _ h => h) (Or.inl ⟨by rfl, (by intro w hSw; (try dsimp only at hSw); go_simp)⟩) (by assumption) ?_
      try simp only [Act.put, List.getElem_toArray, List.getElem_cons_zero, List.getElem_cons_succ, List.setIfInBounds_toArray, List.set_cons_zero, List.set_cons_succ]
      refine wpAnyH_done (by kernel_rfl) ?_ _
      clear hHeld
      have hI : ((k + 1 : Nat) : Int) * (1000 - p.rho) ≤ X + g1 - f ∧ Y + g2 - Z' ≤ ((k + 1 : Nat) : Int) * (1000 + p.rho) := by
        obtain ⟨u1, u2⟩ := HI.out
        have v1 : ((k + 1 : Nat) : Int) * (1000 - p.rho) = (k : Int) * (1000 - p.rho) + (1000 - p.rho) := by push_cast; rw [Int.add_mul, Int.one_mul]
        have v2 : ((k + 1 : Nat) : Int) * (1000 + p.rho) = (k : Int) * (1000 + p.rho) + (1000 + p.rho) := by push_cast; rw [Int.add_mul, Int.one_mul]
        rw [v1, v2]
        have r1 : 0 ≤ (k : Int) * (1000 + p.rho) := Int.mul_nonneg (by omega) (by have := HO.out.2.2.1.1; omega)
        rcases HZ.out with e | e <;> subst e <;> constructor <;> omega
      have hZ1 : o ≤ Z' := by rcases HZ.out with e | e <;> subst e <;> omega
      have hZ2 : Z' ≤ Y + g2 := by rcases HZ.out with e | e <;> subst e <;> omega
      have hno := safe_two HO.out (k := ((k + 1 : Nat) : Int)) (by omega) hI.1 hI.2
      have HI' := Lib.hid hI
      clear hI HI
      obtain ⟨hv, hhv⟩ : ∃ b, p.holds f (X + g1) = b := ⟨_, rfl⟩
      have hfv : hv = true → p.free Z' (Y + g2) = false := fun e => by
        subst e
        have hh := of_decide_eq_true hhv
        exact decide_eq_false fun h => hno ⟨hh.2.2, h.2.2⟩
      have HHV := Lib.hid hhv
      have HFV := Lib.hid hfv
      clear hhv hfv hno
      cases hv with
      | false =>
        clear HFV
        go_wp2_with ((with_reducible show wpList _ _ _ ((⟨some 82, Op.load 25 _, _, _, _, _⟩ : Oper) :: _) _ _); refine wpList_load_row rfl _ (.tmp 6) rfl w.heap.size rfl 25 C (0, 0) _ HB.out.1.1 Try.underlying25 rfl (by rw [h11]; exact info11) ?_)
        (refine (holds_any HB.out.1.2 _ _).mono ?_; rintro e wn ⟨rfl, hbn⟩; rw [HHV.out]; have HB := Lib.hid (And.intro ((HB.out.1.on hbn).weak (fun _ _ => trivial)) (HB.out.2.trans (hbn.mono HB.out.2.size))); clear hbn)
        go_wp2
        go_roundw
        case rel => exact ⟨k + 1, X + g1, Y + g2, Z', rfl, rfl, rfl, rfl, by go_num, by omega, by omega, by omega, by omega, by omega, by omega, HI', HB⟩
        case measure => simp [intOf]; omega
      | true =>
        have HFF := Lib.hid (HFV.out rfl)
        clear HFV
        go_wp2_with ((with_reducible show wpList _ _ _ ((⟨some 82, Op.load 25 _, _, _, _, _⟩ : Oper) :: _) _ _); refine wpList_load_row rfl _ (.tmp 6) rfl w.heap.size rfl 25 C (0, 0) _ HB.out.1.1 Try.underlying25 rfl (by rw [h11]; exact info11) ?_)
        (refine (holds_any HB.out.1.2 _ _).mono ?_; rintro e wn ⟨rfl, hbn⟩; rw [HHV.out]; have HB := Lib.hid (And.intro ((HB.out.1.on hbn).weak (fun _ _ => trivial)) (HB.out.2.trans (hbn.mono HB.out.2.size))); clear hbn)
        go_wp2_with ((with_reducible show wpList _ _ _ ((⟨some 87, Op.load 25 _, _, _, _, _⟩ : Oper) :: _) _ _); refine wpList_load_rowG (by rfl) _ (.tmp 6) rfl w.heap.size rfl 25 C (0, 0) _ HB.out.1.1 Try.underlying25 rfl (by rw [h11]; exact info11) ?_)
        (refine (free_any HB.out.1.2 _ _).mono ?_; rintro e wn ⟨rfl, hbn⟩; rw [HFF.out]; have HB := Lib.hid (And.intro ((HB.out.1.on hbn).weak (fun _ _ => trivial)) (HB.out.2.trans (hbn.mono HB.out.2.size))); clear hbn)
        go_wp2
        go_roundw
        case rel => exact ⟨k + 1, X + g1, Y + g2, Z', rfl, rfl, rfl, rfl, by go_num, by omega, by omega, by omega, by omega, by omega, by omega, HI', HB⟩
        case measure => simp [intOf]; omega
end Go.Proofs.Ytfjdjhjhpphogaa
