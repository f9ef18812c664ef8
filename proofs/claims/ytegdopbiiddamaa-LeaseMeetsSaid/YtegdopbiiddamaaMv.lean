/-
  The package's mayBe, isLeft and isSlot of grants.
-/
import Derived.Test.YtegdopbiiddamaaMu
import Derived.Test.YtegdopbiiddamaaMf
namespace Go.Proofs.Ytegdopbiiddamaa
open Go.RowKit Go.Great
set_option linter.unusedVariables false
set_option linter.unusedSimpArgs false
set_option maxRecDepth 20000
def gmay (p : Dr.P) (g : Gt.G) : Prop := 0 ≤ g.node ∧ g.node < p.nodes ∧ 0 ≤ g.nonce ∧ 0 ≤ g.since
instance (p : Dr.P) (g : Gt.G) : Decidable (gmay p g) := by unfold gmay; infer_instance
def gleft (p : Dr.P) (g a : Gt.G) : Prop := g.node < 0 ∨ (g.node = a.node ∧ g.nonce < a.nonce) ∨ p.free g.since a.since = true
instance (p : Dr.P) (g a : Gt.G) : Decidable (gleft p g a) := by unfold gleft; infer_instance
set_option maxHeartbeats 4000000 in
theorem gmay_any {w : World} {S : Nat → Prop} {C : Array Value} {p : Dr.P} (h : Cc w S C p) (g : Gt.G) : Calls Try.prog 47 #[.agg C, .agg (gcs g).toArray] w fun e w' => e = .returned (.bool (decide (gmay p g))) ∧ Below w.heap.size w w' := by
  obtain ⟨w1, hw1, hP, hG, hb1⟩ : ∃ w1, (w.alloc (.cells C 24)).alloc (.cells (gcs g).toArray 67) = w1 ∧ Pl w1 w.heap.size C p ∧ Whole w1 (w.heap.size + 1) 67 (gcs g).toArray ∧ Below w.heap.size w w1 := by
    refine ⟨_, rfl, (Pl.new h).on (below_alloc _ _), ?_, (below_alloc w _).alloc (by simp) _⟩
    have := Whole.new (w.alloc (.cells C 24)) 67 (gcs g).toArray
    rw [size_alloc] at this
    exact this
  have c0 := hP.cells.1
  have d0 : w1.cell? ⟨w.heap.size + 1, 0, none⟩ = some (.int .i64 g.node) := hG.cell 0
  have d1 : w1.cell? ⟨w.heap.size + 1, 1, none⟩ = some (.int .i64 g.nonce) := hG.cell 1
  have d2 : w1.cell? ⟨w.heap.size + 1, 2, none⟩ = some (.int .i64 g.since) := hG.cell 2
  have HB := Lib.hid hb1
  have HW := Lib.hid hw1
  obtain ⟨t, ht⟩ : ∃ t, decide (gmay p g) = t := ⟨_, rfl⟩
  rw [ht]
  obtain ⟨N, hN⟩ : ∃ N, p.nodes = N := ⟨_, rfl⟩
  obtain ⟨x, y, z⟩ := g
  have HT : Hid (t = decide (0 ≤ x ∧ x < N ∧ 0 ≤ y ∧ 0 ≤ z)) := Lib.hid (by rw [← ht, ← hN]; rfl)
  rw [hN] at c0
  simp only at d0 d1 d2
  clear h hw1 hP hG hb1 ht hN
  go_enter Try.func47, Try.ntmps47
  go_upto_region 1 with fail
  rw [HW.out]
  by_cases z1 : x ≥ 0
  case neg =>
    have HE : Hid (t = false) := Lib.hid (by rw [HT.out]; exact decide_eq_false fun h => z1 h.1)
    go_wp2
    go_ret
    exact ⟨ret_bool HE.out.symm, HB.out⟩
  by_cases z2 : x < N
  case neg =>
    have HE : Hid (t = false) := Lib.hid (by rw [HT.out]; exact decide_eq_false fun h => z2 h.2.1)
    go_wp2
    go_ret
    exact ⟨ret_bool HE.out.symm, HB.out⟩
  by_cases z3 : y ≥ 0
  case neg =>
    have HE : Hid (t = false) := Lib.hid (by rw [HT.out]; exact decide_eq_false fun h => z3 h.2.2.1)
    go_wp2
    go_ret
    exact ⟨ret_bool HE.out.symm, HB.out⟩
  by_cases z4 : z ≥ 0
  case neg =>
    have HE : Hid (t = false) := Lib.hid (by rw [HT.out]; exact decide_eq_false fun h => z4 h.2.2.2)
    go_wp2
    go_ret
    exact ⟨ret_bool HE.out.symm, HB.out⟩
  have HE : Hid (t = true) := Lib.hid (by rw [HT.out]; exact decide_eq_true ⟨z1, z2, z3, z4⟩)
  go_wp2
  go_ret
  exact ⟨ret_bool HE.out.symm, HB.out⟩
set_option maxHeartbeats 4000000 in
theorem gleft_any {w : World} {S : Nat → Prop} {C : Array Value} {p : Dr.P} (h : Cc w S C p) (g a : Gt.G) : Calls Try.prog 49 #[.agg C, .agg (gcs g).toArray, .agg (gcs a).toArray] w fun e w' => e = .returned (.bool (decide (gleft p g a))) ∧ Below w.heap.size w w' := by
  have h11 := h.size
  obtain ⟨w1, hw1, hP, hG, hA, hb1⟩ : ∃ w1, ((w.alloc (.cells C 24)).alloc (.cells (gcs g).toArray 67)).alloc (.cells (gcs a).toArray 67) = w1 ∧ Pl w1 w.heap.size C p ∧ Whole w1 (w.heap.size + 1) 67 (gcs g).toArray ∧ Whole w1 (w.heap.size + 1 + 1) 67 (gcs a).toArray ∧ Below w.heap.size w w1 := by
    refine ⟨_, rfl, ((Pl.new h).on (below_alloc _ _)).on (below_alloc _ _), ?_, ?_, ((below_alloc w _).alloc (by simp) _).alloc (by simp; omega) _⟩
    · have := (Whole.new (w.alloc (.cells C 24)) 67 (gcs g).toArray).alloc (.cells (gcs a).toArray 67)
      rw [size_alloc] at this
      exact this
    · have := Whole.new ((w.alloc (.cells C 24)).alloc (.cells (gcs g).toArray 67)) 67 (gcs a).toArray
      rw [size_alloc, size_alloc] at this
      exact this
  have d0 : w1.cell? ⟨w.heap.size + 1, 0, none⟩ = some (.int .i64 g.node) := hG.cell 0
  have d1 : w1.cell? ⟨w.heap.size + 1, 1, none⟩ = some (.int .i64 g.nonce) := hG.cell 1
  have d2 : w1.cell? ⟨w.heap.size + 1, 2, none⟩ = some (.int .i64 g.since) := hG.cell 2
  have f0 : w1.cell? ⟨w.heap.size + 1 + 1, 0, none⟩ = some (.int .i64 a.node) := hA.cell 0
  have f1 : w1.cell? ⟨w.heap.size + 1 + 1, 1, none⟩ = some (.int .i64 a.nonce) := hA.cell 1
  have f2 : w1.cell? ⟨w.heap.size + 1 + 1, 2, none⟩ = some (.int .i64 a.since) := hA.cell 2
  have HB := Lib.hid hb1
  have HP := Lib.hid hP
  have HW := Lib.hid hw1
  obtain ⟨t, ht⟩ : ∃ t, decide (gleft p g a) = t := ⟨_, rfl⟩
  rw [ht]
  obtain ⟨x, y, z⟩ := g
  obtain ⟨X, Y, Z⟩ := a
  have HT : Hid (t = decide (x < 0 ∨ (x = X ∧ y < Y) ∨ p.free z Z = true)) := Lib.hid (by rw [← ht]; rfl)
  simp only at d0 d1 d2 f0 f1 f2
  clear h hw1 hP hG hA hb1 ht
  go_enter Try.func49, Try.ntmps49
  go_upto_region 1 with fail
  rw [HW.out]
  by_cases z1 : x < 0
  · have HE : Hid (t = true) := Lib.hid (by rw [HT.out]; exact decide_eq_true (Or.inl z1))
    by_cases z2 : x = X
    · have q2 : (x == X) = true := by simp [z2]
      have Z2 := Lib.hid z2
      clear z2
      by_cases z3 : y < Y
      · skip
        go_wp2
        go_ret
        exact ⟨ret_bool HE.out.symm, HB.out⟩
      · have q3 : decide (y < Y) = false := decide_eq_false z3
        go_wp2
        go_ret
        exact ⟨ret_bool HE.out.symm, HB.out⟩
    · have q2 : (x == X) = false := by simp [z2]
      clear z2
      go_wp2
      go_ret
      exact ⟨ret_bool HE.out.symm, HB.out⟩
  have q1 : decide (x < 0) = false := decide_eq_false z1
  by_cases z2 : x = X ∧ y < Y
  · have HE : Hid (t = true) := Lib.hid (by rw [HT.out]; exact decide_eq_true (Or.inr (Or.inl z2)))
    obtain ⟨z2, z3⟩ := z2
    have q2 : (x == X) = true := by simp [z2]
    clear z2
    go_wp2
    go_ret
    exact ⟨ret_bool HE.out.symm, HB.out⟩
  have HE : Hid (t = p.free z Z) := Lib.hid (by
    rw [HT.out]
    cases hq : p.free z Z
    · exact decide_eq_false fun h => by rcases h with h | h | h <;> first | exact z1 h | exact z2 h | cases h
    · exact decide_eq_true (Or.inr (Or.inr rfl)))
  by_cases z3 : x = X
  · have q2 : (x == X) = true := by simp [z3]
    have q3 : decide (y < Y) = false := decide_eq_false fun h => z2 ⟨z3, h⟩
    have q4 : ¬ y < Y := fun h => z2 ⟨z3, h⟩
    clear z2 z3
    go_wp2_with (first | ((with_reducible show wpList _ _ _ ((⟨some 27, Op.load 24 (.tmp 3), _, _, _, _⟩ : Oper) :: _) _ _); refine wpList_load_rowG (by rfl) _ (.tmp 3) rfl w.heap.size rfl 24 C (0, 0) _ HP.out.1 Try.underlying24 rfl (by rw [h11]; exact info11) ?_) | fail)
    refine (free_any HP.out.2 z Z).mono ?_
    rintro e w2 ⟨rfl, hb2⟩
    have HB := Lib.hid (HB.out.trans (hb2.mono HB.out.size))
    clear hb2
    go_wp2
    go_ret
    exact ⟨ret_bool HE.out.symm, HB.out⟩
  · have q2 : (x == X) = false := by simp [z3]
    clear z2 z3
    go_wp2_with (first | ((with_reducible show wpList _ _ _ ((⟨some 27, Op.load 24 (.tmp 3), _, _, _, _⟩ : Oper) :: _) _ _); refine wpList_load_rowG (by rfl) _ (.tmp 3) rfl w.heap.size rfl 24 C (0, 0) _ HP.out.1 Try.underlying24 rfl (by rw [h11]; exact info11) ?_) | fail)
    refine (free_any HP.out.2 z Z).mono ?_
    rintro e w2 ⟨rfl, hb2⟩
    have HB := Lib.hid (HB.out.trans (hb2.mono HB.out.size))
    clear hb2
    go_wp2
    go_ret
    exact ⟨ret_bool HE.out.symm, HB.out⟩
set_option maxHeartbeats 4000000 in
theorem gslot_any {w : World} {S : Nat → Prop} {C V : Array Value} {p : Dr.P} {a : Gt.A} (h : Cc w S C p) (ha : Acc w V a) (s : Int) : Calls Try.prog 71 #[.agg C, .agg V, .int .i64 s] w fun e w' => e = .returned (.bool (decide (Gt.may p a s))) ∧ Below w.heap.size w w' := by
  have h11 := h.size
  obtain ⟨w1, hw1, hP, hA, hb1⟩ := boxes_pa h ha
  have HW := Lib.hid hw1
  have H1 := Lib.hid (And.intro hP (And.intro hA hb1))
  obtain ⟨ad, n, c, rfl, hrow, hnc, hbt, hn⟩ := ha
  have HL := Lib.hid hrow.1
  obtain ⟨t, ht⟩ : ∃ t, decide (Gt.may p a s) = t := ⟨_, rfl⟩
  rw [ht]
  have HT : Hid (t = decide (p.ok ∧ (n : Int) = p.slots ∧ 0 ≤ s ∧ s < p.slots)) := Lib.hid (by rw [← ht, ← HL.out]; rfl)
  clear h hw1 hP hA hb1 hrow ht
  go_enter Try.func71, Try.ntmps71
  go_upto_region 1 with fail
  rw [HW.out]
  go_wp2_with (first | ((with_reducible show wpList _ _ _ ((⟨some 7, Op.load 24 (.tmp 3), _, _, _, _⟩ : Oper) :: _) _ _); refine wpList_load_rowG (by rfl) _ (.tmp 3) rfl w.heap.size rfl 24 C (0, 0) _ H1.out.1.1 Try.underlying24 rfl (by rw [h11]; exact info11) ?_) | fail)
  refine (check_any H1.out.1.2).mono ?_
  rintro e w2 ⟨rfl, hb2⟩
  have H2 := Lib.hid (And.intro (H1.out.1.on hb2) (And.intro (H1.out.2.1.on hb2) (H1.out.2.2.trans (hb2.mono H1.out.2.2.size))))
  clear hb2 H1
  by_cases hok : p.ok
  case neg =>
    rw [Dr.P.chk_no hok]
    have HE : Hid (t = false) := Lib.hid (by rw [HT.out]; exact decide_eq_false fun h => hok h.1)
    clear hok
    go_wp2
    go_ret
    exact ⟨ret_bool HE.out.symm, H2.out.2.2⟩
  rw [Dr.P.chk_ok hok]
  have HO := Lib.hid hok
  obtain ⟨k, hk⟩ : ∃ k, p.slots = k := ⟨_, rfl⟩
  have c1 := H2.out.1.cells.2.1
  have c2 : w2.cell? ⟨w.heap.size + 1, 1, none⟩ = some (.slice ad n c) := H2.out.2.1.1.cell 1
  rw [hk] at c1
  have HK := Lib.hid hk
  clear hok hk
  by_cases z1 : (n : Int) = k
  case neg =>
    have HE : Hid (t = false) := Lib.hid (by rw [HT.out, HK.out]; exact decide_eq_false fun h => z1 h.2.1)
    have q : ((n : Int) == k) = false := by simp [z1]
    clear z1
    go_wp2
    go_ret
    exact ⟨ret_bool HE.out.symm, H2.out.2.2⟩
  have q : ((n : Int) == k) = true := by simp [z1]
  have Z1 := Lib.hid z1
  clear z1
  by_cases z2 : s ≥ 0
  case neg =>
    have HE : Hid (t = false) := Lib.hid (by rw [HT.out]; exact decide_eq_false fun h => z2 h.2.2.1)
    go_wp2
    go_ret
    exact ⟨ret_bool HE.out.symm, H2.out.2.2⟩
  by_cases z3 : s < k
  case neg =>
    have HE : Hid (t = false) := Lib.hid (by rw [HT.out, HK.out]; exact decide_eq_false fun h => z3 h.2.2.2)
    have d3 : decide (s < k) = false := decide_eq_false z3
    go_wp2
    go_ret
    exact ⟨ret_bool HE.out.symm, H2.out.2.2⟩
  have HE : Hid (t = true) := Lib.hid (by rw [HT.out, HK.out]; exact decide_eq_true ⟨HO.out, Z1.out, z2, z3⟩)
  go_wp2
  go_ret
  exact ⟨ret_bool HE.out.symm, H2.out.2.2⟩
end Go.Proofs.Ytegdopbiiddamaa
