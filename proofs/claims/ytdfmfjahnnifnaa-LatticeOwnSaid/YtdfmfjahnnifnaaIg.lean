/-
  Which of two facts comes first: the walks of Less, and the document's; and the document's Same of facts.
-/
import Derived.Test.YtdfmfjahnnifnaaIe
namespace Go.Proofs.Ytdfmfjahnnifnaa
set_option maxRecDepth 20000
set_option linter.unusedSimpArgs false
set_option linter.unusedVariables false
open Go.RowKit
/-- Two facts that are boxed. -/
theorem fv_two {w : World} {S S' : Nat → Prop} {v v' : Value} {f g : Ft.Fact} (h : Fv w S v f) (h' : Fv w S' v' g) : ∃ P M P' M', v = .agg P ∧ v' = .agg P' ∧
    FB ((w.alloc (.cells P 30)).alloc (.cells P' 30)) w.heap.size P M f ∧ FB ((w.alloc (.cells P 30)).alloc (.cells P' 30)) (w.heap.size + 1) P' M' g := by
  obtain ⟨P, M, rfl, hb⟩ := fv_box h
  obtain ⟨P', M', rfl, hb'⟩ := fv_box (h'.old.below (below_alloc w (.cells P 30)) (fun _ _ h => h))
  rw [size_alloc] at hb'
  exact ⟨P, M, P', M', rfl, rfl, hb.alloc _, hb'⟩
set_option maxHeartbeats 2000000 in
theorem rless_any {w : World} {S S' : Nat → Prop} {v v' : Value} {f g : Ft.Fact} (h : Fv w S v f) (h' : Fv w S' v' g) :
    Calls Try.prog 42 #[v, v'] w fun e w' => e = .returned (.bool (decide (f.less g))) ∧ Below w.heap.size w w' := by
  obtain ⟨ka, ea, na, ma⟩ := f
  obtain ⟨kb, eb, nb, mb⟩ := g
  obtain ⟨P, M, P', M', rfl, rfl, hb, hb'⟩ := fv_two h h'
  clear h h'
  have a0 : ((w.alloc (.cells P 30)).alloc (.cells P' 30)).cell? ⟨w.heap.size, 0, none⟩ = some (.int .i64 ka) := hb.c0
  have a1 : ((w.alloc (.cells P 30)).alloc (.cells P' 30)).cell? ⟨w.heap.size, 1, none⟩ = some (.int .i64 ea) := hb.c1
  have a2 : ((w.alloc (.cells P 30)).alloc (.cells P' 30)).cell? ⟨w.heap.size, 2, none⟩ = some (.int .i64 na) := hb.c2
  have b0 : ((w.alloc (.cells P 30)).alloc (.cells P' 30)).cell? ⟨w.heap.size + 1, 0, none⟩ = some (.int .i64 kb) := hb'.c0
  have b1 : ((w.alloc (.cells P 30)).alloc (.cells P' 30)).cell? ⟨w.heap.size + 1, 1, none⟩ = some (.int .i64 eb) := hb'.c1
  have b2 : ((w.alloc (.cells P 30)).alloc (.cells P' 30)).cell? ⟨w.heap.size + 1, 2, none⟩ = some (.int .i64 nb) := hb'.c2
  have HB := Lib.hid (below_two w (.cells P 30) (.cells P' 30))
  clear hb hb'
  by_cases z0 : ea = eb
  case neg =>
    have d0 : (ea != eb) = true := by simp [z0]
    have d1 : (ea == eb) = false := by simp [z0]
    obtain ⟨r, hr⟩ : ∃ r, decide (ea < eb) = r := ⟨_, rfl⟩
    have HN := Lib.hid (show decide (Ft.Fact.less ⟨ka, ea, na, ma⟩ ⟨kb, eb, nb, mb⟩) = r by
      rw [← hr]
      have e : Ft.Fact.less ⟨ka, ea, na, ma⟩ ⟨kb, eb, nb, mb⟩ ↔ ea < eb := ⟨fun h => h.elim id (fun h => absurd h.1 z0), Or.inl⟩
      simp only [e])
    clear z0
    go_enter Try.func42, Try.ntmps42
    go_wp2
    go_ret
    exact ⟨ret_bool HN.out.symm, HB.out⟩
  subst z0
  by_cases z1 : ka = kb
  case neg =>
    have d0 : (ka != kb) = true := by simp [z1]
    have d1 : (ka == kb) = false := by simp [z1]
    obtain ⟨r, hr⟩ : ∃ r, decide (ka < kb) = r := ⟨_, rfl⟩
    have HN := Lib.hid (show decide (Ft.Fact.less ⟨ka, ea, na, ma⟩ ⟨kb, ea, nb, mb⟩) = r by
      rw [← hr]
      have e : Ft.Fact.less ⟨ka, ea, na, ma⟩ ⟨kb, ea, nb, mb⟩ ↔ ka < kb :=
        ⟨fun h => h.elim (fun h => absurd h (Int.lt_irrefl _)) (fun h => h.2.elim id (fun h => absurd h.1 z1)), fun h => Or.inr ⟨rfl, Or.inl h⟩⟩
      simp only [e])
    clear z1
    go_enter Try.func42, Try.ntmps42
    go_wp2
    go_ret
    exact ⟨ret_bool HN.out.symm, HB.out⟩
  subst z1
  obtain ⟨r, hr⟩ : ∃ r, decide (na < nb) = r := ⟨_, rfl⟩
  have HN := Lib.hid (show decide (Ft.Fact.less ⟨ka, ea, na, ma⟩ ⟨ka, ea, nb, mb⟩) = r by
    rw [← hr]
    have e : Ft.Fact.less ⟨ka, ea, na, ma⟩ ⟨ka, ea, nb, mb⟩ ↔ na < nb :=
      ⟨fun h => h.elim (fun h => absurd h (Int.lt_irrefl _)) (fun h => h.2.elim (fun h => absurd h (Int.lt_irrefl _)) (fun h => h.2)), fun h => Or.inr ⟨rfl, Or.inr ⟨rfl, h⟩⟩⟩
    simp only [e])
  go_enter Try.func42, Try.ntmps42
  go_wp2
  go_ret
  exact ⟨ret_bool HN.out.symm, HB.out⟩
/-- The three steps that are compared, as one array's cells. -/
def steps (a b c d e f : Int) : Array Value := #[.int .i64 a, .int .i64 b, .int .i64 c, .int .i64 d, .int .i64 e, .int .i64 f]
theorem at0 (a b c d e f : Int) (w : World) : (Instr.index 72 (.agg #[.int .i64 a, .int .i64 b, .int .i64 c, .int .i64 d, .int .i64 e, .int .i64 f]) (.int .i64 0)).run Try.prog w = .ok (.agg #[.int .i64 a, .int .i64 b]) w := by kernel_rfl
theorem at1 (a b c d e f : Int) (w : World) : (Instr.index 72 (.agg #[.int .i64 a, .int .i64 b, .int .i64 c, .int .i64 d, .int .i64 e, .int .i64 f]) (.int .i64 1)).run Try.prog w = .ok (.agg #[.int .i64 c, .int .i64 d]) w := by kernel_rfl
theorem at2 (a b c d e f : Int) (w : World) : (Instr.index 72 (.agg #[.int .i64 a, .int .i64 b, .int .i64 c, .int .i64 d, .int .i64 e, .int .i64 f]) (.int .i64 2)).run Try.prog w = .ok (.agg #[.int .i64 e, .int .i64 f]) w := by kernel_rfl
/-- What is known ahead of the step i: the steps ahead of it were the same. -/
def Step (i : Int) (ka ea na kb eb nb : Int) : Prop := (1 ≤ i → ea = eb) ∧ (2 ≤ i → ka = kb) ∧ (3 ≤ i → na = nb)
theorem less_0 {ka ea na kb eb nb : Int} {ma mb : Mf.Man} (_ : Step 0 ka ea na kb eb nb) (h : ea < eb) : Ft.Fact.less ⟨ka, ea, na, ma⟩ ⟨kb, eb, nb, mb⟩ := Or.inl h
theorem less_1 {ka ea na kb eb nb : Int} {ma mb : Mf.Man} (s : Step 1 ka ea na kb eb nb) (h : ka < kb) : Ft.Fact.less ⟨ka, ea, na, ma⟩ ⟨kb, eb, nb, mb⟩ := Or.inr ⟨s.1 (by omega), Or.inl h⟩
theorem less_2 {ka ea na kb eb nb : Int} {ma mb : Mf.Man} (s : Step 2 ka ea na kb eb nb) (h : na < nb) : Ft.Fact.less ⟨ka, ea, na, ma⟩ ⟨kb, eb, nb, mb⟩ := Or.inr ⟨s.1 (by omega), Or.inr ⟨s.2.1 (by omega), h⟩⟩
theorem less_iff {ka ea na kb eb nb : Int} {ma mb : Mf.Man} : Ft.Fact.less ⟨ka, ea, na, ma⟩ ⟨kb, eb, nb, mb⟩ ↔ (ea < eb ∨ (ea = eb ∧ (ka < kb ∨ (ka = kb ∧ na < nb)))) := Iff.rfl
theorem more_0 {ka ea na kb eb nb : Int} {ma mb : Mf.Man} (_ : Step 0 ka ea na kb eb nb) (h : eb < ea) : ¬ Ft.Fact.less ⟨ka, ea, na, ma⟩ ⟨kb, eb, nb, mb⟩ := by rw [less_iff]; omega
theorem more_1 {ka ea na kb eb nb : Int} {ma mb : Mf.Man} (s : Step 1 ka ea na kb eb nb) (h : kb < ka) : ¬ Ft.Fact.less ⟨ka, ea, na, ma⟩ ⟨kb, eb, nb, mb⟩ := by have := s.1 (by omega); rw [less_iff]; omega
theorem more_2 {ka ea na kb eb nb : Int} {ma mb : Mf.Man} (s : Step 2 ka ea na kb eb nb) (h : nb < na) : ¬ Ft.Fact.less ⟨ka, ea, na, ma⟩ ⟨kb, eb, nb, mb⟩ := by have := s.1 (by omega); have := s.2.1 (by omega); rw [less_iff]; omega
theorem equal_3 {ka ea na kb eb nb : Int} {ma mb : Mf.Man} (s : Step 3 ka ea na kb eb nb) : ¬ Ft.Fact.less ⟨ka, ea, na, ma⟩ ⟨kb, eb, nb, mb⟩ := by have := s.1 (by omega); have := s.2.1 (by omega); have := s.2.2 (by omega); rw [less_iff]; omega
theorem same_0 {ka ea na kb eb nb : Int} (_ : Step 0 ka ea na kb eb nb) (h : ea = eb) : Step 1 ka ea na kb eb nb := ⟨fun _ => h, fun h => by omega, fun h => by omega⟩
theorem same_1 {ka ea na kb eb nb : Int} (s : Step 1 ka ea na kb eb nb) (h : ka = kb) : Step 2 ka ea na kb eb nb := ⟨fun _ => s.1 (by omega), fun _ => h, fun h => by omega⟩
theorem same_2 {ka ea na kb eb nb : Int} (s : Step 2 ka ea na kb eb nb) (h : na = nb) : Step 3 ka ea na kb eb nb := ⟨fun _ => s.1 (by omega), fun _ => s.2.1 (by omega), fun _ => h⟩
set_option maxHeartbeats 4000000 in
theorem fless_any {w : World} {S S' : Nat → Prop} {v v' : Value} {f g : Ft.Fact} (h : Fv w S v f) (h' : Fv w S' v' g) :
    Calls Try.prog 36 #[v, v'] w fun e w' => e = .returned (.bool (decide (f.less g))) ∧ Below w.heap.size w w' := by
  obtain ⟨ka, ea, na, ma⟩ := f
  obtain ⟨kb, eb, nb, mb⟩ := g
  obtain ⟨P, M, P', M', rfl, rfl, hb, hb'⟩ := fv_two h h'
  clear h h'
  have a0 : ((w.alloc (.cells P 30)).alloc (.cells P' 30)).cell? ⟨w.heap.size, 0, none⟩ = some (.int .i64 ka) := hb.c0
  have a1 : ((w.alloc (.cells P 30)).alloc (.cells P' 30)).cell? ⟨w.heap.size, 1, none⟩ = some (.int .i64 ea) := hb.c1
  have a2 : ((w.alloc (.cells P 30)).alloc (.cells P' 30)).cell? ⟨w.heap.size, 2, none⟩ = some (.int .i64 na) := hb.c2
  have b0 : ((w.alloc (.cells P 30)).alloc (.cells P' 30)).cell? ⟨w.heap.size + 1, 0, none⟩ = some (.int .i64 kb) := hb'.c0
  have b1 : ((w.alloc (.cells P 30)).alloc (.cells P' 30)).cell? ⟨w.heap.size + 1, 1, none⟩ = some (.int .i64 eb) := hb'.c1
  have b2 : ((w.alloc (.cells P 30)).alloc (.cells P' 30)).cell? ⟨w.heap.size + 1, 2, none⟩ = some (.int .i64 nb) := hb'.c2
  have HB := Lib.hid (below_two w (.cells P 30) (.cells P' 30))
  clear hb hb'
  go_enter Try.func36, Try.ntmps36
  go_wp2
  go_step3
  go_wp2
  go_step3
  go_wp2
  go_loopw [5, 24] (fun f i wr => ∃ k : Nat, f = .bool false ∧ i = .int .i64 (k : Int) ∧ k ≤ 3 ∧ Hid (Step k ka ea na kb eb nb ∧ Below w.heap.size w wr)) (fun _ i _ => 3 - (intOf i).toNat)
  case atStart => exact ⟨0, rfl, rfl, by omega, Lib.hid ⟨⟨fun h => by omega, fun h => by omega, fun h => by omega⟩, HB.out⟩⟩
  case round =>
    obtain ⟨k, rfl, rfl, hk, HS⟩ := hrel
    have HD : Hid (Below w.heap.size w (wr.alloc (.cells #[.int .i64 0, .int .i64 0] 71))) := Lib.hid (HS.out.2.alloc HS.out.2.size _)
    have HE : Hid (∀ o, Below w.heap.size w (wr.alloc o)) := Lib.hid (fun o => HS.out.2.alloc HS.out.2.size o)
    clear HD
    by_cases e0 : k = 0
    · clear hk
      subst e0
      have hi := at0 ea eb ka kb na nb
      by_cases g1 : ea < eb
      · have q1 : decide (ea < eb) = true := decide_eq_true g1
        have HN := Lib.hid (show decide (Ft.Fact.less ⟨ka, ea, na, ma⟩ ⟨kb, eb, nb, mb⟩) = true from decide_eq_true (less_0 HS.out.1 g1))
        clear g1
        go_wp2
        rw [Exit.noGoto_ret]
        go_ret
        exact ⟨ret_bool HN.out.symm, HE.out _⟩
      have q1 : decide (ea < eb) = false := decide_eq_false g1
      by_cases g2 : eb < ea
      · have q2 : decide (eb < ea) = true := decide_eq_true g2
        have HN := Lib.hid (show decide (Ft.Fact.less ⟨ka, ea, na, ma⟩ ⟨kb, eb, nb, mb⟩) = false from decide_eq_false (more_0 HS.out.1 g2))
        clear g1 g2
        go_wp2
        rw [Exit.noGoto_ret]
        go_ret
        exact ⟨ret_bool HN.out.symm, HE.out _⟩
      have q2 : decide (eb < ea) = false := decide_eq_false g2
      have HV := Lib.hid (And.intro (same_0 HS.out.1 (show ea = eb by omega)) HE.out)
      clear g1 g2
      go_wp2
      exact ⟨⟨1, rfl, rfl, by omega, Lib.hid ⟨HV.out.1, HV.out.2 _⟩⟩, by simp [intOf]⟩
    by_cases e1 : k = 1
    · clear hk e0
      subst e1
      have hi := at1 ea eb ka kb na nb
      by_cases g1 : ka < kb
      · have q1 : decide (ka < kb) = true := decide_eq_true g1
        have HN := Lib.hid (show decide (Ft.Fact.less ⟨ka, ea, na, ma⟩ ⟨kb, eb, nb, mb⟩) = true from decide_eq_true (less_1 HS.out.1 g1))
        clear g1
        go_wp2
        rw [Exit.noGoto_ret]
        go_ret
        exact ⟨ret_bool HN.out.symm, HE.out _⟩
      have q1 : decide (ka < kb) = false := decide_eq_false g1
      by_cases g2 : kb < ka
      · have q2 : decide (kb < ka) = true := decide_eq_true g2
        have HN := Lib.hid (show decide (Ft.Fact.less ⟨ka, ea, na, ma⟩ ⟨kb, eb, nb, mb⟩) = false from decide_eq_false (more_1 HS.out.1 g2))
        clear g1 g2
        go_wp2
        rw [Exit.noGoto_ret]
        go_ret
        exact ⟨ret_bool HN.out.symm, HE.out _⟩
      have q2 : decide (kb < ka) = false := decide_eq_false g2
      have HV := Lib.hid (And.intro (same_1 HS.out.1 (show ka = kb by omega)) HE.out)
      clear g1 g2
      go_wp2
      exact ⟨⟨2, rfl, rfl, by omega, Lib.hid ⟨HV.out.1, HV.out.2 _⟩⟩, by simp [intOf]⟩
    by_cases e2 : k = 2
    · clear hk e0 e1
      subst e2
      have hi := at2 ea eb ka kb na nb
      by_cases g1 : na < nb
      · have q1 : decide (na < nb) = true := decide_eq_true g1
        have HN := Lib.hid (show decide (Ft.Fact.less ⟨ka, ea, na, ma⟩ ⟨kb, eb, nb, mb⟩) = true from decide_eq_true (less_2 HS.out.1 g1))
        clear g1
        go_wp2
        rw [Exit.noGoto_ret]
        go_ret
        exact ⟨ret_bool HN.out.symm, HE.out _⟩
      have q1 : decide (na < nb) = false := decide_eq_false g1
      by_cases g2 : nb < na
      · have q2 : decide (nb < na) = true := decide_eq_true g2
        have HN := Lib.hid (show decide (Ft.Fact.less ⟨ka, ea, na, ma⟩ ⟨kb, eb, nb, mb⟩) = false from decide_eq_false (more_2 HS.out.1 g2))
        clear g1 g2
        go_wp2
        rw [Exit.noGoto_ret]
        go_ret
        exact ⟨ret_bool HN.out.symm, HE.out _⟩
      have q2 : decide (nb < na) = false := decide_eq_false g2
      have HV := Lib.hid (And.intro (same_2 HS.out.1 (show na = nb by omega)) HE.out)
      clear g1 g2
      go_wp2
      exact ⟨⟨3, rfl, rfl, by omega, Lib.hid ⟨HV.out.1, HV.out.2 _⟩⟩, by simp [intOf]⟩
    have e3 : k = 3 := by omega
    clear e0 e1 e2 hk
    subst e3
    have HN := Lib.hid (show decide (Ft.Fact.less ⟨ka, ea, na, ma⟩ ⟨kb, eb, nb, mb⟩) = false from decide_eq_false (equal_3 HS.out.1))
    go_wp2
    rw [Exit.noGoto_ret]
    go_ret
    exact ⟨ret_bool HN.out.symm, HS.out.2⟩
end Go.Proofs.Ytdfmfjahnnifnaa
