/-
  The walk of FactOrder.
-/
import Derived.Test.YtcfchkffanfehaaIn
namespace Ft
theorem less_irr {ka ea na : Int} {ma mb : Mf.Man} : ¬ Fact.less ⟨ka, ea, na, ma⟩ ⟨ka, ea, na, mb⟩ := by
  unfold Fact.less
  simp
theorem less_asym {a b : Fact} (h : a.less b) : ¬ b.less a := by
  unfold Fact.less at *
  omega
theorem less_total {a b : Fact} (h : ¬ a.less b) (hn : ¬ (a.kind = b.kind ∧ a.epoch = b.epoch ∧ a.node = b.node)) : b.less a := by
  unfold Fact.less at *
  omega
theorem less_trans {a b c : Fact} (h : a.less b) (h' : b.less c) : a.less c := by
  unfold Fact.less at *
  omega
end Ft
namespace Go.Proofs.Ytcfchkffanfehaa
set_option maxRecDepth 20000
set_option linter.unusedSimpArgs false
set_option linter.unusedVariables false
open Go.RowKit
/-- Three facts in blocks of their own. -/
def Tri (w : World) (A B C : Nat) (P P' P'' : Array Value) (M M' M'' : List Value) (f g h : Ft.Fact) (w0 : World) : Prop := FB w A P M f ∧ FB w B P' M' g ∧ FB w C P'' M'' h ∧ Below w0.heap.size w0 w
theorem Tri.below {w w' : World} {A B C : Nat} {P P' P'' : Array Value} {M M' M'' : List Value} {f g h : Ft.Fact} {w0 : World} (t : Tri w A B C P P' P'' M M' M'' f g h w0) (hb : Below w.heap.size w w') : Tri w' A B C P P' P'' M M' M'' f g h w0 :=
  ⟨t.1.below hb, t.2.1.below hb, t.2.2.1.below hb, t.2.2.2.trans (hb.mono t.2.2.2.size)⟩
theorem fv_three {w : World} {S S' S'' : Nat → Prop} {v v' v'' : Value} {f g h : Ft.Fact} (h1 : Fv w S v f) (h2 : Fv w S' v' g) (h3 : Fv w S'' v'' h) : ∃ P M P' M' P'' M'', v = .agg P ∧ v' = .agg P' ∧ v'' = .agg P'' ∧
    Tri (((w.alloc (.cells P 28)).alloc (.cells P' 28)).alloc (.cells P'' 28)) w.heap.size (w.heap.size + 1) (w.heap.size + 1 + 1) P P' P'' M M' M'' f g h w := by
  obtain ⟨P, M, P', M', rfl, rfl, hb, hb'⟩ := fv_two h1 h2
  obtain ⟨P'', M'', rfl, hb''⟩ := fv_box (h3.old.below (below_two w (.cells P 28) (.cells P' 28)) (fun _ _ h => h))
  rw [size_alloc, size_alloc] at hb''
  have b2 := below_two w (.cells P 28) (.cells P' 28)
  exact ⟨P, M, P', M', P'', M'', rfl, rfl, rfl, hb.alloc _, hb'.alloc _, hb'', b2.alloc b2.size _⟩
set_option maxHeartbeats 8000000 in
theorem order_walk (C0 : Array Value) (f : Ft.Fact) (C1 : Array Value) (g : Ft.Fact) (C2 : Array Value) (h : Ft.Fact) (w : World) (h0 : Fv w (fun b => b < w.heap.size) (.agg C0) f) (h1 : Fv w (fun b => b < w.heap.size) (.agg C1) g) (h2 : Fv w (fun b => b < w.heap.size) (.agg C2) h) :
    Calls Try.prog 8 #[.agg C0, .agg C1, .agg C2] w fun e w' => e = .returned (.bool true) ∧ Below w.heap.size w w' := by
  obtain ⟨ka, ea, na, ma⟩ := f
  obtain ⟨kb, eb, nb, mb⟩ := g
  obtain ⟨P, M, P', M', P'', M'', e0, e1, e2, ht⟩ := fv_three h0 h1 h2
  injection e0 with e0
  injection e1 with e1
  injection e2 with e2
  subst e0 e1 e2
  have HT := Lib.hid ht
  clear h0 h1 h2 ht
  by_cases ck : ka = kb
  case neg =>
    have q1 : (ka == kb) = false := by simp [ck]
    by_cases hX : Ft.Fact.less ⟨ka, ea, na, ma⟩ ⟨kb, eb, nb, mb⟩
    · have HX := Lib.hid (show decide (Ft.Fact.less ⟨ka, ea, na, ma⟩ ⟨kb, eb, nb, mb⟩) = true from decide_eq_true hX)
      have HY := Lib.hid (show decide (Ft.Fact.less ⟨kb, eb, nb, mb⟩ ⟨ka, ea, na, ma⟩) = false from decide_eq_false (Ft.less_asym hX))
      obtain ⟨z, hz⟩ : ∃ z, decide (Ft.Fact.less ⟨kb, eb, nb, mb⟩ h) = z := ⟨_, rfl⟩
      have HZ := Lib.hid hz
      have HW : Hid (z = true → decide (Ft.Fact.less ⟨ka, ea, na, ma⟩ h) = true) := Lib.hid (fun e => decide_eq_true (Ft.less_trans hX (of_decide_eq_true (hz.trans e))))
      clear hX hz ck
      go_enter Try.func8, Try.ntmps8
      go_wp2_with fail
      generalize ((w.alloc (.cells C0 28)).alloc (.cells C1 28)).alloc (.cells C2 28) = w1 at *
      refine (awake_any _).mono ?_
      rintro e w2 ⟨rfl, hb2⟩
      have HT2 := Lib.hid (HT.out.below hb2)
      clear hb2 HT
      go_wp2_with (first | ((with_reducible show wpList _ _ _ ((⟨_, Op.load 28 (.tmp 3), _, _, _, _⟩ : Oper) :: _) _ _); refine fb_load HT2.out.1 (by rfl) (.tmp 3) rfl rfl ?_) | ((with_reducible show wpList _ _ _ ((⟨_, Op.load 28 (.tmp 4), _, _, _, _⟩ : Oper) :: _) _ _); refine fb_load HT2.out.2.1 (by rfl) (.tmp 4) rfl rfl ?_) | fail)
      refine (fless_any HT2.out.1.val HT2.out.2.1.val).mono ?_
      rintro e w3 ⟨rfl, hb3⟩
      rw [HX.out]
      have HT3 := Lib.hid (HT2.out.below hb3)
      clear hb3 HT2
      go_wp2_with (first | ((with_reducible show wpList _ _ _ ((⟨_, Op.load 28 (.tmp 3), _, _, _, _⟩ : Oper) :: _) _ _); refine fb_load HT3.out.1 (by rfl) (.tmp 3) rfl rfl ?_) | ((with_reducible show wpList _ _ _ ((⟨_, Op.load 28 (.tmp 4), _, _, _, _⟩ : Oper) :: _) _ _); refine fb_load HT3.out.2.1 (by rfl) (.tmp 4) rfl rfl ?_) | fail)
      refine (fless_any HT3.out.2.1.val HT3.out.1.val).mono ?_
      rintro e w4 ⟨rfl, hb4⟩
      rw [HY.out]
      have HT4 := Lib.hid (HT3.out.below hb4)
      clear hb4 HT3
      have a0 : w4.cell? ⟨w.heap.size, 0, none⟩ = some (.int .i64 ka) := HT4.out.1.c0
      have a1 : w4.cell? ⟨w.heap.size, 1, none⟩ = some (.int .i64 ea) := HT4.out.1.c1
      have a2 : w4.cell? ⟨w.heap.size, 2, none⟩ = some (.int .i64 na) := HT4.out.1.c2
      have b0 : w4.cell? ⟨w.heap.size + 1, 0, none⟩ = some (.int .i64 kb) := HT4.out.2.1.c0
      have b1 : w4.cell? ⟨w.heap.size + 1, 1, none⟩ = some (.int .i64 eb) := HT4.out.2.1.c1
      have b2 : w4.cell? ⟨w.heap.size + 1, 2, none⟩ = some (.int .i64 nb) := HT4.out.2.1.c2
      go_wp2_with (first | ((with_reducible show wpList _ _ _ ((⟨_, Op.load 28 (.tmp 4), _, _, _, _⟩ : Oper) :: _) _ _); refine fb_load HT4.out.2.1 (by rfl) (.tmp 4) rfl rfl ?_) | ((with_reducible show wpList _ _ _ ((⟨_, Op.load 28 (.tmp 5), _, _, _, _⟩ : Oper) :: _) _ _); refine fb_load HT4.out.2.2.1 (by rfl) (.tmp 5) rfl rfl ?_) | fail)
      refine (fless_any HT4.out.2.1.val HT4.out.2.2.1.val).mono ?_
      rintro e w5 ⟨rfl, hb5⟩
      rw [HZ.out]
      have HT5 := Lib.hid (HT4.out.below hb5)
      clear hb5 HT4 a0 a1 a2 b0 b1 b2
      cases z with
      | false =>
        go_wp2
        go_ret
        exact ⟨rfl, HT5.out.2.2.2⟩
      | true =>
        have HV := Lib.hid (HW.out rfl)
        go_wp2_with (first | ((with_reducible show wpList _ _ _ ((⟨_, Op.load 28 (.tmp 3), _, _, _, _⟩ : Oper) :: _) _ _); refine fb_load HT5.out.1 (by rfl) (.tmp 3) rfl rfl ?_) | ((with_reducible show wpList _ _ _ ((⟨_, Op.load 28 (.tmp 5), _, _, _, _⟩ : Oper) :: _) _ _); refine fb_load HT5.out.2.2.1 (by rfl) (.tmp 5) rfl rfl ?_) | fail)
        refine (fless_any HT5.out.1.val HT5.out.2.2.1.val).mono ?_
        rintro e w6 ⟨rfl, hb6⟩
        rw [HV.out]
        have HT6 := Lib.hid (HT5.out.below hb6)
        clear hb6 HT5
        go_wp2
        go_ret
        exact ⟨rfl, HT6.out.2.2.2⟩
    · have HX := Lib.hid (show decide (Ft.Fact.less ⟨ka, ea, na, ma⟩ ⟨kb, eb, nb, mb⟩) = false from decide_eq_false hX)
      have HY := Lib.hid (show decide (Ft.Fact.less ⟨kb, eb, nb, mb⟩ ⟨ka, ea, na, ma⟩) = true from decide_eq_true (Ft.less_total hX (by dsimp only; omega)))
      clear hX ck
      go_enter Try.func8, Try.ntmps8
      go_wp2_with fail
      generalize ((w.alloc (.cells C0 28)).alloc (.cells C1 28)).alloc (.cells C2 28) = w1 at *
      refine (awake_any _).mono ?_
      rintro e w2 ⟨rfl, hb2⟩
      have HT2 := Lib.hid (HT.out.below hb2)
      clear hb2 HT
      go_wp2_with (first | ((with_reducible show wpList _ _ _ ((⟨_, Op.load 28 (.tmp 3), _, _, _, _⟩ : Oper) :: _) _ _); refine fb_load HT2.out.1 (by rfl) (.tmp 3) rfl rfl ?_) | ((with_reducible show wpList _ _ _ ((⟨_, Op.load 28 (.tmp 4), _, _, _, _⟩ : Oper) :: _) _ _); refine fb_load HT2.out.2.1 (by rfl) (.tmp 4) rfl rfl ?_) | fail)
      refine (fless_any HT2.out.1.val HT2.out.2.1.val).mono ?_
      rintro e w3 ⟨rfl, hb3⟩
      rw [HX.out]
      have HT3 := Lib.hid (HT2.out.below hb3)
      clear hb3 HT2
      go_wp2_with (first | ((with_reducible show wpList _ _ _ ((⟨_, Op.load 28 (.tmp 3), _, _, _, _⟩ : Oper) :: _) _ _); refine fb_load HT3.out.1 (by rfl) (.tmp 3) rfl rfl ?_) | ((with_reducible show wpList _ _ _ ((⟨_, Op.load 28 (.tmp 4), _, _, _, _⟩ : Oper) :: _) _ _); refine fb_load HT3.out.2.1 (by rfl) (.tmp 4) rfl rfl ?_) | fail)
      refine (fless_any HT3.out.2.1.val HT3.out.1.val).mono ?_
      rintro e w4 ⟨rfl, hb4⟩
      rw [HY.out]
      have HT4 := Lib.hid (HT3.out.below hb4)
      clear hb4 HT3
      have a0 : w4.cell? ⟨w.heap.size, 0, none⟩ = some (.int .i64 ka) := HT4.out.1.c0
      have a1 : w4.cell? ⟨w.heap.size, 1, none⟩ = some (.int .i64 ea) := HT4.out.1.c1
      have a2 : w4.cell? ⟨w.heap.size, 2, none⟩ = some (.int .i64 na) := HT4.out.1.c2
      have b0 : w4.cell? ⟨w.heap.size + 1, 0, none⟩ = some (.int .i64 kb) := HT4.out.2.1.c0
      have b1 : w4.cell? ⟨w.heap.size + 1, 1, none⟩ = some (.int .i64 eb) := HT4.out.2.1.c1
      have b2 : w4.cell? ⟨w.heap.size + 1, 2, none⟩ = some (.int .i64 nb) := HT4.out.2.1.c2
      go_wp2
      go_ret
      exact ⟨rfl, HT4.out.2.2.2⟩
  have q1 : (ka == kb) = true := by simp [ck]
  by_cases ce : ea = eb
  case neg =>
    have q2 : (ea == eb) = false := by simp [ce]
    by_cases hX : Ft.Fact.less ⟨ka, ea, na, ma⟩ ⟨kb, eb, nb, mb⟩
    · have HX := Lib.hid (show decide (Ft.Fact.less ⟨ka, ea, na, ma⟩ ⟨kb, eb, nb, mb⟩) = true from decide_eq_true hX)
      have HY := Lib.hid (show decide (Ft.Fact.less ⟨kb, eb, nb, mb⟩ ⟨ka, ea, na, ma⟩) = false from decide_eq_false (Ft.less_asym hX))
      obtain ⟨z, hz⟩ : ∃ z, decide (Ft.Fact.less ⟨kb, eb, nb, mb⟩ h) = z := ⟨_, rfl⟩
      have HZ := Lib.hid hz
      have HW : Hid (z = true → decide (Ft.Fact.less ⟨ka, ea, na, ma⟩ h) = true) := Lib.hid (fun e => decide_eq_true (Ft.less_trans hX (of_decide_eq_true (hz.trans e))))
      clear hX hz ck ce
      go_enter Try.func8, Try.ntmps8
      go_wp2_with fail
      generalize ((w.alloc (.cells C0 28)).alloc (.cells C1 28)).alloc (.cells C2 28) = w1 at *
      refine (awake_any _).mono ?_
      rintro e w2 ⟨rfl, hb2⟩
      have HT2 := Lib.hid (HT.out.below hb2)
      clear hb2 HT
      go_wp2_with (first | ((with_reducible show wpList _ _ _ ((⟨_, Op.load 28 (.tmp 3), _, _, _, _⟩ : Oper) :: _) _ _); refine fb_load HT2.out.1 (by rfl) (.tmp 3) rfl rfl ?_) | ((with_reducible show wpList _ _ _ ((⟨_, Op.load 28 (.tmp 4), _, _, _, _⟩ : Oper) :: _) _ _); refine fb_load HT2.out.2.1 (by rfl) (.tmp 4) rfl rfl ?_) | fail)
      refine (fless_any HT2.out.1.val HT2.out.2.1.val).mono ?_
      rintro e w3 ⟨rfl, hb3⟩
      rw [HX.out]
      have HT3 := Lib.hid (HT2.out.below hb3)
      clear hb3 HT2
      go_wp2_with (first | ((with_reducible show wpList _ _ _ ((⟨_, Op.load 28 (.tmp 3), _, _, _, _⟩ : Oper) :: _) _ _); refine fb_load HT3.out.1 (by rfl) (.tmp 3) rfl rfl ?_) | ((with_reducible show wpList _ _ _ ((⟨_, Op.load 28 (.tmp 4), _, _, _, _⟩ : Oper) :: _) _ _); refine fb_load HT3.out.2.1 (by rfl) (.tmp 4) rfl rfl ?_) | fail)
      refine (fless_any HT3.out.2.1.val HT3.out.1.val).mono ?_
      rintro e w4 ⟨rfl, hb4⟩
      rw [HY.out]
      have HT4 := Lib.hid (HT3.out.below hb4)
      clear hb4 HT3
      have a0 : w4.cell? ⟨w.heap.size, 0, none⟩ = some (.int .i64 ka) := HT4.out.1.c0
      have a1 : w4.cell? ⟨w.heap.size, 1, none⟩ = some (.int .i64 ea) := HT4.out.1.c1
      have a2 : w4.cell? ⟨w.heap.size, 2, none⟩ = some (.int .i64 na) := HT4.out.1.c2
      have b0 : w4.cell? ⟨w.heap.size + 1, 0, none⟩ = some (.int .i64 kb) := HT4.out.2.1.c0
      have b1 : w4.cell? ⟨w.heap.size + 1, 1, none⟩ = some (.int .i64 eb) := HT4.out.2.1.c1
      have b2 : w4.cell? ⟨w.heap.size + 1, 2, none⟩ = some (.int .i64 nb) := HT4.out.2.1.c2
      go_wp2_with (first | ((with_reducible show wpList _ _ _ ((⟨_, Op.load 28 (.tmp 4), _, _, _, _⟩ : Oper) :: _) _ _); refine fb_load HT4.out.2.1 (by rfl) (.tmp 4) rfl rfl ?_) | ((with_reducible show wpList _ _ _ ((⟨_, Op.load 28 (.tmp 5), _, _, _, _⟩ : Oper) :: _) _ _); refine fb_load HT4.out.2.2.1 (by rfl) (.tmp 5) rfl rfl ?_) | fail)
      refine (fless_any HT4.out.2.1.val HT4.out.2.2.1.val).mono ?_
      rintro e w5 ⟨rfl, hb5⟩
      rw [HZ.out]
      have HT5 := Lib.hid (HT4.out.below hb5)
      clear hb5 HT4 a0 a1 a2 b0 b1 b2
      cases z with
      | false =>
        go_wp2
        go_ret
        exact ⟨rfl, HT5.out.2.2.2⟩
      | true =>
        have HV := Lib.hid (HW.out rfl)
        go_wp2_with (first | ((with_reducible show wpList _ _ _ ((⟨_, Op.load 28 (.tmp 3), _, _, _, _⟩ : Oper) :: _) _ _); refine fb_load HT5.out.1 (by rfl) (.tmp 3) rfl rfl ?_) | ((with_reducible show wpList _ _ _ ((⟨_, Op.load 28 (.tmp 5), _, _, _, _⟩ : Oper) :: _) _ _); refine fb_load HT5.out.2.2.1 (by rfl) (.tmp 5) rfl rfl ?_) | fail)
        refine (fless_any HT5.out.1.val HT5.out.2.2.1.val).mono ?_
        rintro e w6 ⟨rfl, hb6⟩
        rw [HV.out]
        have HT6 := Lib.hid (HT5.out.below hb6)
        clear hb6 HT5
        go_wp2
        go_ret
        exact ⟨rfl, HT6.out.2.2.2⟩
    · have HX := Lib.hid (show decide (Ft.Fact.less ⟨ka, ea, na, ma⟩ ⟨kb, eb, nb, mb⟩) = false from decide_eq_false hX)
      have HY := Lib.hid (show decide (Ft.Fact.less ⟨kb, eb, nb, mb⟩ ⟨ka, ea, na, ma⟩) = true from decide_eq_true (Ft.less_total hX (by dsimp only; omega)))
      clear hX ck ce
      go_enter Try.func8, Try.ntmps8
      go_wp2_with fail
      generalize ((w.alloc (.cells C0 28)).alloc (.cells C1 28)).alloc (.cells C2 28) = w1 at *
      refine (awake_any _).mono ?_
      rintro e w2 ⟨rfl, hb2⟩
      have HT2 := Lib.hid (HT.out.below hb2)
      clear hb2 HT
      go_wp2_with (first | ((with_reducible show wpList _ _ _ ((⟨_, Op.load 28 (.tmp 3), _, _, _, _⟩ : Oper) :: _) _ _); refine fb_load HT2.out.1 (by rfl) (.tmp 3) rfl rfl ?_) | ((with_reducible show wpList _ _ _ ((⟨_, Op.load 28 (.tmp 4), _, _, _, _⟩ : Oper) :: _) _ _); refine fb_load HT2.out.2.1 (by rfl) (.tmp 4) rfl rfl ?_) | fail)
      refine (fless_any HT2.out.1.val HT2.out.2.1.val).mono ?_
      rintro e w3 ⟨rfl, hb3⟩
      rw [HX.out]
      have HT3 := Lib.hid (HT2.out.below hb3)
      clear hb3 HT2
      go_wp2_with (first | ((with_reducible show wpList _ _ _ ((⟨_, Op.load 28 (.tmp 3), _, _, _, _⟩ : Oper) :: _) _ _); refine fb_load HT3.out.1 (by rfl) (.tmp 3) rfl rfl ?_) | ((with_reducible show wpList _ _ _ ((⟨_, Op.load 28 (.tmp 4), _, _, _, _⟩ : Oper) :: _) _ _); refine fb_load HT3.out.2.1 (by rfl) (.tmp 4) rfl rfl ?_) | fail)
      refine (fless_any HT3.out.2.1.val HT3.out.1.val).mono ?_
      rintro e w4 ⟨rfl, hb4⟩
      rw [HY.out]
      have HT4 := Lib.hid (HT3.out.below hb4)
      clear hb4 HT3
      have a0 : w4.cell? ⟨w.heap.size, 0, none⟩ = some (.int .i64 ka) := HT4.out.1.c0
      have a1 : w4.cell? ⟨w.heap.size, 1, none⟩ = some (.int .i64 ea) := HT4.out.1.c1
      have a2 : w4.cell? ⟨w.heap.size, 2, none⟩ = some (.int .i64 na) := HT4.out.1.c2
      have b0 : w4.cell? ⟨w.heap.size + 1, 0, none⟩ = some (.int .i64 kb) := HT4.out.2.1.c0
      have b1 : w4.cell? ⟨w.heap.size + 1, 1, none⟩ = some (.int .i64 eb) := HT4.out.2.1.c1
      have b2 : w4.cell? ⟨w.heap.size + 1, 2, none⟩ = some (.int .i64 nb) := HT4.out.2.1.c2
      go_wp2
      go_ret
      exact ⟨rfl, HT4.out.2.2.2⟩
  have q2 : (ea == eb) = true := by simp [ce]
  by_cases cn : na = nb
  case neg =>
    have q3 : (na == nb) = false := by simp [cn]
    by_cases hX : Ft.Fact.less ⟨ka, ea, na, ma⟩ ⟨kb, eb, nb, mb⟩
    · have HX := Lib.hid (show decide (Ft.Fact.less ⟨ka, ea, na, ma⟩ ⟨kb, eb, nb, mb⟩) = true from decide_eq_true hX)
      have HY := Lib.hid (show decide (Ft.Fact.less ⟨kb, eb, nb, mb⟩ ⟨ka, ea, na, ma⟩) = false from decide_eq_false (Ft.less_asym hX))
      obtain ⟨z, hz⟩ : ∃ z, decide (Ft.Fact.less ⟨kb, eb, nb, mb⟩ h) = z := ⟨_, rfl⟩
      have HZ := Lib.hid hz
      have HW : Hid (z = true → decide (Ft.Fact.less ⟨ka, ea, na, ma⟩ h) = true) := Lib.hid (fun e => decide_eq_true (Ft.less_trans hX (of_decide_eq_true (hz.trans e))))
      clear hX hz ck ce cn
      go_enter Try.func8, Try.ntmps8
      go_wp2_with fail
      generalize ((w.alloc (.cells C0 28)).alloc (.cells C1 28)).alloc (.cells C2 28) = w1 at *
      refine (awake_any _).mono ?_
      rintro e w2 ⟨rfl, hb2⟩
      have HT2 := Lib.hid (HT.out.below hb2)
      clear hb2 HT
      go_wp2_with (first | ((with_reducible show wpList _ _ _ ((⟨_, Op.load 28 (.tmp 3), _, _, _, _⟩ : Oper) :: _) _ _); refine fb_load HT2.out.1 (by rfl) (.tmp 3) rfl rfl ?_) | ((with_reducible show wpList _ _ _ ((⟨_, Op.load 28 (.tmp 4), _, _, _, _⟩ : Oper) :: _) _ _); refine fb_load HT2.out.2.1 (by rfl) (.tmp 4) rfl rfl ?_) | fail)
      refine (fless_any HT2.out.1.val HT2.out.2.1.val).mono ?_
      rintro e w3 ⟨rfl, hb3⟩
      rw [HX.out]
      have HT3 := Lib.hid (HT2.out.below hb3)
      clear hb3 HT2
      go_wp2_with (first | ((with_reducible show wpList _ _ _ ((⟨_, Op.load 28 (.tmp 3), _, _, _, _⟩ : Oper) :: _) _ _); refine fb_load HT3.out.1 (by rfl) (.tmp 3) rfl rfl ?_) | ((with_reducible show wpList _ _ _ ((⟨_, Op.load 28 (.tmp 4), _, _, _, _⟩ : Oper) :: _) _ _); refine fb_load HT3.out.2.1 (by rfl) (.tmp 4) rfl rfl ?_) | fail)
      refine (fless_any HT3.out.2.1.val HT3.out.1.val).mono ?_
      rintro e w4 ⟨rfl, hb4⟩
      rw [HY.out]
      have HT4 := Lib.hid (HT3.out.below hb4)
      clear hb4 HT3
      have a0 : w4.cell? ⟨w.heap.size, 0, none⟩ = some (.int .i64 ka) := HT4.out.1.c0
      have a1 : w4.cell? ⟨w.heap.size, 1, none⟩ = some (.int .i64 ea) := HT4.out.1.c1
      have a2 : w4.cell? ⟨w.heap.size, 2, none⟩ = some (.int .i64 na) := HT4.out.1.c2
      have b0 : w4.cell? ⟨w.heap.size + 1, 0, none⟩ = some (.int .i64 kb) := HT4.out.2.1.c0
      have b1 : w4.cell? ⟨w.heap.size + 1, 1, none⟩ = some (.int .i64 eb) := HT4.out.2.1.c1
      have b2 : w4.cell? ⟨w.heap.size + 1, 2, none⟩ = some (.int .i64 nb) := HT4.out.2.1.c2
      go_wp2_with (first | ((with_reducible show wpList _ _ _ ((⟨_, Op.load 28 (.tmp 4), _, _, _, _⟩ : Oper) :: _) _ _); refine fb_load HT4.out.2.1 (by rfl) (.tmp 4) rfl rfl ?_) | ((with_reducible show wpList _ _ _ ((⟨_, Op.load 28 (.tmp 5), _, _, _, _⟩ : Oper) :: _) _ _); refine fb_load HT4.out.2.2.1 (by rfl) (.tmp 5) rfl rfl ?_) | fail)
      refine (fless_any HT4.out.2.1.val HT4.out.2.2.1.val).mono ?_
      rintro e w5 ⟨rfl, hb5⟩
      rw [HZ.out]
      have HT5 := Lib.hid (HT4.out.below hb5)
      clear hb5 HT4 a0 a1 a2 b0 b1 b2
      cases z with
      | false =>
        go_wp2
        go_ret
        exact ⟨rfl, HT5.out.2.2.2⟩
      | true =>
        have HV := Lib.hid (HW.out rfl)
        go_wp2_with (first | ((with_reducible show wpList _ _ _ ((⟨_, Op.load 28 (.tmp 3), _, _, _, _⟩ : Oper) :: _) _ _); refine fb_load HT5.out.1 (by rfl) (.tmp 3) rfl rfl ?_) | ((with_reducible show wpList _ _ _ ((⟨_, Op.load 28 (.tmp 5), _, _, _, _⟩ : Oper) :: _) _ _); refine fb_load HT5.out.2.2.1 (by rfl) (.tmp 5) rfl rfl ?_) | fail)
        refine (fless_any HT5.out.1.val HT5.out.2.2.1.val).mono ?_
        rintro e w6 ⟨rfl, hb6⟩
        rw [HV.out]
        have HT6 := Lib.hid (HT5.out.below hb6)
        clear hb6 HT5
        go_wp2
        go_ret
        exact ⟨rfl, HT6.out.2.2.2⟩
    · have HX := Lib.hid (show decide (Ft.Fact.less ⟨ka, ea, na, ma⟩ ⟨kb, eb, nb, mb⟩) = false from decide_eq_false hX)
      have HY := Lib.hid (show decide (Ft.Fact.less ⟨kb, eb, nb, mb⟩ ⟨ka, ea, na, ma⟩) = true from decide_eq_true (Ft.less_total hX (by dsimp only; omega)))
      clear hX ck ce cn
      go_enter Try.func8, Try.ntmps8
      go_wp2_with fail
      generalize ((w.alloc (.cells C0 28)).alloc (.cells C1 28)).alloc (.cells C2 28) = w1 at *
      refine (awake_any _).mono ?_
      rintro e w2 ⟨rfl, hb2⟩
      have HT2 := Lib.hid (HT.out.below hb2)
      clear hb2 HT
      go_wp2_with (first | ((with_reducible show wpList _ _ _ ((⟨_, Op.load 28 (.tmp 3), _, _, _, _⟩ : Oper) :: _) _ _); refine fb_load HT2.out.1 (by rfl) (.tmp 3) rfl rfl ?_) | ((with_reducible show wpList _ _ _ ((⟨_, Op.load 28 (.tmp 4), _, _, _, _⟩ : Oper) :: _) _ _); refine fb_load HT2.out.2.1 (by rfl) (.tmp 4) rfl rfl ?_) | fail)
      refine (fless_any HT2.out.1.val HT2.out.2.1.val).mono ?_
      rintro e w3 ⟨rfl, hb3⟩
      rw [HX.out]
      have HT3 := Lib.hid (HT2.out.below hb3)
      clear hb3 HT2
      go_wp2_with (first | ((with_reducible show wpList _ _ _ ((⟨_, Op.load 28 (.tmp 3), _, _, _, _⟩ : Oper) :: _) _ _); refine fb_load HT3.out.1 (by rfl) (.tmp 3) rfl rfl ?_) | ((with_reducible show wpList _ _ _ ((⟨_, Op.load 28 (.tmp 4), _, _, _, _⟩ : Oper) :: _) _ _); refine fb_load HT3.out.2.1 (by rfl) (.tmp 4) rfl rfl ?_) | fail)
      refine (fless_any HT3.out.2.1.val HT3.out.1.val).mono ?_
      rintro e w4 ⟨rfl, hb4⟩
      rw [HY.out]
      have HT4 := Lib.hid (HT3.out.below hb4)
      clear hb4 HT3
      have a0 : w4.cell? ⟨w.heap.size, 0, none⟩ = some (.int .i64 ka) := HT4.out.1.c0
      have a1 : w4.cell? ⟨w.heap.size, 1, none⟩ = some (.int .i64 ea) := HT4.out.1.c1
      have a2 : w4.cell? ⟨w.heap.size, 2, none⟩ = some (.int .i64 na) := HT4.out.1.c2
      have b0 : w4.cell? ⟨w.heap.size + 1, 0, none⟩ = some (.int .i64 kb) := HT4.out.2.1.c0
      have b1 : w4.cell? ⟨w.heap.size + 1, 1, none⟩ = some (.int .i64 eb) := HT4.out.2.1.c1
      have b2 : w4.cell? ⟨w.heap.size + 1, 2, none⟩ = some (.int .i64 nb) := HT4.out.2.1.c2
      go_wp2
      go_ret
      exact ⟨rfl, HT4.out.2.2.2⟩
  have q3 : (na == nb) = true := by simp [cn]
  have HX := Lib.hid (show decide (Ft.Fact.less ⟨ka, ea, na, ma⟩ ⟨kb, eb, nb, mb⟩) = false from decide_eq_false (by subst ck ce cn; exact Ft.less_irr))
  have HY := Lib.hid (show decide (Ft.Fact.less ⟨kb, eb, nb, mb⟩ ⟨ka, ea, na, ma⟩) = false from decide_eq_false (by subst ck ce cn; exact Ft.less_irr))
  clear ck ce cn
  go_enter Try.func8, Try.ntmps8
  go_wp2_with fail
  generalize ((w.alloc (.cells C0 28)).alloc (.cells C1 28)).alloc (.cells C2 28) = w1 at *
  refine (awake_any _).mono ?_
  rintro e w2 ⟨rfl, hb2⟩
  have HT2 := Lib.hid (HT.out.below hb2)
  clear hb2 HT
  go_wp2_with (first | ((with_reducible show wpList _ _ _ ((⟨_, Op.load 28 (.tmp 3), _, _, _, _⟩ : Oper) :: _) _ _); refine fb_load HT2.out.1 (by rfl) (.tmp 3) rfl rfl ?_) | ((with_reducible show wpList _ _ _ ((⟨_, Op.load 28 (.tmp 4), _, _, _, _⟩ : Oper) :: _) _ _); refine fb_load HT2.out.2.1 (by rfl) (.tmp 4) rfl rfl ?_) | fail)
  refine (fless_any HT2.out.1.val HT2.out.2.1.val).mono ?_
  rintro e w3 ⟨rfl, hb3⟩
  rw [HX.out]
  have HT3 := Lib.hid (HT2.out.below hb3)
  clear hb3 HT2
  go_wp2_with (first | ((with_reducible show wpList _ _ _ ((⟨_, Op.load 28 (.tmp 3), _, _, _, _⟩ : Oper) :: _) _ _); refine fb_load HT3.out.1 (by rfl) (.tmp 3) rfl rfl ?_) | ((with_reducible show wpList _ _ _ ((⟨_, Op.load 28 (.tmp 4), _, _, _, _⟩ : Oper) :: _) _ _); refine fb_load HT3.out.2.1 (by rfl) (.tmp 4) rfl rfl ?_) | fail)
  refine (fless_any HT3.out.2.1.val HT3.out.1.val).mono ?_
  rintro e w4 ⟨rfl, hb4⟩
  rw [HY.out]
  have HT4 := Lib.hid (HT3.out.below hb4)
  clear hb4 HT3
  have a0 : w4.cell? ⟨w.heap.size, 0, none⟩ = some (.int .i64 ka) := HT4.out.1.c0
  have a1 : w4.cell? ⟨w.heap.size, 1, none⟩ = some (.int .i64 ea) := HT4.out.1.c1
  have a2 : w4.cell? ⟨w.heap.size, 2, none⟩ = some (.int .i64 na) := HT4.out.1.c2
  have b0 : w4.cell? ⟨w.heap.size + 1, 0, none⟩ = some (.int .i64 kb) := HT4.out.2.1.c0
  have b1 : w4.cell? ⟨w.heap.size + 1, 1, none⟩ = some (.int .i64 eb) := HT4.out.2.1.c1
  have b2 : w4.cell? ⟨w.heap.size + 1, 2, none⟩ = some (.int .i64 nb) := HT4.out.2.1.c2
  go_wp2
  go_ret
  exact ⟨rfl, HT4.out.2.2.2⟩
end Go.Proofs.Ytcfchkffanfehaa
