/-
  The walks of fits and Check, and the document's Check of facts.
-/
import Derived.Test.YtdfmfjahnnifnaaId
namespace Go.Proofs.Ytdfmfjahnnifnaa
set_option maxRecDepth 20000
set_option linter.unusedSimpArgs false
set_option linter.unusedVariables false
open Go.RowKit
theorem fb_load {w : World} {A : Nat} {P : Array Value} {M : List Value} {f : Ft.Fact} (h : FB w A P M f) {ops : Array Oper} {rest : List Oper} {op : Oper} {a : Act} {Q : Exit → Act → World → Prop} (hgd : Region.wanted op (yielded ops a.tmps) = true) (x : Operand) (ho : op.op = .load 30 x) (hx : a.eval x = .pointer (some ⟨A, 0, none⟩))
    (hn : wpList Try.prog ops Q rest (a.put op.dst (.agg P)) w) : wpList Try.prog ops Q (op :: rest) a w :=
  wpList_step fun _ hK => by
    rw [if_pos hgd]
    exact wp_load_row _ x ho A hx 30 P (0, 0) _ h.whole Try.underlying30 rfl h.info (hK _ _ hn)
theorem fb_man {w : World} {A : Nat} {P : Array Value} {M : List Value} {f : Ft.Fact} (h : FB w A P M f) {ops : Array Oper} {rest : List Oper} {op : Oper} {a : Act} {Q : Exit → Act → World → Prop} (hgd : Region.wanted op (yielded ops a.tmps) = true) (x : Operand) (ho : op.op = .load 28 x) (hx : a.eval x = .pointer (some ⟨A, 3, none⟩))
    (hn : wpList Try.prog ops Q rest (a.put op.dst (.agg M.toArray)) w) : wpList Try.prog ops Q (op :: rest) a w :=
  wpList_step fun _ hK => by
    rw [if_pos hgd]
    exact wp_load_mid _ x ho A 3 hx M _ h.tail Try.underlying28 rfl h.infoM (hK _ _ hn)
set_option maxHeartbeats 2000000 in
theorem fits_any {w : World} {S : Nat → Prop} {v : Value} {f : Ft.Fact} (h : Fv w S v f) (nd : Int) :
    Calls Try.prog 59 #[v, .int .i64 nd] w fun e w' => e = .returned (.bool (decide (f.fits nd))) ∧ Below w.heap.size w w' := by
  obtain ⟨k, ep, n, m⟩ := f
  obtain ⟨P, M, rfl, hb⟩ := fv_box h
  clear h
  have k0 : (w.alloc (.cells P 30)).cell? ⟨w.heap.size, 0, none⟩ = some (.int .i64 k) := hb.c0
  have k2 : (w.alloc (.cells P 30)).cell? ⟨w.heap.size, 2, none⟩ = some (.int .i64 n) := hb.c2
  have HF := Lib.hid hb
  have HB := Lib.hid (below_alloc w (.cells P 30))
  clear hb
  by_cases z1 : k = 1
  · have d1 : (k == 1) = true := by simp [z1]
    by_cases z2 : n = nd
    · have d2 : (n == nd) = true := by simp [z2]
      obtain ⟨r, hr⟩ : ∃ r, Mf.chk m = r := ⟨_, rfl⟩
      obtain ⟨b, hb⟩ : ∃ b, (r == 0) = b := ⟨_, rfl⟩
      have HR := Lib.hid hr
      have HN := Lib.hid (show decide (Ft.Fact.fits ⟨k, ep, n, m⟩ nd) = b by
        rw [← hb, ← hr]
        have e : Ft.Fact.fits ⟨k, ep, n, m⟩ nd ↔ Mf.chk m = 0 := by
          refine ⟨fun h => ?_, fun h => Or.inl ⟨z1, z2, fun hbad => Mf.chk_ne.2 hbad h⟩⟩
          rcases h with h | h
          · exact Mf.chk_zero h.2.2
          · exfalso; have := h.1; simp only at this; omega
        simp only [e]
        exact (Bool.beq_eq_decide_eq _ _).symm)
      clear z1 z2 hr
      go_enter Try.func59, Try.ntmps59
      go_wp2_with (first | ((with_reducible show wpList _ _ _ ((⟨_, Op.load 28 (.tmp 14), _, _, _, _⟩ : Oper) :: _) _ _); refine fb_man HF.out (by rfl) (.tmp 14) rfl rfl ?_) | fail)
      refine (check_any HF.out.mv).mono ?_
      rintro e w2 ⟨rfl, hb2⟩
      rw [HR.out]
      have HB2 := Lib.hid (below_box hb2)
      clear hb2
      go_wp2
      go_ret
      exact ⟨ret_bool HN.out.symm, HB2.out⟩
    · have d2 : (n == nd) = false := by simp [z2]
      have HN := Lib.hid (show decide (Ft.Fact.fits ⟨k, ep, n, m⟩ nd) = false from decide_eq_false fun h => by
        rcases h with h | h
        · exact z2 h.2.1
        · have := h.1; simp only at this; omega)
      clear z1 z2
      go_enter Try.func59, Try.ntmps59
      go_wp2
      go_ret
      exact ⟨ret_bool HN.out.symm, HB.out⟩
  · have d1 : (k == 1) = false := by simp [z1]
    by_cases z2 : k = 2 ∨ k = 3
    · obtain ⟨b, hb⟩ : ∃ b, decide (Ft.emp m) = b := ⟨_, rfl⟩
      have HR := Lib.hid hb
      have HN := Lib.hid (show decide (Ft.Fact.fits ⟨k, ep, n, m⟩ nd) = b by
        rw [← hb]
        have e : Ft.Fact.fits ⟨k, ep, n, m⟩ nd ↔ Ft.emp m := by
          refine ⟨fun h => ?_, fun h => Or.inr ⟨z2, h⟩⟩
          rcases h with h | h
          · exact absurd h.1 z1
          · exact h.2
        simp only [e])
      clear hb z1
      rcases z2 with z2 | z2
      · have d2 : (k == 2) = true := by simp [z2]
        clear z2
        go_enter Try.func59, Try.ntmps59
        go_wp2_with (first | ((with_reducible show wpList _ _ _ ((⟨_, Op.load 28 (.tmp 22), _, _, _, _⟩ : Oper) :: _) _ _); refine fb_man HF.out (by rfl) (.tmp 22) rfl rfl ?_) | fail)
        refine (isEmpty_any HF.out.mv).mono ?_
        rintro e w2 ⟨rfl, hb2⟩
        rw [HR.out]
        have HB2 := Lib.hid (below_box hb2)
        clear hb2
        go_wp2
        go_ret
        exact ⟨ret_bool HN.out.symm, HB2.out⟩
      · have d2 : (k == 2) = false := by simp [z2]
        have d3 : (k == 3) = true := by simp [z2]
        clear z2
        go_enter Try.func59, Try.ntmps59
        go_wp2_with (first | ((with_reducible show wpList _ _ _ ((⟨_, Op.load 28 (.tmp 22), _, _, _, _⟩ : Oper) :: _) _ _); refine fb_man HF.out (by rfl) (.tmp 22) rfl rfl ?_) | fail)
        refine (isEmpty_any HF.out.mv).mono ?_
        rintro e w2 ⟨rfl, hb2⟩
        rw [HR.out]
        have HB2 := Lib.hid (below_box hb2)
        clear hb2
        go_wp2
        go_ret
        exact ⟨ret_bool HN.out.symm, HB2.out⟩
    · have d2 : (k == 2) = false := by simp; omega
      have d3 : (k == 3) = false := by simp; omega
      have HN := Lib.hid (show decide (Ft.Fact.fits ⟨k, ep, n, m⟩ nd) = false from decide_eq_false fun h => by
        rcases h with h | h
        · exact z1 h.1
        · exact z2 h.1)
      clear z1 z2
      go_enter Try.func59, Try.ntmps59
      go_wp2
      go_ret
      exact ⟨ret_bool HN.out.symm, HB.out⟩
set_option maxHeartbeats 4000000 in
theorem fcheck_any {w : World} {S : Nat → Prop} {v : Value} {f : Ft.Fact} (h : Fv w S v f) (N : Int) :
    Calls Try.prog 35 #[.int .i64 N, v] w fun e w' => e = .returned (.int .i64 (f.chk N)) ∧ Below w.heap.size w w' := by
  obtain ⟨k, ep, n, m⟩ := f
  obtain ⟨P, M, rfl, hb⟩ := fv_box h
  clear h
  have k1 : (w.alloc (.cells P 30)).cell? ⟨w.heap.size, 1, none⟩ = some (.int .i64 ep) := hb.c1
  have k2 : (w.alloc (.cells P 30)).cell? ⟨w.heap.size, 2, none⟩ = some (.int .i64 n) := hb.c2
  have HF := Lib.hid hb
  have HB := Lib.hid (below_alloc w (.cells P 30))
  clear hb
  by_cases z1 : N < 1
  · have d1 : decide (N < (1 : Int)) = true := decide_eq_true z1
    have HN := Lib.hid (show Ft.Fact.chk ⟨k, ep, n, m⟩ N = 100 from Ft.chk_no fun h => by have := h.1; omega)
    clear z1
    go_enter Try.func35, Try.ntmps35
    go_wp2
    go_ret
    exact ⟨ret_i64 HN.out.symm, HB.out⟩
  have d1 : decide (N < (1 : Int)) = false := decide_eq_false z1
  by_cases z2 : 9 < N
  · have d2 : decide ((9 : Int) < N) = true := decide_eq_true z2
    have HN := Lib.hid (show Ft.Fact.chk ⟨k, ep, n, m⟩ N = 100 from Ft.chk_no fun h => by have := h.2.1; omega)
    clear z1 z2
    go_enter Try.func35, Try.ntmps35
    go_wp2
    go_ret
    exact ⟨ret_i64 HN.out.symm, HB.out⟩
  have d2 : decide ((9 : Int) < N) = false := decide_eq_false z2
  by_cases z3 : 0 ≤ n ∧ n < N
  case neg =>
    have HW := Lib.hid (show decide (0 ≤ n ∧ n < N) = false from decide_eq_false z3)
    have HN := Lib.hid (show Ft.Fact.chk ⟨k, ep, n, m⟩ N = 100 from Ft.chk_no fun h => z3 ⟨h.2.2.1, h.2.2.2.1⟩)
    clear z1 z2 z3
    go_enter Try.func35, Try.ntmps35
    go_wp2_with (first | (go_at_call 57; refine (below_any _ _ _).mono ?_; rintro e w2 ⟨rfl, rfl⟩; first | rw [HW.out] | rw [HW.out]) | fail)
    go_ret
    exact ⟨ret_i64 HN.out.symm, HB.out⟩
  have HW := Lib.hid (show decide (0 ≤ n ∧ n < N) = true from decide_eq_true z3)
  by_cases z4 : Ft.isEp ep
  case neg =>
    have HI := Lib.hid (show decide (Ft.isEp ep) = false from decide_eq_false z4)
    have HN := Lib.hid (show Ft.Fact.chk ⟨k, ep, n, m⟩ N = 100 from Ft.chk_no fun h => z4 h.2.2.2.2.1)
    clear z1 z2 z3 z4
    go_enter Try.func35, Try.ntmps35
    go_wp2_with (first | (go_at_call 57; refine (below_any _ _ _).mono ?_; rintro e w2 ⟨rfl, rfl⟩; first | rw [HW.out] | rw [HW.out]) | (go_at_call 58; refine (isEpoch_any _ _).mono ?_; rintro e w2 ⟨rfl, rfl⟩; rw [HI.out]) | fail)
    go_ret
    exact ⟨ret_i64 HN.out.symm, HB.out⟩
  have HI := Lib.hid (show decide (Ft.isEp ep) = true from decide_eq_true z4)
  obtain ⟨x, hx⟩ : ∃ x, ep % 16 = x := ⟨_, rfl⟩
  have HO := Lib.hid (show Ft.ofN ep = x by unfold Ft.ofN; rw [if_pos z4]; exact hx)
  by_cases z5 : x < N
  case neg =>
    have HX := Lib.hid (show decide (0 ≤ x ∧ x < N) = false from decide_eq_false fun h => z5 h.2)
    have HN := Lib.hid (show Ft.Fact.chk ⟨k, ep, n, m⟩ N = 100 from Ft.chk_no fun h => z5 (by rw [← hx]; exact h.2.2.2.2.2.1))
    clear z1 z2 z3 z4 z5 hx
    go_enter Try.func35, Try.ntmps35
    go_wp2_with (first | (go_at_call 57; refine (below_any _ _ _).mono ?_; rintro e w2 ⟨rfl, rfl⟩; first | rw [HW.out] | rw [HX.out]) | (go_at_call 58; refine (isEpoch_any _ _).mono ?_; rintro e w2 ⟨rfl, rfl⟩; rw [HI.out]) | (go_at_call 37; refine (of_any _ _).mono ?_; rintro e w2 ⟨rfl, rfl⟩; rw [HO.out]) | fail)
    go_ret
    exact ⟨ret_i64 HN.out.symm, HB.out⟩
  have HX := Lib.hid (show decide (0 ≤ x ∧ x < N) = true from decide_eq_true ⟨by omega, z5⟩)
  obtain ⟨b, hb⟩ : ∃ b, decide (Ft.Fact.fits ⟨k, ep, n, m⟩ x) = b := ⟨_, rfl⟩
  have HT := Lib.hid hb
  have HN := Lib.hid (show Ft.Fact.chk ⟨k, ep, n, m⟩ N = if b = true then 0 else 100 by
    have e : Ft.Fact.ok ⟨k, ep, n, m⟩ N ↔ b = true := by
      rw [← hb, decide_eq_true_iff]
      refine ⟨fun h => by rw [← hx]; exact h.2.2.2.2.2.2, fun h => ⟨by omega, by omega, z3.1, z3.2, z4, by show ep % 16 < N; omega, by show Ft.Fact.fits _ (ep % 16); rw [hx]; exact h⟩⟩
    unfold Ft.Fact.chk
    simp only [e])
  clear z1 z2 z3 z4 z5 hx hb
  go_enter Try.func35, Try.ntmps35
  go_wp2_with (first | (go_at_call 57; refine (below_any _ _ _).mono ?_; rintro e w2 ⟨rfl, rfl⟩; first | rw [HW.out] | rw [HX.out]) | (go_at_call 58; refine (isEpoch_any _ _).mono ?_; rintro e w2 ⟨rfl, rfl⟩; rw [HI.out]) | (go_at_call 37; refine (of_any _ _).mono ?_; rintro e w2 ⟨rfl, rfl⟩; rw [HO.out]) | ((with_reducible show wpList _ _ _ ((⟨_, Op.load 30 (.tmp 3), _, _, _, _⟩ : Oper) :: _) _ _); refine fb_load HF.out (by rfl) (.tmp 3) rfl rfl ?_) | fail)
  refine (fits_any HF.out.val x).mono ?_
  rintro e w2 ⟨rfl, hb2⟩
  rw [HT.out]
  have HB2 := Lib.hid (below_box hb2)
  clear hb2
  cases b with
  | true =>
    go_wp2
    go_ret
    exact ⟨ret_i64 HN.out.symm, HB2.out⟩
  | false =>
    go_wp2
    go_ret
    exact ⟨ret_i64 HN.out.symm, HB2.out⟩
end Go.Proofs.Ytdfmfjahnnifnaa
