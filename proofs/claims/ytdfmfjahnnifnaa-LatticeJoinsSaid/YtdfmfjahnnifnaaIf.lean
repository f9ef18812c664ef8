/-
  The walks of the document's Check of facts.
-/
import Derived.Test.YtdfmfjahnnifnaaIe
namespace Go.Proofs.Ytdfmfjahnnifnaa
set_option maxRecDepth 20000
set_option linter.unusedSimpArgs false
set_option linter.unusedVariables false
open Go.RowKit
set_option maxHeartbeats 4000000 in
theorem rfcheck_any {w : World} {S : Nat → Prop} {v : Value} {f : Ft.Fact} (h : Fv w S v f) (N : Int) :
    Calls Try.prog 41 #[.int .i64 N, v] w fun e w' => e = .returned (.int .i64 (f.chk N)) ∧ Below w.heap.size w w' := by
  obtain ⟨k, ep, n, m⟩ := f
  obtain ⟨P, M, rfl, hb⟩ := fv_box h
  clear h
  have k0 : (w.alloc (.cells P 30)).cell? ⟨w.heap.size, 0, none⟩ = some (.int .i64 k) := hb.c0
  have k1 : (w.alloc (.cells P 30)).cell? ⟨w.heap.size, 1, none⟩ = some (.int .i64 ep) := hb.c1
  have k2 : (w.alloc (.cells P 30)).cell? ⟨w.heap.size, 2, none⟩ = some (.int .i64 n) := hb.c2
  have HF := Lib.hid hb
  have HB := Lib.hid (below_alloc w (.cells P 30))
  clear hb
  by_cases z1 : N < 1
  · have d1 : decide (N < (1 : Int)) = true := decide_eq_true z1
    have HN := Lib.hid (show Ft.Fact.chk ⟨k, ep, n, m⟩ N = 100 from Ft.chk_no fun h => by have := h.1; omega)
    clear z1
    go_enter Try.func41, Try.ntmps41
    go_wp2
    go_ret
    exact ⟨ret_i64 HN.out.symm, HB.out⟩
  have d1 : decide (N < (1 : Int)) = false := decide_eq_false z1
  by_cases z2 : 9 < N
  · have d2 : decide ((9 : Int) < N) = true := decide_eq_true z2
    have HN := Lib.hid (show Ft.Fact.chk ⟨k, ep, n, m⟩ N = 100 from Ft.chk_no fun h => by have := h.2.1; omega)
    clear z1 z2
    go_enter Try.func41, Try.ntmps41
    go_wp2
    go_ret
    exact ⟨ret_i64 HN.out.symm, HB.out⟩
  have d2 : decide ((9 : Int) < N) = false := decide_eq_false z2
  by_cases z3 : n < 0
  · have d3 : decide (n < (0 : Int)) = true := decide_eq_true z3
    have HN := Lib.hid (show Ft.Fact.chk ⟨k, ep, n, m⟩ N = 100 from Ft.chk_no fun h => by have := h.2.2.1; simp only at this; omega)
    clear z1 z2 z3
    go_enter Try.func41, Try.ntmps41
    go_wp2
    go_ret
    exact ⟨ret_i64 HN.out.symm, HB.out⟩
  have d3 : decide (n < (0 : Int)) = false := decide_eq_false z3
  by_cases z4 : N ≤ n
  · have d4 : decide (N ≤ n) = true := decide_eq_true z4
    have HN := Lib.hid (show Ft.Fact.chk ⟨k, ep, n, m⟩ N = 100 from Ft.chk_no fun h => by have := h.2.2.2.1; simp only at this; omega)
    clear z1 z2 z3 z4
    go_enter Try.func41, Try.ntmps41
    go_wp2
    go_ret
    exact ⟨ret_i64 HN.out.symm, HB.out⟩
  have d4 : decide (N ≤ n) = false := decide_eq_false z4
  by_cases z5 : ep < 16
  · have d5 : decide (ep < (16 : Int)) = true := decide_eq_true z5
    have HN := Lib.hid (show Ft.Fact.chk ⟨k, ep, n, m⟩ N = 100 from Ft.chk_no fun h => by have := h.2.2.2.2.1.1; simp only at this; omega)
    clear z1 z2 z3 z4 z5
    go_enter Try.func41, Try.ntmps41
    go_wp2
    go_ret
    exact ⟨ret_i64 HN.out.symm, HB.out⟩
  have d5 : decide (ep < (16 : Int)) = false := decide_eq_false z5
  by_cases z6 : 1099511627776 < ep
  · have d6 : decide ((1099511627776 : Int) < ep) = true := decide_eq_true z6
    have HN := Lib.hid (show Ft.Fact.chk ⟨k, ep, n, m⟩ N = 100 from Ft.chk_no fun h => by have := h.2.2.2.2.1.2; simp only at this; omega)
    clear z1 z2 z3 z4 z5 z6
    go_enter Try.func41, Try.ntmps41
    go_wp2
    go_ret
    exact ⟨ret_i64 HN.out.symm, HB.out⟩
  have d6 : decide ((1099511627776 : Int) < ep) = false := decide_eq_false z6
  have z7 : Ft.isEp ep := ⟨by omega, by omega⟩
  obtain ⟨x, hx⟩ : ∃ x, ep % 16 = x := ⟨_, rfl⟩
  have HO := Lib.hid (show Ft.ofN ep = x by unfold Ft.ofN; rw [if_pos z7]; exact hx)
  have HK : Hid (Ft.Fact.ok ⟨k, ep, n, m⟩ N ↔ x < N ∧ Ft.Fact.fits ⟨k, ep, n, m⟩ x) := Lib.hid (by
    rw [← hx]
    exact ⟨fun h => ⟨h.2.2.2.2.2.1, h.2.2.2.2.2.2⟩, fun h => ⟨by omega, by omega, by show 0 ≤ n; omega, by show n < N; omega, z7, h.1, h.2⟩⟩)
  have HNO : Hid (¬ (x < N ∧ Ft.Fact.fits ⟨k, ep, n, m⟩ x) → Ft.Fact.chk ⟨k, ep, n, m⟩ N = 100) := Lib.hid (fun h => Ft.chk_no fun e => h (HK.out.1 e))
  have HYES : Hid (x < N ∧ Ft.Fact.fits ⟨k, ep, n, m⟩ x → Ft.Fact.chk ⟨k, ep, n, m⟩ N = 0) := Lib.hid (fun h => Ft.chk_ok (HK.out.2 h))
  clear z1 z2 z3 z4 z5 z6 z7 hx HK
  by_cases y0 : x < N
  · have e0 : decide (x < N) = true := decide_eq_true y0
    by_cases y1 : k = 1
    · have e1 : (k == 1) = true := by simp [y1]
      by_cases y2 : x = n
      · have e2 : (x == n) = true := by simp [y2]
        by_cases y3 : m.bad
        · have HC := Lib.hid (show Mf.chk m = 50 by unfold Mf.chk; rw [if_pos y3])
          have HN := Lib.hid (HNO.out (fun h => by
            rcases h.2 with h | h
            · exact h.2.2 y3
            · have := h.1; simp only at this; omega))
          clear y0 y1 y2 y3 HNO HYES
          go_enter Try.func41, Try.ntmps41
          go_wp2_with (first | (go_at_call 54; refine (rof_any _ _).mono ?_; rintro e w2 ⟨rfl, rfl⟩; rw [HO.out]) | ((with_reducible show wpList _ _ _ ((⟨_, Op.load 28 (.tmp 57), _, _, _, _⟩ : Oper) :: _) _ _); refine fb_man HF.out (by rfl) (.tmp 57) rfl rfl ?_) | fail)
          refine (rcheck_any HF.out.mv).mono ?_
          rintro e w2 ⟨rfl, hb2⟩
          rw [HC.out]
          have HB2 := Lib.hid (below_box hb2)
          clear hb2
          go_wp2
          go_ret
          exact ⟨ret_i64 HN.out.symm, HB2.out⟩
        · have HC := Lib.hid (Mf.chk_zero y3)
          have HN := Lib.hid (HYES.out ⟨y0, Or.inl ⟨y1, y2.symm, y3⟩⟩)
          clear y0 y1 y2 y3 HNO HYES
          go_enter Try.func41, Try.ntmps41
          go_wp2_with (first | (go_at_call 54; refine (rof_any _ _).mono ?_; rintro e w2 ⟨rfl, rfl⟩; rw [HO.out]) | ((with_reducible show wpList _ _ _ ((⟨_, Op.load 28 (.tmp 57), _, _, _, _⟩ : Oper) :: _) _ _); refine fb_man HF.out (by rfl) (.tmp 57) rfl rfl ?_) | fail)
          refine (rcheck_any HF.out.mv).mono ?_
          rintro e w2 ⟨rfl, hb2⟩
          rw [HC.out]
          have HB2 := Lib.hid (below_box hb2)
          clear hb2
          go_wp2
          go_ret
          exact ⟨ret_i64 HN.out.symm, HB2.out⟩
      · have e2 : (x == n) = false := by simp [y2]
        have HN := Lib.hid (HNO.out (fun h => by
          rcases h.2 with h | h
          · exact y2 h.2.1.symm
          · have := h.1; simp only at this; omega))
        clear y0 y1 y2 HNO HYES
        go_enter Try.func41, Try.ntmps41
        go_wp2_with (first | (go_at_call 54; refine (rof_any _ _).mono ?_; rintro e w2 ⟨rfl, rfl⟩; rw [HO.out]) | fail)
        go_ret
        exact ⟨ret_i64 HN.out.symm, HB.out⟩
    · have e1 : (k == 1) = false := by simp [y1]
      by_cases y2 : k = 2 ∨ k = 3
      · obtain ⟨b, hb⟩ : ∃ b, decide (Ft.emp m) = b := ⟨_, rfl⟩
        have HR := Lib.hid hb
        have HN := Lib.hid (show Ft.Fact.chk ⟨k, ep, n, m⟩ N = if b = true then 0 else 100 by
          by_cases y3 : Ft.emp m
          · rw [← hb, decide_eq_true y3, if_pos rfl]
            exact HYES.out ⟨y0, Or.inr ⟨y2, y3⟩⟩
          · rw [← hb, decide_eq_false y3, if_neg (by decide)]
            exact HNO.out (fun h => by
              rcases h.2 with h | h
              · exact y1 h.1
              · exact y3 h.2))
        clear y0 y1 hb HNO HYES
        rcases y2 with y2 | y2
        · have e2 : (k == 2) = true := by simp [y2]
          clear y2
          go_enter Try.func41, Try.ntmps41
          go_wp2_with (first | (go_at_call 54; refine (rof_any _ _).mono ?_; rintro e w2 ⟨rfl, rfl⟩; rw [HO.out]) | ((with_reducible show wpList _ _ _ ((⟨_, Op.load 28 (.tmp 65), _, _, _, _⟩ : Oper) :: _) _ _); refine fb_man HF.out (by rfl) (.tmp 65) rfl rfl ?_) | fail)
          refine (rnone_any HF.out.mv).mono ?_
          rintro e w2 ⟨rfl, hb2⟩
          rw [HR.out]
          have HB2 := Lib.hid (below_box hb2)
          clear hb2
          cases b with
          | true =>
            go_wp2
            go_ret
            exact ⟨ret_i64 HN.out.symm, HB2.out⟩
          | false =>
            go_wp2
            go_ret
            exact ⟨ret_i64 HN.out.symm, HB2.out⟩
        · have e2 : (k == 2) = false := by simp [y2]
          have e3 : (k == 3) = true := by simp [y2]
          clear y2
          go_enter Try.func41, Try.ntmps41
          go_wp2_with (first | (go_at_call 54; refine (rof_any _ _).mono ?_; rintro e w2 ⟨rfl, rfl⟩; rw [HO.out]) | ((with_reducible show wpList _ _ _ ((⟨_, Op.load 28 (.tmp 65), _, _, _, _⟩ : Oper) :: _) _ _); refine fb_man HF.out (by rfl) (.tmp 65) rfl rfl ?_) | fail)
          refine (rnone_any HF.out.mv).mono ?_
          rintro e w2 ⟨rfl, hb2⟩
          rw [HR.out]
          have HB2 := Lib.hid (below_box hb2)
          clear hb2
          cases b with
          | true =>
            go_wp2
            go_ret
            exact ⟨ret_i64 HN.out.symm, HB2.out⟩
          | false =>
            go_wp2
            go_ret
            exact ⟨ret_i64 HN.out.symm, HB2.out⟩
      · have e2 : (k == 2) = false := by simp; omega
        have e3 : (k == 3) = false := by simp; omega
        have HN := Lib.hid (HNO.out (fun h => by
          rcases h.2 with h | h
          · exact y1 h.1
          · exact y2 h.1))
        clear y0 y1 y2 HNO HYES
        go_enter Try.func41, Try.ntmps41
        go_wp2_with (first | (go_at_call 54; refine (rof_any _ _).mono ?_; rintro e w2 ⟨rfl, rfl⟩; rw [HO.out]) | fail)
        go_ret
        exact ⟨ret_i64 HN.out.symm, HB.out⟩
  · have e0 : decide (x < N) = false := decide_eq_false y0
    have HN := Lib.hid (HNO.out (fun h => y0 h.1))
    by_cases y1 : k = 1
    · have e1 : (k == 1) = true := by simp [y1]
      clear y0 y1 HNO HYES
      go_enter Try.func41, Try.ntmps41
      go_wp2_with (first | (go_at_call 54; refine (rof_any _ _).mono ?_; rintro e w2 ⟨rfl, rfl⟩; rw [HO.out]) | fail)
      go_ret
      exact ⟨ret_i64 HN.out.symm, HB.out⟩
    have e1 : (k == 1) = false := by simp [y1]
    by_cases y2 : k = 2
    · have e2 : (k == 2) = true := by simp [y2]
      clear y0 y1 y2 HNO HYES
      go_enter Try.func41, Try.ntmps41
      go_wp2_with (first | (go_at_call 54; refine (rof_any _ _).mono ?_; rintro e w2 ⟨rfl, rfl⟩; rw [HO.out]) | ((with_reducible show wpList _ _ _ ((⟨_, Op.load 28 (.tmp 65), _, _, _, _⟩ : Oper) :: _) _ _); refine fb_man HF.out (by rfl) (.tmp 65) rfl rfl ?_) | fail)
      refine (rnone_any HF.out.mv).mono ?_
      rintro e w2 ⟨rfl, hb2⟩
      obtain ⟨b, hb⟩ : ∃ b, decide (Ft.emp m) = b := ⟨_, rfl⟩
      rw [hb]
      have HB2 := Lib.hid (below_box hb2)
      clear hb2 hb
      go_wp2
      go_ret
      exact ⟨ret_i64 HN.out.symm, HB2.out⟩
    have e2 : (k == 2) = false := by simp [y2]
    by_cases y3 : k = 3
    · have e3 : (k == 3) = true := by simp [y3]
      clear y0 y1 y2 y3 HNO HYES
      go_enter Try.func41, Try.ntmps41
      go_wp2_with (first | (go_at_call 54; refine (rof_any _ _).mono ?_; rintro e w2 ⟨rfl, rfl⟩; rw [HO.out]) | ((with_reducible show wpList _ _ _ ((⟨_, Op.load 28 (.tmp 65), _, _, _, _⟩ : Oper) :: _) _ _); refine fb_man HF.out (by rfl) (.tmp 65) rfl rfl ?_) | fail)
      refine (rnone_any HF.out.mv).mono ?_
      rintro e w2 ⟨rfl, hb2⟩
      obtain ⟨b, hb⟩ : ∃ b, decide (Ft.emp m) = b := ⟨_, rfl⟩
      rw [hb]
      have HB2 := Lib.hid (below_box hb2)
      clear hb2 hb
      go_wp2
      go_ret
      exact ⟨ret_i64 HN.out.symm, HB2.out⟩
    have e3 : (k == 3) = false := by simp [y3]
    clear y0 y1 y2 y3 HNO HYES
    go_enter Try.func41, Try.ntmps41
    go_wp2_with (first | (go_at_call 54; refine (rof_any _ _).mono ?_; rintro e w2 ⟨rfl, rfl⟩; rw [HO.out]) | fail)
    go_ret
    exact ⟨ret_i64 HN.out.symm, HB.out⟩
end Go.Proofs.Ytdfmfjahnnifnaa
