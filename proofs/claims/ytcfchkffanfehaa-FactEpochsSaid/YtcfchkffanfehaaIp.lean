/-
  The walk of FactEpochs.
-/
import Derived.Test.YtcfchkffanfehaaIn
namespace Go.Proofs.Ytcfchkffanfehaa
set_option maxRecDepth 20000
set_option linter.unusedSimpArgs false
set_option linter.unusedVariables false
open Go.RowKit
set_option maxHeartbeats 4000000 in
theorem epochs_walk (p n q m : Int) (w : World) (hp0 : 0 ≤ p) (hp1 : p < 256) (hn0 : 0 ≤ n) (hn1 : n < 4294967296) (hq0 : 0 ≤ q) (hq1 : q < 256) (hm0 : 0 ≤ m) (hm1 : m < 4294967296) :
    Calls Try.prog 7 #[.int .u8 p, .int .u32 n, .int .u8 q, .int .u32 m] w fun e w' => e = .returned (.bool true) ∧ Below w.heap.size w w' := by
  obtain ⟨a, ha⟩ : ∃ a, p.tmod 9 = a := ⟨_, rfl⟩
  obtain ⟨b, hb⟩ : ∃ b, q.tmod 9 = b := ⟨_, rfl⟩
  have ha' : p % 9 = a := by rw [← Int.tmod_eq_emod_of_nonneg hp0]; exact ha
  have hb' : q % 9 = b := by rw [← Int.tmod_eq_emod_of_nonneg hq0]; exact hb
  have ra : 0 ≤ a ∧ a < 9 := by omega
  have rb : 0 ≤ b ∧ b < 9 := by omega
  have t1 : IntKind.i64.wrap p = p := IntWalk.i64_in _ (by omega)
  have t2 : IntKind.i64.wrap q = q := IntWalk.i64_in _ (by omega)
  have t3 : IntKind.i64.wrap n = n := IntWalk.i64_in _ (by omega)
  have t4 : IntKind.i64.wrap m = m := IntWalk.i64_in _ (by omega)
  obtain ⟨N, hN⟩ : ∃ N, n + 1 = N := ⟨_, rfl⟩
  obtain ⟨M, hM⟩ : ∃ M, m + 1 = M := ⟨_, rfl⟩
  have t5 : IntKind.i64.wrap (n + 1) = N := by rw [hN]; exact IntWalk.i64_in _ (by omega)
  have t6 : IntKind.i64.wrap (m + 1) = M := by rw [hM]; exact IntWalk.i64_in _ (by omega)
  have z9 : ((9 : Int) == 0) = false := rfl
  obtain ⟨x, hx⟩ : ∃ x, 16 * N + a = x := ⟨_, rfl⟩
  obtain ⟨y, hy⟩ : ∃ y, 16 * M + b = y := ⟨_, rfl⟩
  have HX := Lib.hid (show Ft.ep a N = x by unfold Ft.ep; rw [if_pos ⟨ra.1, ra.2, by omega, by omega⟩]; exact hx)
  have HY := Lib.hid (show Ft.ep b M = y by unfold Ft.ep; rw [if_pos ⟨rb.1, rb.2, by omega, by omega⟩]; exact hy)
  have hep : Ft.isEp x := ⟨by omega, by omega⟩
  have HO := Lib.hid (And.intro (show Ft.ofN x = a by unfold Ft.ofN; rw [if_pos hep]; omega) (show Ft.ofK x = N by unfold Ft.ofK; rw [if_pos hep]; omega))
  clear hep
  by_cases c1 : a = b
  · have e1 : (a == b) = true := by simp [c1]
    by_cases c2 : n = m
    · have e2 : (n == m) = true := by simp [c2]
      have e3 : (x == y) = true := by simp; omega
      have e4 : decide (m ≤ n) = true := decide_eq_true (by omega)
      clear ha' hb' ra rb hN hM hx hy c1 c2 hp0 hp1 hq0 hq1 hn0 hn1 hm0 hm1
      go_enter Try.func7, Try.ntmps7
      go_wp2_with (first | (go_at_call 11; refine (awake_any _).mono ?_; rintro e w1 ⟨rfl, hb1⟩; have HB := Lib.hid hb1; clear hb1) | (go_at_call 21; refine (epoch_any _ _ _).mono ?_; rintro e w' ⟨rfl, rfl⟩; first | rw [HX.out] | rw [HY.out]) | (go_at_call 15; refine (of_any _ _).mono ?_; rintro e w' ⟨rfl, rfl⟩; rw [HO.out.1, HO.out.2]) | fail)
      go_ret
      exact ⟨rfl, HB.out⟩
    · have e2 : (n == m) = false := by simp [c2]
      have e3 : (x == y) = false := by simp; omega
      by_cases c3 : m ≤ n
      · have e4 : decide (m ≤ n) = true := decide_eq_true c3
        clear ha' hb' ra rb hN hM hx hy c1 c2 c3 hp0 hp1 hq0 hq1 hn0 hn1 hm0 hm1
        go_enter Try.func7, Try.ntmps7
        go_wp2_with (first | (go_at_call 11; refine (awake_any _).mono ?_; rintro e w1 ⟨rfl, hb1⟩; have HB := Lib.hid hb1; clear hb1) | (go_at_call 21; refine (epoch_any _ _ _).mono ?_; rintro e w' ⟨rfl, rfl⟩; first | rw [HX.out] | rw [HY.out]) | (go_at_call 15; refine (of_any _ _).mono ?_; rintro e w' ⟨rfl, rfl⟩; rw [HO.out.1, HO.out.2]) | fail)
        go_ret
        exact ⟨rfl, HB.out⟩
      · have e4 : decide (m ≤ n) = false := decide_eq_false c3
        have e5 : decide (x < y) = true := decide_eq_true (by omega)
        clear ha' hb' ra rb hN hM hx hy c1 c2 c3 hp0 hp1 hq0 hq1 hn0 hn1 hm0 hm1
        go_enter Try.func7, Try.ntmps7
        go_wp2_with (first | (go_at_call 11; refine (awake_any _).mono ?_; rintro e w1 ⟨rfl, hb1⟩; have HB := Lib.hid hb1; clear hb1) | (go_at_call 21; refine (epoch_any _ _ _).mono ?_; rintro e w' ⟨rfl, rfl⟩; first | rw [HX.out] | rw [HY.out]) | (go_at_call 15; refine (of_any _ _).mono ?_; rintro e w' ⟨rfl, rfl⟩; rw [HO.out.1, HO.out.2]) | fail)
        go_ret
        exact ⟨rfl, HB.out⟩
  · have e1 : (a == b) = false := by simp [c1]
    have e3 : (x == y) = false := by simp; omega
    by_cases c3 : m ≤ n
    · have e4 : decide (m ≤ n) = true := decide_eq_true c3
      clear ha' hb' ra rb hN hM hx hy c1 c3 hp0 hp1 hq0 hq1 hn0 hn1 hm0 hm1
      go_enter Try.func7, Try.ntmps7
      go_wp2_with (first | (go_at_call 11; refine (awake_any _).mono ?_; rintro e w1 ⟨rfl, hb1⟩; have HB := Lib.hid hb1; clear hb1) | (go_at_call 21; refine (epoch_any _ _ _).mono ?_; rintro e w' ⟨rfl, rfl⟩; first | rw [HX.out] | rw [HY.out]) | (go_at_call 15; refine (of_any _ _).mono ?_; rintro e w' ⟨rfl, rfl⟩; rw [HO.out.1, HO.out.2]) | fail)
      go_ret
      exact ⟨rfl, HB.out⟩
    · have e4 : decide (m ≤ n) = false := decide_eq_false c3
      have e5 : decide (x < y) = true := decide_eq_true (by omega)
      clear ha' hb' ra rb hN hM hx hy c1 c3 hp0 hp1 hq0 hq1 hn0 hn1 hm0 hm1
      go_enter Try.func7, Try.ntmps7
      go_wp2_with (first | (go_at_call 11; refine (awake_any _).mono ?_; rintro e w1 ⟨rfl, hb1⟩; have HB := Lib.hid hb1; clear hb1) | (go_at_call 21; refine (epoch_any _ _ _).mono ?_; rintro e w' ⟨rfl, rfl⟩; first | rw [HX.out] | rw [HY.out]) | (go_at_call 15; refine (of_any _ _).mono ?_; rintro e w' ⟨rfl, rfl⟩; rw [HO.out.1, HO.out.2]) | fail)
      go_ret
      exact ⟨rfl, HB.out⟩
end Go.Proofs.Ytcfchkffanfehaa
