/-
  The walks of within, of the least and the greatest of a row, and of areTimes and areStages.
-/
import Derived.Test.YtegdopbiiddamaaEb
import Derived.Deep.QuietTactic
import Derived.BigQuiet
namespace Go.Proofs.Ytegdopbiiddamaa
set_option linter.unusedVariables false
set_option linter.unusedSimpArgs false
set_option maxRecDepth 20000
open Go.RowKit
theorem within_any (n a b : Int) (w : World) : Calls Try.prog 57 #[.int .i64 n, .int .i64 a, .int .i64 b] w fun e w' => e = .returned (.bool (decide (a ≤ n ∧ n ≤ b))) ∧ w = w' := by
  by_cases h1 : a ≤ n
  · have d1 : decide (a ≤ n) = true := decide_eq_true h1
    obtain ⟨r, hr⟩ : ∃ r, decide (n ≤ b) = r := ⟨_, rfl⟩
    have HR := Lib.hid (show decide (a ≤ n ∧ n ≤ b) = r by rw [← hr]; simp [h1])
    go_enter Try.func57, Try.ntmps57
    go_wp2
    go_ret
    exact ⟨ret_bool HR.out.symm, rfl⟩
  · have d1 : decide (a ≤ n) = false := decide_eq_false h1
    have HR := Lib.hid (show decide (a ≤ n ∧ n ≤ b) = false by simp [h1])
    go_enter Try.func57, Try.ntmps57
    go_wp2
    go_ret
    exact ⟨by first | rfl | exact ret_bool HR.out.symm, rfl⟩
set_option maxHeartbeats 1000000 in
theorem tell_67 {w : World} {S : Nat → Prop} {a : Option Addr} {n c : Nat} {l : List Int} (h : Ns w S a n l) (hn : 0 < n) (hN : n ≤ 1000) :
    Calls Try.prog 67 #[.slice a n c] w fun e w' => e = .returned (.int .i64 (Dr.mx l (n - 1))) ∧ w = w' := by
  obtain ⟨b, off, rfl, _, _, hc⟩ := h.cells hn
  have HC := Lib.hid hc
  obtain ⟨x0, hx0⟩ : ∃ x, l.getD 0 0 = x := ⟨_, rfl⟩
  have k0 : w.cell? ⟨b, off, none⟩ = some (.int .i64 x0) := hx0 ▸ hc 0 hn
  have HX0 := Lib.hid hx0
  have d0 : decide ((n : Int) < 1) = false := decide_eq_false (by omega)
  clear h hc hx0
  go_enter Try.func67, Try.ntmps67
  go_wp2
  go_loop [3, 4] (fun m i => ∃ (k : Nat) (x : Int), m = .int .i64 x ∧ i = .int .i64 k ∧ 1 ≤ k ∧ k ≤ n ∧ Hid (x = Dr.mx l (k - 1))) (fun _ i => n - (intOf i).toNat)
  case atStart => exact ⟨1, x0, rfl, rfl, Nat.le_refl _, hn, Lib.hid HX0.out.symm⟩
  case round =>
    obtain ⟨k, x, rfl, rfl, hk1, hkn, HX⟩ := hrel
    clear k0 HX0
    by_cases hlt : k < n
    · have d1 : decide ((k : Int) < (n : Int)) = true := decide_eq_true (by omega)
      obtain ⟨y, hy⟩ : ∃ y, l.getD k 0 = y := ⟨_, rfl⟩
      have ck : w.cell? ⟨b, off + k, none⟩ = some (.int .i64 y) := hy ▸ HC.out k hlt
      have HY := Lib.hid hy
      clear hy
      go_wp2
      refine ⟨⟨k + 1, _, rfl, by go_num, by omega, by omega, Lib.hid ?_⟩, by simp [intOf]; omega⟩
      obtain ⟨j, rfl⟩ : ∃ j, k = j + 1 := ⟨k - 1, by omega⟩
      rw [HX.out, ← HY.out]
      show (if _ then _ else _) = max _ _
      rw [Nat.add_sub_cancel]
      split <;> omega
    · have d1 : decide ((k : Int) < (n : Int)) = false := decide_eq_false (by omega)
      obtain rfl : k = n := by omega
      go_wp2
      go_ret
      exact ⟨ret_i64 HX.out, rfl⟩
set_option maxHeartbeats 1000000 in
theorem tell_74 {w : World} {S : Nat → Prop} {a : Option Addr} {n c : Nat} {l : List Int} (h : Ns w S a n l) (hn : 0 < n) (hN : n ≤ 1000) :
    Calls Try.prog 74 #[.slice a n c] w fun e w' => e = .returned (.int .i64 (Dr.mx l (n - 1))) ∧ w = w' := by
  obtain ⟨b, off, rfl, _, _, hc⟩ := h.cells hn
  have HC := Lib.hid hc
  obtain ⟨x0, hx0⟩ : ∃ x, l.getD 0 0 = x := ⟨_, rfl⟩
  have k0 : w.cell? ⟨b, off, none⟩ = some (.int .i64 x0) := hx0 ▸ hc 0 hn
  have HX0 := Lib.hid hx0
  have d0 : decide ((n : Int) < 1) = false := decide_eq_false (by omega)
  clear h hc hx0
  go_enter Try.func74, Try.ntmps74
  go_wp2
  go_loop [3, 4] (fun m i => ∃ (k : Nat) (x : Int), m = .int .i64 x ∧ i = .int .i64 k ∧ 1 ≤ k ∧ k ≤ n ∧ Hid (x = Dr.mx l (k - 1))) (fun _ i => n - (intOf i).toNat)
  case atStart => exact ⟨1, x0, rfl, rfl, Nat.le_refl _, hn, Lib.hid HX0.out.symm⟩
  case round =>
    obtain ⟨k, x, rfl, rfl, hk1, hkn, HX⟩ := hrel
    clear k0 HX0
    by_cases hlt : k < n
    · have d1 : decide ((k : Int) < (n : Int)) = true := decide_eq_true (by omega)
      obtain ⟨y, hy⟩ : ∃ y, l.getD k 0 = y := ⟨_, rfl⟩
      have ck : w.cell? ⟨b, off + k, none⟩ = some (.int .i64 y) := hy ▸ HC.out k hlt
      have HY := Lib.hid hy
      clear hy
      go_wp2
      refine ⟨⟨k + 1, _, rfl, by go_num, by omega, by omega, Lib.hid ?_⟩, by simp [intOf]; omega⟩
      obtain ⟨j, rfl⟩ : ∃ j, k = j + 1 := ⟨k - 1, by omega⟩
      rw [HX.out, ← HY.out]
      show (if _ then _ else _) = max _ _
      rw [Nat.add_sub_cancel]
      split <;> omega
    · have d1 : decide ((k : Int) < (n : Int)) = false := decide_eq_false (by omega)
      obtain rfl : k = n := by omega
      go_wp2
      go_ret
      exact ⟨ret_i64 HX.out, rfl⟩
set_option maxHeartbeats 1000000 in
theorem tell_75 {w : World} {S : Nat → Prop} {a : Option Addr} {n c : Nat} {l : List Int} (h : Ns w S a n l) (hn : 0 < n) (hN : n ≤ 1000) :
    Calls Try.prog 75 #[.slice a n c] w fun e w' => e = .returned (.int .i64 (Dr.mn l (n - 1))) ∧ w = w' := by
  obtain ⟨b, off, rfl, _, _, hc⟩ := h.cells hn
  have HC := Lib.hid hc
  obtain ⟨x0, hx0⟩ : ∃ x, l.getD 0 0 = x := ⟨_, rfl⟩
  have k0 : w.cell? ⟨b, off, none⟩ = some (.int .i64 x0) := hx0 ▸ hc 0 hn
  have HX0 := Lib.hid hx0
  have d0 : decide ((n : Int) < 1) = false := decide_eq_false (by omega)
  clear h hc hx0
  go_enter Try.func75, Try.ntmps75
  go_wp2
  go_loop [3, 4] (fun m i => ∃ (k : Nat) (x : Int), m = .int .i64 x ∧ i = .int .i64 k ∧ 1 ≤ k ∧ k ≤ n ∧ Hid (x = Dr.mn l (k - 1))) (fun _ i => n - (intOf i).toNat)
  case atStart => exact ⟨1, x0, rfl, rfl, Nat.le_refl _, hn, Lib.hid HX0.out.symm⟩
  case round =>
    obtain ⟨k, x, rfl, rfl, hk1, hkn, HX⟩ := hrel
    clear k0 HX0
    by_cases hlt : k < n
    · have d1 : decide ((k : Int) < (n : Int)) = true := decide_eq_true (by omega)
      obtain ⟨y, hy⟩ : ∃ y, l.getD k 0 = y := ⟨_, rfl⟩
      have ck : w.cell? ⟨b, off + k, none⟩ = some (.int .i64 y) := hy ▸ HC.out k hlt
      have HY := Lib.hid hy
      clear hy
      go_wp2
      refine ⟨⟨k + 1, _, rfl, by go_num, by omega, by omega, Lib.hid ?_⟩, by simp [intOf]; omega⟩
      obtain ⟨j, rfl⟩ : ∃ j, k = j + 1 := ⟨k - 1, by omega⟩
      rw [HX.out, ← HY.out]
      show (if _ then _ else _) = min _ _
      rw [Nat.add_sub_cancel]
      split <;> omega
    · have d1 : decide ((k : Int) < (n : Int)) = false := decide_eq_false (by omega)
      obtain rfl : k = n := by omega
      go_wp2
      go_ret
      exact ⟨ret_i64 HX.out, rfl⟩
set_option maxHeartbeats 1000000 in
theorem tell_73 {w : World} {S : Nat → Prop} {a : Option Addr} {n c : Nat} {l : List Int} (h : Ns w S a n l) (hn : 0 < n) (hN : n ≤ 1000) :
    Calls Try.prog 73 #[.slice a n c] w fun e w' => e = .returned (.int .i64 (Dr.mn l (n - 1))) ∧ w = w' := by
  obtain ⟨b, off, rfl, _, _, hc⟩ := h.cells hn
  have HC := Lib.hid hc
  obtain ⟨x0, hx0⟩ : ∃ x, l.getD 0 0 = x := ⟨_, rfl⟩
  have k0 : w.cell? ⟨b, off, none⟩ = some (.int .i64 x0) := hx0 ▸ hc 0 hn
  have HX0 := Lib.hid hx0
  have d0 : decide ((n : Int) < 1) = false := decide_eq_false (by omega)
  clear h hc hx0
  go_enter Try.func73, Try.ntmps73
  go_wp2
  go_loop [3, 4] (fun m i => ∃ (k : Nat) (x : Int), m = .int .i64 x ∧ i = .int .i64 k ∧ 1 ≤ k ∧ k ≤ n ∧ Hid (x = Dr.mn l (k - 1))) (fun _ i => n - (intOf i).toNat)
  case atStart => exact ⟨1, x0, rfl, rfl, Nat.le_refl _, hn, Lib.hid HX0.out.symm⟩
  case round =>
    obtain ⟨k, x, rfl, rfl, hk1, hkn, HX⟩ := hrel
    clear k0 HX0
    by_cases hlt : k < n
    · have d1 : decide ((k : Int) < (n : Int)) = true := decide_eq_true (by omega)
      obtain ⟨y, hy⟩ : ∃ y, l.getD k 0 = y := ⟨_, rfl⟩
      have ck : w.cell? ⟨b, off + k, none⟩ = some (.int .i64 y) := hy ▸ HC.out k hlt
      have HY := Lib.hid hy
      clear hy
      go_wp2
      refine ⟨⟨k + 1, _, rfl, by go_num, by omega, by omega, Lib.hid ?_⟩, by simp [intOf]; omega⟩
      obtain ⟨j, rfl⟩ : ∃ j, k = j + 1 := ⟨k - 1, by omega⟩
      rw [HX.out, ← HY.out]
      show (if _ then _ else _) = min _ _
      rw [Nat.add_sub_cancel]
      split <;> omega
    · have d1 : decide ((k : Int) < (n : Int)) = false := decide_eq_false (by omega)
      obtain rfl : k = n := by omega
      go_wp2
      go_ret
      exact ⟨ret_i64 HX.out, rfl⟩
/-- The four numbers in a row of their own. -/
theorem mn_four (a b c d : Int) : Dr.mn [a, b, c, d] 3 = min (min (min a b) c) d := rfl
theorem mx_four (a b c d : Int) : Dr.mx [a, b, c, d] 3 = max (max (max a b) c) d := rfl
theorem times_any {w : World} {S : Nat → Prop} {A : Option Addr} {m : Nat} {a b c d : Int} (h : Ns w S A 4 [a, b, c, d]) :
    Calls Try.prog 61 #[.slice A 4 m] w fun e w' => e = .returned (.bool (decide (Dr.tm a ∧ Dr.tm b ∧ Dr.tm c ∧ Dr.tm d))) ∧ w = w' := by
  have H := Lib.hid h
  obtain ⟨x, hx⟩ : ∃ x, Dr.mn [a, b, c, d] 3 = x := ⟨_, rfl⟩
  obtain ⟨y, hy⟩ : ∃ y, Dr.mx [a, b, c, d] 3 = y := ⟨_, rfl⟩
  obtain ⟨r, hr⟩ : ∃ r, decide (Dr.tm a ∧ Dr.tm b ∧ Dr.tm c ∧ Dr.tm d) = r := ⟨_, rfl⟩
  have HR : Hid (r = decide (1 ≤ x ∧ y ≤ 1073741824)) := Lib.hid (by
    rw [← hr, ← hx, ← hy, mn_four, mx_four, decide_eq_decide]
    unfold Dr.tm
    omega)
  rw [hr]
  have HX := Lib.hid hx
  have HY := Lib.hid hy
  clear hx hy hr h
  by_cases h1 : 1 ≤ x
  · have d1 : decide (1 ≤ x) = true := decide_eq_true h1
    have HE := Lib.hid (show r = decide (y ≤ 1073741824) by rw [HR.out]; simp [h1])
    go_enter Try.func61, Try.ntmps61
    go_wp2_with (first | (go_at_call 73; refine (tell_73 H.out (by omega) (by omega)).mono ?_; rintro e w' ⟨rfl, rfl⟩; rw [show Dr.mn [a, b, c, d] (4 - 1) = x from HX.out]) | (go_at_call 74; refine (tell_74 H.out (by omega) (by omega)).mono ?_; rintro e w' ⟨rfl, rfl⟩; rw [show Dr.mx [a, b, c, d] (4 - 1) = y from HY.out]))
    go_ret
    exact ⟨ret_bool HE.out.symm, rfl⟩
  · have d1 : decide (1 ≤ x) = false := decide_eq_false h1
    have HE := Lib.hid (show r = false by rw [HR.out]; simp [h1])
    go_enter Try.func61, Try.ntmps61
    go_wp2_with (first | (go_at_call 73; refine (tell_73 H.out (by omega) (by omega)).mono ?_; rintro e w' ⟨rfl, rfl⟩; rw [show Dr.mn [a, b, c, d] (4 - 1) = x from HX.out]) | (go_at_call 74; refine (tell_74 H.out (by omega) (by omega)).mono ?_; rintro e w' ⟨rfl, rfl⟩; rw [show Dr.mx [a, b, c, d] (4 - 1) = y from HY.out]))
    go_ret
    exact ⟨ret_bool HE.out.symm, rfl⟩
/-- Each of a row is a stage. -/
theorem are_iff {l : List Int} {n : Nat} (hl : l.length = n) (hn : 0 < n) : (0 ≤ Dr.mn l (n - 1) ∧ Dr.mx l (n - 1) < 4) ↔ ∀ k, k < l.length → 0 ≤ l.getD k 0 ∧ l.getD k 0 < 4 := by
  constructor
  · rintro ⟨h1, h2⟩ k hk
    have := Dr.mn_le l (n - 1) k (by omega)
    have := Dr.mx_ge l (n - 1) k (by omega)
    omega
  · intro h
    obtain ⟨i, hi, ei⟩ := Dr.mn_is l (n - 1)
    obtain ⟨j, hj, ej⟩ := Dr.mx_is l (n - 1)
    rw [ei, ej]
    exact ⟨(h i (by omega)).1, (h j (by omega)).2⟩
theorem stages_any {w : World} {S : Nat → Prop} {A : Option Addr} {n m : Nat} {l : List Int} (h : Ns w S A n l) (hn : 0 < n) (hN : n ≤ 1000) :
    Calls Try.prog 65 #[.slice A n m] w fun e w' => e = .returned (.bool (decide (∀ k, k < l.length → 0 ≤ l.getD k 0 ∧ l.getD k 0 < 4))) ∧ w = w' := by
  have H := Lib.hid h
  obtain ⟨x, hx⟩ : ∃ x, Dr.mn l (n - 1) = x := ⟨_, rfl⟩
  obtain ⟨y, hy⟩ : ∃ y, Dr.mx l (n - 1) = y := ⟨_, rfl⟩
  obtain ⟨r, hr⟩ : ∃ r, decide (∀ k, k < l.length → 0 ≤ l.getD k 0 ∧ l.getD k 0 < 4) = r := ⟨_, rfl⟩
  have HR : Hid (r = decide (0 ≤ x ∧ y < 4)) := Lib.hid (by
    rw [← hr, ← hx, ← hy, decide_eq_decide]
    exact (are_iff h.1 hn).symm)
  rw [hr]
  have HX := Lib.hid hx
  have HY := Lib.hid hy
  clear hx hy hr h
  by_cases h1 : 0 ≤ x
  · have d1 : decide (0 ≤ x) = true := decide_eq_true h1
    have HE := Lib.hid (show r = decide (y < 4) by rw [HR.out]; simp [h1])
    go_enter Try.func65, Try.ntmps65
    go_wp2_with (first | (go_at_call 75; refine (tell_75 H.out hn hN).mono ?_; rintro e w' ⟨rfl, rfl⟩; rw [HX.out]) | (go_at_call 67; refine (tell_67 H.out hn hN).mono ?_; rintro e w' ⟨rfl, rfl⟩; rw [HY.out]))
    go_ret
    exact ⟨ret_bool HE.out.symm, rfl⟩
  · have d1 : decide (0 ≤ x) = false := decide_eq_false h1
    have HE := Lib.hid (show r = false by rw [HR.out]; simp [h1])
    go_enter Try.func65, Try.ntmps65
    go_wp2_with (first | (go_at_call 75; refine (tell_75 H.out hn hN).mono ?_; rintro e w' ⟨rfl, rfl⟩; rw [HX.out]) | (go_at_call 67; refine (tell_67 H.out hn hN).mono ?_; rintro e w' ⟨rfl, rfl⟩; rw [HY.out]))
    go_ret
    exact ⟨ret_bool HE.out.symm, rfl⟩
end Go.Proofs.Ytegdopbiiddamaa
