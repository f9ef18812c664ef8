/-
  The document's roots: Mul64, Add64, above, root.
-/
import Derived.Test.YtndiojiphoomgaaDoorHw
import Derived.Laws.Externs
import Derived.Laws.Bits64
set_option linter.unusedSimpArgs false
namespace Go.Proofs.YtndiojiphoomgaaDoor
open Go.RowKit
namespace Rf
def wr (x : Int) : Int := x % 18446744073709551616
def lw (x : Int) : Int := bits .and .u64 x 4294967295
def up (x : Int) : Int := x / 4294967296
def mid (x y : Int) : Int := wr (wr (up x * lw y) + up (wr (lw x * lw y)))
def hi (x y : Int) : Int := wr (wr (wr (up x * up y) + up (mid x y)) + up (wr (lw (mid x y) + wr (lw x * up y))))
def lo (x y : Int) : Int := wr (x * y)
def above2 (x n : Int) : Bool := decide (hi x x > n) || (decide (hi x x = n) && decide (lo x x > 0))
def top (x : Int) : Int := wr (hi (hi x x) x + (lo (hi x x) x + hi (lo x x) x) / 18446744073709551616)
def sum (x : Int) : Int := (lo (hi x x) x + hi (lo x x) x) % 18446744073709551616
def above3 (x n : Int) : Bool := decide (top x > 0) || decide (sum x > wr (n * 4294967296)) || (decide (sum x = wr (n * 4294967296)) && decide (lo (lo x x) x > 0))
def above (p : Nat) (x n : Int) : Bool := if p = 2 then above2 x n else above3 x n
def rootTo (p : Nat) (n : Int) : Nat → Int
  | 0 => 0
  | k + 1 => let x := rootTo p n k; let y := wr (x + wr (2 ^ (39 - k))); if above p y n then x else y
def rootW (p : Nat) (n : Nat) : BitVec 32 := BitVec.ofInt 32 (rootTo p n 40)
def isPrime (n : Nat) : Bool := decide (1 < n) && (List.range n).all fun d => decide (d < 2) || decide (n < d * d) || decide (n % d ≠ 0)
def primes : List Nat := (List.range 312).filter isPrime
end Rf
theorem roots3 : Rf.primes.map (Rf.rootW 3) = Sm.rK := by decide +kernel
theorem roots2 : (Rf.primes.take 8).map (Rf.rootW 2) = Sm.rH := by decide +kernel
theorem u64w (x : Int) : IntKind.u64.wrap x = Rf.wr x := by rw [IntKind.wrap_u64]; rfl
def W64 (x : Int) : Prop := 0 ≤ x ∧ x ≤ 18446744073709551615
theorem w64_wr (x : Int) : W64 (Rf.wr x) := by unfold W64 Rf.wr; omega
theorem w64_hi (x y : Int) : W64 (Rf.hi x y) := w64_wr _
theorem w64_lo (x y : Int) : W64 (Rf.lo x y) := w64_wr _
theorem tup_u64 {a b c d : Int} (h : a = c) (h' : b = d) : Ending.returned (.tuple #[.int .u64 a, .int .u64 b]) = .returned (.tuple #[.int .u64 c, .int .u64 d]) := by rw [h, h']
theorem mul64_any (x y : Int) (h1 : W64 x) (h2 : W64 y) (w : World) : Calls Tryd.prog 41 #[.int .u64 x, .int .u64 y] w fun e w' => e = .returned (.tuple #[.int .u64 (Rf.hi x y), .int .u64 (Rf.lo x y)]) ∧ w = w' := by
  obtain ⟨a1, a2⟩ := h1
  obtain ⟨b1, b2⟩ := h2
  go_enter Tryd.func41, Tryd.ntmps41
  go_wp2
  go_ret2
  refine ⟨tup_u64 ?_ ?_, rfl⟩
  · simp only [u64w]; rfl
  · simp only [u64w]; rfl
theorem add64 (x y : Int) (hx : 0 ≤ x) (hy : 0 ≤ y) (w : World) : (callFunc 42 #[.int .u64 x, .int .u64 y, .int .u64 0]).run Tryd.prog w =
    .ok (.value (.tuple #[.int .u64 ((x + y) % 18446744073709551616), .int .u64 ((x + y) / 18446744073709551616)])) w := by
  rw [run_callFunc_extern Tryd.func42 (by kernel_rfl) (by kernel_rfl) (by kernel_rfl) (e := add64Entry) (by kernel_rfl), run_add64 x y 0 hx hy (Int.le_refl 0) (by decide)]
  simp [Result.andThen]
theorem ret_bool {a b : Bool} (h : a = b) : Ending.returned (.bool a) = .returned (.bool b) := by rw [h]
theorem above2_any (x n : Int) (h1 : W64 x) (h2 : W64 n) (w : World) : Calls Tryd.prog 35 #[.int .u64 x, .int .i64 2, .int .u64 n] w fun e w' => e = .returned (.bool (Rf.above2 x n)) ∧ w = w' := by
  obtain ⟨r, hr⟩ : ∃ r, Rf.above2 x n = r := ⟨_, rfl⟩
  rw [hr]
  unfold Rf.above2 at hr
  go_enter Tryd.func35, Tryd.ntmps35
  go_wp2_with fail
  refine (mul64_any x x h1 h1 _).mono ?_
  rintro e w' ⟨rfl, rfl⟩
  --
  have h3 := w64_hi x x
  have h4 := w64_lo x x
  generalize Rf.hi x x = hi at *
  generalize Rf.lo x x = lo at *
  obtain ⟨a1, a2⟩ := h2
  obtain ⟨b1, b2⟩ := h3
  obtain ⟨c1, c2⟩ := h4
  have HR := Lib.hid hr
  clear hr
  by_cases e1 : n < hi
  · go_wp2
    go_ret
    exact ⟨ret_bool (by rw [← HR.out]; simp [e1]), rfl⟩
  by_cases e2 : hi = n
  · subst e2
    by_cases e3 : 0 < lo
    · go_wp2
      go_ret
      exact ⟨ret_bool (by rw [← HR.out]; simp [e3]), rfl⟩
    · go_wp2
      go_ret
      exact ⟨ret_bool (by rw [← HR.out]; simp [e3]), rfl⟩
  · go_wp2
    go_ret
    exact ⟨ret_bool (by rw [← HR.out]; simp [e2]), rfl⟩
theorem above3_any (x n : Int) (h1 : W64 x) (h2 : W64 n) (w : World) : Calls Tryd.prog 35 #[.int .u64 x, .int .i64 3, .int .u64 n] w fun e w' => e = .returned (.bool (Rf.above3 x n)) ∧ w = w' := by
  obtain ⟨r, hr⟩ : ∃ r, Rf.above3 x n = r := ⟨_, rfl⟩
  rw [hr]
  unfold Rf.above3 Rf.top Rf.sum at hr
  go_enter Tryd.func35, Tryd.ntmps35
  go_wp2_with fail
  refine (mul64_any x x h1 h1 _).mono ?_
  rintro e w' ⟨rfl, rfl⟩
  -- Rf.top Rf.sum
  have h3 := w64_hi x x
  have h4 := w64_lo x x
  generalize Rf.hi x x = hi at *
  generalize Rf.lo x x = lo at *
  go_wp2_with fail
  refine (mul64_any hi x h3 h1 _).mono ?_
  rintro e w' ⟨rfl, rfl⟩
  go_wp2_with fail
  refine (mul64_any lo x h4 h1 _).mono ?_
  rintro e w' ⟨rfl, rfl⟩
  have h5 := w64_hi hi x
  have h6 := w64_lo hi x
  have h7 := w64_hi lo x
  have h8 := w64_lo lo x
  generalize Rf.hi hi x = hh at *
  generalize Rf.lo hi x = hl at *
  generalize Rf.hi lo x = lh at *
  generalize Rf.lo lo x = ll at *
  have ha := add64 hl lh h6.1 h7.1
  obtain ⟨sm, hs⟩ : ∃ sm, (hl + lh) % 18446744073709551616 = sm := ⟨_, rfl⟩
  obtain ⟨cy, hc⟩ : ∃ cy, (hl + lh) / 18446744073709551616 = cy := ⟨_, rfl⟩
  have s1 : 0 ≤ sm := by omega
  have s2 : sm ≤ 18446744073709551615 := by omega
  obtain ⟨tp, ht⟩ : ∃ tp, Rf.wr (hh + cy) = tp := ⟨_, rfl⟩
  have t1 : 0 ≤ tp := ht ▸ (w64_wr _).1
  obtain ⟨wt, hw⟩ : ∃ wt, Rf.wr (n * 4294967296) = wt := ⟨_, rfl⟩
  simp only [hs, hc, ht, hw] at hr ha
  rw [← u64w] at ht hw
  have a1 := h2.1
  have a2 := h2.2
  clear hs hc h1 h2 h3 h4 h5 h6 h7
  obtain ⟨d1, d2⟩ := h8
  have HR := Lib.hid hr
  clear hr
  by_cases e1 : 0 < tp
  · go_wp2
    go_ret
    exact ⟨ret_bool (by rw [← HR.out]; simp [e1]), rfl⟩
  by_cases e2 : wt < sm
  · go_wp2
    go_ret
    exact ⟨ret_bool (by rw [← HR.out]; simp [e2]), rfl⟩
  by_cases e3 : sm = wt
  · subst e3
    by_cases e4 : 0 < ll
    · go_wp2
      go_ret
      exact ⟨ret_bool (by rw [← HR.out]; simp [e4]), rfl⟩
    · go_wp2
      go_ret
      exact ⟨ret_bool (by rw [← HR.out]; simp [e1, e4]), rfl⟩
  · go_wp2
    go_ret
    exact ⟨ret_bool (by rw [← HR.out]; simp [e1, e2, e3]), rfl⟩
theorem above_any (p : Nat) (hp : p = 2 ∨ p = 3) (x n : Int) (h1 : W64 x) (h2 : W64 n) (w : World) : Calls Tryd.prog 35 #[.int .u64 x, .int .i64 (p : Int), .int .u64 n] w fun e w' => e = .returned (.bool (Rf.above p x n)) ∧ w = w' := by
  rcases hp with rfl | rfl
  · exact above2_any x n h1 h2 w
  · exact above3_any x n h1 h2 w
theorem w64_root (p : Nat) (n : Int) (k : Nat) : W64 (Rf.rootTo p n k) := by
  induction k with
  | zero => exact ⟨by simp [Rf.rootTo], by simp [Rf.rootTo]⟩
  | succ k ih =>
    simp only [Rf.rootTo]
    split
    · exact ih
    · exact w64_wr _
theorem root_any (p : Nat) (hp : p = 2 ∨ p = 3) (n : Nat) (hn : n < 1000) (w : World) : Calls Tryd.prog 27 #[.int .u64 (n : Int), .int .i64 (p : Int)] w fun e w' => e = .returned (.int .u32 (num (Rf.rootW p n))) ∧ w = w' := by
  have HP := Lib.hid hp
  clear hp
  go_enter Tryd.func27, Tryd.ntmps27
  go_wp2
  go_loopw [5, 6] (fun x i wr => ∃ k : Nat, k ≤ 40 ∧ i = .int .i64 (39 - (k : Int)) ∧ x = .int .u64 (Rf.rootTo p n k) ∧ wr = w) (fun _ i _ => (intOf i + 1).toNat)
  case atStart => exact ⟨0, Nat.zero_le _, rfl, rfl, rfl⟩
  case round =>
    obtain ⟨k, hk, rfl, rfl, rfl⟩ := hrel
    have hx := w64_root p n k
    obtain ⟨x, hX⟩ : ∃ x, Rf.rootTo p n k = x := ⟨_, rfl⟩
    rw [hX] at hx
    rw [hX]
    have HX := Lib.hid hX
    clear hX
    by_cases hlt : k < 40
    · have hd : decide (0 ≤ 39 - (k : Int)) = true := by simp; omega
      go_wp2_with fail
      rw [u64w, u64w]
      obtain ⟨y, hy⟩ : ∃ y, Rf.wr (x + Rf.wr (2 ^ (39 - k))) = y := ⟨_, rfl⟩
      have hys : W64 y := hy ▸ w64_wr _
      have HN : Hid (Rf.rootTo p n (k + 1) = if Rf.above p y n then x else y) := Lib.hid (by simp only [Rf.rootTo]; rw [HX.out, hy])
      rw [hy]
      clear hy
      refine (above_any p HP.out y n hys ⟨by omega, by omega⟩ _).mono ?_
      rintro e w' ⟨rfl, rfl⟩
      cases hab : Rf.above p y n
      · have HA := Lib.hid hab
        clear hab
        go_wp2
        go_roundw
        case rel => exact ⟨k + 1, by omega, by go_num, by rw [HN.out, HA.out]; rfl, trivial⟩
        case measure => simp [intOf]; omega
      · have HA := Lib.hid hab
        clear hab
        go_wp2
        go_roundw
        case rel => exact ⟨k + 1, by omega, by go_num, by rw [HN.out, HA.out]; rfl, trivial⟩
        case measure => simp [intOf]; omega
    · have hd : decide (0 ≤ 39 - (k : Int)) = false := by simp; omega
      have hk4 : k = 40 := by omega
      have HR : Hid (x % 4294967296 = num (Rf.rootW p n)) := Lib.hid (by rw [← HX.out, hk4]; unfold Rf.rootW num; rw [BitVec.toNat_ofInt]; omega)
      clear hk4
      go_wp2
      go_ret
      exact ⟨ret_u32 (by rw [← HR.out]), rfl⟩
end Go.Proofs.YtndiojiphoomgaaDoor
