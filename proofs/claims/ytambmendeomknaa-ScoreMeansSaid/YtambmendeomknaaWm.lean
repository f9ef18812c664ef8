/-
  The walks of both means, over a slice of scores that lies in memory, and of the statements' own head.
-/
import Derived.Test.YtambmendeomknaaWl
namespace Go.Proofs.Ytambmendeomknaa
open Go.RowKit

theorem add_fact {l : List Nat} {k : Nat} (hb : ∀ x ∈ l, x < 18446744073709551616) (hl : l.length ≤ 1000) (hk : k < l.length) (w : World) :
    (binOp .add 24 (.float .f64 (Fl.sumOf (l.take k))) (.float .f64 (Fl.cleanOf (l.getD k 0)))).run Try.prog w = .ok (.float .f64 (Fl.sumOf (l.take (k + 1)))) w := by
  refine run_float_arith w .add 24 .f64 _ _ _ ?_
  rw [Fl.take_snoc l k hk, Fl.sum_snoc]
  refine Fl.add_some ?_ ?_
  · exact Nat.lt_of_le_of_lt (Fl.sum_take l hb hl k (by omega)) (Fl.small_inf (by omega))
  · exact Nat.lt_of_le_of_lt (Fl.cleanOf_le _ (hb _ (by simp [hk]))) Fl.one_inf
theorem quo_fact {l : List Nat} (hb : ∀ x ∈ l, x < 18446744073709551616) (hl : l.length ≤ 1000) (h0 : l.length ≠ 0) (w : World) :
    (binOp .quo 24 (.float .f64 (Fl.sumOf l)) (.float .f64 (floatOfInt .f64 (l.length : Int)))).run Try.prog w = .ok (.float .f64 (Fl.meanOf l)) w := by
  refine run_float_arith w .quo 24 .f64 _ _ _ ?_
  rw [ofInt_small]
  unfold Fl.meanOf
  rw [if_neg h0]
  exact Fl.div_some (Nat.lt_of_le_of_lt (Fl.sum_le l hb hl) (Fl.small_inf hl)) (Fl.small_inf hl) (Fl.near_ne h0 hl)

theorem ret_float {a b : Nat} (h : a = b) : Ending.returned (.float .f64 a) = .returned (.float .f64 b) := by rw [h]

set_option maxRecDepth 100000 in
set_option maxHeartbeats 400000 in
theorem mean_nil (a : Option Addr) (cap : Nat) (w : World) :
    Calls Try.prog 23 #[.slice a 0 cap] w fun e w' => e = .returned (.float .f64 (Fl.meanOf [])) ∧ w = w' := by
  have HV : Hid (Fl.meanOf [] = 0) := Lib.hid rfl
  go_enter Try.func23, Try.ntmps23
  go_wp2
  go_ret
  exact ⟨ret_float HV.out.symm, rfl⟩

set_option maxRecDepth 100000 in
set_option maxHeartbeats 400000 in
theorem rmean_nil (a : Option Addr) (cap : Nat) (w : World) :
    Calls Try.prog 24 #[.slice a 0 cap] w fun e w' => e = .returned (.float .f64 (Fl.meanOf [])) ∧ w = w' := by
  have HV : Hid (Fl.meanOf [] = 0) := Lib.hid rfl
  go_enter Try.func24, Try.ntmps24
  go_wp2
  go_ret
  exact ⟨ret_float HV.out.symm, rfl⟩

set_option maxRecDepth 100000 in
set_option maxHeartbeats 400000 in
theorem mean_row (b off cap len : Nat) (l : List Nat) (w : World) (hlen : l.length = len) (hb : ∀ x ∈ l, x < 18446744073709551616) (hl : len ≤ 1000) (h0 : len ≠ 0)
    (hc : ∀ k, k < len → w.cell? ⟨b, off + k, none⟩ = some (.float .f64 (l.getD k 0))) :
    Calls Try.prog 23 #[.slice (some ⟨b, off, none⟩) len cap] w fun e w' => e = .returned (.float .f64 (Fl.meanOf l)) ∧ w = w' := by
  subst hlen
  have HB := Lib.hid hb
  have HC := Lib.hid hc
  have hq := quo_fact hb hl h0
  have hz : ((l.length : Int) == 0) = false := by simp; intro h; exact h0 (by simp [h])
  obtain ⟨len, hlen⟩ : ∃ len, l.length = len := ⟨_, rfl⟩
  have HLEN := Lib.hid hlen
  rw [hlen] at hl h0 HC hq hz
  rw [hlen]
  clear hb hc hlen
  go_enter Try.func23, Try.ntmps23
  go_wp2
  go_loop [3, 11] (fun s i => ∃ k : Nat, k ≤ len ∧ i = .int .i64 k ∧ s = .float .f64 (Fl.sumOf (l.take k))) (fun _ i => len - (intOf i).toNat)
  case atStart => exact ⟨0, Nat.zero_le _, rfl, rfl⟩
  case round =>
    obtain ⟨k, hk, rfl, rfl⟩ := hrel
    by_cases c : k < len
    · have ha := add_fact (l := l) (k := k) HB.out (by rw [HLEN.out]; exact hl) (by rw [HLEN.out]; exact c)
      have hcell := HC.out k c
      obtain ⟨v, hv⟩ : ∃ v, l.getD k 0 = v := ⟨_, rfl⟩
      rw [hv] at ha hcell
      clear hv
      go_wp2_with (go_at_call 18; refine (clean_any _ _).mono ?_; rintro e w' ⟨rfl, rfl⟩)
      go_round
      case rel => exact ⟨k + 1, by omega, by go_num, rfl⟩
      case measure => simp [intOf]; omega
    · have he : Hid (l.take k = l) := Lib.hid (List.take_of_length_le (by rw [HLEN.out]; omega))
      rw [he.out]
      go_wp2
      go_ret
      exact ⟨rfl, rfl⟩

set_option maxRecDepth 100000 in
set_option maxHeartbeats 400000 in
theorem rmean_row (b off cap len : Nat) (l : List Nat) (w : World) (hlen : l.length = len) (hb : ∀ x ∈ l, x < 18446744073709551616) (hl : len ≤ 1000) (h0 : len ≠ 0)
    (hc : ∀ k, k < len → w.cell? ⟨b, off + k, none⟩ = some (.float .f64 (l.getD k 0))) :
    Calls Try.prog 24 #[.slice (some ⟨b, off, none⟩) len cap] w fun e w' => e = .returned (.float .f64 (Fl.meanOf l)) ∧ w = w' := by
  subst hlen
  have HB := Lib.hid hb
  have HC := Lib.hid hc
  have hq := quo_fact hb hl h0
  have hz : ((l.length : Int) == 0) = false := by simp; intro h; exact h0 (by simp [h])
  obtain ⟨len, hlen⟩ : ∃ len, l.length = len := ⟨_, rfl⟩
  have HLEN := Lib.hid hlen
  rw [hlen] at hl h0 HC hq hz
  rw [hlen]
  clear hb hc hlen
  go_enter Try.func24, Try.ntmps24
  go_wp2
  go_loop [3, 4] (fun s i => ∃ k : Nat, k ≤ len ∧ i = .int .i64 k ∧ s = .float .f64 (Fl.sumOf (l.take k))) (fun _ i => len - (intOf i).toNat)
  case atStart => exact ⟨0, Nat.zero_le _, rfl, rfl⟩
  case round =>
    obtain ⟨k, hk, rfl, rfl⟩ := hrel
    by_cases c : k < len
    · have ha := add_fact (l := l) (k := k) HB.out (by rw [HLEN.out]; exact hl) (by rw [HLEN.out]; exact c)
      have hcell := HC.out k c
      have HV : Hid (l.getD k 0 < 18446744073709551616) := Lib.hid (HB.out _ (by have := HLEN.out; simp [show k < l.length by omega]))
      obtain ⟨v, hv⟩ : ∃ v, l.getD k 0 = v := ⟨_, rfl⟩
      rw [hv] at ha hcell HV
      clear hv
      go_wp2_with (go_at_call 20; refine (rclean_any _ _ HV.out).mono ?_; rintro e w' ⟨rfl, rfl⟩)
      go_round
      case rel => exact ⟨k + 1, by omega, by go_num, rfl⟩
      case measure => simp [intOf]; omega
    · have he : Hid (l.take k = l) := Lib.hid (List.take_of_length_le (by rw [HLEN.out]; omega))
      rw [he.out]
      go_wp2
      go_ret
      exact ⟨rfl, rfl⟩

theorem kind_lit (x : Nat) (k : Int) (w : World) (hx : x < 18446744073709551616) (hk : Fl.kindOf x = k) :
    Calls Try.prog 11 #[.float .f64 x] w fun e w' => e = .returned (.int .i64 k) ∧ w = w' := by
  subst hk; exact kind_any x w hx
theorem order_lit (x y : Nat) (k : Int) (w : World) (hx : x < 18446744073709551616) (hy : y < 18446744073709551616) (hk : Fl.ordOf x y = k) :
    Calls Try.prog 13 #[.float .f64 x, .float .f64 y] w fun e w' => e = .returned (.int .i64 k) ∧ w = w' := by
  subst hk; exact order_any x y w hx hy
theorem clean_lit (x k : Nat) (w : World) (hk : Fl.cleanOf x = k) :
    Calls Try.prog 18 #[.float .f64 x] w fun e w' => e = .returned (.float .f64 k) ∧ w = w' := by
  subst hk; exact clean_any x w
theorem bits_lit (x k : Nat) (n : Int) (w : World) (hk : Fl.bitsOf x = k) (hn : (k : Int) = n) :
    Calls Try.prog 17 #[.float .f64 x] w fun e w' => e = .returned (.int .u64 n) ∧ w = w' := by
  subst hn hk; exact bits_any x w
theorem points_lit (x k : Nat) (n : Int) (w : World) (hx : x < 18446744073709551616) (hk : Fl.pointsOf x = k) (hn : (k : Int) = n) :
    Calls Try.prog 15 #[.float .f64 x] w fun e w' => e = .returned (.int .i64 n) ∧ w = w' := by
  subst hn hk; exact points_any x w hx
def headList : List Nat := [4602678819172646912, 9221120237041090561, 4619567317775286272]
theorem head_mean : Fl.meanOf headList = 4602678819172646912 := by decide +kernel
theorem points_half : Fl.pointsOf 4602678819172646912 = 500 := by decide +kernel
theorem head_ok : ∀ x ∈ headList, x < 18446744073709551616 := by decide
theorem feq_one : (FloatKind.f64.format.order 4607182418800017408 4607182418800017408 == some Ordering.eq) = true := by rw [feq]; decide
theorem feq_half : (FloatKind.f64.format.order 4602678819172646912 4602678819172646912 == some Ordering.eq) = true := by rw [feq]; decide
theorem head_row (b : Nat) (w : World) (h0 : w.cell? ⟨b, 0, none⟩ = some (.float .f64 4602678819172646912)) (h1 : w.cell? ⟨b, 1, none⟩ = some (.float .f64 9221120237041090561)) (h2 : w.cell? ⟨b, 2, none⟩ = some (.float .f64 4619567317775286272)) :
    Calls Try.prog 23 #[.slice (some ⟨b, 0, none⟩) 3 3] w fun e w' => e = .returned (.float .f64 4602678819172646912) ∧ w = w' := by
  rw [← head_mean]
  refine mean_row b 0 3 3 headList w rfl head_ok (by omega) (by omega) ?_
  intro k hk
  match k, hk with
  | 0, _ => exact h0
  | 1, _ => exact h1
  | 2, _ => exact h2

set_option maxRecDepth 100000 in
set_option maxHeartbeats 1000000 in
theorem awake_any (w : World) :
    Calls Try.prog 9 #[] w fun e w' => e = .returned (.bool true) ∧ Grown w w' := by
  have he := ext_bits 4607182418800017408
  have f1 := feq_one
  have f2 := feq_half
  go_enter Try.func9, Try.ntmps9
  go_wp2_with (go_at_call 22; refine (of_any _ _).mono ?_; rintro e w' ⟨rfl, rfl⟩)
  refine (kind_lit 9223372036854775808 3 _ (by decide) (by decide)).mono ?_; rintro e w' ⟨rfl, rfl⟩
  go_wp2_with fail
  refine (kind_lit 0 4 _ (by decide) (by decide)).mono ?_; rintro e w' ⟨rfl, rfl⟩
  go_wp2_with fail
  refine (order_lit 9223372036854775808 0 (-1) _ (by decide) (by decide) (by decide)).mono ?_; rintro e w' ⟨rfl, rfl⟩
  go_wp2_with fail
  refine (clean_lit 9221120237041090561 0 _ (by decide)).mono ?_; rintro e w' ⟨rfl, rfl⟩
  go_wp2_with fail
  refine (bits_lit 0 0 0 _ (by decide) rfl).mono ?_; rintro e w' ⟨rfl, rfl⟩
  go_wp2_with fail
  refine (kind_lit 9221120237041090561 0 _ (by decide) (by decide)).mono ?_; rintro e w' ⟨rfl, rfl⟩
  go_wp2_with fail
  refine (clean_lit 9218868437227405312 4607182418800017408 _ (by decide)).mono ?_; rintro e w' ⟨rfl, rfl⟩
  go_wp2_with fail
  refine (points_lit 4602678819172646912 500 500 _ (by decide) points_half rfl).mono ?_; rintro e w' ⟨rfl, rfl⟩
  go_wp2_with fail
  refine (head_row _ _ ?_ ?_ ?_).mono ?_
  · simp
  · simp
  · simp
  rintro e w' ⟨rfl, rfl⟩
  go_wp2_with fail
  refine (bits_lit 4607182418800017408 4607182418800017408 4607182418800017408 _ (by decide) rfl).mono ?_; rintro e w' ⟨rfl, rfl⟩
  go_wp2
  go_ret
  exact ⟨rfl, by repeat (first | exact Grown.refl _ | apply Grown.drew | apply Grown.alloc)⟩

end Go.Proofs.Ytambmendeomknaa
