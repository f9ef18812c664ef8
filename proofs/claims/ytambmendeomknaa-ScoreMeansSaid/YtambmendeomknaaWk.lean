/-
  The walks of package score and of the document's answer: each call gives the plain function's value and leaves the world as it was.
-/
import Derived.Test.YtambmendeomknaaRows
import Derived.Test.YtambmendeomknaaSc
import Derived.WalkKit
import Derived.WalkSpells
import Derived.WalkLawsBesides
import Derived.Laws.FloatArith
import Derived.Laws.Externs
import Derived.Lib.Hide
namespace Go.Proofs.Ytambmendeomknaa
open Go.RowKit

theorem fgt (x y : Nat) : (FloatKind.f64.format.order x y == some Ordering.gt) = Fl.gtB x y := Fl.gt_eq x y
theorem flt (x y : Nat) : (FloatKind.f64.format.order x y == some Ordering.lt) = Fl.ltB x y := Fl.lt_eq x y
theorem feq (x y : Nat) : (FloatKind.f64.format.order x y == some Ordering.eq) = Fl.eqB x y := Fl.eq_eq x y

theorem ext_bits (x : Nat) (w : World) : (callFunc 19 #[.float .f64 x]).run Try.prog w = .ok (.value (.int .u64 x)) w := by
  rw [run_callFunc_extern (e := Extern.MathFloatBits.float64bits) Try.func19 (by kernel_rfl) (by kernel_rfl) (by kernel_rfl) (by kernel_rfl)]; rfl
theorem ext_from (x : Int) (w : World) : (callFunc 10 #[.int .u64 x]).run Try.prog w = .ok (.value (.float .f64 x.toNat)) w := by
  rw [run_callFunc_extern (e := Extern.MathFloatBits.float64frombits) Try.func10 (by kernel_rfl) (by kernel_rfl) (by kernel_rfl) (by kernel_rfl)]; rfl

theorem sign_fact (x : Nat) (_hx : x < 18446744073709551616) : decide (wrap64 (x : Int) < 0) = Fl.neg x := by
  unfold wrap64 Fl.neg
  rw [Bool.eq_iff_iff]
  simp only [decide_eq_true_eq, beq_iff_eq]
  omega

set_option maxHeartbeats 400000 in
theorem sign_any (x : Nat) (w : World) (hx : x < 18446744073709551616) :
    Calls Try.prog 25 #[.float .f64 x] w fun e w' => e = .returned (.bool (Fl.neg x)) ∧ w = w' := by
  have hs := sign_fact x hx
  clear hx
  have he := ext_bits
  go_enter Try.func25, Try.ntmps25
  go_wp2
  go_ret
  exact ⟨rfl, rfl⟩

set_option maxHeartbeats 400000 in
theorem kind_any (x : Nat) (w : World) (hx : x < 18446744073709551616) :
    Calls Try.prog 11 #[.float .f64 x] w fun e w' => e = .returned (.int .i64 (Fl.kindOf x)) ∧ w = w' := by
  rcases Fl.kind_cases x with h | h | h | h | h | h | h
  all_goals
    obtain ⟨hk, h1, h2, h3, hs, h4, h5⟩ := h
    rw [hk]
    rw [← fgt] at h1 h2
    rw [← fgt, ← feq] at h4
    rw [← feq] at h3
    rw [← flt] at h5
    unfold Fl.top at h1
    unfold Fl.low at h4
    have HX := Lib.hid hx
    clear hx hk
    go_enter Try.func11, Try.ntmps11
    go_wp2_with (go_at_call 25; refine (sign_any _ _ HX.out).mono ?_; rintro e w' ⟨rfl, rfl⟩)
    go_ret
    exact ⟨rfl, rfl⟩

set_option maxHeartbeats 400000 in
theorem rkind_any (x : Nat) (w : World) (hx : x < 18446744073709551616) :
    Calls Try.prog 12 #[.float .f64 x] w fun e w' => e = .returned (.int .i64 (Fl.kindOf x)) ∧ w = w' := by
  obtain ⟨X, hX⟩ : ∃ X : Int, (x : Int) = X := ⟨_, rfl⟩
  have h0 : 0 ≤ X := by omega
  have h1 : X ≤ 18446744073709551615 := by omega
  have he : ∀ w, (callFunc 19 #[.float .f64 x]).run Try.prog w = .ok (.value (.int .u64 X)) w := by rw [← hX]; exact ext_bits x
  have HK := Lib.hid (Fl.kindOf_int x X hX h1)
  clear hx hX
  go_enter Try.func12, Try.ntmps12
  go_wp2
  all_goals
    go_ret
    refine ⟨?_, rfl⟩
    rw [HK.out]
    congr 2
    repeat' split
    all_goals first | rfl | omega

set_option maxHeartbeats 400000 in
theorem order_any (x y : Nat) (w : World) (hx : x < 18446744073709551616) (hy : y < 18446744073709551616) :
    Calls Try.prog 13 #[.float .f64 x, .float .f64 y] w fun e w' => e = .returned (.int .i64 (Fl.ordOf x y)) ∧ w = w' := by
  have HX := Lib.hid hx
  have HY := Lib.hid hy
  clear hx hy
  obtain ⟨r, hr⟩ : ∃ r, Fl.ordOf x y = r := ⟨_, rfl⟩
  rw [hr]
  unfold Fl.ordOf at hr
  by_cases c1 : Fl.kindOf x < Fl.kindOf y
  · rw [if_pos c1] at hr
    subst hr
    go_enter Try.func13, Try.ntmps13
    go_wp2_with (go_at_call 11; refine (kind_any _ _ (by first | exact HX.out | exact HY.out)).mono ?_; rintro e w' ⟨rfl, rfl⟩)
    go_ret
    exact ⟨rfl, rfl⟩
  · rw [if_neg c1] at hr
    by_cases c2 : Fl.kindOf y < Fl.kindOf x
    · rw [if_pos c2] at hr
      subst hr
      go_enter Try.func13, Try.ntmps13
      go_wp2_with (go_at_call 11; refine (kind_any _ _ (by first | exact HX.out | exact HY.out)).mono ?_; rintro e w' ⟨rfl, rfl⟩)
      go_ret
      exact ⟨rfl, rfl⟩
    · rw [if_neg c2] at hr
      have hk : Fl.kindOf x = Fl.kindOf y := by omega
      have l1 := flt x y
      have l2 := fgt x y
      rw [Fl.lt_key hk] at l1
      rw [Fl.gt_key hk] at l2
      have HR := Lib.hid hr
      clear hk hr
      by_cases c3 : Fl.kindOf x ≠ 0 ∧ Fl.key x < Fl.key y
      · rw [decide_eq_true c3] at l1
        have HR : Hid (-1 = r) := Lib.hid (by have := HR.out; rw [if_neg c3.1, if_pos c3.2] at this; exact this)
        clear l2 c3
        go_enter Try.func13, Try.ntmps13
        go_wp2_with (go_at_call 11; refine (kind_any _ _ (by first | exact HX.out | exact HY.out)).mono ?_; rintro e w' ⟨rfl, rfl⟩)
        go_ret
        rw [← HR.out]
        exact ⟨rfl, rfl⟩
      · rw [decide_eq_false c3] at l1
        by_cases c4 : Fl.kindOf x ≠ 0 ∧ Fl.key y < Fl.key x
        · rw [decide_eq_true c4] at l2
          have HR : Hid (1 = r) := Lib.hid (by have := HR.out; rw [if_neg c4.1, if_neg (fun h => c3 ⟨c4.1, h⟩), if_pos c4.2] at this; exact this)
          clear c3 c4
          go_enter Try.func13, Try.ntmps13
          go_wp2_with (go_at_call 11; refine (kind_any _ _ (by first | exact HX.out | exact HY.out)).mono ?_; rintro e w' ⟨rfl, rfl⟩)
          go_ret
          rw [← HR.out]
          exact ⟨rfl, rfl⟩
        · rw [decide_eq_false c4] at l2
          have HR : Hid (0 = r) := Lib.hid (by
            have := HR.out
            by_cases c5 : Fl.kindOf x = 0
            · rw [if_pos c5] at this; exact this
            · rw [if_neg c5, if_neg (fun h => c3 ⟨c5, h⟩), if_neg (fun h => c4 ⟨c5, h⟩)] at this; exact this)
          clear c3 c4
          go_enter Try.func13, Try.ntmps13
          go_wp2_with (go_at_call 11; refine (kind_any _ _ (by first | exact HX.out | exact HY.out)).mono ?_; rintro e w' ⟨rfl, rfl⟩)
          go_ret
          rw [← HR.out]
          exact ⟨rfl, rfl⟩

theorem clean_pos {x : Nat} (h : Fl.gtB x 0 = false) : Fl.cleanOf x = 0 := by
  rw [Fl.gt0_kind] at h; simp at h; unfold Fl.cleanOf; rw [if_pos h]
theorem clean_one {x : Nat} (h : Fl.gtB x 0 = true) (h1 : Fl.gtB x 4607182418800017408 = true) : Fl.cleanOf x = 4607182418800017408 := by
  rw [Fl.gt0_kind] at h; simp at h
  have h1 : Fl.gtB x Fl.one = true := h1
  rw [Fl.gt1_clean x h] at h1; simp at h1
  unfold Fl.cleanOf; rw [if_neg (by omega), if_pos h1]; rfl
theorem clean_self {x : Nat} (h : Fl.gtB x 0 = true) (h1 : Fl.gtB x 4607182418800017408 = false) : Fl.cleanOf x = x := by
  rw [Fl.gt0_kind] at h; simp at h
  have h1 : Fl.gtB x Fl.one = false := h1
  rw [Fl.gt1_clean x h] at h1; simp at h1
  unfold Fl.cleanOf; rw [if_neg (by omega), if_neg (by omega)]

set_option maxHeartbeats 400000 in
theorem clean_any (x : Nat) (w : World) :
    Calls Try.prog 18 #[.float .f64 x] w fun e w' => e = .returned (.float .f64 (Fl.cleanOf x)) ∧ w = w' := by
  have h0 := fgt x 0
  have h1 := fgt x 4607182418800017408
  go_enter Try.func18, Try.ntmps18
  go_wp2
  · go_ret
    rw [clean_pos (by simpa using ‹(!Fl.gtB x 0) = true›)]; exact ⟨rfl, rfl⟩
  · go_ret
    rw [clean_one (by simpa using ‹(!Fl.gtB x 0) = false›) (by assumption)]; exact ⟨rfl, rfl⟩
  · go_ret
    rw [clean_self (by simpa using ‹(!Fl.gtB x 0) = false›) (by assumption)]; exact ⟨rfl, rfl⟩

theorem isnan_fact (x : Nat) : (FloatKind.f64.format.order x x != some Ordering.eq) = Fl.isNaN x := by
  rw [bne, feq]; unfold Fl.eqB; simp

set_option maxHeartbeats 400000 in
theorem bits_any (x : Nat) (w : World) :
    Calls Try.prog 17 #[.float .f64 x] w fun e w' => e = .returned (.int .u64 (Fl.bitsOf x)) ∧ w = w' := by
  have h0 := isnan_fact x
  have he := ext_bits
  go_enter Try.func17, Try.ntmps17
  go_wp2
  · go_ret
    unfold Fl.bitsOf; rw [if_pos (by assumption)]; exact ⟨rfl, rfl⟩
  · go_ret
    unfold Fl.bitsOf; rw [if_neg (by simp_all)]; exact ⟨rfl, rfl⟩

set_option maxHeartbeats 400000 in
theorem of_any (x : Int) (w : World) :
    Calls Try.prog 22 #[.int .u64 x] w fun e w' => e = .returned (.float .f64 x.toNat) ∧ w = w' := by
  have he := ext_from
  go_enter Try.func22, Try.ntmps22
  go_wp2
  go_ret
  exact ⟨rfl, rfl⟩

set_option maxHeartbeats 400000 in
theorem rbits_any (x : Nat) (w : World) (hx : x < 18446744073709551616) :
    Calls Try.prog 21 #[.float .f64 x] w fun e w' => e = .returned (.int .u64 (Fl.bitsOf x)) ∧ w = w' := by
  have he := ext_bits
  have HX := Lib.hid hx
  clear hx
  have HN := Lib.hid (Fl.kind_key x).2.2.1
  by_cases hk : Fl.kindOf x = 0
  · have hn : Hid (Fl.isNaN x = true) := Lib.hid (HN.out.1 hk)
    have hb : (Fl.kindOf x == 0) = true := by simp [hk]
    clear hk
    go_enter Try.func21, Try.ntmps21
    go_wp2_with (go_at_call 12; refine (rkind_any _ _ HX.out).mono ?_; rintro e w' ⟨rfl, rfl⟩)
    go_ret
    unfold Fl.bitsOf; rw [if_pos hn.out]; exact ⟨rfl, rfl⟩
  · have hn : Hid (¬ Fl.isNaN x = true) := Lib.hid (fun h => hk (HN.out.2 h))
    have hb : (Fl.kindOf x == 0) = false := by simp [hk]
    clear hk
    go_enter Try.func21, Try.ntmps21
    go_wp2_with (go_at_call 12; refine (rkind_any _ _ HX.out).mono ?_; rintro e w' ⟨rfl, rfl⟩)
    go_ret
    unfold Fl.bitsOf; rw [if_neg hn.out]; exact ⟨rfl, rfl⟩

end Go.Proofs.Ytambmendeomknaa
