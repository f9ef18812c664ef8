/-
  More walks of package score and of the document's answer: the document's order and clean score; points; means.
-/
import Derived.Test.YtambmendeomknaaWk
import Derived.Test.YtambmendeomknaaPt
namespace Go.Proofs.Ytambmendeomknaa
open Go.RowKit

theorem ret_int {k : IntKind} {a b : Int} (h : a = b) : Ending.returned (.int k a) = .returned (.int k b) := by rw [h]
theorem rord_a {x y : Nat} (k : Fl.kindOf x < Fl.kindOf y) : Fl.ordOf x y = -1 := by
  unfold Fl.ordOf; rw [if_pos k]
theorem rord_b {x y : Nat} (k : Fl.kindOf y < Fl.kindOf x) : Fl.ordOf x y = 1 := by
  unfold Fl.ordOf; rw [if_neg (by omega), if_pos k]
def ordZ (k X Y : Int) : Int :=
  if k = 2 then (if Y % 9223372036854775808 = X % 9223372036854775808 then 0 else if Y % 9223372036854775808 < X % 9223372036854775808 then -1 else 1)
  else if k = 0 ∨ X % 9223372036854775808 = Y % 9223372036854775808 then 0 else if X % 9223372036854775808 < Y % 9223372036854775808 then -1 else 1
theorem rord_c {x y : Nat} {X Y : Int} (hX : (x : Int) = X) (hY : (y : Int) = Y) (k : Fl.kindOf x = Fl.kindOf y) : Fl.ordOf x y = ordZ (Fl.kindOf x) X Y := by
  rw [Fl.ord_ref x y k]
  subst hX hY
  have h1 : (Fl.rung x : Int) = (x : Int) % 9223372036854775808 := by simp [Fl.rung]
  have h2 : (Fl.rung y : Int) = (y : Int) % 9223372036854775808 := by simp [Fl.rung]
  unfold ordZ
  rw [← h1, ← h2]
  have a : ((Fl.rung y : Int) = Fl.rung x) ↔ (Fl.rung y = Fl.rung x) := by omega
  have b : ((Fl.rung x : Int) = Fl.rung y) ↔ (Fl.rung x = Fl.rung y) := by omega
  have c : ((Fl.rung y : Int) < Fl.rung x) ↔ (Fl.rung y < Fl.rung x) := by omega
  have d : ((Fl.rung x : Int) < Fl.rung y) ↔ (Fl.rung x < Fl.rung y) := by omega
  simp only [a, b, c, d]

set_option maxHeartbeats 1000000 in
theorem rorder_any (x y : Nat) (w : World) (hx : x < 18446744073709551616) (hy : y < 18446744073709551616) :
    Calls Try.prog 14 #[.float .f64 x, .float .f64 y] w fun e w' => e = .returned (.int .i64 (Fl.ordOf x y)) ∧ w = w' := by
  obtain ⟨X, hX⟩ : ∃ X : Int, (x : Int) = X := ⟨_, rfl⟩
  obtain ⟨Y, hY⟩ : ∃ Y : Int, (y : Int) = Y := ⟨_, rfl⟩
  have h0 : 0 ≤ X := by omega
  have h1 : X ≤ 18446744073709551615 := by omega
  have g0 : 0 ≤ Y := by omega
  have g1 : Y ≤ 18446744073709551615 := by omega
  have he : ∀ w, (callFunc 19 #[.float .f64 x]).run Try.prog w = .ok (.value (.int .u64 X)) w := by rw [← hX]; exact ext_bits x
  have hf : ∀ w, (callFunc 19 #[.float .f64 y]).run Try.prog w = .ok (.value (.int .u64 Y)) w := by rw [← hY]; exact ext_bits y
  have HX := Lib.hid hx
  have HY := Lib.hid hy
  have HA := Lib.hid (fun k => rord_a (x := x) (y := y) k)
  have HB := Lib.hid (fun k => rord_b (x := x) (y := y) k)
  have HC := Lib.hid (fun k => rord_c hX hY k)
  clear hx hX hy hY
  obtain ⟨r, hr⟩ : ∃ r, Fl.ordOf x y = r := ⟨_, rfl⟩
  rw [hr] at HA HB HC
  rw [hr]
  clear hr
  have KX : ∀ w, Calls Try.prog 12 #[.float .f64 x] w fun e w' => e = .returned (.int .i64 (Fl.kindOf x)) ∧ w = w' := fun w => rkind_any x w HX.out
  have KY : ∀ w, Calls Try.prog 12 #[.float .f64 y] w fun e w' => e = .returned (.int .i64 (Fl.kindOf y)) ∧ w = w' := fun w => rkind_any y w HY.out
  generalize Fl.kindOf x = k at *
  generalize Fl.kindOf y = l at *
  have KX := Lib.hid KX
  have KY := Lib.hid KY
  go_enter Try.func14, Try.ntmps14
  go_wp2_with fail
  refine (KX.out _).mono ?_
  rintro e w' ⟨rfl, rfl⟩
  go_wp2_with fail
  refine (KY.out _).mono ?_
  rintro e w' ⟨rfl, rfl⟩
  go_wp2
  all_goals
    go_ret
    refine ⟨ret_int ?_, rfl⟩
    clear KX KY HX HY he hf
    rcases Int.lt_trichotomy k l with c | c | c
    · have h := HA.out c
      first | omega | (subst c; omega) | (simp_all; done) | (simp_all; omega)
    · have h := HC.out c
      unfold ordZ at h
      try simp only [beq_iff_eq, beq_eq_false_iff_ne, ne_eq] at *
      rw [h]
      clear HA HB HC h
      repeat' split
      all_goals omega
    · have h := HB.out c
      first | omega | (subst c; omega) | (simp_all; done) | (simp_all; omega)

set_option maxHeartbeats 400000 in
theorem floor_any (p : Nat) (w : World) (hp : p < Fl.inf) :
    Calls Try.prog 26 #[.float .f64 p] w fun e w' => e = .returned (.float .f64 (Fl.near (Fl.floorOf p) 0)) ∧ w = w' := by
  have he : ∀ w, (callFunc 28 #[.float .f64 p]).run Try.prog w = .ok (.value (.float .f64 (Fl.near (Fl.floorOf p) 0))) w := by
    intro w
    rw [run_callFunc_extern (e := Extern.MathFloor.toIntegral "math.archFloor" .down) Try.func28 (by kernel_rfl) (by kernel_rfl) (by kernel_rfl) (by kernel_rfl)]
    have h1 := Fl.integral_pos hp
    have h2 : FloatKind.f64.decode p = .number false (Fl.mag p) (-1074 + (Fl.up p : Int)) := Fl.read_pos hp
    have h3 : Extern.MathFloor.toIntegral "math.archFloor" .down #[.float .f64 p] = pure (.float .f64 (FloatKind.f64.encode ((FloatKind.f64.decode p).integral .down))) := by
      conv =>
        lhs
        whnf
      rw [h2]
    have h4 : FloatKind.f64.encode ((FloatKind.f64.decode p).integral .down) = Fl.near (Fl.floorOf p) 0 := by
      show Ieee.double.write ((Ieee.double.read p).integral .down) = _
      rw [h1, Fl.write_num]
    rw [h3, h4]; rfl
  clear hp
  go_enter Try.func26, Try.ntmps26
  go_wp2
  go_ret
  exact ⟨rfl, rfl⟩

theorem conv_small {k : Nat} (h : k ≤ 1000) (w : World) : (convert 24 3 (.float .f64 (Fl.near k 0))).run Try.prog w = .ok (.int .i64 k) w := by
  refine run_convert_float_int w 24 3 .f64 .i64 _ _ (by kernel_rfl) (by kernel_rfl) ?_
  unfold floatToIntVal
  simp only [FloatKind.decode, FloatKind.format]
  rw [Fl.small_int h]
  simp only
  rw [if_pos]
  constructor
  · show (-9223372036854775808 : Int) ≤ k; omega
  · show (k : Int) ≤ 9223372036854775807; omega

set_option maxHeartbeats 400000 in
theorem points_any (x : Nat) (w : World) (hx : x < 18446744073709551616) :
    Calls Try.prog 15 #[.float .f64 x] w fun e w' => e = .returned (.int .i64 (Fl.pointsOf x)) ∧ w = w' := by
  have hc := Fl.cleanOf_le x hx
  have hm : ∀ w, (binOp .mul 24 (.float .f64 4652007308841189376) (.float .f64 (Fl.cleanOf x))).run Try.prog w = .ok (.float .f64 (Fl.prodOf (Fl.cleanOf x))) w :=
    fun w => run_float_arith w .mul 24 .f64 _ _ _ (Fl.mul_left hc)
  have hi : Hid (Fl.prodOf (Fl.cleanOf x) < Fl.inf) := Lib.hid (Nat.lt_of_le_of_lt (Fl.prod_le hc) Fl.R1000_inf)
  have hv : ∀ w, (convert 24 3 (.float .f64 (Fl.near (Fl.floorOf (Fl.prodOf (Fl.cleanOf x))) 0))).run Try.prog w = .ok (.int .i64 (Fl.floorOf (Fl.prodOf (Fl.cleanOf x)))) w :=
    fun w => conv_small (Fl.points_le hc) w
  clear hc hx
  unfold Fl.pointsOf
  go_enter Try.func15, Try.ntmps15
  go_wp2_with (first | (go_at_call 18; refine (clean_any _ _).mono ?_; rintro e w' ⟨rfl, rfl⟩) | (go_at_call 26; refine (floor_any _ _ hi.out).mono ?_; rintro e w' ⟨rfl, rfl⟩))
  go_ret
  exact ⟨rfl, rfl⟩

theorem ord_one {x : Nat} (h : 5 ≤ Fl.kindOf x) : decide (0 < Fl.ordOf x 4607182418800017408) = decide (Fl.one < Fl.rung x) := by
  have k1 : Fl.kindOf 4607182418800017408 = 5 := by decide
  have k2 : Fl.key 4607182418800017408 = 4607182418800017408 := by decide
  have k3 : Fl.one = 4607182418800017408 := rfl
  have k4 : Fl.inf = 9218868437227405312 := rfl
  obtain ⟨_, a6, _, _, _, _, _, a5, a7⟩ := Fl.kind_key x
  have : Fl.kindOf x = 5 ∨ Fl.kindOf x = 6 := by omega
  unfold Fl.ordOf
  rw [k1, k2]
  rcases this with e | e
  · have p := (a5 e).1
    rw [e, p, if_neg (by omega), if_neg (by omega), if_neg (by omega)]
    rw [Bool.eq_iff_iff]; simp only [decide_eq_true_eq]
    split
    · omega
    · split <;> omega
  · have p := (a7 e).2
    rw [e, if_neg (by omega), if_pos (by omega)]
    rw [Bool.eq_iff_iff]; simp only [decide_eq_true_eq]; omega

set_option maxHeartbeats 400000 in
theorem rclean_any (x : Nat) (w : World) (hx : x < 18446744073709551616) :
    Calls Try.prog 20 #[.float .f64 x] w fun e w' => e = .returned (.float .f64 (Fl.cleanOf x)) ∧ w = w' := by
  have HX := Lib.hid hx
  clear hx
  by_cases c : Fl.kindOf x < 5
  · have hv : Hid (Fl.cleanOf x = 0) := Lib.hid (by unfold Fl.cleanOf; rw [if_pos c])
    go_enter Try.func20, Try.ntmps20
    go_wp2_with (go_at_call 12; refine (rkind_any _ _ HX.out).mono ?_; rintro e w' ⟨rfl, rfl⟩)
    go_ret
    rw [hv.out]; exact ⟨rfl, rfl⟩
  · have c' : 5 ≤ Fl.kindOf x := by omega
    have hd := ord_one c'
    by_cases d : Fl.one < Fl.rung x
    · have hv : Hid (Fl.cleanOf x = 4607182418800017408) := Lib.hid (by unfold Fl.cleanOf; rw [if_neg c, if_pos d]; rfl)
      rw [decide_eq_true d, decide_eq_true_eq] at hd
      clear d
      go_enter Try.func20, Try.ntmps20
      go_wp2_with (first | (go_at_call 12; refine (rkind_any _ _ HX.out).mono ?_; rintro e w' ⟨rfl, rfl⟩) | (go_at_call 14; refine (rorder_any _ _ _ HX.out (by decide)).mono ?_; rintro e w' ⟨rfl, rfl⟩))
      go_ret
      rw [hv.out]; exact ⟨rfl, rfl⟩
    · have hv : Hid (Fl.cleanOf x = x) := Lib.hid (by unfold Fl.cleanOf; rw [if_neg c, if_neg d])
      rw [decide_eq_false d, decide_eq_false_iff_not] at hd
      clear d
      go_enter Try.func20, Try.ntmps20
      go_wp2_with (first | (go_at_call 12; refine (rkind_any _ _ HX.out).mono ?_; rintro e w' ⟨rfl, rfl⟩) | (go_at_call 14; refine (rorder_any _ _ _ HX.out (by decide)).mono ?_; rintro e w' ⟨rfl, rfl⟩))
      go_ret
      rw [hv.out]; exact ⟨rfl, rfl⟩

theorem ofInt_small (k : Nat) : floatOfInt .f64 (k : Int) = Fl.near k 0 := by
  show Ieee.double.nearest (decide ((k : Int) < 0)) (k : Int).natAbs 0 = _
  rw [decide_eq_false (by omega), Fl.nearest_eq, Fl.word_false, Int.natAbs_natCast]
theorem pos_word {p : Nat} (hp : p < Fl.inf) : Fl.isNaN p = false ∧ Fl.key p = p := by
  have hi := Fl.inf_lt
  have := Fl.rung_small (r := p) (by omega)
  unfold Fl.isNaN Fl.key
  rw [this.1, this.2]
  simp; omega
theorem le_words {p q : Nat} (hp : p < Fl.inf) (hq : q < Fl.inf) : (FloatKind.f64.format.order p q == some Ordering.lt || FloatKind.f64.format.order p q == some Ordering.eq) = decide (p ≤ q) := by
  rw [flt, feq]
  unfold Fl.ltB Fl.eqB
  rw [(pos_word hp).1, (pos_word hq).1, (pos_word hp).2, (pos_word hq).2]
  rw [Bool.eq_iff_iff]; simp; omega
theorem cmp_small {k p : Nat} (hk : k + 1 ≤ 1000) (hp : p < Fl.inf) :
    (FloatKind.f64.format.order (floatOfInt .f64 ((k : Int) + 1)) p == some Ordering.lt || FloatKind.f64.format.order (floatOfInt .f64 ((k : Int) + 1)) p == some Ordering.eq) = decide (k + 1 ≤ Fl.floorOf p) := by
  have e : ((k : Int) + 1) = ((k + 1 : Nat) : Int) := by omega
  rw [e, ofInt_small, le_words (Fl.small_inf hk) hp]
  rw [Bool.eq_iff_iff]; simp only [decide_eq_true_eq]; exact Fl.small_le hk

set_option maxRecDepth 100000 in
set_option maxHeartbeats 400000 in
theorem rpoints_any (x : Nat) (w : World) (hx : x < 18446744073709551616) :
    Calls Try.prog 16 #[.float .f64 x] w fun e w' => e = .returned (.int .i64 (Fl.pointsOf x)) ∧ w = w' := by
  have hc := Fl.cleanOf_le x hx
  have hm : ∀ w, (binOp .mul 24 (.float .f64 (Fl.cleanOf x)) (.float .f64 4652007308841189376)).run Try.prog w = .ok (.float .f64 (Fl.prodOf (Fl.cleanOf x))) w :=
    fun w => run_float_arith w .mul 24 .f64 _ _ _ (Fl.mul_right hc)
  have hi : Hid (Fl.prodOf (Fl.cleanOf x) < Fl.inf) := Lib.hid (Nat.lt_of_le_of_lt (Fl.prod_le hc) Fl.R1000_inf)
  have hn : Fl.floorOf (Fl.prodOf (Fl.cleanOf x)) ≤ 1000 := Fl.points_le hc
  have HX := Lib.hid hx
  clear hc hx
  unfold Fl.pointsOf
  obtain ⟨p, hp⟩ : ∃ p, Fl.prodOf (Fl.cleanOf x) = p := ⟨_, rfl⟩
  rw [hp] at hn hi hm
  rw [hp]
  clear hp
  go_enter Try.func16, Try.ntmps16
  go_wp2_with (go_at_call 20; refine (rclean_any _ _ HX.out).mono ?_; rintro e w' ⟨rfl, rfl⟩)
  go_loop [4] (fun i => ∃ k : Nat, k ≤ Fl.floorOf p ∧ i = .int .i64 k) (fun i => 1000 - (intOf i).toNat)
  case atStart => exact ⟨0, Nat.zero_le _, rfl⟩
  case round =>
    obtain ⟨k, hk, rfl⟩ := hrel
    by_cases c : k < 1000
    · have hcm := cmp_small (k := k) (by omega) hi.out
      by_cases d : k + 1 ≤ Fl.floorOf p
      · rw [decide_eq_true d] at hcm
        go_wp2
        go_round
        case rel => exact ⟨k + 1, by omega, by go_num⟩
        case measure => simp [intOf]; omega
      · rw [decide_eq_false d] at hcm
        have he : Hid (k = Fl.floorOf p) := Lib.hid (by omega)
        clear d
        go_wp2
        go_ret
        exact ⟨ret_int (by rw [← he.out]), rfl⟩
    · have he : Hid (k = Fl.floorOf p) := Lib.hid (by omega)
      go_wp2
      go_ret
      exact ⟨ret_int (by rw [← he.out]), rfl⟩

end Go.Proofs.Ytambmendeomknaa
