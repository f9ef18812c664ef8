/-
  The walk of DiskReads.
-/
import Derived.Test.YtfhaipeimpaeiaaZp
import Derived.Deep.Cut
import Derived.Deep.CutRange
namespace Go.Proofs.Ytfhaipeimpaeiaa
open Go.RowKit
set_option linter.unusedVariables false
set_option linter.unusedSimpArgs false
set_option maxHeartbeats 8000000 in
set_option maxRecDepth 100000 in
theorem reads_walk (z y : Int) (l0 l1 : List Int) (w : World) (hz0 : -9223372036854775808 ≤ z) (hz1 : z ≤ 9223372036854775807) (hy0 : -9223372036854775808 ≤ y) (hy1 : y ≤ 9223372036854775807) (h0 : l0.length = 64) (b0 : Byt l0) (h1 : l1.length = 64) (b1 : Byt l1) :
    Calls Try.prog 6 #[.int .i64 z, .int .i64 y, .agg (nums l0).toArray, .agg (nums l1).toArray] w fun e w' => e = .returned (.bool true) ∧ Below w.heap.size w w' := by
  have HL := Lib.hid (And.intro h0 (And.intro b0 (And.intro h1 b1)))
  clear h0 b0 h1 b1
  have k6 : Whole ((w.alloc (.cells (nums l0).toArray 32)).alloc (.cells (nums l1).toArray 32)) w.heap.size 32 (nums l0).toArray := (Whole.new w _ _).alloc _
  have k7 : Whole ((w.alloc (.cells (nums l0).toArray 32)).alloc (.cells (nums l1).toArray 32)) (w.heap.size + 1) 32 (nums l1).toArray := by
    have := Whole.new (w.alloc (.cells (nums l0).toArray 32)) 32 (nums l1).toArray
    rw [size_alloc] at this
    exact this
  have hb : Below w.heap.size w ((w.alloc (.cells (nums l0).toArray 32)).alloc (.cells (nums l1).toArray 32)) := ((Below.refl _ _).alloc (Nat.le_refl _) _).alloc (by simp) _
  obtain ⟨w0, hw0⟩ : ∃ w0, (w.alloc (.cells (nums l0).toArray 32)).alloc (.cells (nums l1).toArray 32) = w0 := ⟨_, rfl⟩
  rw [hw0] at k6 k7 hb
  have H0 := Lib.hid (And.intro k6 (And.intro k7 hb))
  have HW := Lib.hid hw0
  clear k6 k7 hb hw0
  go_enter Try.func6, Try.ntmps6
  go_wp2_with fail
  rw [HW.out]
  refine awake_any.mono ?_
  rintro e w1 ⟨rfl, hb1⟩
  have H1 := Lib.hid (And.intro (H0.out.1.keep (hb1.block _ H0.out.1.lt)) (And.intro (H0.out.2.1.keep (hb1.block _ H0.out.2.1.lt)) (H0.out.2.2.trans (hb1.mono H0.out.2.2.size))))
  clear hb1 H0 HW
  go_wp2_with fail
  refine (new_ok (n := 20) (by omega)).mono ?_
  rintro e w2 ⟨p, bb, mb, rfl, hd2, hp, hbb, hmb, hb2⟩
  have hs1 := H1.out.2.2.size
  have h6lt := H1.out.1.lt
  have h7lt := H1.out.2.1.lt
  have HP : Hid ((w.heap.size ≤ p ∧ w.heap.size ≤ bb ∧ w.heap.size ≤ mb) ∧ w.heap.size ∉ [p, bb, mb] ∧ w.heap.size + 1 ∉ [p, bb, mb]) := Lib.hid ⟨⟨by omega, by omega, by omega⟩, by simp; omega, by simp; omega⟩
  have H2 := Lib.hid (And.intro (H1.out.1.keep (hb2.block _ H1.out.1.lt)) (And.intro (H1.out.2.1.keep (hb2.block _ H1.out.2.1.lt)) (And.intro (H1.out.2.2.trans (hb2.mono H1.out.2.2.size)) hd2)))
  clear hb2 hd2 hp hbb hmb hs1 h6lt h7lt H1
  go_wp2_with (first | ((with_reducible show wpList _ _ _ ((⟨_, Op.load 32 _, _, _, _, _⟩ : Oper) :: _) _ _); refine wpList_load_row rfl 32 (.tmp 6) rfl w.heap.size rfl 32 (nums l0).toArray (0, 0) _ H2.out.1 und_b rfl (info_bn HL.out.1) ?_) | fail)
  refine (write_z (z := z) (b := l0) H2.out.2.2.2 HL.out.1 HL.out.2.1).mono ?_
  rintro e w3 ⟨rfl, hd3, ho3⟩
  obtain ⟨a3, ha3⟩ : ∃ a3, wrz (fresh 20) 20 z l0 = a3 := ⟨_, rfl⟩
  rw [ha3] at hd3
  have H3 := Lib.hid (And.intro (H2.out.1.keep (ho3.block _ H2.out.1.lt HP.out.2.1)) (And.intro (H2.out.2.1.keep (ho3.block _ H2.out.2.1.lt HP.out.2.2)) (And.intro (ho3.after H2.out.2.2.1 HP.out.1) (And.intro hd3 ha3))))
  clear ha3 hd3 ho3 H2
  obtain ⟨E0, hE0⟩ : ∃ E, bad (fresh 20) 20 z = E := ⟨_, rfl⟩
  obtain ⟨E1, hE1⟩ : ∃ E, bad (fresh 20) 20 y = E := ⟨_, rfl⟩
  rw [hE0]
  have hE1a : bad a3 20 y = E1 := by rw [← H3.out.2.2.2.2, bad_wrz]; exact hE1
  go_wp2_with (first | ((with_reducible show wpList _ _ _ ((⟨_, Op.load 32 _, _, _, _, _⟩ : Oper) :: _) _ _); refine wpList_load_row rfl 32 (.tmp 7) rfl (w.heap.size + 1) rfl 32 (nums l1).toArray (0, 0) _ H3.out.2.1 und_b rfl (info_bn HL.out.2.2.1) ?_) | fail)
  refine (write_z (z := y) (b := l1) H3.out.2.2.2.1 HL.out.2.2.1 HL.out.2.2.2).mono ?_
  rintro e w4 ⟨rfl, hd4, ho4⟩
  rw [hE1a]
  obtain ⟨a4, ha4⟩ : ∃ a4, wrz a3 20 y l1 = a4 := ⟨_, rfl⟩
  rw [ha4] at hd4
  have hE0b : bad a4 20 z = E0 := by rw [← ha4, bad_wrz, ← H3.out.2.2.2.2, bad_wrz]; exact hE0
  have hE1b : bad a4 20 y = E1 := by rw [← ha4, bad_wrz]; exact hE1a
  have H4 := Lib.hid (And.intro (H3.out.1.keep (ho4.block _ H3.out.1.lt HP.out.2.1)) (And.intro (H3.out.2.1.keep (ho4.block _ H3.out.2.1.lt HP.out.2.2)) (And.intro (ho4.after H3.out.2.2.1 HP.out.1) (And.intro hd4 (And.intro H3.out.2.2.2.2 ha4)))))
  have HE := Lib.hid (And.intro hE0 (And.intro hE1 (And.intro hE0b hE1b)))
  clear ha4 hd4 ho4 H3 hE0 hE1 hE1a hE0b hE1b
  go_wp2_with fail
  refine (read_z (z := z) H4.out.2.2.2.1).mono ?_
  rintro e w5 ⟨rfl, hb5⟩
  rw [HE.out.2.2.1]
  obtain ⟨x0, hx0⟩ : ∃ x0, rdz a4 20 z = x0 := ⟨_, rfl⟩
  rw [hx0]
  have hx0l : x0.length = 64 := by rw [← hx0]; exact (rdz_len H4.out.2.2.2.1.ok).1
  obtain ⟨w6, h6, k6, b6⟩ := boxed w5 x0
  have hb6 := hb5.trans (b6.mono hb5.size)
  have H6 := Lib.hid (And.intro (H4.out.1.keep (hb6.block _ H4.out.1.lt)) (And.intro (H4.out.2.1.keep (hb6.block _ H4.out.2.1.lt)) (And.intro (H4.out.2.2.1.trans (hb6.mono H4.out.2.2.1.size)) (And.intro (H4.out.2.2.2.1.old hb6) (And.intro k6 (And.intro h6 hx0l))))))
  have HA := Lib.hid (And.intro H4.out.2.2.2.2.1 (And.intro H4.out.2.2.2.2.2 hx0))
  clear hb5 hx0 hx0l h6 k6 b6 hb6 H4
  have hzb := zero_b
  go_wp2_with (first | ((with_reducible show wpList _ _ _ ((⟨_, Op.store 32 _ _, _, _, _, _⟩ : Oper) :: _) _ _); refine wpList_store_row rfl 32 (.tmp 14) (.tmp 42) rfl w5.heap.size (nums x0).toArray rfl rfl 32 zb (Whole.new w5 _ _) (info_bn H6.out.2.2.2.2.2.2) (size_bn H6.out.2.2.2.2.2.2) (all_nums _) ?_; rw [H6.out.2.2.2.2.2.1]) | fail)
  refine (read_z (z := y) H6.out.2.2.2.1).mono ?_
  rintro e w7 ⟨rfl, hb7⟩
  rw [HE.out.2.2.2]
  obtain ⟨x1, hx1⟩ : ∃ x1, rdz a4 20 y = x1 := ⟨_, rfl⟩
  rw [hx1]
  have hx1l : x1.length = 64 := by rw [← hx1]; exact (rdz_len H6.out.2.2.2.1.ok).1
  obtain ⟨w8, h8, k8, b8⟩ := boxed w7 x1
  have hb8 := hb7.trans (b8.mono hb7.size)
  have H8 := Lib.hid (And.intro (H6.out.1.keep (hb8.block _ H6.out.1.lt)) (And.intro (H6.out.2.1.keep (hb8.block _ H6.out.2.1.lt)) (And.intro (H6.out.2.2.1.trans (hb8.mono H6.out.2.2.1.size)) (And.intro (H6.out.2.2.2.2.1.keep (hb8.block _ H6.out.2.2.2.2.1.lt)) (And.intro k8 (And.intro h8 (And.intro hx1l H6.out.2.2.2.2.2.2)))))))
  have HX := Lib.hid hx1
  clear hb7 hx1 hx1l h8 k8 b8 hb8 H6
  go_upto_region 11 with (first | ((with_reducible show wpList _ _ _ ((⟨_, Op.store 32 _ _, _, _, _, _⟩ : Oper) :: _) _ _); refine wpList_store_row rfl 32 (.tmp 16) (.tmp 48) rfl w7.heap.size (nums x1).toArray rfl rfl 32 zb (Whole.new w7 _ _) (info_bn H8.out.2.2.2.2.2.2.1) (size_bn H8.out.2.2.2.2.2.2.1) (all_nums _) ?_; rw [H8.out.2.2.2.2.2.1]) | fail)
  clear hzb
  obtain ⟨g, hg⟩ : ∃ g : Bool, decide (0 ≤ z ∧ z < 20) = g := ⟨_, rfl⟩
  obtain ⟨f, hf⟩ : ∃ f : Bool, decide (0 ≤ y ∧ y < 20) = f := ⟨_, rfl⟩
  have HG := Lib.hid hg
  have HF := Lib.hid hf
  clear hg hf
  go_cut [18] from 21 (fun v wr => v = .bool g ∧ wr = w8)
  case first =>
    by_cases q0 : 0 ≤ z
    · by_cases q1 : z < 20
      · have hgt : g = true := by rw [← HG.out]; simp [q0, q1]
        go_wp2
        go_meet
        case rel => exact ⟨by rw [hgt], rfl⟩
      · have hgt : g = false := by rw [← HG.out]; simp [q1]
        have q2 : 20 ≤ z := by omega
        go_wp2
        go_meet
        case rel => exact ⟨by rw [hgt], rfl⟩
    · have hgt : g = false := by rw [← HG.out]; simp [q0]
      have q2 : z < 0 := by omega
      go_wp2
      go_meet
      case rel => exact ⟨by rw [hgt], rfl⟩
  case rest =>
  obtain ⟨rfl, rfl⟩ := hcut
  go_upto_region 12 with (fail)
  go_cut [19] from 21 (fun v wr => v = .bool f ∧ wr = wc)
  case first =>
    by_cases q0 : 0 ≤ y
    · by_cases q1 : y < 20
      · have hgt : f = true := by rw [← HF.out]; simp [q0, q1]
        go_wp2
        go_meet
        case rel => exact ⟨by rw [hgt], rfl⟩
      · have hgt : f = false := by rw [← HF.out]; simp [q1]
        have q2 : 20 ≤ y := by omega
        go_wp2
        go_meet
        case rel => exact ⟨by rw [hgt], rfl⟩
    · have hgt : f = false := by rw [← HF.out]; simp [q0]
      have q2 : y < 0 := by omega
      go_wp2
      go_meet
      case rel => exact ⟨by rw [hgt], rfl⟩
  case rest =>
  obtain ⟨rfl, rfl⟩ := hcut
  have hbad : ∀ v : Int, bad (fresh 20) 20 v = if v < 0 ∨ 20 ≤ v then 61 else 0 := fun v => rfl
  have hy1' : ∀ {X Y : List Int}, X.length = 64 → Y.length = 64 → X = Y → ∀ w, (binOp .eql 32 (.agg (nums X).toArray) (.agg (nums Y).toArray)).run Try.prog w = .ok (.bool true) w := fun {X Y} h1 h2 h3 w => by rw [eql64 X Y h1 h2 w, decide_eq_true h3]
  have e1 : f = true → x1 = l1 := fun h => by
    rw [← HX.out, ← HA.out.2.1]
    refine rdz_wrz_same ?_
    rw [← HA.out.1, bad_wrz, hbad, if_neg]
    rw [h] at HF
    have := of_decide_eq_true HF.out
    omega
  have e2 : f = false → x1 = z64 := fun h => by
    rw [← HX.out]
    refine rdz_none ?_
    rw [HE.out.2.2.2, ← HE.out.2.1, hbad, if_pos]
    · omega
    · rw [h] at HF
      have := of_decide_eq_false HF.out
      omega
  have e3 : g = false → x0 = z64 := fun h => by
    rw [← HA.out.2.2]
    refine rdz_none ?_
    rw [HE.out.2.2.1, ← HE.out.1, hbad, if_pos]
    · omega
    · rw [h] at HG
      have := of_decide_eq_false HG.out
      omega
  have e4 : g = true → z ≠ y → x0 = l0 := fun h hne => by
    rw [← HA.out.2.2, ← HA.out.2.1, rdz_wrz_other (fun e => hne e.symm), ← HA.out.1]
    refine rdz_wrz_same ?_
    rw [hbad, if_neg]
    rw [h] at HG
    have := of_decide_eq_true HG.out
    omega
  have e5 : g = true → E0 = 0 := fun h => by
    rw [← HE.out.1, hbad, if_neg]
    rw [h] at HG
    have := of_decide_eq_true HG.out
    omega
  have e6 : g = false → E0 = 61 := fun h => by
    rw [← HE.out.1, hbad, if_pos]
    rw [h] at HG
    have := of_decide_eq_false HG.out
    omega
  have e7 : f = true → E1 = 0 := fun h => by
    rw [← HE.out.2.1, hbad, if_neg]
    rw [h] at HF
    have := of_decide_eq_true HF.out
    omega
  have e8 : f = false → E1 = 61 := fun h => by
    rw [← HE.out.2.1, hbad, if_pos]
    rw [h] at HF
    have := of_decide_eq_false HF.out
    omega
  have e9 : g ≠ f → z ≠ y := fun h hzy => h (by rw [← HG.out, ← HF.out, hzy])
  have hx1l := H8.out.2.2.2.2.2.2.1
  have hx0l := H8.out.2.2.2.2.2.2.2
  clear HG HF HX HA HE hbad
  cases g <;> cases f
  · obtain rfl := e6 rfl
    obtain rfl := e8 rfl
    have r1 := hy1' hx0l z64_len (e3 rfl)
    have r2 := hy1' hx1l z64_len (e2 rfl)
    clear hy1' hx1l hx0l hz0 hz1 hy0 hy1
    clear e1 e2 e3 e5 e6 e7 e8
    try clear e4 e9
    go_wp2_with (first | ((with_reducible show wpList _ _ _ ((⟨_, Op.load 32 _, _, _, _, _⟩ : Oper) :: _) _ _); refine wpList_load_rowG (by rfl) 32 (.tmp 16) rfl w7.heap.size rfl 32 (nums x1).toArray (0, 0) _ H8.out.2.2.2.2.1 und_b rfl (info_bn H8.out.2.2.2.2.2.2.1) ?_) | ((with_reducible show wpList _ _ _ ((⟨_, Op.load 32 _, _, _, _, _⟩ : Oper) :: _) _ _); refine wpList_load_rowG (by rfl) 32 (.tmp 7) rfl (w.heap.size + 1) rfl 32 (nums l1).toArray (0, 0) _ H8.out.2.1 und_b rfl (info_bn HL.out.2.2.1) ?_) | ((with_reducible show wpList _ _ _ ((⟨_, Op.load 32 _, _, _, _, _⟩ : Oper) :: _) _ _); refine wpList_load_rowG (by rfl) 32 (.tmp 14) rfl w5.heap.size rfl 32 (nums x0).toArray (0, 0) _ H8.out.2.2.2.1 und_b rfl (info_bn H8.out.2.2.2.2.2.2.2) ?_) | ((with_reducible show wpList _ _ _ ((⟨_, Op.load 32 _, _, _, _, _⟩ : Oper) :: _) _ _); refine wpList_load_rowG (by rfl) 32 (.tmp 6) rfl w.heap.size rfl 32 (nums l0).toArray (0, 0) _ H8.out.1 und_b rfl (info_bn HL.out.1) ?_) | ((with_reducible show wpList _ _ _ ((⟨_, Op.build 32 _, _, _, _, _⟩ : Oper) :: _) _ _); refine wpList_builtG (by rfl) #[] rfl [] rfl (nums z64).toArray built_z ?_) | fail)
    go_ret
    exact ⟨rfl, H8.out.2.2.1⟩
  · obtain rfl := e6 rfl
    obtain rfl := e7 rfl
    have r1 := hy1' hx0l z64_len (e3 rfl)
    have r2 := hy1' hx1l HL.out.2.2.1 (e1 rfl)
    clear hy1' hx1l hx0l hz0 hz1 hy0 hy1
    clear e1 e2 e3 e5 e6 e7 e8
    try clear e4 e9
    go_wp2_with (first | ((with_reducible show wpList _ _ _ ((⟨_, Op.load 32 _, _, _, _, _⟩ : Oper) :: _) _ _); refine wpList_load_rowG (by rfl) 32 (.tmp 16) rfl w7.heap.size rfl 32 (nums x1).toArray (0, 0) _ H8.out.2.2.2.2.1 und_b rfl (info_bn H8.out.2.2.2.2.2.2.1) ?_) | ((with_reducible show wpList _ _ _ ((⟨_, Op.load 32 _, _, _, _, _⟩ : Oper) :: _) _ _); refine wpList_load_rowG (by rfl) 32 (.tmp 7) rfl (w.heap.size + 1) rfl 32 (nums l1).toArray (0, 0) _ H8.out.2.1 und_b rfl (info_bn HL.out.2.2.1) ?_) | ((with_reducible show wpList _ _ _ ((⟨_, Op.load 32 _, _, _, _, _⟩ : Oper) :: _) _ _); refine wpList_load_rowG (by rfl) 32 (.tmp 14) rfl w5.heap.size rfl 32 (nums x0).toArray (0, 0) _ H8.out.2.2.2.1 und_b rfl (info_bn H8.out.2.2.2.2.2.2.2) ?_) | ((with_reducible show wpList _ _ _ ((⟨_, Op.load 32 _, _, _, _, _⟩ : Oper) :: _) _ _); refine wpList_load_rowG (by rfl) 32 (.tmp 6) rfl w.heap.size rfl 32 (nums l0).toArray (0, 0) _ H8.out.1 und_b rfl (info_bn HL.out.1) ?_) | ((with_reducible show wpList _ _ _ ((⟨_, Op.build 32 _, _, _, _, _⟩ : Oper) :: _) _ _); refine wpList_builtG (by rfl) #[] rfl [] rfl (nums z64).toArray built_z ?_) | fail)
    go_ret
    exact ⟨rfl, H8.out.2.2.1⟩
  · obtain rfl := e5 rfl
    obtain rfl := e8 rfl
    have hzy := e9 (by decide)
    have r1 := hy1' hx0l HL.out.1 (e4 rfl hzy)
    have r2 := hy1' hx1l z64_len (e2 rfl)
    have q1 : (z == y) = false := by simpa using hzy
    clear hy1' hx1l hx0l hz0 hz1 hy0 hy1
    clear e1 e2 e3 e5 e6 e7 e8
    try clear e4 e9
    go_wp2_with (first | ((with_reducible show wpList _ _ _ ((⟨_, Op.load 32 _, _, _, _, _⟩ : Oper) :: _) _ _); refine wpList_load_rowG (by rfl) 32 (.tmp 16) rfl w7.heap.size rfl 32 (nums x1).toArray (0, 0) _ H8.out.2.2.2.2.1 und_b rfl (info_bn H8.out.2.2.2.2.2.2.1) ?_) | ((with_reducible show wpList _ _ _ ((⟨_, Op.load 32 _, _, _, _, _⟩ : Oper) :: _) _ _); refine wpList_load_rowG (by rfl) 32 (.tmp 7) rfl (w.heap.size + 1) rfl 32 (nums l1).toArray (0, 0) _ H8.out.2.1 und_b rfl (info_bn HL.out.2.2.1) ?_) | ((with_reducible show wpList _ _ _ ((⟨_, Op.load 32 _, _, _, _, _⟩ : Oper) :: _) _ _); refine wpList_load_rowG (by rfl) 32 (.tmp 14) rfl w5.heap.size rfl 32 (nums x0).toArray (0, 0) _ H8.out.2.2.2.1 und_b rfl (info_bn H8.out.2.2.2.2.2.2.2) ?_) | ((with_reducible show wpList _ _ _ ((⟨_, Op.load 32 _, _, _, _, _⟩ : Oper) :: _) _ _); refine wpList_load_rowG (by rfl) 32 (.tmp 6) rfl w.heap.size rfl 32 (nums l0).toArray (0, 0) _ H8.out.1 und_b rfl (info_bn HL.out.1) ?_) | ((with_reducible show wpList _ _ _ ((⟨_, Op.build 32 _, _, _, _, _⟩ : Oper) :: _) _ _); refine wpList_builtG (by rfl) #[] rfl [] rfl (nums z64).toArray built_z ?_) | fail)
    go_ret
    exact ⟨rfl, H8.out.2.2.1⟩
  · obtain rfl := e5 rfl
    obtain rfl := e7 rfl
    have r2 := hy1' hx1l HL.out.2.2.1 (e1 rfl)
    by_cases hzy : z = y
    · subst hzy
      have q1 : (z == z) = true := by simp
      clear hy1' hx1l hx0l hz0 hz1 hy0 hy1
      clear e1 e2 e3 e5 e6 e7 e8
      try clear e4 e9
      go_wp2_with (first | ((with_reducible show wpList _ _ _ ((⟨_, Op.load 32 _, _, _, _, _⟩ : Oper) :: _) _ _); refine wpList_load_rowG (by rfl) 32 (.tmp 16) rfl w7.heap.size rfl 32 (nums x1).toArray (0, 0) _ H8.out.2.2.2.2.1 und_b rfl (info_bn H8.out.2.2.2.2.2.2.1) ?_) | ((with_reducible show wpList _ _ _ ((⟨_, Op.load 32 _, _, _, _, _⟩ : Oper) :: _) _ _); refine wpList_load_rowG (by rfl) 32 (.tmp 7) rfl (w.heap.size + 1) rfl 32 (nums l1).toArray (0, 0) _ H8.out.2.1 und_b rfl (info_bn HL.out.2.2.1) ?_) | ((with_reducible show wpList _ _ _ ((⟨_, Op.load 32 _, _, _, _, _⟩ : Oper) :: _) _ _); refine wpList_load_rowG (by rfl) 32 (.tmp 14) rfl w5.heap.size rfl 32 (nums x0).toArray (0, 0) _ H8.out.2.2.2.1 und_b rfl (info_bn H8.out.2.2.2.2.2.2.2) ?_) | ((with_reducible show wpList _ _ _ ((⟨_, Op.load 32 _, _, _, _, _⟩ : Oper) :: _) _ _); refine wpList_load_rowG (by rfl) 32 (.tmp 6) rfl w.heap.size rfl 32 (nums l0).toArray (0, 0) _ H8.out.1 und_b rfl (info_bn HL.out.1) ?_) | ((with_reducible show wpList _ _ _ ((⟨_, Op.build 32 _, _, _, _, _⟩ : Oper) :: _) _ _); refine wpList_builtG (by rfl) #[] rfl [] rfl (nums z64).toArray built_z ?_) | fail)
      go_ret
      exact ⟨rfl, H8.out.2.2.1⟩
    · have q1 : (z == y) = false := by simpa using hzy
      have r1 := hy1' hx0l HL.out.1 (e4 rfl hzy)
      clear hy1' hx1l hx0l hz0 hz1 hy0 hy1
      clear e1 e2 e3 e5 e6 e7 e8
      try clear e4 e9
      go_wp2_with (first | ((with_reducible show wpList _ _ _ ((⟨_, Op.load 32 _, _, _, _, _⟩ : Oper) :: _) _ _); refine wpList_load_rowG (by rfl) 32 (.tmp 16) rfl w7.heap.size rfl 32 (nums x1).toArray (0, 0) _ H8.out.2.2.2.2.1 und_b rfl (info_bn H8.out.2.2.2.2.2.2.1) ?_) | ((with_reducible show wpList _ _ _ ((⟨_, Op.load 32 _, _, _, _, _⟩ : Oper) :: _) _ _); refine wpList_load_rowG (by rfl) 32 (.tmp 7) rfl (w.heap.size + 1) rfl 32 (nums l1).toArray (0, 0) _ H8.out.2.1 und_b rfl (info_bn HL.out.2.2.1) ?_) | ((with_reducible show wpList _ _ _ ((⟨_, Op.load 32 _, _, _, _, _⟩ : Oper) :: _) _ _); refine wpList_load_rowG (by rfl) 32 (.tmp 14) rfl w5.heap.size rfl 32 (nums x0).toArray (0, 0) _ H8.out.2.2.2.1 und_b rfl (info_bn H8.out.2.2.2.2.2.2.2) ?_) | ((with_reducible show wpList _ _ _ ((⟨_, Op.load 32 _, _, _, _, _⟩ : Oper) :: _) _ _); refine wpList_load_rowG (by rfl) 32 (.tmp 6) rfl w.heap.size rfl 32 (nums l0).toArray (0, 0) _ H8.out.1 und_b rfl (info_bn HL.out.1) ?_) | ((with_reducible show wpList _ _ _ ((⟨_, Op.build 32 _, _, _, _, _⟩ : Oper) :: _) _ _); refine wpList_builtG (by rfl) #[] rfl [] rfl (nums z64).toArray built_z ?_) | fail)
      go_ret
      exact ⟨rfl, H8.out.2.2.1⟩
end Go.Proofs.Ytfhaipeimpaeiaa
