/-
  The walk of awake: calls whose answers the document fixes; names and limits.
-/
import Derived.Test.YtcfchkffanfehaaIm
namespace Ft
open Go.Proofs.Ytcfchkffanfehaa
def f0 : Fact := ⟨2, 35, 1, Mf.zero⟩
theorem f0_ok : f0.ok 9 := by decide +kernel
theorem f0_four : f0.chk 4 = 0 := by decide +kernel
theorem f0_three : f0.chk 3 = 100 := by decide +kernel
theorem f0_wf : f0.wf := ⟨(fun d hd => by cases hd), ⟨rfl, byt_zeros 32⟩⟩
theorem num_small {n : Int} (h0 : 0 ≤ n) (h1 : n ≤ 63) : Cd.num n = [2 * n] := by
  have hf : Cd.fold n = (2 * n).toNat := by unfold Cd.fold; rw [if_neg (by omega)]
  have h2 : (2 * n).toNat / 128 = 0 := by omega
  have h3 : (2 * n).toNat % 128 = (2 * n).toNat := by omega
  unfold Cd.num Cd.encU
  rw [hf, h2, h3, Cd.tops_zero]
  simp
  omega
theorem f0_bytes : f0.bytes = [4, 70, 2] := by
  unfold Fact.bytes Fact.tail f0
  simp only
  rw [num_small (by omega) (by omega), num_small (by omega) (by omega), num_small (by omega) (by omega), if_neg (by decide)]
  rfl
theorem f0_dec : dec [4, 70, 2] = some f0 := by
  have h := dec_bytes f0_ok f0_wf
  rw [f0_bytes] at h
  exact h
end Ft
namespace Go.Proofs.Ytcfchkffanfehaa
set_option maxRecDepth 20000
set_option linter.unusedSimpArgs false
set_option linter.unusedVariables false
open Go.RowKit
/-- A fact that was answered, laid into a variable. -/
theorem fv_lay {w : World} {S : Nat → Prop} {v : Value} {f : Ft.Fact} (h : Fv w S v f) : ∃ P M, v = .agg P ∧ P.size = 38 ∧ P.all (·.oneCell') = true ∧ FB ((w.alloc (.cells zf 28)).setRow w.heap.size P) w.heap.size P M f := by
  obtain ⟨P, M, rfl, hPE, hmv, hM, hin⟩ := fv_agg h
  have hf := fb_put hPE hmv hM hin zf
  exact ⟨P, M, rfl, hf.size, hf.one, hf⟩
set_option maxHeartbeats 4000000 in
theorem awake_any (w : World) : Calls Try.prog 11 #[] w fun e w' => e = .returned (.bool true) ∧ Below w.heap.size w w' := by
  obtain ⟨FL, hFL⟩ : ∃ FL, fcs 2 35 1 zm.toList = FL := ⟨_, rfl⟩
  have HBT := Lib.hid (built_f 2 35 1)
  have hFS := fcs_size (k := 2) (e := 35) (n := 1) (M := zm.toList) rfl
  have hFO := fcs_one (k := 2) (e := 35) (n := 1) zm_one
  rw [hFL] at HBT hFS hFO
  have hfb : FB ((w.alloc (.cells zf 28)).setRow w.heap.size FL.toArray) w.heap.size FL.toArray zm.toList Ft.f0 := fb_put (S := fun _ => True) (f := Ft.f0) (by rw [← hFL]; rfl) (zm_list w _) rfl (by unfold In64 Ft.f0; decide) zf
  have HF1 := Lib.hid hfb
  have HB1 := Lib.hid (show Below w.heap.size w ((w.alloc (.cells zf 28)).setRow w.heap.size FL.toArray) from put_below (Below.refl _ _) (Nat.le_refl _))
  clear hFL hfb
  go_enter Try.func11, Try.ntmps11
  go_upto_region 2 with (first | ((with_reducible show wpList _ _ _ ((⟨_, Op.build 28 _, _, _, _, _⟩ : Oper) :: _) _ _); refine wpList_built rfl _ rfl _ rfl FL HBT.out ?_) | ((with_reducible show wpList _ _ _ ((⟨_, Op.store 28 (.tmp 1) _, _, _, _, _⟩ : Oper) :: _) _ _); rw [zeroF]; refine wpList_store_row rfl _ (.tmp 1) (.tmp 9) rfl w.heap.size FL.toArray rfl rfl 28 _ (Whole.new w _ _) (by rw [hFS]; exact info38) (by rw [hFS]; rfl) hFO ?_) | fail)
  generalize (w.alloc (.cells zf 28)).setRow w.heap.size FL.toArray = w1 at *
  go_wp2_with (first | ((with_reducible show wpList _ _ _ ((⟨_, Op.load 28 (.tmp 1), _, _, _, _⟩ : Oper) :: _) _ _); refine fb_load HF1.out (by rfl) (.tmp 1) rfl rfl ?_) | fail)
  refine (fencode_any HF1.out.val).mono ?_
  rintro e w2 ⟨he, hb2⟩
  rcases he with ⟨hno, _⟩ | ⟨_, aB, nB, cB, rfl, htB⟩
  · exact absurd Ft.f0_ok hno
  rw [Ft.f0_bytes] at htB
  obtain rfl : nB = 3 := htB.1.symm
  have HF2 := Lib.hid (HF1.out.below hb2)
  have HB2 := Lib.hid (HB1.out.trans (hb2.mono HB1.out.size))
  have HTB := Lib.hid htB.old
  clear hb2 htB HF1 HB1
  go_wp2_with fail
  refine (fdecode_any HTB.out (by omega)).mono ?_
  rintro e w3 ⟨he, hb3⟩
  rcases he with ⟨v3, f3, hd3, rfl, hfv3⟩ | ⟨hd3, _⟩
  case inr => rw [Ft.f0_dec] at hd3; cases hd3
  have hf3 : Ft.f0 = f3 := by rw [Ft.f0_dec] at hd3; injection hd3
  subst hf3
  obtain ⟨P3, M3, rfl, hP3, hQ3, hfb3⟩ := fv_lay hfv3
  have hb13 := HB2.out.trans (hb3.mono HB2.out.size)
  have HF3 := Lib.hid ((HF2.out.below hb3).below (put_below (T := 28) (z := zf) (N := P3) (Below.refl _ _) (Nat.le_refl _)))
  have HG3 := Lib.hid hfb3
  have HT3 := Lib.hid ((HTB.out.below hb3 (fun _ _ h => h)).old.below (put_below (T := 28) (z := zf) (N := P3) (Below.refl _ _) (Nat.le_refl _)) (fun _ _ h => h)).old
  have HB3 := Lib.hid (put_below (T := 28) (z := zf) (N := P3) hb13 hb13.size)
  clear hd3 hfv3 hfb3 hb13 hb3 HF2 HB2 HTB
  go_upto_region 4 with (first | ((with_reducible show wpList _ _ _ ((⟨_, Op.store 28 (.tmp 4) _, _, _, _, _⟩ : Oper) :: _) _ _); rw [zeroF]; refine wpList_store_row rfl _ (.tmp 4) (.tmp 18) rfl w3.heap.size P3 rfl rfl 28 _ (Whole.new w3 _ _) (by rw [hP3]; exact info38) (by rw [hP3]; rfl) hQ3 ?_) | fail)
  generalize (w3.alloc (.cells zf 28)).setRow w3.heap.size P3 = w4 at *
  go_wp2_with (first | (go_at_call 15; refine (of_any _ _).mono ?_; rintro e w' ⟨rfl, rfl⟩; rw [show Ft.ofN 35 = 3 by decide, show Ft.ofK 35 = 2 by decide]) | ((with_reducible show wpList _ _ _ ((⟨_, Op.load 28 (.tmp 1), _, _, _, _⟩ : Oper) :: _) _ _); refine fb_load HF3.out (by rfl) (.tmp 1) rfl rfl ?_) | ((with_reducible show wpList _ _ _ ((⟨_, Op.load 28 (.tmp 4), _, _, _, _⟩ : Oper) :: _) _ _); refine fb_load HG3.out (by rfl) (.tmp 4) rfl rfl ?_) | fail)
  refine (rfsame_any HF3.out.val HG3.out.val (Or.inl (Nat.zero_le _))).mono ?_
  rintro e w5 ⟨b, rfl, hbi, hb5⟩
  obtain rfl : b = true := hbi.2 rfl
  have HF5 := Lib.hid (HF3.out.below hb5)
  have HB5 := Lib.hid (HB3.out.trans (hb5.mono HB3.out.size))
  have HT5 := Lib.hid (HT3.out.below hb5 (fun b hb h => h)).old
  clear hbi hb5 HF3 HG3 HB3 HT3
  have cv1 := Co.convert_txt HT5.out
  have cv2 : (convert 30 9 (.slice (some ⟨w5.heap.size, 0, none⟩) 3 3)).run Try.prog (w5.alloc (.cells #[.int .u8 4, .int .u8 70, .int .u8 2] 5)) = .ok (.string (strOfNums [4, 70, 2])) (w5.alloc (.cells #[.int .u8 4, .int .u8 70, .int .u8 2] 5)) :=
    Co.convert_txt (txt_new (w := w5) (t := 5) (fr := (0, 0)) (l := [4, 70, 2]) (n := 3) (fun _ => True) trivial (fun x hx => by simp at hx; omega) rfl)
  have HF6 := Lib.hid (HF5.out.alloc (.cells #[.int .u8 4, .int .u8 70, .int .u8 2] 5))
  have HB6 := Lib.hid (HB5.out.alloc HB5.out.size (.cells #[.int .u8 4, .int .u8 70, .int .u8 2] 5))
  generalize strOfNums [4, 70, 2] = s at *
  clear HT5 HF5 HB5
  go_wp2_with (first | (go_at_call 21; refine (epoch_any _ _ _).mono ?_; rintro e w' ⟨rfl, rfl⟩; rw [show Ft.ep 3 2 = 35 by decide]) | ((with_reducible show wpList _ _ _ ((⟨_, Op.load 28 (.tmp 1), _, _, _, _⟩ : Oper) :: _) _ _); refine fb_load HF6.out (by rfl) (.tmp 1) rfl rfl ?_) | fail)
  generalize w5.alloc (.cells #[.int .u8 4, .int .u8 70, .int .u8 2] 5) = w6 at *
  refine (fcheck_any HF6.out.val 3).mono ?_
  rintro e w7 ⟨rfl, hb7⟩
  rw [Ft.f0_three]
  have HF7 := Lib.hid (HF6.out.below hb7)
  have HB7 := Lib.hid (HB6.out.trans (hb7.mono HB6.out.size))
  clear hb7 HF6 HB6 cv1 cv2
  go_wp2_with (first | ((with_reducible show wpList _ _ _ ((⟨_, Op.load 28 (.tmp 1), _, _, _, _⟩ : Oper) :: _) _ _); refine fb_load HF7.out (by rfl) (.tmp 1) rfl rfl ?_) | fail)
  refine (fcheck_any HF7.out.val 4).mono ?_
  rintro e w8 ⟨rfl, hb8⟩
  rw [Ft.f0_four]
  have HF8 := Lib.hid (HF7.out.below hb8)
  have HB8 := Lib.hid (HB7.out.trans (hb8.mono HB7.out.size))
  have HBG := Lib.hid (show Try.prog.built 28 [(1, .int .i64 36)] = some (fcs 0 36 0 zm.toList).toArray by kernel_rfl)
  clear hb8 HF7 HB7
  go_wp2_with (first | ((with_reducible show wpList _ _ _ ((⟨_, Op.load 28 (.tmp 1), _, _, _, _⟩ : Oper) :: _) _ _); refine fb_load HF8.out (by rfl) (.tmp 1) rfl rfl ?_) | ((with_reducible show wpList _ _ _ ((⟨_, Op.build 28 _, _, _, _, _⟩ : Oper) :: _) _ _); refine wpList_builtG (by rfl) _ rfl _ rfl (fcs 0 36 0 zm.toList) HBG.out ?_) | fail)
  refine (fless_any HF8.out.val (g := ⟨0, 36, 0, Mf.zero⟩) (S' := fun _ => True) ⟨_, rfl, zm_list _ _, by unfold In64; decide⟩).mono ?_
  rintro e w9 ⟨rfl, hb9⟩
  rw [show decide (Ft.f0.less ⟨0, 36, 0, Mf.zero⟩) = true from decide_eq_true (Or.inl (by decide))]
  have HF9 := Lib.hid (HF8.out.below hb9)
  have HB9 := Lib.hid (HB8.out.trans (hb9.mono HB8.out.size))
  clear hb9 HF8 HB8
  go_wp2_with (first | ((with_reducible show wpList _ _ _ ((⟨_, Op.load 28 (.tmp 1), _, _, _, _⟩ : Oper) :: _) _ _); refine fb_load HF9.out (by rfl) (.tmp 1) rfl rfl ?_) | fail)
  refine (fless_any HF9.out.val HF9.out.val).mono ?_
  rintro e w10 ⟨rfl, hb10⟩
  rw [show decide (Ft.f0.less Ft.f0) = false from decide_eq_false (by decide)]
  have HB10 := Lib.hid (HB9.out.trans (hb10.mono HB9.out.size))
  clear hb10 HF9 HB9
  go_wp2
  go_ret
  exact ⟨rfl, HB10.out⟩
theorem names_walk (w : World) : Calls Try.prog 3 #[] w fun e w' => e = .returned (.bool true) ∧ Below w.heap.size w w' := by
  go_enter Try.func3, Try.ntmps3
  go_wp2_with (go_at_call 11; refine (awake_any _).mono ?_; rintro e w1 ⟨rfl, hb1⟩; have HB := Lib.hid hb1; clear hb1)
  go_ret
  exact ⟨rfl, HB.out⟩
end Go.Proofs.Ytcfchkffanfehaa
