/-
  The walk of FactApart.
-/
import Derived.Test.YtcfchkffanfehaaIn
namespace Go.Proofs.Ytcfchkffanfehaa
set_option maxRecDepth 20000
set_option linter.unusedSimpArgs false
set_option linter.unusedVariables false
open Go.RowKit
/-- Two facts in blocks of their own. -/
def Dup (w0 w : World) (A B : Nat) (P P' : Array Value) (M M' : List Value) (f g : Ft.Fact) : Prop := FB w A P M f ∧ FB w B P' M' g ∧ Below w0.heap.size w0 w
theorem Dup.below {w0 w w' : World} {A B : Nat} {P P' : Array Value} {M M' : List Value} {f g : Ft.Fact} (t : Dup w0 w A B P P' M M' f g) (hb : Below w.heap.size w w') : Dup w0 w' A B P P' M M' f g :=
  ⟨t.1.below hb, t.2.1.below hb, t.2.2.trans (hb.mono t.2.2.size)⟩
set_option maxHeartbeats 4000000 in
theorem apart_walk (C0 : Array Value) (f : Ft.Fact) (C1 : Array Value) (g : Ft.Fact) (w : World) (h0 : Fv w (fun b => b < w.heap.size) (.agg C0) f) (h1 : Fv w (fun b => b < w.heap.size) (.agg C1) g) :
    Calls Try.prog 9 #[.agg C0, .agg C1] w fun e w' => e = .returned (.bool true) ∧ Below w.heap.size w w' := by
  have HWF := Lib.hid (And.intro h0.wf h1.wf)
  obtain ⟨P, M, P', M', e0, e1, hb, hb'⟩ := fv_two h0 h1
  injection e0 with e0
  injection e1 with e1
  subst e0 e1
  have HT := Lib.hid (show Dup w ((w.alloc (.cells C0 28)).alloc (.cells C1 28)) w.heap.size (w.heap.size + 1) C0 C1 M M' f g from ⟨hb, hb', below_two w _ _⟩)
  clear h0 h1 hb hb'
  go_enter Try.func9, Try.ntmps9
  go_wp2_with fail
  generalize (w.alloc (.cells C0 28)).alloc (.cells C1 28) = w1 at *
  refine (awake_any _).mono ?_
  rintro e w2 ⟨rfl, hb2⟩
  have HT2 := Lib.hid (HT.out.below hb2)
  clear hb2 HT
  go_wp2_with (first | ((with_reducible show wpList _ _ _ ((⟨_, Op.load 28 (.tmp 2), _, _, _, _⟩ : Oper) :: _) _ _); refine fb_load HT2.out.1 (by rfl) (.tmp 2) rfl rfl ?_) | fail)
  refine (few_any HT2.out.1.val).mono ?_
  rintro e w3 ⟨rfl, hb3⟩
  have HT3 := Lib.hid (HT2.out.below hb3)
  clear hb3 HT2
  by_cases hf : f.man.ds.length ≤ 100
  case neg =>
    rw [decide_eq_false hf]
    go_wp2
    go_ret
    exact ⟨rfl, HT3.out.2.2⟩
  rw [decide_eq_true hf]
  go_wp2_with (first | ((with_reducible show wpList _ _ _ ((⟨_, Op.load 28 (.tmp 3), _, _, _, _⟩ : Oper) :: _) _ _); refine fb_load HT3.out.2.1 (by rfl) (.tmp 3) rfl rfl ?_) | fail)
  refine (few_any HT3.out.2.1.val).mono ?_
  rintro e w4 ⟨rfl, hb4⟩
  have HT4 := Lib.hid (HT3.out.below hb4)
  clear hb4 HT3
  by_cases hg : g.man.ds.length ≤ 100
  case neg =>
    rw [decide_eq_false hg]
    go_wp2
    go_ret
    exact ⟨rfl, HT4.out.2.2⟩
  rw [decide_eq_true hg]
  have HFW := Lib.hid hf
  clear hf hg
  go_wp2_with (first | ((with_reducible show wpList _ _ _ ((⟨_, Op.load 28 (.tmp 2), _, _, _, _⟩ : Oper) :: _) _ _); refine fb_load HT4.out.1 (by rfl) (.tmp 2) rfl rfl ?_) | fail)
  refine (fencode_any HT4.out.1.val).mono ?_
  rintro e w5 ⟨he, hb5⟩
  have HT5 := Lib.hid (HT4.out.below hb5)
  clear hb5 HT4
  rcases he with ⟨hno, rfl⟩ | ⟨hok, a5, n5, c5, rfl, ht5⟩
  · clear hno
    go_wp2_with (first | ((with_reducible show wpList _ _ _ ((⟨_, Op.load 28 (.tmp 3), _, _, _, _⟩ : Oper) :: _) _ _); refine fb_load HT5.out.2.1 (by rfl) (.tmp 3) rfl rfl ?_) | fail)
    refine (fencode_any HT5.out.2.1.val).mono ?_
    rintro e w6 ⟨he, hb6⟩
    have HT6 := Lib.hid (HT5.out.below hb6)
    clear hb6 HT5
    rcases he with ⟨hno, rfl⟩ | ⟨hok, a6, n6, c6, rfl, ht6⟩
    · clear hno
      go_wp2
      go_ret
      exact ⟨rfl, HT6.out.2.2⟩
    · clear hok ht6
      go_wp2
      go_ret
      exact ⟨rfl, HT6.out.2.2⟩
  have HOK := Lib.hid hok
  have H5 := Lib.hid ht5.old
  clear hok ht5
  go_wp2_with (first | ((with_reducible show wpList _ _ _ ((⟨_, Op.load 28 (.tmp 3), _, _, _, _⟩ : Oper) :: _) _ _); refine fb_load HT5.out.2.1 (by rfl) (.tmp 3) rfl rfl ?_) | fail)
  refine (fencode_any HT5.out.2.1.val).mono ?_
  rintro e w6 ⟨he, hb6⟩
  have HT6 := Lib.hid (HT5.out.below hb6)
  have H56 := Lib.hid (H5.out.below hb6 (fun _ _ h => h)).old
  clear hb6 HT5 H5
  rcases he with ⟨hno, rfl⟩ | ⟨hok, a6, n6, c6, rfl, ht6⟩
  · clear hno
    go_wp2
    go_ret
    exact ⟨rfl, HT6.out.2.2⟩
  have HOK6 := Lib.hid hok
  have H6 := Lib.hid ht6.old
  clear hok ht6
  go_wp2_with (first | ((with_reducible show wpList _ _ _ ((⟨_, Op.load 28 (.tmp 2), _, _, _, _⟩ : Oper) :: _) _ _); refine fb_load HT6.out.1 (by rfl) (.tmp 2) rfl rfl ?_) | ((with_reducible show wpList _ _ _ ((⟨_, Op.load 28 (.tmp 3), _, _, _, _⟩ : Oper) :: _) _ _); refine fb_load HT6.out.2.1 (by rfl) (.tmp 3) rfl rfl ?_) | fail)
  refine (rfsame_any HT6.out.1.val HT6.out.2.1.val (Or.inl (by have := HFW.out; omega))).mono ?_
  rintro e w7 ⟨b, rfl, hbi, hb7⟩
  have HT7 := Lib.hid (HT6.out.2.2.trans (hb7.mono HT6.out.2.2.size))
  have cv1 := Co.convert_txt (H56.out.below hb7 (fun _ _ h => h))
  have cv2 := Co.convert_txt (H6.out.below hb7 (fun _ _ h => h))
  have hinj := Ft.bytes_inj HOK.out HWF.out.1 HOK6.out HWF.out.2
  clear hb7
  by_cases heq : f = g
  · obtain rfl : b = true := hbi.2 heq
    rw [← hinj.2 heq] at cv2
    generalize strOfNums f.bytes = s at *
    clear hbi hinj heq
    go_wp2
    go_ret
    exact ⟨rfl, HT7.out⟩
  · obtain rfl : b = false := by
      cases b with
      | false => rfl
      | true => exact absurd (hbi.1 rfl) heq
    have hne : ¬ (strOfNums f.bytes).toList = (strOfNums g.bytes).toList := fun e => heq (hinj.1 (Co.strOf_inj (Co.str_toList e) (Ft.bytes_byt HWF.out.1) (Ft.bytes_byt HWF.out.2)))
    generalize strOfNums f.bytes = s at *
    generalize strOfNums g.bytes = s' at *
    have hq : (s.toList == s'.toList) = false := beq_eq_false_iff_ne.2 hne
    clear hbi hinj heq hne
    go_wp2
    go_ret
    exact ⟨rfl, HT7.out⟩
end Go.Proofs.Ytcfchkffanfehaa
