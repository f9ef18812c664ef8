/-
  The walk of FactBack.
-/
import Derived.Test.YtcfchkffanfehaaIs
namespace Go.Proofs.Ytcfchkffanfehaa
set_option maxRecDepth 20000
set_option linter.unusedSimpArgs false
set_option linter.unusedVariables false
open Go.RowKit
theorem wpList_append_txtG {P : Program} (w : World) {ops : Array Oper} {rest : List Oper} {o : Oper} {a : Act} {Q : Exit → Act → World → Prop} (hgd : Region.wanted o (yielded ops a.tmps) = true) (s x : Operand) (t : TypeId)
    (ho : o.op = .call { callee := .builtin .append, args := #[s, x], argTypes := #[t, t] })
    (base : Nat) (e : TypeId) (i : TypeInfo) (z : Value) (bytes : Nat) (ht : P.underlying t = some (.slice e)) (hi : P.info? e = some i) (hz : i.zero = some z)
    (hsize : i.size = 1) (hby : i.bytes = bytes) (hzs : z.cells.size = 1)
    (v : Value) (n : Nat) (xs : List Value) (hs : a.eval s = v) (hown : w.ownsRow base e 1 v n xs)
    (S : Nat → Prop) (A : Option Addr) (m c : Nat) (l : List Int) (hx : a.eval x = .slice A m c) (hr : Txt w S A m c l)
    (h63 : n + m ≤ maxLen) (hbytes : (n + m) * bytes ≤ 140737488355328) (hbase : base ≤ w.heap.size)
    (h : ∀ v' w', w'.ownsRow base e 1 v' (n + m) (xs ++ nums l) → w.grownBy w' v.ownBlock → (v'.ownBlock = v.ownBlock ∨ v'.ownBlock = some w.heap.size) → wpList P ops Q rest (a.put o.dst v') w') : wpList P ops Q (o :: rest) a w :=
  wpList_step fun _ hK => by rw [if_pos hgd]; exact wp_append_txt w s x t ho base e i z bytes ht hi hz hsize hby hzs v n xs hs hown S A m c l hx hr h63 hbytes hbase fun v' w' h2 h3 h4 => hK _ _ (h v' w' h2 h3 h4)
/-- A fact in its block, and what was there before. -/
def Uno (w0 w : World) (A : Nat) (P : Array Value) (M : List Value) (f : Ft.Fact) : Prop := FB w A P M f ∧ Below w0.heap.size w0 w
theorem Uno.below {w0 w w' : World} {A : Nat} {P : Array Value} {M : List Value} {f : Ft.Fact} (t : Uno w0 w A P M f) (hb : Below w.heap.size w w') : Uno w0 w' A P M f :=
  ⟨t.1.below hb, t.2.trans (hb.mono t.2.size)⟩
set_option maxHeartbeats 8000000 in
theorem back_walk (C : Array Value) (f : Ft.Fact) (a0 : Option Addr) (n0 c0 : Nat) (l0 : List Int) (y : Int) (w : World) (h1 : Fv w (fun b => b < w.heap.size) (.agg C) f) (h0 : Txt w (· < w.heap.size) a0 n0 c0 l0) (hy0 : 0 ≤ y) (hy1 : y < 256) :
    Calls Try.prog 6 #[.agg C, .slice a0 n0 c0, .int .u8 y] w fun e w' => e = .returned (.bool true) ∧ Below w.heap.size w w' := by
  obtain ⟨i0, hi0, hz0, hz1, hz2⟩ := info_parts u8_info
  have HI := Lib.hid (And.intro hi0 (And.intro hz0 (And.intro hz1 hz2)))
  clear hi0 hz0 hz1 hz2
  have H0 := Lib.hid h0
  have HWF := Lib.hid h1.wf
  obtain ⟨P, M, e0, hb⟩ := fv_box h1
  injection e0 with e0
  subst e0
  have HT := Lib.hid (show Uno w (w.alloc (.cells C 28)) w.heap.size C M f from ⟨hb, below_alloc _ _⟩)
  clear h0 h1 hb
  go_enter Try.func6, Try.ntmps6
  go_wp2_with fail
  generalize w.alloc (.cells C 28) = w1 at *
  refine (awake_any _).mono ?_
  rintro e w2 ⟨rfl, hb2⟩
  have HT2 := Lib.hid (HT.out.below hb2)
  clear hb2 HT
  go_wp2_with (first | ((with_reducible show wpList _ _ _ ((⟨_, Op.load 28 (.tmp 3), _, _, _, _⟩ : Oper) :: _) _ _); refine fb_load HT2.out.1 (by rfl) (.tmp 3) rfl rfl ?_) | fail)
  refine (few_any HT2.out.1.val).mono ?_
  rintro e w3 ⟨rfl, hb3⟩
  have HT3 := Lib.hid (HT2.out.below hb3)
  clear hb3 HT2
  by_cases hf : f.man.ds.length ≤ 100
  case neg =>
    rw [decide_eq_false hf]
    go_wp2
    go_ret
    exact ⟨rfl, HT3.out.2⟩
  rw [decide_eq_true hf]
  have HFW := Lib.hid hf
  clear hf
  by_cases hbig : 3000 < n0
  · have d0 : decide ((3000 : Int) < (n0 : Int)) = true := decide_eq_true (by omega)
    go_wp2
    go_ret
    exact ⟨rfl, HT3.out.2⟩
  have d0 : decide ((3000 : Int) < (n0 : Int)) = false := decide_eq_false (by omega)
  go_wp2_with (first | ((with_reducible show wpList _ _ _ ((⟨_, Op.load 28 (.tmp 3), _, _, _, _⟩ : Oper) :: _) _ _); refine fb_load HT3.out.1 (by rfl) (.tmp 3) rfl rfl ?_) | fail)
  refine (fencode_any HT3.out.1.val).mono ?_
  rintro e w4 ⟨he, hb4⟩
  have HT4 := Lib.hid (HT3.out.below hb4)
  clear hb4 HT3
  rcases he with ⟨hno, rfl⟩ | ⟨hok, aX, nX, cX, rfl, htX⟩
  · clear hno
    have HT := HT4
    clear HT4
    go_wp2_with fail
    refine (fdecode_any (H0.out.below HT.out.2 (fun _ _ h => h)) (by omega)).mono ?_
    rintro e u2 ⟨he, hbu⟩
    have hbw := HT.out.2.trans (hbu.mono HT.out.2.size)
    rcases he with ⟨v, g, hdec, rfl, hfv⟩ | ⟨hdec, rfl⟩
    · obtain ⟨hok2, hwf2, hbe2⟩ := Ft.dec_some H0.out.2.2.1 hdec
      obtain ⟨P2, M2, rfl, hP2, hQ2, hfb2⟩ := fv_lay hfv
      have HG := Lib.hid (show Uno w ((u2.alloc (.cells zf 28)).setRow u2.heap.size P2) u2.heap.size P2 M2 g from ⟨hfb2, put_below hbw hbw.size⟩)
      have HOK2 := Lib.hid (And.intro hok2 hbe2)
      clear hok2 hwf2 hbe2 hdec hfv hfb2 hbu hbw HT
      go_wp2_with (first | ((with_reducible show wpList _ _ _ ((⟨_, Op.store 28 (.tmp 15) _, _, _, _, _⟩ : Oper) :: _) _ _); rw [zeroF]; refine wpList_store_row rfl _ (.tmp 15) (.tmp 72) rfl u2.heap.size P2 rfl rfl 28 _ (Whole.new u2 _ _) (by rw [hP2]; exact info38) (by rw [hP2]; rfl) hQ2 ?_) | ((with_reducible show wpList _ _ _ ((⟨_, Op.load 28 (.tmp 15), _, _, _, _⟩ : Oper) :: _) _ _); refine fb_load HG.out.1 (by rfl) (.tmp 15) rfl rfl ?_) | fail)
      generalize (u2.alloc (.cells zf 28)).setRow u2.heap.size P2 = u3 at *
      refine (fencode_any HG.out.1.val).mono ?_
      rintro e u4 ⟨he, hbu⟩
      rcases he with ⟨hno, _⟩ | ⟨_, a4, n4, c4, rfl, ht4⟩
      · exact absurd HOK2.out.1 hno
      rw [HOK2.out.2] at ht4
      have HB4 := Lib.hid (HG.out.2.trans (hbu.mono HG.out.2.size))
      have cv1 := Co.convert_txt ht4
      have cv2 := Co.convert_txt (H0.out.below HB4.out (fun _ _ h => h))
      generalize strOfNums l0 = s at *
      clear ht4 hbu HG
      go_wp2
      go_ret
      exact ⟨rfl, HB4.out⟩
    · obtain ⟨P2, M2, e2, hP2, hQ2, hfb2⟩ := fv_lay (zf_fv u2 (fun _ => True))
      injection e2 with e2
      subst e2
      have HB4 := Lib.hid (put_below (T := 28) (z := zf) (N := zf) hbw hbw.size)
      have k0 : ((u2.alloc (.cells zf 28)).setRow u2.heap.size zf).cell? ⟨u2.heap.size, 0, none⟩ = some (.int .i64 0) := hfb2.c0
      clear hdec hfb2 hbu hbw HT
      go_wp2_with (first | ((with_reducible show wpList _ _ _ ((⟨_, Op.store 28 (.tmp 15) _, _, _, _, _⟩ : Oper) :: _) _ _); rw [zeroF]; refine wpList_store_row rfl _ (.tmp 15) (.tmp 72) rfl u2.heap.size zf rfl rfl 28 _ (Whole.new u2 _ _) (by rw [zf_size]; exact info38) rfl zf_one ?_) | fail)
      go_ret
      exact ⟨rfl, HB4.out⟩
  obtain ⟨T, hT⟩ : ∃ T, f.bytes = T := ⟨_, rfl⟩
  have hnX : nX ≤ 2140 := by rw [← htX.1]; exact Ft.bytes_le HWF.out hok
  have HOK := Lib.hid (And.intro hok (And.intro (Ft.dec_bytes hok HWF.out) (And.intro (Ft.dec_more hok HWF.out y ⟨hy0, hy1⟩) (Ft.bytes_byt HWF.out))))
  rw [hT] at htX HOK
  have HX4 := Lib.hid htX.old
  clear hok htX hT
  go_wp2_with fail
  refine (fdecode_any HX4.out (by omega)).mono ?_
  rintro e w5 ⟨he, hb5⟩
  rcases he with ⟨v, f', hdec, rfl, hfv⟩ | ⟨hdec, rfl⟩
  case inr => rw [HOK.out.2.1] at hdec; cases hdec
  have hff : f = f' := by rw [HOK.out.2.1] at hdec; injection hdec
  subst hff
  obtain ⟨P2, M2, rfl, hP2, hQ2, hfb2⟩ := fv_lay hfv
  have hb6 := put_below (T := 28) (z := zf) (N := P2) (Below.refl w5.heap.size w5) (Nat.le_refl _)
  have HT6 := Lib.hid ((HT4.out.below hb5).below hb6)
  have HX6 := Lib.hid (((HX4.out.below hb5 (fun _ _ h => h)).old).below hb6 (fun _ _ h => h)).old
  have HG6 := Lib.hid hfb2
  clear hdec hfv hfb2 hb5 hb6 HT4 HX4
  go_wp2_with (first | ((with_reducible show wpList _ _ _ ((⟨_, Op.store 28 (.tmp 10) _, _, _, _, _⟩ : Oper) :: _) _ _); rw [zeroF]; refine wpList_store_row rfl _ (.tmp 10) (.tmp 39) rfl w5.heap.size P2 rfl rfl 28 _ (Whole.new w5 _ _) (by rw [hP2]; exact info38) (by rw [hP2]; rfl) hQ2 ?_) | ((with_reducible show wpList _ _ _ ((⟨_, Op.load 28 (.tmp 3), _, _, _, _⟩ : Oper) :: _) _ _); refine fb_load HT6.out.1 (by rfl) (.tmp 3) rfl rfl ?_) | ((with_reducible show wpList _ _ _ ((⟨_, Op.load 28 (.tmp 10), _, _, _, _⟩ : Oper) :: _) _ _); refine fb_load HG6.out (by rfl) (.tmp 10) rfl rfl ?_) | fail)
  generalize (w5.alloc (.cells zf 28)).setRow w5.heap.size P2 = w6 at *
  clear hP2 hQ2
  refine (rfsame_any HT6.out.1.val HG6.out.val (Or.inl (by have := HFW.out; omega))).mono ?_
  rintro e w7 ⟨b, rfl, hbi, hb7⟩
  obtain rfl : b = true := hbi.2 rfl
  have HT7 := Lib.hid (HT6.out.below hb7)
  have HX7 := Lib.hid (HX6.out.below hb7 (fun _ _ h => h)).old
  clear hbi hb7 HT6 HX6 HG6
  go_wp2_with (at_builtin; refine wpList_append_txtG _ (by rfl) (.tmp 45) (.tmp 46) 30 rfl w7.heap.size 5 i0 (.int .u8 0) 1 Try.underlying30 HI.out.1 HI.out.2.1 HI.out.2.2.1 HI.out.2.2.2 rfl _ 0 [] rfl ?c1 (fun b => b < w7.heap.size) aX nX cX T rfl ?c2 ?c3 ?c4 ?c5 ?_)
  case c1 => exact World.ownsRow_lit w7 #[] 0 (Nat.le_refl _) (by unfold maxLen; omega) rfl
  case c2 => exact HX7.out.keep (by simp) fun b hb _ => Below.heap_alloc _ _ _ hb
  case c3 => unfold maxLen; omega
  case c4 => omega
  case c5 => simp
  intro v8 w8 hown hg _
  have hown : w8.ownsRow w7.heap.size 5 1 v8 nX (nums T) := by first | exact hown | (rw [Nat.zero_add, List.nil_append] at hown; exact hown)
  have HO := Lib.hid hown
  have hb8 : Below w7.heap.size w7 w8 := (below_alloc w7 _).grown hg (by simp) (fun k hk => by simp [Value.ownBlock] at hk; omega)
  have HT7B : Hid (FB w7 w.heap.size C M f ∧ Below w7.heap.size w7 w8 ∧ Below w.heap.size w w7) := Lib.hid ⟨HT7.out.1, hb8, HT7.out.2⟩
  have HT8 := Lib.hid (HT7.out.below hb8)
  have s8 : w7.heap.size ≤ w8.heap.size := hb8.size
  clear hown hg hb8 HT7 HX7
  obtain ⟨q8, cap8, rfl⟩ : ∃ q cap, v8 = .slice q nX cap := Co.own_form HO.out
  go_wp2_with (at_builtin; refine wpList_append_txtG _ (by rfl) (.tmp 47) (.tmp 49) 30 rfl w7.heap.size 5 i0 (.int .u8 0) 1 Try.underlying30 HI.out.1 HI.out.2.1 HI.out.2.2.1 HI.out.2.2.2 rfl _ nX (nums T) rfl ?c1 (fun _ => True) (some ⟨w8.heap.size, 0, none⟩) 1 1 [y] rfl ?c2 ?c3 ?c4 ?c5 ?_)
  case c1 => exact own_keep HO.out (fun b hb => Below.heap_alloc _ _ _ (own_lt HO.out b hb))
  case c2 => exact txt_new (fun _ => True) trivial (fun x hx => by simp at hx; omega) rfl
  case c3 => unfold maxLen; omega
  case c4 => omega
  case c5 => rw [size_alloc]; omega
  intro v9 w9 hown hg _
  rw [← nums_append] at hown
  have hby : Byt (T ++ [y]) := byt_append HOK.out.2.2.2 (byt_cons hy0 hy1 byt_nil)
  obtain ⟨q9, cap9, rfl, ht9⟩ := Txt.own hown hby
  have hb9 : Below w7.heap.size w8 w9 := ((below_alloc w8 (.cells #[.int .u8 y] 5)).mono s8).grown hg (by rw [size_alloc]; omega) (fun b hb => own_ge HO.out b hb)
  have HT9 := Lib.hid (show Uno w w9 w.heap.size C M f from ⟨HT7B.out.1.below (HT7B.out.2.1.trans hb9), HT7B.out.2.2.trans ((HT7B.out.2.1.trans hb9).mono HT7B.out.2.2.size)⟩)
  have HX9 := Lib.hid ht9.old
  clear hown hg hby ht9 hb9 HO HT8
  go_wp2_with fail
  refine (fdecode_any HX9.out (by omega)).mono ?_
  rintro e wa ⟨he, hba⟩
  rcases he with ⟨v, f', hdec, rfl, hfv⟩ | ⟨hdec, rfl⟩
  · rw [HOK.out.2.2.1] at hdec; cases hdec
  obtain ⟨P3, M3, e3, hP3, hQ3, hfb3⟩ := fv_lay (zf_fv wa (fun _ => True))
  injection e3 with e3
  subst e3
  have HTa := Lib.hid ((HT9.out.below hba).below (put_below (T := 28) (z := zf) (N := zf) (Below.refl wa.heap.size wa) (Nat.le_refl _)))
  clear hdec hfb3 hba HT9 HX9
  go_wp2_with (first | ((with_reducible show wpList _ _ _ ((⟨_, Op.store 28 (.tmp 13) _, _, _, _, _⟩ : Oper) :: _) _ _); rw [zeroF]; refine wpList_store_row rfl _ (.tmp 13) (.tmp 52) rfl wa.heap.size zf rfl rfl 28 _ (Whole.new wa _ _) (by rw [zf_size]; exact info38) rfl zf_one ?_) | ((with_reducible show wpList _ _ _ ((⟨_, Op.load 28 (.tmp 3), _, _, _, _⟩ : Oper) :: _) _ _); refine fb_load HTa.out.1 (by rfl) (.tmp 3) rfl rfl ?_) | fail)
  generalize (wa.alloc (.cells zf 28)).setRow wa.heap.size zf = wb at *
  refine (fcheck_any HTa.out.1.val 9).mono ?_
  rintro e wc ⟨rfl, hbc⟩
  rw [Ft.chk_ok HOK.out.1]
  have HT := Lib.hid (HTa.out.below hbc)
  clear hbc HTa HOK hP3 hQ3
  go_wp2_with fail
  refine (fdecode_any (H0.out.below HT.out.2 (fun _ _ h => h)) (by omega)).mono ?_
  rintro e u2 ⟨he, hbu⟩
  have hbw := HT.out.2.trans (hbu.mono HT.out.2.size)
  rcases he with ⟨v, g, hdec, rfl, hfv⟩ | ⟨hdec, rfl⟩
  · obtain ⟨hok2, hwf2, hbe2⟩ := Ft.dec_some H0.out.2.2.1 hdec
    obtain ⟨P2, M2, rfl, hP2, hQ2, hfb2⟩ := fv_lay hfv
    have HG := Lib.hid (show Uno w ((u2.alloc (.cells zf 28)).setRow u2.heap.size P2) u2.heap.size P2 M2 g from ⟨hfb2, put_below hbw hbw.size⟩)
    have HOK2 := Lib.hid (And.intro hok2 hbe2)
    clear hok2 hwf2 hbe2 hdec hfv hfb2 hbu hbw HT
    go_wp2_with (first | ((with_reducible show wpList _ _ _ ((⟨_, Op.store 28 (.tmp 15) _, _, _, _, _⟩ : Oper) :: _) _ _); rw [zeroF]; refine wpList_store_row rfl _ (.tmp 15) (.tmp 72) rfl u2.heap.size P2 rfl rfl 28 _ (Whole.new u2 _ _) (by rw [hP2]; exact info38) (by rw [hP2]; rfl) hQ2 ?_) | ((with_reducible show wpList _ _ _ ((⟨_, Op.load 28 (.tmp 15), _, _, _, _⟩ : Oper) :: _) _ _); refine fb_load HG.out.1 (by rfl) (.tmp 15) rfl rfl ?_) | fail)
    generalize (u2.alloc (.cells zf 28)).setRow u2.heap.size P2 = u3 at *
    refine (fencode_any HG.out.1.val).mono ?_
    rintro e u4 ⟨he, hbu⟩
    rcases he with ⟨hno, _⟩ | ⟨_, a4, n4, c4, rfl, ht4⟩
    · exact absurd HOK2.out.1 hno
    rw [HOK2.out.2] at ht4
    have HB4 := Lib.hid (HG.out.2.trans (hbu.mono HG.out.2.size))
    have cv1 := Co.convert_txt ht4
    have cv2 := Co.convert_txt (H0.out.below HB4.out (fun _ _ h => h))
    generalize strOfNums l0 = s at *
    clear ht4 hbu HG
    go_wp2
    go_ret
    exact ⟨rfl, HB4.out⟩
  · obtain ⟨P2, M2, e2, hP2, hQ2, hfb2⟩ := fv_lay (zf_fv u2 (fun _ => True))
    injection e2 with e2
    subst e2
    have HB4 := Lib.hid (put_below (T := 28) (z := zf) (N := zf) hbw hbw.size)
    have k0 : ((u2.alloc (.cells zf 28)).setRow u2.heap.size zf).cell? ⟨u2.heap.size, 0, none⟩ = some (.int .i64 0) := hfb2.c0
    clear hdec hfb2 hbu hbw HT
    go_wp2_with (first | ((with_reducible show wpList _ _ _ ((⟨_, Op.store 28 (.tmp 15) _, _, _, _, _⟩ : Oper) :: _) _ _); rw [zeroF]; refine wpList_store_row rfl _ (.tmp 15) (.tmp 72) rfl u2.heap.size zf rfl rfl 28 _ (Whole.new u2 _ _) (by rw [zf_size]; exact info38) rfl zf_one ?_) | fail)
    go_ret
    exact ⟨rfl, HB4.out⟩
end Go.Proofs.Ytcfchkffanfehaa
