/-
  The walk of FactDecodes.
-/
import Derived.Test.YtcfchkffanfehaaIn
namespace Go.Proofs.Ytcfchkffanfehaa
set_option maxRecDepth 20000
set_option linter.unusedSimpArgs false
set_option linter.unusedVariables false
open Go.RowKit
theorem zf_fv (w : World) (S : Nat → Prop) : Fv w S (.agg zf) Ft.nought := ⟨_, rfl, zm_list w S, by unfold In64 Ft.nought; decide⟩
def decfF (l : List Int) : Ft.Fact := (Ft.dec l).getD Ft.nought
def decfE (l : List Int) : Int := if Ft.dec l = none then 100 else 0
theorem decfF_few {l : List Int} (hb : Byt l) : (decfF l).man.ds.length ≤ 1000 := by
  unfold decfF
  cases h : Ft.dec l with
  | none => exact Nat.zero_le _
  | some f =>
    obtain ⟨h1, h2, h3⟩ := Ft.dec_some hb h
    show f.man.ds.length ≤ 1000
    by_cases hk : f.kind = 1
    · have hbad := Ft.ok_one h1 hk
      have hl : f.man.ds.length = Mf.cnt f.man.size f.man.chunk := Decidable.byContradiction fun e => hbad (Or.inr e)
      have := Mf.cnt_le f.man.size f.man.chunk
      omega
    · rw [Ft.ok_else h1 hk]
      exact Nat.zero_le _
/-- Both ways in one: what Decode answers. -/
theorem decf_one {w w' : World} {l : List Int} {e : Ending} (h : Decf w l e w') : (∃ P M, e = .returned (.tuple #[.agg P, .int .i64 (decfE l)]) ∧ P.size = 38 ∧ P.all (·.oneCell') = true ∧ FB ((w'.alloc (.cells zf 28)).setRow w'.heap.size P) w'.heap.size P M (decfF l)) ∧ Below w.heap.size w w' := by
  obtain ⟨h1, h2⟩ := h
  refine ⟨?_, h2⟩
  rcases h1 with ⟨v, f, hd, rfl, hf⟩ | ⟨hd, rfl⟩
  · obtain ⟨P, M, rfl, hs, ha, hfb⟩ := fv_lay hf
    exact ⟨P, M, by unfold decfE; rw [hd]; rfl, hs, ha, by unfold decfF; rw [hd]; exact hfb⟩
  · obtain ⟨P, M, e, hs, ha, hfb⟩ := fv_lay (zf_fv w' (fun _ => True))
    injection e with e
    subst e
    exact ⟨zf, M, by unfold decfE; rw [hd]; rfl, hs, ha, by unfold decfF; rw [hd]; exact hfb⟩
set_option maxHeartbeats 4000000 in
theorem decodes_walk (a0 : Option Addr) (n0 c0 : Nat) (l0 : List Int) (w : World) (h0 : Txt w (· < w.heap.size) a0 n0 c0 l0) :
    Calls Try.prog 5 #[.slice a0 n0 c0] w fun e w' => e = .returned (.bool true) ∧ Below w.heap.size w w' := by
  have H0 := Lib.hid h0
  have HF := Lib.hid (decfF_few h0.2.2.1)
  clear h0
  by_cases hbig : 3000 < n0
  · have d0 : decide ((3000 : Int) < (n0 : Int)) = true := decide_eq_true (by omega)
    go_enter Try.func5, Try.ntmps5
    go_wp2_with fail
    refine (awake_any _).mono ?_
    rintro e w1 ⟨rfl, hb1⟩
    go_wp2
    go_ret
    exact ⟨rfl, hb1⟩
  have d0 : decide ((3000 : Int) < (n0 : Int)) = false := decide_eq_false (by omega)
  obtain ⟨er, her⟩ : ∃ er, decfE l0 = er := ⟨_, rfl⟩
  have HE := Lib.hid her
  clear her
  go_enter Try.func5, Try.ntmps5
  go_wp2_with fail
  refine (awake_any _).mono ?_
  rintro e w1 ⟨rfl, hb1⟩
  have HB1 := Lib.hid hb1
  clear hb1
  go_wp2_with fail
  refine (fdecode_any (H0.out.below HB1.out (fun _ _ h => h)) (by omega)).mono ?_
  intro e w2 hd
  obtain ⟨⟨P, M, rfl, hP, hQ, hfb⟩, hb2⟩ := decf_one hd
  rw [HE.out]
  have hb12 := HB1.out.trans (hb2.mono HB1.out.size)
  have HF2 := Lib.hid hfb
  have HB2 := Lib.hid (put_below (T := 28) (z := zf) (N := P) hb12 hb12.size)
  clear hb2 hd hb12 HB1 hfb
  go_wp2_with (first | ((with_reducible show wpList _ _ _ ((⟨_, Op.store 28 (.tmp 4) _, _, _, _, _⟩ : Oper) :: _) _ _); rw [zeroF]; refine wpList_store_row rfl _ (.tmp 4) (.tmp 17) rfl w2.heap.size P rfl rfl 28 _ (Whole.new w2 _ _) (by rw [hP]; exact info38) (by rw [hP]; rfl) hQ ?_) | fail)
  generalize (w2.alloc (.cells zf 28)).setRow w2.heap.size P = w3 at *
  generalize w2.heap.size = A at *
  clear hP hQ
  refine (rfdecode_any (H0.out.below HB2.out (fun _ _ h => h)) (by omega)).mono ?_
  intro e w4 hd
  obtain ⟨⟨P', M', rfl, hP, hQ, hfb⟩, hb4⟩ := decf_one hd
  rw [HE.out]
  have hb14 := HB2.out.trans (hb4.mono HB2.out.size)
  have HF4 := Lib.hid ((HF2.out.below hb4).below (put_below (T := 28) (z := zf) (N := P') (Below.refl _ _) (Nat.le_refl _)))
  have HG4 := Lib.hid hfb
  have HB4 := Lib.hid (put_below (T := 28) (z := zf) (N := P') hb14 hb14.size)
  clear hb4 hd hb14 HB2 hfb HF2
  go_wp2_with (first | ((with_reducible show wpList _ _ _ ((⟨_, Op.store 28 (.tmp 6) _, _, _, _, _⟩ : Oper) :: _) _ _); rw [zeroF]; refine wpList_store_row rfl _ (.tmp 6) (.tmp 22) rfl w4.heap.size P' rfl rfl 28 _ (Whole.new w4 _ _) (by rw [hP]; exact info38) (by rw [hP]; rfl) hQ ?_) | ((with_reducible show wpList _ _ _ ((⟨_, Op.load 28 (.tmp 4), _, _, _, _⟩ : Oper) :: _) _ _); refine fb_load HF4.out (by rfl) (.tmp 4) rfl rfl ?_) | ((with_reducible show wpList _ _ _ ((⟨_, Op.load 28 (.tmp 6), _, _, _, _⟩ : Oper) :: _) _ _); refine fb_load HG4.out (by rfl) (.tmp 6) rfl rfl ?_) | fail)
  generalize (w4.alloc (.cells zf 28)).setRow w4.heap.size P' = w5 at *
  generalize w4.heap.size = B at *
  refine (rfsame_any HF4.out.val HG4.out.val (Or.inl HF.out)).mono ?_
  rintro e w6 ⟨b, rfl, hbi, hb6⟩
  obtain rfl : b = true := hbi.2 rfl
  have HB6 := Lib.hid (HB4.out.trans (hb6.mono HB4.out.size))
  clear hb6 hbi
  go_wp2
  go_ret
  exact ⟨rfl, HB6.out⟩
end Go.Proofs.Ytcfchkffanfehaa
