/-
  The walk of ManifestDecodes.
-/
import Derived.Test.YtdjibhpjdhpcgaaDoorNs
set_option maxRecDepth 20000
namespace Go.Proofs.YtdjibhpjdhpcgaaDoor
set_option linter.unusedSimpArgs false
open Go.RowKit
def decm (l : List Int) : Mf.Man := (Mf.dec l).getD Mf.zero
def dece (l : List Int) : Int := if Mf.dec l = none then 50 else 0
theorem decm_few {l : List Int} (hb : Byt l) : (decm l).ds.length ≤ 1000 := by
  unfold decm
  cases h : Mf.dec l with
  | none => exact Nat.zero_le _
  | some m =>
    have hbad := (Mf.dec_some hb h).1
    have hl : m.ds.length = Mf.cnt m.size m.chunk := Decidable.byContradiction fun e => hbad (Or.inr e)
    have := Mf.cnt_le m.size m.chunk
    show m.ds.length ≤ 1000
    omega
theorem decd_one {w w' : World} {l : List Int} {e : Ending} (h : Decd w l e w') : (∃ P, e = .returned (.tuple #[.agg P, .int .i64 (dece l)]) ∧ P.size = 35 ∧ (P.all fun x => x.oneCell') = true ∧ Mv w' (w.heap.size ≤ ·) (.agg P) (decm l)) ∧ Below w.heap.size w w' := by
  obtain ⟨h1, h2⟩ := h
  refine ⟨?_, h2⟩
  rcases h1 with ⟨v, m, hd, rfl, hm⟩ | ⟨hd, rfl⟩
  · obtain ⟨P, rfl, hs, ha⟩ := mv_agg hm
    exact ⟨P, by unfold dece; rw [hd]; rfl, hs, ha, by unfold decm; rw [hd]; exact hm⟩
  · exact ⟨zm, by unfold dece; rw [hd]; rfl, zm_size, mcs_one rfl, by unfold decm; rw [hd]; exact zm_mv _ _⟩
set_option maxHeartbeats 4000000 in
theorem decodes_walk (a0 : Option Addr) (n0 c0 : Nat) (l0 : List Int) (w : World) (hR : Roots w) (h0 : Txt w (· < w.heap.size) a0 n0 c0 l0) :
    Calls Tryd.prog 7 #[.slice a0 n0 c0] w fun e w' => e = .returned (.bool true) ∧ Below w.heap.size w w' := by
  have HR := Lib.hid hR
  have H0 := Lib.hid h0
  have HF := Lib.hid (decm_few h0.2.2.1)
  clear hR h0
  by_cases hbig : 3000 < n0
  · have d0 : decide ((3000 : Int) < (n0 : Int)) = true := decide_eq_true (by omega)
    go_enter Tryd.func7, Tryd.ntmps7
    go_wp2_with (go_at_call 12; refine (awake_any _ HR.out).mono ?_; rintro e w1 ⟨rfl, hb⟩; have HB1 := Lib.hid hb; clear hb)
    go_ret
    exact ⟨rfl, HB1.out⟩
  have d0 : decide ((3000 : Int) < (n0 : Int)) = false := decide_eq_false (by omega)
  obtain ⟨er, her⟩ : ∃ er, dece l0 = er := ⟨_, rfl⟩
  have HE := Lib.hid her
  clear her
  go_enter Tryd.func7, Tryd.ntmps7
  go_wp2_with (go_at_call 12; refine (awake_any _ HR.out).mono ?_; rintro e w1 ⟨rfl, hb⟩; have HB1 := Lib.hid hb; clear hb)
  refine (decode_any (H0.out.below HB1.out (fun _ _ h => h)) (by omega)).mono ?_
  intro e w2 hd
  obtain ⟨⟨P, rfl, hPs, hPa, hmv⟩, hb2⟩ := decd_one hd
  rw [HE.out]
  have HB2 := HB1.out.trans (hb2.mono HB1.out.size)
  have HP := Lib.hid (has_put hmv zm)
  have HB3 := Lib.hid (show Below w.heap.size w ((w2.alloc (.cells zm 27)).setRow w2.heap.size P) from put_below HB2 HB2.size)
  clear hb2 hmv HB2 HB1 hd
  go_wp2_with (first | ((with_reducible show wpList _ _ _ ((⟨_, Op.store 27 _ _, _, _, _, _⟩ : Oper) :: _) _ _); rw [zeroM, show (mcs 0 0 (.slice none 0 0) (zs 32)).toArray = zm from rfl]; refine wpList_store_row rfl _ (.tmp 4) (.tmp 17) rfl w2.heap.size P rfl rfl 27 _ (Whole.new w2 _ _) (by rw [hPs]; exact info35) (by rw [hPs]; try rfl) hPa ?_) | fail)
  generalize (w2.alloc (.cells zm 27)).setRow w2.heap.size P = w3 at *
  generalize w2.heap.size = A at *
  clear hPs hPa
  refine (rdecode_any (H0.out.below HB3.out (fun _ _ h => h)) (by omega)).mono ?_
  intro e w4 hd
  obtain ⟨⟨Q, rfl, hQs, hQa, hmv⟩, hb4⟩ := decd_one hd
  rw [HE.out]
  have HP4 := HP.out.below hb4
  have HB4 := HB3.out.trans (hb4.mono HB3.out.size)
  have HP5 := Lib.hid (HP4.below (put_below (T := 27) (z := zm) (N := Q) (Below.refl w4.heap.size w4) (Nat.le_refl _)))
  have HQ5 := Lib.hid (has_put hmv zm)
  have HB5 := Lib.hid (show Below w.heap.size w ((w4.alloc (.cells zm 27)).setRow w4.heap.size Q) from put_below HB4 HB4.size)
  clear hd hmv hb4 HP HB3 HP4 HB4
  go_wp2_with (first | ((with_reducible show wpList _ _ _ ((⟨_, Op.store 27 _ _, _, _, _, _⟩ : Oper) :: _) _ _); rw [zeroM, show (mcs 0 0 (.slice none 0 0) (zs 32)).toArray = zm from rfl]; refine wpList_store_row rfl _ (.tmp 6) (.tmp 22) rfl w4.heap.size Q rfl rfl 27 _ (Whole.new w4 _ _) (by rw [hQs]; exact info35) (by rw [hQs]; try rfl) hQa ?_) | ((with_reducible show wpList _ _ _ ((⟨_, Op.load 27 (.tmp 4), _, _, _, _⟩ : Oper) :: _) _ _); refine has_load HP5.out (by rfl) (.tmp 4) rfl rfl ?_) | ((with_reducible show wpList _ _ _ ((⟨_, Op.load 27 (.tmp 6), _, _, _, _⟩ : Oper) :: _) _ _); refine has_load HQ5.out (by rfl) (.tmp 6) rfl rfl ?_))
  generalize (w4.alloc (.cells zm 27)).setRow w4.heap.size Q = w5 at *
  generalize w4.heap.size = B at *
  refine (same_eq HP5.out.2 HQ5.out.2 HF.out).mono ?_
  rintro e w6 ⟨rfl, hb6⟩
  have HB6 := Lib.hid (HB5.out.trans (hb6.mono HB5.out.size))
  clear hb6
  go_wp2
  go_ret
  exact ⟨rfl, HB6.out⟩
end Go.Proofs.YtdjibhpjdhpcgaaDoor
