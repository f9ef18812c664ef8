/-
  The walk of ManifestOnce.
-/
import Derived.Test.YtdjibhpjdhpcgaaDoorZq
set_option maxRecDepth 20000
namespace Go.Proofs.YtdjibhpjdhpcgaaDoor
set_option linter.unusedSimpArgs false
open Go.RowKit
set_option maxHeartbeats 2000000 in
theorem once_walk (a0 : Option Addr) (n0 c0 : Nat) (l0 : List Int) (w : World) (hR : Roots w) (h0 : Txt w (· < w.heap.size) a0 n0 c0 l0) :
    Calls Tryd.prog 9 #[.slice a0 n0 c0] w fun e w' => e = .returned (.bool true) ∧ Below w.heap.size w w' := by
  have HR := Lib.hid hR
  have H0 := Lib.hid h0
  clear hR h0
  by_cases hbig : 3000 < n0
  · have d0 : decide ((3000 : Int) < (n0 : Int)) = true := decide_eq_true (by omega)
    go_enter Tryd.func9, Tryd.ntmps9
    go_wp2_with (go_at_call 12; refine (awake_any _ HR.out).mono ?_; rintro e w1 ⟨rfl, hb⟩; have HB1 := Lib.hid hb; clear hb)
    go_ret
    exact ⟨rfl, HB1.out⟩
  have d0 : decide ((3000 : Int) < (n0 : Int)) = false := decide_eq_false (by omega)
  go_enter Tryd.func9, Tryd.ntmps9
  go_wp2_with (go_at_call 12; refine (awake_any _ HR.out).mono ?_; rintro e w1 ⟨rfl, hb⟩; have HB1 := Lib.hid hb; clear hb)
  refine (decode_any (H0.out.below HB1.out (fun _ _ h => h)) (by omega)).mono ?_
  rintro e w2 ⟨hd, hb2⟩
  have HB2 := Lib.hid (HB1.out.trans (hb2.mono HB1.out.size))
  clear hb2 HB1
  rcases hd with ⟨v, m, hdec, rfl, hmv⟩ | ⟨hdec, rfl⟩
  · have HDS := Lib.hid (Mf.dec_some H0.out.2.2.1 hdec)
    have HCK := Lib.hid (Mf.chk_zero HDS.out.1)
    obtain ⟨P, rfl, hPs, hPa⟩ := mv_agg hmv
    have HP := Lib.hid (has_put hmv zm)
    have HB3 := Lib.hid (show Below w.heap.size w ((w2.alloc (.cells zm 27)).setRow w2.heap.size P) from put_below HB2.out HB2.out.size)
    clear hdec hmv HB2
    go_wp2_with (first | ((with_reducible show wpList _ _ _ ((⟨_, Op.store 27 _ _, _, _, _, _⟩ : Oper) :: _) _ _); rw [zeroM, show (mcs 0 0 (.slice none 0 0) (zs 32)).toArray = zm from rfl]; refine wpList_store_row rfl _ (.tmp 4) (.tmp 16) rfl w2.heap.size P rfl rfl 27 _ (Whole.new w2 _ _) (by rw [hPs]; exact info35) (by rw [hPs]; try rfl) hPa ?_) | ((with_reducible show wpList _ _ _ ((⟨_, Op.load 27 (.tmp 4), _, _, _, _⟩ : Oper) :: _) _ _); refine has_load HP.out (by rfl) (.tmp 4) rfl rfl ?_))
    generalize (w2.alloc (.cells zm 27)).setRow w2.heap.size P = w3 at *
    generalize w2.heap.size = A at *
    refine (encode_any HP.out.2).mono ?_
    rintro e w4 ⟨hd, hb4⟩
    rcases hd with ⟨hbad, _⟩ | ⟨_, aB, nB, cB, rfl, htB⟩
    · exact absurd hbad HDS.out.1
    rw [HDS.out.2.1] at htB
    have HP4 := Lib.hid (HP.out.below hb4)
    have HB4 := Lib.hid (HB3.out.trans (hb4.mono HB3.out.size))
    have cv1 := Co.convert_txt htB
    have cv2 := Co.convert_txt (H0.out.below HB4.out (fun _ _ h => h))
    obtain ⟨s, hs⟩ : ∃ s, strOfNums l0 = s := ⟨_, rfl⟩
    rw [hs] at cv1 cv2
    clear hs htB hb4 HP HB3
    go_wp2_with (first | ((with_reducible show wpList _ _ _ ((⟨_, Op.load 27 (.tmp 4), _, _, _, _⟩ : Oper) :: _) _ _); refine has_load HP4.out (by rfl) (.tmp 4) rfl rfl ?_) | fail)
    refine (check_any HP4.out.2).mono ?_
    rintro e w5 ⟨rfl, hb5⟩
    rw [HCK.out]
    have HB5 := Lib.hid (HB4.out.trans (hb5.mono HB4.out.size))
    clear hb5
    go_wp2
    go_ret
    exact ⟨rfl, HB5.out⟩
  · have hza := mcs_one (s := 0) (c := 0) (v := .slice none 0 0) (h := zs 32) rfl
    have HB3 := Lib.hid (show Below w.heap.size w ((w2.alloc (.cells zm 27)).setRow w2.heap.size zm) from put_below HB2.out HB2.out.size)
    have k2 : ((w2.alloc (.cells zm 27)).setRow w2.heap.size zm).cell? ⟨w2.heap.size, 2, none⟩ = some (.slice none 0 0) := (put_row (w := w2) (T := 27) (z := zm) (N := zm)).cell 2
    have hzs := zm_size
    clear hdec HB2
    go_wp2_with (first | ((with_reducible show wpList _ _ _ ((⟨_, Op.store 27 _ _, _, _, _, _⟩ : Oper) :: _) _ _); rw [zeroM, show (mcs 0 0 (.slice none 0 0) (zs 32)).toArray = zm from rfl]; refine wpList_store_row rfl _ (.tmp 4) (.tmp 16) rfl w2.heap.size zm rfl rfl 27 _ (Whole.new w2 _ _) (by rw [hzs]; exact info35) (by rw [hzs]; try rfl) hza ?_) | fail)
    go_ret
    exact ⟨rfl, HB3.out⟩
end Go.Proofs.YtdjibhpjdhpcgaaDoor
