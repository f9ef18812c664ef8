/-
  The walk of ManifestSizes.
-/
import Derived.Test.YtdjibhpjdhpcgaaDoorZq
set_option maxRecDepth 20000
namespace Mf
open Go.Proofs.YtdjibhpjdhpcgaaDoor
theorem num_two {n : Int} (h0 : 0 ≤ n) (h1 : n ≤ 8191) : 1 ≤ (Cd.num n).length ∧ (Cd.num n).length ≤ 2 := by
  refine ⟨Cd.num_pos n, ?_⟩
  unfold Cd.num Cd.encU
  have hf : Cd.fold n / 128 < 128 ^ 1 := by unfold Cd.fold; rw [if_neg (by omega)]; omega
  have := Cd.tops_len hf
  rw [List.length_append, List.length_singleton]
  omega
theorem num_three {n : Int} (h0 : 0 ≤ n) (h1 : n ≤ 1000000) : 1 ≤ (Cd.num n).length ∧ (Cd.num n).length ≤ 3 := by
  refine ⟨Cd.num_pos n, ?_⟩
  unfold Cd.num Cd.encU
  have hf : Cd.fold n / 128 < 128 ^ 2 := by unfold Cd.fold; rw [if_neg (by omega)]; omega
  have := Cd.tops_len hf
  rw [List.length_append, List.length_singleton]
  omega
end Mf
namespace Go.Proofs.YtdjibhpjdhpcgaaDoor
set_option linter.unusedSimpArgs false
open Go.RowKit
set_option maxHeartbeats 4000000 in
theorem sizes_walk (a0 : Option Addr) (n0 c0 : Nat) (l0 : List Int) (ch : Int) (w : World) (hR : Roots w) (h0 : Txt w (· < w.heap.size) a0 n0 c0 l0) (hch : -9223372036854775808 ≤ ch ∧ ch ≤ 9223372036854775807) :
    Calls Tryd.prog 10 #[.slice a0 n0 c0, .int .i64 ch] w fun e w' => e = .returned (.bool true) ∧ Below w.heap.size w w' := by
  have HR := Lib.hid hR
  have H0 := Lib.hid h0
  have HCH := Lib.hid hch
  obtain ⟨hch1, hch2⟩ := hch
  clear hR h0
  by_cases hbig : 2000 < n0
  · have d0 : decide ((2000 : Int) < (n0 : Int)) = true := decide_eq_true (by omega)
    go_enter Tryd.func10, Tryd.ntmps10
    go_wp2_with (go_at_call 12; refine (awake_any _ HR.out).mono ?_; rintro e w1 ⟨rfl, hb⟩; have HB1 := Lib.hid hb; clear hb)
    go_ret
    exact ⟨rfl, HB1.out⟩
  have d0 : decide ((2000 : Int) < (n0 : Int)) = false := decide_eq_false (by omega)
  by_cases hN0 : Mf.cnt l0.length ch = 0
  · have HBZ := Lib.hid (bld_zero hN0)
    clear hN0
    go_enter Tryd.func10, Tryd.ntmps10
    go_wp2_with (go_at_call 12; refine (awake_any _ HR.out).mono ?_; rintro e w1 ⟨rfl, hb⟩; have HB1 := Lib.hid hb; clear hb)
    refine (build_any (H0.out.below HB1.out (fun _ _ h => h)) HCH.out (by omega) (HR.out.below HB1.out HR.out.two)).mono ?_
    rintro e w2 ⟨⟨v, rfl, hmv⟩, hb2⟩
    rw [HBZ.out.2]
    obtain ⟨P, rfl, hPs, hPa⟩ := mv_agg hmv
    have HB2 := HB1.out.trans (hb2.mono HB1.out.size)
    have HB3 := Lib.hid (show Below w.heap.size w ((w2.alloc (.cells zm 27)).setRow w2.heap.size P) from put_below HB2 HB2.size)
    clear hb2 hmv HB2 HB1
    go_wp2_with (first | ((with_reducible show wpList _ _ _ ((⟨_, Op.store 27 _ _, _, _, _, _⟩ : Oper) :: _) _ _); rw [zeroM, show (mcs 0 0 (.slice none 0 0) (zs 32)).toArray = zm from rfl]; refine wpList_store_row rfl _ (.tmp 6) (.tmp 26) rfl w2.heap.size P rfl rfl 27 _ (Whole.new w2 _ _) (by rw [hPs]; exact info35) (by rw [hPs]; try rfl) hPa ?_) | fail)
    go_ret
    exact ⟨rfl, HB3.out⟩
  obtain ⟨N, hNe⟩ : ∃ N, Mf.cnt l0.length ch = N := ⟨_, rfl⟩
  have hin := Mf.cnt_in hN0
  have hmu := Mf.cnt_mul hN0
  have hle := Mf.cnt_le l0.length ch
  have HBZ := Lib.hid (bld_made hN0)
  have hnb := Mf.bad_made hN0
  obtain ⟨k0, hk0⟩ : ∃ k0 : Nat, ch = (k0 : Int) := ⟨ch.toNat, by omega⟩
  subst hk0
  rw [hNe] at hmu hle hN0
  obtain ⟨m, hm⟩ : ∃ m, Mf.made l0 (k0 : Int) = m := ⟨_, rfl⟩
  have hmd : m = ⟨l0.length, k0, m.ds, m.wh⟩ := by rw [← hm]; rfl
  have hds : m.ds.length = N := by rw [← hm]; show (Mf.digsTo _ _ (Mf.cnt l0.length (k0 : Int))).length = N; rw [Mf.digsTo_len, hNe]
  have hdok : (∀ d ∈ m.ds, Dig d) ∧ Dig m.wh := by rw [← hm]; exact ⟨Mf.digsTo_ok _ _ _, dig_ok _⟩
  rw [hm] at HBZ hnb
  have HPV : Hid (∀ k, k < N → Mf.fr m (k : Int) = ((k * k0 : Nat) : Int) ∧ Mf.til m (k : Int) = ((min ((k + 1) * k0) l0.length : Nat) : Int) ∧ k * k0 < min ((k + 1) * k0) l0.length) := Lib.hid (fun k hk => by
    have h := part_vals (ds := m.ds) (wh := m.wh) hNe hds hk
    rw [← hmd] at h
    exact h)
  have hbl := Mf.body_len hdok.1 hdok.2
  have hsz : m.size = (l0.length : Int) := by rw [hmd]
  have hcz : m.chunk = (k0 : Int) := by rw [hmd]
  rw [hsz, hcz, hds] at hbl
  have hn1 := Mf.num_three (n := (l0.length : Int)) (by omega) (by omega)
  have hn2 := Mf.num_two (n := (k0 : Int)) (by omega) (by omega)
  have hln : l0.length = n0 := H0.out.1
  have hN1 : 1 ≤ N := by omega
  have e1 : (((N - 1) * k0 : Nat) : Int) = ((N : Int) - 1) * (k0 : Int) := by push_cast [hN1]; rfl
  have e2 : ((N * k0 : Nat) : Int) = (N : Int) * (k0 : Int) := by push_cast; rfl
  have hpl := HPV.out (N - 1) (by omega)
  rw [show N - 1 + 1 = N by omega, Nat.min_eq_right (by omega), show ((N - 1 : Nat) : Int) = (N : Int) - 1 by omega] at hpl
  obtain ⟨F, hF⟩ : ∃ F, (N - 1) * k0 = F := ⟨_, rfl⟩
  rw [hF] at hpl e1
  obtain ⟨G, hG⟩ : ∃ G : Nat, l0.length - F = G := ⟨_, rfl⟩
  obtain ⟨T, hT⟩ : ∃ T : Nat, 32 * (N + 1) = T := ⟨_, rfl⟩
  obtain ⟨E, hE⟩ : ∃ E, (Cd.num (l0.length : Int)).length + (Cd.num (k0 : Int)).length = E := ⟨_, rfl⟩
  rw [hE, hT] at hbl
  rw [hln] at hpl hG
  have HPL := Lib.hid (And.intro hpl.1 hpl.2.1)
  have hFn : F < n0 := hpl.2.2
  have hm1 : (k0 : Int) * ((N : Int) - 1) = (F : Int) := by rw [e1, Int.mul_comm]
  have hm2 : (32 : Int) * ((N : Int) + 1) = (T : Int) := by omega
  have hs1 : (n0 : Int) - (F : Int) = (G : Int) := by omega
  have hG1 : decide ((1 : Int) ≤ (G : Int)) = true := decide_eq_true (by omega)
  have hE1 : decide ((2 : Int) ≤ (E : Int)) = true := decide_eq_true (by omega)
  have hE2 : decide ((E : Int) ≤ 5) = true := decide_eq_true (by omega)
  have hE3 : E ≤ 5 := by omega
  have hTn : T ≤ 5000 := by omega
  have hGn : G ≤ 5000 := by omega
  have HBL := Lib.hid hbl
  have HDS := Lib.hid hds
  have HNB := Lib.hid hnb
  have HIN := Lib.hid (And.intro hin.2.2.1 hin.2.2.2)
  have HKF : Hid (∀ k, k + 1 < N → Mf.fr m (k : Int) = ((k * k0 : Nat) : Int) ∧ Mf.til m (k : Int) = ((k * k0 + k0 : Nat) : Int) ∧ k * k0 ≤ 100000) := Lib.hid (fun k hk => by
    obtain ⟨h1, h2, h3⟩ := HPV.out k (by omega)
    have h4 : (k + 1) * k0 ≤ (N - 1) * k0 := Nat.mul_le_mul_right _ (by omega)
    have h5 : (k + 1) * k0 = k * k0 + k0 := by rw [Nat.add_mul, Nat.one_mul]
    rw [Nat.min_eq_left (by omega), h5] at h2
    exact ⟨h1, h2, by omega⟩)
  clear hE hT hG hF hbl hn1 hn2 hsz hcz hdok hmd hm hds hnb hmu hin e1 e2 hpl hN0 hNe HPV
  clear hln
  go_enter Tryd.func10, Tryd.ntmps10
  go_wp2_with (go_at_call 12; refine (awake_any _ HR.out).mono ?_; rintro e w1 ⟨rfl, hb⟩; have HB1 := Lib.hid hb; clear hb)
  refine (build_any (H0.out.below HB1.out (fun _ _ h => h)) HCH.out (by omega) (HR.out.below HB1.out HR.out.two)).mono ?_
  rintro e w2 ⟨⟨v, rfl, hmv⟩, hb2⟩
  rw [HBZ.out.1] at hmv
  rw [HBZ.out.2]
  obtain ⟨P, rfl, hPs, hPa⟩ := mv_agg hmv
  have HB2 := HB1.out.trans (hb2.mono HB1.out.size)
  have HP := Lib.hid (has_put hmv zm)
  have HB3 := Lib.hid (show Below w.heap.size w ((w2.alloc (.cells zm 27)).setRow w2.heap.size P) from put_below HB2 HB2.size)
  obtain ⟨a3, n3, c3, k2, hn3⟩ := has_chunks HP.out
  obtain rfl : n3 = N := by rw [← hn3]; exact HDS.out
  clear hb2 hmv HB2 HB1 hn3
  go_wp2_with (first | ((with_reducible show wpList _ _ _ ((⟨_, Op.store 27 _ _, _, _, _, _⟩ : Oper) :: _) _ _); rw [zeroM, show (mcs 0 0 (.slice none 0 0) (zs 32)).toArray = zm from rfl]; refine wpList_store_row rfl _ (.tmp 6) (.tmp 26) rfl w2.heap.size P rfl rfl 27 _ (Whole.new w2 _ _) (by rw [hPs]; exact info35) (by rw [hPs]; try rfl) hPa ?_) | fail)
  generalize (w2.alloc (.cells zm 27)).setRow w2.heap.size P = w3 at *
  generalize w2.heap.size = A at *
  have H3 := Lib.hid (And.intro HP.out HB3.out)
  clear HP HB3 k2 hPs hPa
  go_loopw [9] (fun i wr => ∃ k : Nat, k + 1 ≤ n3 ∧ i = .int .i64 (k : Int) ∧ Hid (Has wr A P m ∧ Below w.heap.size w wr)) (fun i _ => n3 - (intOf i).toNat)
  case atStart => exact ⟨0, by omega, rfl, H3⟩
  case round =>
    clear H3
    obtain ⟨k, hk, rfl, HK⟩ := hrel
    by_cases hlt : k + 1 < n3
    · have d1 : decide ((k : Int) + 1 < (n3 : Int)) = true := decide_eq_true (by omega)
      obtain ⟨h1, h2, h3⟩ := HKF.out k hlt
      have HV := Lib.hid (And.intro h1 h2)
      obtain ⟨f, hf⟩ : ∃ f, k * k0 = f := ⟨_, rfl⟩
      rw [hf] at HV h3
      have hsub : ((f + k0 : Nat) : Int) - (f : Int) = (k0 : Int) := by omega
      have hk0 : (k0 : Int) ≤ 4096 := HIN.out.2
      obtain ⟨g, hg⟩ : ∃ g : Nat, f + k0 = g := ⟨_, rfl⟩
      rw [hg] at HV hsub
      have hgn : g ≤ 200000 := by omega
      clear h1 h2 hf hg
      go_wp2_with (first | ((with_reducible show wpList _ _ _ ((⟨_, Op.load 27 (.tmp 6), _, _, _, _⟩ : Oper) :: _) _ _); refine has_load HK.out.1 (by rfl) (.tmp 6) rfl rfl ?_) | fail)
      refine (part_any HK.out.1.2 (i := (k : Int)) ⟨by omega, by omega⟩).mono ?_
      rintro e w5 ⟨rfl, hb5⟩
      rw [HV.out.1, HV.out.2]
      have HK5 := Lib.hid (And.intro (HK.out.1.below hb5) (HK.out.2.trans (hb5.mono HK.out.2.size)))
      clear hb5 HK
      go_wp2
      exact ⟨⟨k + 1, by omega, by go_num, HK5⟩, by simp [intOf]; omega⟩
    · have d1 : decide ((k : Int) + 1 < (n3 : Int)) = false := decide_eq_false (by omega)
      clear HKF
      go_wp2_with (first | ((with_reducible show wpList _ _ _ ((⟨_, Op.load 27 (.tmp 6), _, _, _, _⟩ : Oper) :: _) _ _); refine has_load HK.out.1 (by rfl) (.tmp 6) rfl rfl ?_) | fail)
      refine (part_any HK.out.1.2 (i := (n3 : Int) - 1) ⟨by omega, by omega⟩).mono ?_
      rintro e w5 ⟨rfl, hb5⟩
      rw [HPL.out.1, HPL.out.2]
      have HP5 := Lib.hid (HK.out.1.below hb5)
      have HB5 := Lib.hid (HK.out.2.trans (hb5.mono HK.out.2.size))
      clear hb5 HK
      go_wp2_with (first | ((with_reducible show wpList _ _ _ ((⟨_, Op.load 27 (.tmp 6), _, _, _, _⟩ : Oper) :: _) _ _); refine has_load HP5.out (by rfl) (.tmp 6) rfl rfl ?_) | fail)
      refine (encode_any HP5.out.2).mono ?_
      rintro e w6 ⟨hd, hb6⟩
      rcases hd with ⟨hbad, _⟩ | ⟨_, aB, nB, cB, rfl, htB⟩
      · exact absurd hbad HNB.out
      have hnB : nB = E + T := by rw [← htB.1]; exact HBL.out
      have hsb : (nB : Int) - (T : Int) = (E : Int) := by omega
      have hnB5 : nB ≤ 10000 := by omega
      have HB6 := Lib.hid (HB5.out.trans (hb6.mono HB5.out.size))
      have hFn' : F ≤ 2000 := by omega
      have hkk : (k0 : Int) ≤ 4096 := HIN.out.2
      clear hb6 hnB htB HP5 HB5
      go_wp2
      go_ret
      exact ⟨rfl, HB6.out⟩
end Go.Proofs.YtdjibhpjdhpcgaaDoor
