/-
  The walk of ManifestBack.
-/
import Derived.Test.YtdjibhpjdhpcgaaDoorZq
set_option maxRecDepth 20000
namespace Go.Proofs.YtdjibhpjdhpcgaaDoor
set_option linter.unusedSimpArgs false
open Go.RowKit
theorem has_rangeB {w : World} {A : Nat} {P : Array Value} {m : Mf.Man} (h : Has w A P m) : w.rangeAt A 0 P.toList := fun j v hv => by
  rw [h.1.cell, Nat.zero_add]
  simpa using hv
theorem has_lenB {w : World} {A : Nat} {P : Array Value} {m : Mf.Man} (h : Has w A P m) : (Tryd.prog.info? 27).map (·.size) = some P.toList.length := by
  obtain ⟨P', e, hs, _⟩ := mv_agg h.2
  injection e with e
  subst e
  rw [Array.length_toList, hs]
  exact info35
theorem ver_made {l0 : List Int} {k0 N k : Nat} (hN : Mf.cnt l0.length k0 = N) (hk : k < N) : Mf.ver (Mf.made l0 k0) (k : Int) (Mf.ck l0 k0 k) = 0 := by
  have hne : Mf.cnt l0.length k0 ≠ 0 := by omega
  have hb := Mf.bad_made hne
  have hds : (Mf.made l0 k0).ds = Mf.digsTo l0 k0 N := by
    show Mf.digsTo l0 ((k0 : Int)).toNat (Mf.cnt l0.length k0) = _
    rw [hN, Int.toNat_natCast]
  have hlen : (Mf.made l0 k0).ds.length = N := by rw [hds, Mf.digsTo_len]
  have hp := part_vals (ds := (Mf.made l0 k0).ds) (wh := (Mf.made l0 k0).wh) hN hlen hk
  have hoff : ¬ Mf.off (Mf.made l0 k0) (k : Int) := by
    intro h
    rcases h with h | h | h
    · exact hb h
    · omega
    · rw [hlen] at h; omega
  have e1 : Mf.fr (Mf.made l0 k0) (k : Int) = ((k * k0 : Nat) : Int) := hp.1
  have e2 : Mf.til (Mf.made l0 k0) (k : Int) = ((min ((k + 1) * k0) l0.length : Nat) : Int) := hp.2.1
  have h5 : (k + 1) * k0 = k * k0 + k0 := by rw [Nat.add_mul, Nat.one_mul]
  rw [ver_in hoff, e1, e2, if_neg, if_pos]
  · rw [hds, Int.toNat_natCast]
    unfold Mf.digsTo
    simp [hk]
  · rw [Mf.ck_len]
    have := hp.2.2
    omega
set_option maxHeartbeats 8000000 in
theorem back_walk (a0 : Option Addr) (n0 c0 : Nat) (l0 : List Int) (ch : Int) (w : World) (hR : Roots w) (h0 : Txt w (· < w.heap.size) a0 n0 c0 l0) (hch : -9223372036854775808 ≤ ch ∧ ch ≤ 9223372036854775807) :
    Calls Tryd.prog 8 #[.slice a0 n0 c0, .int .i64 ch] w fun e w' => e = .returned (.bool true) ∧ Below w.heap.size w w' := by
  have HR := Lib.hid hR
  have H0 := Lib.hid h0
  have HCH := Lib.hid hch
  obtain ⟨hch1, hch2⟩ := hch
  have hn0c : n0 ≤ c0 := h0.2.1
  clear hR h0
  by_cases hbig : 2000 < n0
  · have d0 : decide ((2000 : Int) < (n0 : Int)) = true := decide_eq_true (by omega)
    go_enter Tryd.func8, Tryd.ntmps8
    go_wp2_with (go_at_call 12; refine (awake_any _ HR.out).mono ?_; rintro e w1 ⟨rfl, hb⟩; have HB1 := Lib.hid hb; clear hb)
    go_ret
    exact ⟨rfl, HB1.out⟩
  have d0 : decide ((2000 : Int) < (n0 : Int)) = false := decide_eq_false (by omega)
  by_cases hN0 : Mf.cnt l0.length ch = 0
  · have HBZ := Lib.hid (bld_zero hN0)
    clear hN0
    go_enter Tryd.func8, Tryd.ntmps8
    go_wp2_with (go_at_call 12; refine (awake_any _ HR.out).mono ?_; rintro e w1 ⟨rfl, hb⟩; have HB1 := Lib.hid hb; clear hb)
    refine (build_any (H0.out.below HB1.out (fun _ _ h => h)) HCH.out (by omega) (HR.out.below HB1.out HR.out.two)).mono ?_
    rintro e w2 ⟨⟨v, rfl, hmv⟩, hb2⟩
    rw [HBZ.out.1] at hmv
    rw [HBZ.out.2]
    obtain ⟨P, rfl, hPs, hPa⟩ := mv_agg hmv
    have HB2 := HB1.out.trans (hb2.mono HB1.out.size)
    have HB3 := Lib.hid (show Below w.heap.size w ((w2.alloc (.cells zm 27)).setRow w2.heap.size P) from put_below HB2 HB2.size)
    have HP := has_put hmv zm
    obtain ⟨a3, n3, c3, k2, hn3⟩ := has_chunks HP
    obtain rfl : n3 = 0 := hn3.symm
    clear hb2 hmv HB2 HB1 hn3 HP
    go_wp2_with (first | ((with_reducible show wpList _ _ _ ((⟨_, Op.store 27 _ _, _, _, _, _⟩ : Oper) :: _) _ _); rw [zeroM, show (mcs 0 0 (.slice none 0 0) (zs 32)).toArray = zm from rfl]; refine wpList_store_row rfl _ (.tmp 6) (.tmp 26) rfl w2.heap.size P rfl rfl 27 _ (Whole.new w2 _ _) (by rw [hPs]; exact info35) (by rw [hPs]; try rfl) hPa ?_) | fail)
    go_ret
    exact ⟨rfl, HB3.out⟩
  obtain ⟨N, hNe⟩ : ∃ N, Mf.cnt l0.length ch = N := ⟨_, rfl⟩
  have hin := Mf.cnt_in hN0
  have hmu := Mf.cnt_mul hN0
  have hle := Mf.cnt_le l0.length ch
  have HBZ := Lib.hid (bld_made hN0)
  have hnb := Mf.bad_made hN0
  have hln : l0.length = n0 := H0.out.1
  obtain ⟨k0, hk0⟩ : ∃ k0 : Nat, ch = (k0 : Int) := ⟨ch.toNat, by omega⟩
  subst hk0
  have HVM : Hid (∀ k, k < N → Mf.ver (Mf.made l0 k0) (k : Int) (Mf.ck l0 k0 k) = 0) := Lib.hid (fun k hk => ver_made hNe hk)
  have HWH : Hid (Mf.who (Mf.made l0 (k0 : Int)) l0 = 0) := Lib.hid (by
    rw [who_in hnb, if_neg (by show ¬ (l0.length : Int) ≠ (l0.length : Int); simp)]
    exact if_pos rfl)
  rw [hNe] at hmu hle hN0
  obtain ⟨m, hm⟩ : ∃ m, Mf.made l0 (k0 : Int) = m := ⟨_, rfl⟩
  have hmd : m = ⟨l0.length, k0, m.ds, m.wh⟩ := by rw [← hm]; rfl
  have hds : m.ds.length = N := by rw [← hm]; show (Mf.digsTo _ _ (Mf.cnt l0.length (k0 : Int))).length = N; rw [Mf.digsTo_len, hNe]
  have hdok : (∀ d ∈ m.ds, Dig d) ∧ Dig m.wh := by rw [← hm]; exact ⟨Mf.digsTo_ok _ _ _, dig_ok _⟩
  rw [hm] at HBZ hnb HVM HWH
  have HPV : Hid (∀ k, k < N → Mf.fr m (k : Int) = ((k * k0 : Nat) : Int) ∧ Mf.til m (k : Int) = ((min ((k + 1) * k0) l0.length : Nat) : Int) ∧ k * k0 < min ((k + 1) * k0) l0.length) := Lib.hid (fun k hk => by
    have h := part_vals (ds := m.ds) (wh := m.wh) hNe hds hk
    rw [← hmd] at h
    exact h)
  have HDEC := Lib.hid (Mf.dec_body hnb hdok.1 hdok.2)
  have HCK := Lib.hid (Mf.chk_zero hnb)
  have HBLN : Hid ((Mf.body m).length ≤ 10000) := Lib.hid (by
    rw [Mf.body_len hdok.1 hdok.2, hds, hmd]
    have h1 := Cd.num_len (n := (l0.length : Int)) (by omega) (by omega)
    have h2 := Cd.num_len (n := (k0 : Int)) (by omega) (by omega)
    simp only
    omega)
  have HDS := Lib.hid hds
  have HNB := Lib.hid hnb
  have e2 : ((N * k0 : Nat) : Int) = (N : Int) * (k0 : Int) := by push_cast; rfl
  have HEND : Hid (min (N * k0) n0 = n0) := Lib.hid (Nat.min_eq_right (by omega))
  have hk01 : 1 ≤ k0 := by omega
  have hk02 : k0 ≤ 4096 := by omega
  clear hin hmu hN0 hNe hnb hm hmd hds hdok e2
  go_enter Tryd.func8, Tryd.ntmps8
  go_wp2_with (go_at_call 12; refine (awake_any _ HR.out).mono ?_; rintro e w1 ⟨rfl, hb⟩; have HB1 := Lib.hid hb; clear hb)
  refine (build_any (H0.out.below HB1.out (fun _ _ h => h)) HCH.out (by omega) (HR.out.below HB1.out HR.out.two)).mono ?_
  rintro e w2 ⟨⟨v, rfl, hmv⟩, hb2⟩
  rw [HBZ.out.1] at hmv
  rw [HBZ.out.2]
  obtain ⟨P, rfl, hPs, hPa⟩ := mv_agg hmv
  have HB2 := HB1.out.trans (hb2.mono HB1.out.size)
  have HP := Lib.hid (has_put hmv zm)
  have HB3 := Lib.hid (show Below w.heap.size w ((w2.alloc (.cells zm 27)).setRow w2.heap.size P) from put_below HB2 HB2.size)
  clear hb2 hmv HB2 HB1
  go_wp2_with (first | ((with_reducible show wpList _ _ _ ((⟨_, Op.store 27 _ _, _, _, _, _⟩ : Oper) :: _) _ _); rw [zeroM, show (mcs 0 0 (.slice none 0 0) (zs 32)).toArray = zm from rfl]; refine wpList_store_row rfl _ (.tmp 6) (.tmp 26) rfl w2.heap.size P rfl rfl 27 _ (Whole.new w2 _ _) (by rw [hPs]; exact info35) (by rw [hPs]; try rfl) hPa ?_) | fail)
  generalize (w2.alloc (.cells zm 27)).setRow w2.heap.size P = w3 at *
  generalize w2.heap.size = A at *
  have hl := has_lenB HP.out
  have hMu := Tryd.underlying27
  have H3 := Lib.hid (And.intro HP.out HB3.out)
  clear HP HB3 hPs hPa
  go_loopw [8, 9] (fun x i wr => ∃ (k f : Nat), k ≤ N ∧ x = .int .i64 (f : Int) ∧ i = .int .i64 (k : Int) ∧ Hid (f = min (k * k0) n0) ∧ Hid (Has wr A P m ∧ Below w.heap.size w wr)) (fun _ i _ => N - (intOf i).toNat)
  case atStart => exact ⟨0, 0, by omega, rfl, rfl, Lib.hid (by simp), H3⟩
  case round =>
    clear H3
    obtain ⟨k, f, hk, rfl, rfl, HF, HK⟩ := hrel
    obtain ⟨a3, n3, c3, k2, hn3⟩ := has_chunks HK.out.1
    obtain rfl : n3 = N := by rw [← hn3]; exact HDS.out
    clear hn3
    by_cases hlt : k < n3
    · obtain ⟨h1, h2, h3⟩ := HPV.out k hlt
      rw [hln] at h2 h3
      have hff : f = k * k0 := by rw [HF.out]; exact Nat.min_eq_left (by omega)
      have hkm := ck_mid l0 k0 k _ rfl (by omega)
      rw [hln] at hkm
      rw [← hff] at h1 h3 hkm
      obtain ⟨t, ht⟩ : ∃ t, min ((k + 1) * k0) n0 = t := ⟨_, rfl⟩
      rw [ht] at h2 h3 hkm
      have htn : t ≤ n0 := by rw [← ht]; exact Nat.min_le_right _ _
      have htf : t - f ≤ k0 := by rw [← ht, hff, Nat.add_mul, Nat.one_mul]; omega
      have HV := Lib.hid (And.intro h1 h2)
      have HTE := Lib.hid ht.symm
      obtain ⟨g, hg⟩ : ∃ g, t - f = g := ⟨_, rfl⟩
      have hwr : IntKind.i64.wrap ((t : Int) - (f : Int)) = (g : Int) := by rw [IntWalk.i64_in _ (by omega)]; omega
      have hsl := slice_mid (a := a0) (n := n0) (c := c0) (i := f) (j := t) (by omega) (by omega)
      have HTM := txt_mid (i := f) (j := t) H0.out (by omega) htn
      rw [hkm, hg] at HTM
      rw [hg] at hsl htf
      obtain ⟨AS, hslA, HTA⟩ : ∃ AS, (∀ w, (Instr.slice 23 (.slice a0 n0 c0) (some (.int .i64 (f : Int))) (some (.int .i64 (t : Int))) none).run Tryd.prog w = .ok (.slice AS g (c0 - f)) w) ∧ Hid (Txt w (· < w.heap.size) AS g (c0 - f) (Mf.ck l0 k0 k)) := ⟨_, hsl, Lib.hid HTM⟩
      have b1 : ((f : Int) != (f : Int)) = false := by simp
      have b2 : decide ((t : Int) ≤ (f : Int)) = false := decide_eq_false (by omega)
      have b3 : decide ((n0 : Int) < (t : Int)) = false := decide_eq_false (by omega)
      have b4 : decide ((k0 : Int) < (g : Int)) = false := decide_eq_false (by omega)
      have b5 : decide (t ≤ f) = false := decide_eq_false (by omega)
      have b6 : decide (n0 < t) = false := decide_eq_false (by omega)
      have b7 : decide (k0 < g) = false := decide_eq_false (by omega)
      have hgn : g ≤ 4096 := by omega
      clear h1 h2 hkm ht hg hsl HTM hff HF
      go_wp2_with (first | ((with_reducible show wpList _ _ _ ((⟨_, Op.load 27 (.tmp 6), _, _, _, _⟩ : Oper) :: _) _ _); refine has_load HK.out.1 (by rfl) (.tmp 6) rfl rfl ?_) | fail)
      refine (part_any HK.out.1.2 (i := (k : Int)) ⟨by omega, by omega⟩).mono ?_
      rintro e w5 ⟨rfl, hb5⟩
      rw [HV.out.1, HV.out.2]
      have HU := Lib.hid (show Has w5.drew A P m ∧ Below w.heap.size w w5.drew from ⟨(HK.out.1.below hb5).below (w' := w5.drew) (Below.refl _ _).drew, (HK.out.2.trans (hb5.mono HK.out.2.size)).drew⟩)
      clear hb5 HK k2
      go_wp2_with fail
      refine wp_region_held_drew (S := fun w' => w'.rangeAt A 0 P.toList) (by kernel_rfl) (has_rangeB HU.out.1) (fun hHeld => ?_)
      generalize w5.drew = v0 at *
      refine wpAnyH_take (i := 0) (v := .int .i64 (f : Int)) rfl (by kernel_rfl) (by kernel_rfl) (by kernel_rfl) (fun _ _ _ h => h) (Or.inl ⟨by rfl, (by intro w hSw; (try dsimp only at hSw); go_simp)⟩) (by assumption) ?_
      try simp only [Act.put, List.getElem_toArray, List.getElem_cons_zero, List.getElem_cons_succ, List.setIfInBounds_toArray, List.set_cons_zero, List.set_cons_succ]
      refine wpAnyH_take (i := 1) (v := .int .i64 (f : Int)) rfl (by kernel_rfl) (by kernel_rfl) (by kernel_rfl) (fun _ _ _ h => h) (Or.inl ⟨by rfl, (by intro w hSw; (try dsimp only at hSw); go_simp)⟩) (by assumption) ?_
      try simp only [Act.put, List.getElem_toArray, List.getElem_cons_zero, List.getElem_cons_succ, List.setIfInBounds_toArray, List.set_cons_zero, List.set_cons_succ]
      refine wpAnyH_take (i := 2) (v := .bool false) rfl (by kernel_rfl) (by kernel_rfl) (by kernel_rfl) (fun _ _ _ h => h) (Or.inl ⟨by rfl, (by intro w hSw; (try dsimp only at hSw); go_simp)⟩) (by assumption) ?_
      try simp only [Act.put, List.getElem_toArray, List.getElem_cons_zero, List.getElem_cons_succ, List.setIfInBounds_toArray, List.set_cons_zero, List.set_cons_succ]
      refine wpAnyH_take (i := 3) (v := .bool false) rfl (by kernel_rfl) (by kernel_rfl) (by kernel_rfl) (fun _ _ _ h => h) (Or.inl ⟨by rfl, (by intro w hSw; (try dsimp only at hSw); go_simp)⟩) (by assumption) ?_
      try simp only [Act.put, List.getElem_toArray, List.getElem_cons_zero, List.getElem_cons_succ, List.setIfInBounds_toArray, List.set_cons_zero, List.set_cons_succ]
      refine wpAnyH_take (i := 4) (v := .int .i64 (t : Int)) rfl (by kernel_rfl) (by kernel_rfl) (by kernel_rfl) (fun _ _ _ h => h) (Or.inl ⟨by rfl, (by intro w hSw; (try dsimp only at hSw); go_simp)⟩) (by assumption) ?_
      try simp only [Act.put, List.getElem_toArray, List.getElem_cons_zero, List.getElem_cons_succ, List.setIfInBounds_toArray, List.set_cons_zero, List.set_cons_succ]
      refine wpAnyH_take (i := 5) (v := .int .i64 (f : Int)) rfl (by kernel_rfl) (by kernel_rfl) (by kernel_rfl) (fun _ _ _ h => h) (Or.inl ⟨by rfl, (by intro w hSw; (try dsimp only at hSw); go_simp)⟩) (by assumption) ?_
      try simp only [Act.put, List.getElem_toArray, List.getElem_cons_zero, List.getElem_cons_succ, List.setIfInBounds_toArray, List.set_cons_zero, List.set_cons_succ]
      refine wpAnyH_take (i := 6) (v := .bool false) rfl (by kernel_rfl) (by kernel_rfl) (by kernel_rfl) (fun _ _ _ h => h) (Or.inl ⟨by rfl, (by intro w hSw; (try dsimp only at hSw); go_simp)⟩) (by assumption) ?_
      try simp only [Act.put, List.getElem_toArray, List.getElem_cons_zero, List.getElem_cons_succ, List.setIfInBounds_toArray, List.set_cons_zero, List.set_cons_succ]
      refine wpAnyH_take (i := 7) (v := .bool false) rfl (by kernel_rfl) (by kernel_rfl) (by kernel_rfl) (fun _ _ _ h => h) (Or.inl ⟨by rfl, (by intro w hSw; (try dsimp only at hSw); go_simp)⟩) (by assumption) ?_
      try simp only [Act.put, List.getElem_toArray, List.getElem_cons_zero, List.getElem_cons_succ, List.setIfInBounds_toArray, List.set_cons_zero, List.set_cons_succ]
      refine wpAnyH_take (i := 8) (v := .bool false) rfl (by kernel_rfl) (by kernel_rfl) (by kernel_rfl) (fun _ _ _ h => h) (Or.inl ⟨by rfl, (by intro w hSw; (try dsimp only at hSw); go_simp)⟩) (by assumption) ?_
      try simp only [Act.put, List.getElem_toArray, List.getElem_cons_zero, List.getElem_cons_succ, List.setIfInBounds_toArray, List.set_cons_zero, List.set_cons_succ]
      refine wpAnyH_take (i := 9) (v := .int .i64 (t : Int)) rfl (by kernel_rfl) (by kernel_rfl) (by kernel_rfl) (fun _ _ _ h => h) (Or.inl ⟨by rfl, (by intro w hSw; (try dsimp only at hSw); go_simp)⟩) (by assumption) ?_
      try simp only [Act.put, List.getElem_toArray, List.getElem_cons_zero, List.getElem_cons_succ, List.setIfInBounds_toArray, List.set_cons_zero, List.set_cons_succ]
      refine wpAnyH_take (i := 10) (v := .slice a0 n0 c0) rfl (by kernel_rfl) (by kernel_rfl) (by kernel_rfl) (fun _ _ _ h => h) (Or.inl ⟨by rfl, (by intro w hSw; (try dsimp only at hSw); go_simp)⟩) (by assumption) ?_
      try simp only [Act.put, List.getElem_toArray, List.getElem_cons_zero, List.getElem_cons_succ, List.setIfInBounds_toArray, List.set_cons_zero, List.set_cons_succ]
      refine wpAnyH_take (i := 11) (v := .int .i64 (n0 : Int)) rfl (by kernel_rfl) (by kernel_rfl) (by kernel_rfl) (fun _ _ _ h => h) (Or.inl ⟨by rfl, (by intro w hSw; (try dsimp only at hSw); go_simp)⟩) (by assumption) ?_
      try simp only [Act.put, List.getElem_toArray, List.getElem_cons_zero, List.getElem_cons_succ, List.setIfInBounds_toArray, List.set_cons_zero, List.set_cons_succ]
      refine wpAnyH_take (i := 12) (v := .bool false) rfl (by kernel_rfl) (by kernel_rfl) (by kernel_rfl) (fun _ _ _ h => h) (Or.inl ⟨by rfl, (by intro w hSw; (try dsimp only at hSw); go_simp)⟩) (by assumption) ?_
      try simp only [Act.put, List.getElem_toArray, List.getElem_cons_zero, List.getElem_cons_succ, List.setIfInBounds_toArray, List.set_cons_zero, List.set_cons_succ]
      refine wpAnyH_take (i := 13) (v := .bool false) rfl (by kernel_rfl) (by kernel_rfl) (by kernel_rfl) (fun _ _ _ h => h) (Or.inl ⟨by rfl, (by intro w hSw; (try dsimp only at hSw); go_simp)⟩) (by assumption) ?_
      try simp only [Act.put, List.getElem_toArray, List.getElem_cons_zero, List.getElem_cons_succ, List.setIfInBounds_toArray, List.set_cons_zero, List.set_cons_succ]
      refine wpAnyH_take (i := 14) (v := .bool false) rfl (by kernel_rfl) (by kernel_rfl) (by kernel_rfl) (fun _ _ _ h => h) (Or.inl ⟨by rfl, (by intro w hSw; (try dsimp only at hSw); go_simp)⟩) (by assumption) ?_
      try simp only [Act.put, List.getElem_toArray, List.getElem_cons_zero, List.getElem_cons_succ, List.setIfInBounds_toArray, List.set_cons_zero, List.set_cons_succ]
      refine wpAnyH_take (i := 15) (v := .int .i64 (t : Int)) rfl (by kernel_rfl) (by kernel_rfl) (by kernel_rfl) (fun _ _ _ h => h) (Or.inl ⟨by rfl, (by intro w hSw; (try dsimp only at hSw); go_simp)⟩) (by assumption) ?_
      try simp only [Act.put, List.getElem_toArray, List.getElem_cons_zero, List.getElem_cons_succ, List.setIfInBounds_toArray, List.set_cons_zero, List.set_cons_succ]
      refine wpAnyH_take (i := 16) (v := .int .i64 (f : Int)) rfl (by kernel_rfl) (by kernel_rfl) (by kernel_rfl) (fun _ _ _ h => h) (Or.inl ⟨by rfl, (by intro w hSw; (try dsimp only at hSw); go_simp)⟩) (by assumption) ?_
      try simp only [Act.put, List.getElem_toArray, List.getElem_cons_zero, List.getElem_cons_succ, List.setIfInBounds_toArray, List.set_cons_zero, List.set_cons_succ]
      refine wpAnyH_take (i := 17) (v := .int .i64 (g : Int)) rfl (by kernel_rfl) (by kernel_rfl) (by kernel_rfl) (fun _ _ _ h => h) (Or.inl ⟨by rfl, (by intro w hSw; (try dsimp only at hSw); go_simp)⟩) (by assumption) ?_
      try simp only [Act.put, List.getElem_toArray, List.getElem_cons_zero, List.getElem_cons_succ, List.setIfInBounds_toArray, List.set_cons_zero, List.set_cons_succ]
      refine wpAnyH_take (i := 18) (v := .int .i64 (k0 : Int)) rfl (by kernel_rfl) (by kernel_rfl) (by kernel_rfl) (fun _ _ _ h => h) (Or.inl ⟨by rfl, (by intro w hSw; (try dsimp only at hSw); go_simp)⟩) (by assumption) ?_
      try simp only [Act.put, List.getElem_toArray, List.getElem_cons_zero, List.getElem_cons_succ, List.setIfInBounds_toArray, List.set_cons_zero, List.set_cons_succ]
      refine wpAnyH_take (i := 19) (v := .bool false) rfl (by kernel_rfl) (by kernel_rfl) (by kernel_rfl) (fun _ _ _ h => h) (Or.inl ⟨by rfl, (by intro w hSw; (try dsimp only at hSw); go_simp)⟩) (by assumption) ?_
      try simp only [Act.put, List.getElem_toArray, List.getElem_cons_zero, List.getElem_cons_succ, List.setIfInBounds_toArray, List.set_cons_zero, List.set_cons_succ]
      refine wpAnyH_take (i := 20) (v := .bool false) rfl (by kernel_rfl) (by kernel_rfl) (by kernel_rfl) (fun _ _ _ h => h) (Or.inl ⟨by rfl, (by intro w hSw; (try dsimp only at hSw); go_simp)⟩) (by assumption) ?_
      try simp only [Act.put, List.getElem_toArray, List.getElem_cons_zero, List.getElem_cons_succ, List.setIfInBounds_toArray, List.set_cons_zero, List.set_cons_succ]
      refine wpAnyH_take (i := 21) (v := .bool false) rfl (by kernel_rfl) (by kernel_rfl) (by kernel_rfl) (fun _ _ _ h => h) (Or.inl ⟨by rfl, (by intro w hSw; (try dsimp only at hSw); go_simp)⟩) (by assumption) ?_
      try simp only [Act.put, List.getElem_toArray, List.getElem_cons_zero, List.getElem_cons_succ, List.setIfInBounds_toArray, List.set_cons_zero, List.set_cons_succ]
      refine wpAnyH_take (i := 22) (v := .agg P.toList.toArray) rfl (by kernel_rfl) (by kernel_rfl) (by kernel_rfl) (fun _ _ _ h => h) (yieldsIf_load_mid (by rfl) _ _ rfl _ _ rfl _ _ (fun w hSw => hSw) hMu rfl hl) (by assumption) ?_
      try simp only [Act.put, List.getElem_toArray, List.getElem_cons_zero, List.getElem_cons_succ, List.setIfInBounds_toArray, List.set_cons_zero, List.set_cons_succ]
      refine wpAnyH_take (i := 23) (v := .int .i64 (k : Int)) rfl (by kernel_rfl) (by kernel_rfl) (by kernel_rfl) (fun _ _ _ h => h) (Or.inl ⟨by rfl, (by intro w hSw; (try dsimp only at hSw); go_simp)⟩) (by assumption) ?_
      try simp only [Act.put, List.getElem_toArray, List.getElem_cons_zero, List.getElem_cons_succ, List.setIfInBounds_toArray, List.set_cons_zero, List.set_cons_succ]
      refine wpAnyH_take (i := 24) (v := .slice a0 n0 c0) rfl (by kernel_rfl) (by kernel_rfl) (by kernel_rfl) (fun _ _ _ h => h) (Or.inl ⟨by rfl, (by intro w hSw; (try dsimp only at hSw); go_simp)⟩) (by assumption) ?_
      try simp only [Act.put, List.getElem_toArray, List.getElem_cons_zero, List.getElem_cons_succ, List.setIfInBounds_toArray, List.set_cons_zero, List.set_cons_succ]
      refine wpAnyH_take (i := 25) (v := .int .i64 (f : Int)) rfl (by kernel_rfl) (by kernel_rfl) (by kernel_rfl) (fun _ _ _ h => h) (Or.inl ⟨by rfl, (by intro w hSw; (try dsimp only at hSw); go_simp)⟩) (by assumption) ?_
      try simp only [Act.put, List.getElem_toArray, List.getElem_cons_zero, List.getElem_cons_succ, List.setIfInBounds_toArray, List.set_cons_zero, List.set_cons_succ]
      refine wpAnyH_take (i := 26) (v := .int .i64 (t : Int)) rfl (by kernel_rfl) (by kernel_rfl) (by kernel_rfl) (fun _ _ _ h => h) (Or.inl ⟨by rfl, (by intro w hSw; (try dsimp only at hSw); go_simp)⟩) (by assumption) ?_
      try simp only [Act.put, List.getElem_toArray, List.getElem_cons_zero, List.getElem_cons_succ, List.setIfInBounds_toArray, List.set_cons_zero, List.set_cons_succ]
      refine wpAnyH_take (i := 27) (v := .slice AS g (c0 - f)) rfl (by kernel_rfl) (by kernel_rfl) (by kernel_rfl) (fun _ _ _ h => h) (Or.inl ⟨by rfl, (by intro w hSw; (try dsimp only at hSw); go_simp)⟩) (by assumption) ?_
      try simp only [Act.put, List.getElem_toArray, List.getElem_cons_zero, List.getElem_cons_succ, List.setIfInBounds_toArray, List.set_cons_zero, List.set_cons_succ]
      refine wpAnyH_ready (rs := [28]) (by kernel_rfl) (by simp) (AllReadyH.cons rfl (fun K hK => ?_) AllReadyH.nil)
      try simp only [List.getElem_toArray, List.getElem_cons_zero, List.getElem_cons_succ]
      go_simp
      go_at_call 25
      try simp only [Array.toArray_toList]
      refine (verify_any HU.out.1.2 (i := (k : Int)) ⟨by omega, by omega⟩ (HTA.out.below HU.out.2 (fun _ _ h => h)) (by omega) (HR.out.below HU.out.2 HR.out.two)).mono ?_
      rintro e v1 ⟨rfl, hb⟩
      rw [HVM.out k hlt]
      have HU1 := Lib.hid (And.intro (HU.out.1.below hb) (HU.out.2.trans (hb.mono HU.out.2.size)))
      clear hb HU
      go_wp2_with fail
      refine hK.out _ _ (has_rangeB HU1.out.1) (fun hHeld => ?_)
      clear hK K
      try simp only [Act.put, List.getElem_toArray, List.getElem_cons_zero, List.getElem_cons_succ, List.setIfInBounds_toArray, List.set_cons_zero, List.set_cons_succ]
      refine wpAnyH_take (i := 29) (v := .bool false) rfl (by kernel_rfl) (by kernel_rfl) (by kernel_rfl) (fun _ _ _ h => h) (Or.inl ⟨by rfl, (by intro w hSw; (try dsimp only at hSw); go_simp)⟩) (by assumption) ?_
      try simp only [Act.put, List.getElem_toArray, List.getElem_cons_zero, List.getElem_cons_succ, List.setIfInBounds_toArray, List.set_cons_zero, List.set_cons_succ]
      refine wpAnyH_take (i := 30) (v := .bool false) rfl (by kernel_rfl) (by kernel_rfl) (by kernel_rfl) (fun _ _ _ h => h) (Or.inl ⟨by rfl, (by intro w hSw; (try dsimp only at hSw); go_simp)⟩) (by assumption) ?_
      try simp only [Act.put, List.getElem_toArray, List.getElem_cons_zero, List.getElem_cons_succ, List.setIfInBounds_toArray, List.set_cons_zero, List.set_cons_succ]
      refine wpAnyH_done (by kernel_rfl) ?_ _
      go_wp2
      exact ⟨⟨k + 1, t, by omega, rfl, by go_num, HTE, HU1⟩, by simp [intOf]; omega⟩
    · obtain rfl : k = n3 := by omega
      have hfn : f = n0 := by rw [HF.out]; exact HEND.out
      subst hfn
      clear HF
      go_wp2_with (first | ((with_reducible show wpList _ _ _ ((⟨_, Op.load 27 (.tmp 6), _, _, _, _⟩ : Oper) :: _) _ _); refine has_load HK.out.1 (by rfl) (.tmp 6) rfl rfl ?_) | fail)
      refine (encode_any HK.out.1.2).mono ?_
      rintro e w7 ⟨hd, hb7⟩
      rcases hd with ⟨hbad, _⟩ | ⟨_, aB, nB, cB, rfl, htB⟩
      · exact absurd hbad HNB.out
      have HP7 := Lib.hid (HK.out.1.below hb7)
      have HB7 := Lib.hid (HK.out.2.trans (hb7.mono HK.out.2.size))
      have HTB := Lib.hid htB
      have hnB : nB ≤ 10000 := by rw [← htB.1]; exact HBLN.out
      clear hb7 htB HK k2
      go_wp2_with fail
      refine (decode_any HTB.out (by omega)).mono ?_
      rintro e w8 ⟨hd, hb8⟩
      obtain ⟨v9, rfl, hmv9⟩ : ∃ v, e = .returned (.tuple #[v, .int .i64 0]) ∧ Mv w8 (w7.heap.size ≤ ·) v m := by
        rcases hd with ⟨v9, m', hdec, rfl, h⟩ | ⟨hdec, _⟩
        · rw [HDEC.out] at hdec; injection hdec with hdec; subst hdec; exact ⟨v9, rfl, h⟩
        · rw [HDEC.out] at hdec; cases hdec
      obtain ⟨P9, rfl, hP9s, hP9a⟩ := mv_agg hmv9
      have HP8 := HP7.out.below hb8
      have HB8 := HB7.out.trans (hb8.mono HB7.out.size)
      have HP9 := Lib.hid (HP8.below (put_below (T := 27) (z := zm) (N := P9) (Below.refl w8.heap.size w8) (Nat.le_refl _)))
      have HQ9 := Lib.hid (has_put hmv9 zm)
      have HB9 := Lib.hid (show Below w.heap.size w ((w8.alloc (.cells zm 27)).setRow w8.heap.size P9) from put_below HB8 HB8.size)
      clear hd hmv9 hb8 HP7 HB7 HP8 HB8 HTB
      go_wp2_with (first | ((with_reducible show wpList _ _ _ ((⟨_, Op.store 27 _ _, _, _, _, _⟩ : Oper) :: _) _ _); rw [zeroM, show (mcs 0 0 (.slice none 0 0) (zs 32)).toArray = zm from rfl]; refine wpList_store_row rfl _ (.tmp 14) (.tmp 94) rfl w8.heap.size P9 rfl rfl 27 _ (Whole.new w8 _ _) (by rw [hP9s]; exact info35) (by rw [hP9s]; try rfl) hP9a ?_) | ((with_reducible show wpList _ _ _ ((⟨_, Op.load 27 (.tmp 6), _, _, _, _⟩ : Oper) :: _) _ _); refine has_load HP9.out (by rfl) (.tmp 6) rfl rfl ?_) | ((with_reducible show wpList _ _ _ ((⟨_, Op.load 27 (.tmp 14), _, _, _, _⟩ : Oper) :: _) _ _); refine has_load HQ9.out (by rfl) (.tmp 14) rfl rfl ?_))
      generalize (w8.alloc (.cells zm 27)).setRow w8.heap.size P9 = w9 at *
      generalize w8.heap.size = Q at *
      refine (same_eq HP9.out.2 HQ9.out.2 (by have := HDS.out; omega)).mono ?_
      rintro e w10 ⟨rfl, hb10⟩
      have HP10 := Lib.hid (HP9.out.below hb10)
      have HB10 := Lib.hid (HB9.out.trans (hb10.mono HB9.out.size))
      clear hb10 HP9 HB9 HQ9
      go_wp2_with (first | ((with_reducible show wpList _ _ _ ((⟨_, Op.load 27 (.tmp 6), _, _, _, _⟩ : Oper) :: _) _ _); refine has_load HP10.out (by rfl) (.tmp 6) rfl rfl ?_) | fail)
      refine (whole_any HP10.out.2 (H0.out.below HB10.out (fun _ _ h => h)) (by omega) (HR.out.below HB10.out HR.out.two)).mono ?_
      rintro e w11 ⟨rfl, hb11⟩
      rw [HWH.out]
      have HP11 := Lib.hid (HP10.out.below hb11)
      have HB11 := Lib.hid (HB10.out.trans (hb11.mono HB10.out.size))
      clear hb11 HP10 HB10
      go_wp2_with (first | ((with_reducible show wpList _ _ _ ((⟨_, Op.load 27 (.tmp 6), _, _, _, _⟩ : Oper) :: _) _ _); refine has_load HP11.out (by rfl) (.tmp 6) rfl rfl ?_) | fail)
      refine (check_any HP11.out.2).mono ?_
      rintro e w12 ⟨rfl, hb12⟩
      rw [HCK.out]
      have HB12 := Lib.hid (HB11.out.trans (hb12.mono HB11.out.size))
      clear hb12
      go_wp2
      go_ret
      exact ⟨rfl, HB12.out⟩
end Go.Proofs.YtdjibhpjdhpcgaaDoor
