/-
  The walk of ManifestBuilds.
-/
import Derived.Test.YtdjibhpjdhpcgaaDoorZq
set_option maxRecDepth 20000
namespace Go.Proofs.YtdjibhpjdhpcgaaDoor
set_option linter.unusedSimpArgs false
open Go.RowKit
theorem Has.range {w : World} {A : Nat} {P : Array Value} {m : Mf.Man} (h : Has w A P m) : w.rangeAt A 0 P.toList := fun j v hv => by
  rw [h.1.cell, Nat.zero_add]
  simpa using hv
theorem Has.len {w : World} {A : Nat} {P : Array Value} {m : Mf.Man} (h : Has w A P m) : (Tryd.prog.info? 27).map (·.size) = some P.toList.length := by
  obtain ⟨P', e, hs, _⟩ := mv_agg h.2
  injection e with e
  subst e
  rw [Array.length_toList, hs]
  exact info35
/-- What Encode answers, whether or not the manifest may be. -/
def etxt (m : Mf.Man) : List Int := if m.bad then [] else Mf.body m
def eerr (m : Mf.Man) : Int := if m.bad then 50 else 0
theorem encd_one {w w' : World} {m : Mf.Man} {e : Ending} (h : Encd w m e w') : (∃ a n c, e = .returned (.tuple #[.slice a n c, .int .i64 (eerr m)]) ∧ Txt w' (fun b => b < w'.heap.size) a n c (etxt m)) ∧ Below w.heap.size w w' := by
  obtain ⟨h1, h2⟩ := h
  refine ⟨?_, h2⟩
  rcases h1 with ⟨hb, rfl⟩ | ⟨hb, a, n, c, rfl, ht⟩
  · refine ⟨none, 0, 0, by unfold eerr; rw [if_pos hb], ?_⟩
    unfold etxt; rw [if_pos hb]; exact Txt.nil _ _ _ _
  · refine ⟨a, n, c, by unfold eerr; rw [if_neg hb], ?_⟩
    unfold etxt; rw [if_neg hb]; exact ht.old
/-- Two manifests and two texts, that stay. -/
structure Bun (w : World) (A A2 : Nat) (P P2 : Array Value) (m : Mf.Man) (a1 : Option Addr) (n1 c1 : Nat) (a2 : Option Addr) (n2 c2 : Nat) (T : List Int) (v : World) : Prop where
  a : Has v A P m
  q : Has v A2 P2 m
  t1 : Txt v (fun b => b < v.heap.size) a1 n1 c1 T
  t2 : Txt v (fun b => b < v.heap.size) a2 n2 c2 T
  b : Below w.heap.size w v
section
variable {w v v' : World} {A A2 : Nat} {P P2 : Array Value} {m : Mf.Man} {a1 a2 : Option Addr} {n1 c1 n2 c2 : Nat} {T : List Int}
theorem Bun.below (h : Bun w A A2 P P2 m a1 n1 c1 a2 n2 c2 T v) (hb : Below v.heap.size v v') : Bun w A A2 P P2 m a1 n1 c1 a2 n2 c2 T v' :=
  ⟨h.a.below hb, h.q.below hb, (h.t1.below hb (fun _ _ h => h)).old, (h.t2.below hb (fun _ _ h => h)).old, h.b.trans (hb.mono h.b.size)⟩
def Sld (A A2 : Nat) (P P2 : Array Value) (a1 : Option Addr) (n1 c1 : Nat) (a2 : Option Addr) (n2 c2 : Nat) (s : ByteArray) (w' : World) : Prop :=
  (convert 23 9 (.slice a1 n1 c1)).run Tryd.prog w' = .ok (.string s) w' ∧ (convert 23 9 (.slice a2 n2 c2)).run Tryd.prog w' = .ok (.string s) w' ∧ w'.rangeAt A 0 P.toList ∧ w'.rangeAt A2 0 P2.toList
theorem Bun.sld (h : Bun w A A2 P P2 m a1 n1 c1 a2 n2 c2 T v) {s : ByteArray} (hs : strOfNums T = s) : Sld A A2 P P2 a1 n1 c1 a2 n2 c2 s v := by
  subst hs
  exact ⟨Co.convert_txt h.t1, Co.convert_txt h.t2, h.a.range, h.q.range⟩
end
set_option maxHeartbeats 8000000 in
theorem builds_walk (a0 : Option Addr) (n0 c0 : Nat) (l0 : List Int) (ch : Int) (w : World) (hR : Roots w) (h0 : Txt w (· < w.heap.size) a0 n0 c0 l0) (hch : -9223372036854775808 ≤ ch ∧ ch ≤ 9223372036854775807) :
    Calls Tryd.prog 4 #[.slice a0 n0 c0, .int .i64 ch] w fun e w' => e = .returned (.bool true) ∧ Below w.heap.size w w' := by
  have HR := Lib.hid hR
  have H0 := Lib.hid h0
  have HCH := Lib.hid hch
  clear hR h0 hch
  by_cases hbig : 2000 < n0
  · have d0 : decide ((2000 : Int) < (n0 : Int)) = true := decide_eq_true (by omega)
    go_enter Tryd.func4, Tryd.ntmps4
    go_wp2_with (go_at_call 12; refine (awake_any _ HR.out).mono ?_; rintro e w1 ⟨rfl, hb⟩; have HB1 := Lib.hid hb; clear hb)
    go_ret
    exact ⟨rfl, HB1.out⟩
  have d0 : decide ((2000 : Int) < (n0 : Int)) = false := decide_eq_false (by omega)
  obtain ⟨m, hm⟩ : ∃ m, Mf.bld l0 ch = m := ⟨_, rfl⟩
  obtain ⟨er, her⟩ : ∃ er, Mf.berr l0 ch = er := ⟨_, rfl⟩
  have HMD : Hid (m.ds.length ≤ 64) := Lib.hid (by
    rw [← hm]
    by_cases h : Mf.cnt l0.length ch = 0
    · rw [(bld_zero h).1]; show 0 ≤ 64; omega
    · rw [(bld_made h).1]; show (Mf.digsTo _ _ (Mf.cnt l0.length ch)).length ≤ 64; rw [Mf.digsTo_len]; exact Mf.cnt_le _ _)
  have HM := Lib.hid (And.intro hm her)
  obtain ⟨s, hs⟩ : ∃ s, strOfNums (etxt m) = s := ⟨_, rfl⟩
  have HSS := Lib.hid hs
  clear hm her hs
  go_enter Tryd.func4, Tryd.ntmps4
  go_wp2_with (go_at_call 12; refine (awake_any _ HR.out).mono ?_; rintro e w1 ⟨rfl, hb⟩; have HB1 := Lib.hid hb; clear hb)
  refine (build_any (H0.out.below HB1.out (fun _ _ h => h)) HCH.out (by omega) (HR.out.below HB1.out HR.out.two)).mono ?_
  rintro e w2 ⟨⟨v, rfl, hmv⟩, hb2⟩
  rw [HM.out.1] at hmv
  rw [HM.out.2]
  obtain ⟨P, rfl, hPs, hPa⟩ := mv_agg hmv
  have HB2 := HB1.out.trans (hb2.mono HB1.out.size)
  have HP := Lib.hid (has_put hmv zm)
  have HB3 := Lib.hid (show Below w.heap.size w ((w2.alloc (.cells zm 27)).setRow w2.heap.size P) from put_below HB2 HB2.size)
  clear hb2 hmv HB2 HB1
  go_wp2_with (first | ((with_reducible show wpList _ _ _ ((⟨_, Op.store 27 _ _, _, _, _, _⟩ : Oper) :: _) _ _); rw [zeroM, show (mcs 0 0 (.slice none 0 0) (zs 32)).toArray = zm from rfl]; refine wpList_store_row rfl _ (.tmp 6) (.tmp 24) rfl w2.heap.size P rfl rfl 27 _ (Whole.new w2 _ _) (by rw [hPs]; exact info35) (by rw [hPs]; try rfl) hPa ?_) | fail)
  generalize (w2.alloc (.cells zm 27)).setRow w2.heap.size P = w3 at *
  generalize w2.heap.size = A at *
  refine (rbuild_any (H0.out.below HB3.out (fun _ _ h => h)) HCH.out (by omega)).mono ?_
  rintro e w4 ⟨⟨v, rfl, hmv⟩, hb4⟩
  rw [HM.out.1] at hmv
  rw [HM.out.2]
  obtain ⟨P2, rfl, hP2s, hP2a⟩ := mv_agg hmv
  have HB4 := HB3.out.trans (hb4.mono HB3.out.size)
  have HP4 := HP.out.below hb4
  have HP5 := Lib.hid (HP4.below (put_below (T := 27) (z := zm) (N := P2) (Below.refl w4.heap.size w4) (Nat.le_refl _)))
  have HQ5 := Lib.hid (has_put hmv zm)
  have HB5 := Lib.hid (show Below w.heap.size w ((w4.alloc (.cells zm 27)).setRow w4.heap.size P2) from put_below HB4 HB4.size)
  clear hb4 hmv HB4 HP4 HP HB3
  go_wp2_with (first | ((with_reducible show wpList _ _ _ ((⟨_, Op.store 27 _ _, _, _, _, _⟩ : Oper) :: _) _ _); rw [zeroM, show (mcs 0 0 (.slice none 0 0) (zs 32)).toArray = zm from rfl]; refine wpList_store_row rfl _ (.tmp 8) (.tmp 30) rfl w4.heap.size P2 rfl rfl 27 _ (Whole.new w4 _ _) (by rw [hP2s]; exact info35) (by rw [hP2s]; try rfl) hP2a ?_) | ((with_reducible show wpList _ _ _ ((⟨_, Op.load 27 (.tmp 6), _, _, _, _⟩ : Oper) :: _) _ _); refine has_load HP5.out (by rfl) (.tmp 6) rfl rfl ?_) | ((with_reducible show wpList _ _ _ ((⟨_, Op.load 27 (.tmp 8), _, _, _, _⟩ : Oper) :: _) _ _); refine has_load HQ5.out (by rfl) (.tmp 8) rfl rfl ?_))
  generalize (w4.alloc (.cells zm 27)).setRow w4.heap.size P2 = w5 at *
  generalize w4.heap.size = A2 at *
  refine (same_eq HP5.out.2 HQ5.out.2 (by have := HMD.out; omega)).mono ?_
  rintro e w6 ⟨rfl, hb6⟩
  have HP6 := Lib.hid (HP5.out.below hb6)
  have HQ6 := Lib.hid (HQ5.out.below hb6)
  have HB6 := Lib.hid (HB5.out.trans (hb6.mono HB5.out.size))
  clear hb6 HP5 HQ5 HB5
  go_wp2_with (first | ((with_reducible show wpList _ _ _ ((⟨_, Op.load 27 (.tmp 6), _, _, _, _⟩ : Oper) :: _) _ _); refine has_load HP6.out (by rfl) (.tmp 6) rfl rfl ?_) | fail)
  refine (encode_any HP6.out.2).mono ?_
  intro e w7 hd
  obtain ⟨⟨aB, nB, cB, rfl, ht7⟩, hb7⟩ := encd_one hd
  have HP7 := Lib.hid (HP6.out.below hb7)
  have HQ7 := Lib.hid (HQ6.out.below hb7)
  have HB7 := Lib.hid (HB6.out.trans (hb7.mono HB6.out.size))
  have HT7 := Lib.hid ht7
  clear hb7 HP6 HQ6 HB6 ht7 hd
  go_wp2_with (first | ((with_reducible show wpList _ _ _ ((⟨_, Op.load 27 (.tmp 8), _, _, _, _⟩ : Oper) :: _) _ _); refine has_load HQ7.out (by rfl) (.tmp 8) rfl rfl ?_) | fail)
  refine (rencode_any HQ7.out.2).mono ?_
  intro e w8 hd
  obtain ⟨⟨aC, nC, cC, rfl, ht8⟩, hb8⟩ := encd_one hd
  have HBU : Bun w A A2 P P2 m aB nB cB aC nC cC (etxt m) w8 := ⟨HP7.out.below hb8, HQ7.out.below hb8, (HT7.out.below hb8 (fun _ _ h => h)).old, ht8, HB7.out.trans (hb8.mono HB7.out.size)⟩
  have HU := Lib.hid (HBU.below (v' := w8.drew) (Below.refl _ _).drew)
  have hl := HBU.a.len
  have hl2 := HBU.q.len
  have hMu := Tryd.underlying27
  clear hb8 HP7 HQ7 HB7 HT7 ht8 hd HBU
  obtain ⟨em, hem⟩ : ∃ em, eerr m = em := ⟨_, rfl⟩
  rw [hem]
  clear hem
  have hdr := Mf.root m
  have HRD : Hid ((Mf.root m).length = 32) := Lib.hid (tree_ok _ (fun d hd => by
    obtain ⟨_, _, _, _, _, h2, h3, _⟩ := HU.out.a.2
    rcases List.mem_cons.1 hd with rfl | hd
    · exact h3
    · exact h2.2.1 d hd)).1
  have HQE : ∀ w : World, (Op.equalIn 10000 25 (.agg (nums (Mf.root m)).toArray) (.agg (nums (Mf.root m)).toArray)).run Tryd.prog w = .ok true w := fun w => by
    have h := equal32 9999 (fun a b w => run_equalIn_int w 9998 5 .u8 .u8 a b Tryd.underlying5) (Mf.root m) (Mf.root m) HRD.out HRD.out w
    rw [h, decide_eq_true rfl]
  clear hdr
  go_wp2_with fail
  refine wp_region_held_drew (S := Sld A A2 P P2 aB nB cB aC nC cC s) (by kernel_rfl) (HU.out.sld HSS.out) (fun hHeld => ?_)
  generalize w8.drew = v0 at *
  unfold Sld at *
  refine wpAnyH_take (i := 0) (v := .bool true) rfl (by kernel_rfl) (by kernel_rfl) (by kernel_rfl) (fun _ _ _ h => h) (Or.inl ⟨by rfl, (by intro w hSw; (try dsimp only at hSw); go_simp)⟩) (by assumption) ?_
  try simp only [Act.put, List.getElem_toArray, List.getElem_cons_zero, List.getElem_cons_succ, List.setIfInBounds_toArray, List.set_cons_zero, List.set_cons_succ]
  refine wpAnyH_take (i := 1) (v := .bool true) rfl (by kernel_rfl) (by kernel_rfl) (by kernel_rfl) (fun _ _ _ h => h) (Or.inl ⟨by rfl, (by intro w hSw; (try dsimp only at hSw); go_simp)⟩) (by assumption) ?_
  try simp only [Act.put, List.getElem_toArray, List.getElem_cons_zero, List.getElem_cons_succ, List.setIfInBounds_toArray, List.set_cons_zero, List.set_cons_succ]
  refine wpAnyH_take (i := 2) (v := .bool true) rfl (by kernel_rfl) (by kernel_rfl) (by kernel_rfl) (fun _ _ _ h => h) (Or.inl ⟨by rfl, (by intro w hSw; (try dsimp only at hSw); go_simp)⟩) (by assumption) ?_
  try simp only [Act.put, List.getElem_toArray, List.getElem_cons_zero, List.getElem_cons_succ, List.setIfInBounds_toArray, List.set_cons_zero, List.set_cons_succ]
  refine wpAnyH_take (i := 3) (v := .bool true) rfl (by kernel_rfl) (by kernel_rfl) (by kernel_rfl) (fun _ _ _ h => h) (Or.inl ⟨by rfl, (by intro w hSw; (try dsimp only at hSw); go_simp)⟩) (by assumption) ?_
  try simp only [Act.put, List.getElem_toArray, List.getElem_cons_zero, List.getElem_cons_succ, List.setIfInBounds_toArray, List.set_cons_zero, List.set_cons_succ]
  refine wpAnyH_take (i := 4) (v := .bool true) rfl (by kernel_rfl) (by kernel_rfl) (by kernel_rfl) (fun _ _ _ h => h) (Or.inl ⟨by rfl, (by intro w hSw; (try dsimp only at hSw); go_simp)⟩) (by assumption) ?_
  try simp only [Act.put, List.getElem_toArray, List.getElem_cons_zero, List.getElem_cons_succ, List.setIfInBounds_toArray, List.set_cons_zero, List.set_cons_succ]
  refine wpAnyH_take (i := 5) (v := .int .i64 er) rfl (by kernel_rfl) (by kernel_rfl) (by kernel_rfl) (fun _ _ _ h => h) (Or.inl ⟨by rfl, (by intro w hSw; (try dsimp only at hSw); go_simp)⟩) (by assumption) ?_
  try simp only [Act.put, List.getElem_toArray, List.getElem_cons_zero, List.getElem_cons_succ, List.setIfInBounds_toArray, List.set_cons_zero, List.set_cons_succ]
  refine wpAnyH_take (i := 6) (v := .int .i64 er) rfl (by kernel_rfl) (by kernel_rfl) (by kernel_rfl) (fun _ _ _ h => h) (Or.inl ⟨by rfl, (by intro w hSw; (try dsimp only at hSw); go_simp)⟩) (by assumption) ?_
  try simp only [Act.put, List.getElem_toArray, List.getElem_cons_zero, List.getElem_cons_succ, List.setIfInBounds_toArray, List.set_cons_zero, List.set_cons_succ]
  refine wpAnyH_take (i := 7) (v := .bool true) rfl (by kernel_rfl) (by kernel_rfl) (by kernel_rfl) (fun _ _ _ h => h) (Or.inl ⟨by rfl, (by intro w hSw; (try dsimp only at hSw); go_simp)⟩) (by assumption) ?_
  try simp only [Act.put, List.getElem_toArray, List.getElem_cons_zero, List.getElem_cons_succ, List.setIfInBounds_toArray, List.set_cons_zero, List.set_cons_succ]
  refine wpAnyH_take (i := 8) (v := .bool true) rfl (by kernel_rfl) (by kernel_rfl) (by kernel_rfl) (fun _ _ _ h => h) (Or.inl ⟨by rfl, (by intro w hSw; (try dsimp only at hSw); go_simp)⟩) (by assumption) ?_
  try simp only [Act.put, List.getElem_toArray, List.getElem_cons_zero, List.getElem_cons_succ, List.setIfInBounds_toArray, List.set_cons_zero, List.set_cons_succ]
  refine wpAnyH_take (i := 9) (v := .bool true) rfl (by kernel_rfl) (by kernel_rfl) (by kernel_rfl) (fun _ _ _ h => h) (Or.inl ⟨by rfl, (by intro w hSw; (try dsimp only at hSw); go_simp)⟩) (by assumption) ?_
  try simp only [Act.put, List.getElem_toArray, List.getElem_cons_zero, List.getElem_cons_succ, List.setIfInBounds_toArray, List.set_cons_zero, List.set_cons_succ]
  refine wpAnyH_take (i := 10) (v := .slice aB nB cB) rfl (by kernel_rfl) (by kernel_rfl) (by kernel_rfl) (fun _ _ _ h => h) (Or.inl ⟨by rfl, (by intro w hSw; (try dsimp only at hSw); go_simp)⟩) (by assumption) ?_
  try simp only [Act.put, List.getElem_toArray, List.getElem_cons_zero, List.getElem_cons_succ, List.setIfInBounds_toArray, List.set_cons_zero, List.set_cons_succ]
  refine wpAnyH_take (i := 11) (v := .string s) rfl (by kernel_rfl) (by kernel_rfl) (by kernel_rfl) (fun _ _ _ h => h) (Or.inl ⟨by rfl, (by intro w hSw; (try dsimp only at hSw); go_simp)⟩) (by assumption) ?_
  try simp only [Act.put, List.getElem_toArray, List.getElem_cons_zero, List.getElem_cons_succ, List.setIfInBounds_toArray, List.set_cons_zero, List.set_cons_succ]
  refine wpAnyH_take (i := 12) (v := .slice aC nC cC) rfl (by kernel_rfl) (by kernel_rfl) (by kernel_rfl) (fun _ _ _ h => h) (Or.inl ⟨by rfl, (by intro w hSw; (try dsimp only at hSw); go_simp)⟩) (by assumption) ?_
  try simp only [Act.put, List.getElem_toArray, List.getElem_cons_zero, List.getElem_cons_succ, List.setIfInBounds_toArray, List.set_cons_zero, List.set_cons_succ]
  refine wpAnyH_take (i := 13) (v := .string s) rfl (by kernel_rfl) (by kernel_rfl) (by kernel_rfl) (fun _ _ _ h => h) (Or.inl ⟨by rfl, (by intro w hSw; (try dsimp only at hSw); go_simp)⟩) (by assumption) ?_
  try simp only [Act.put, List.getElem_toArray, List.getElem_cons_zero, List.getElem_cons_succ, List.setIfInBounds_toArray, List.set_cons_zero, List.set_cons_succ]
  refine wpAnyH_take (i := 14) (v := .bool true) rfl (by kernel_rfl) (by kernel_rfl) (by kernel_rfl) (fun _ _ _ h => h) (Or.inl ⟨by rfl, (by intro w hSw; (try dsimp only at hSw); go_simp)⟩) (by assumption) ?_
  try simp only [Act.put, List.getElem_toArray, List.getElem_cons_zero, List.getElem_cons_succ, List.setIfInBounds_toArray, List.set_cons_zero, List.set_cons_succ]
  refine wpAnyH_take (i := 15) (v := .bool true) rfl (by kernel_rfl) (by kernel_rfl) (by kernel_rfl) (fun _ _ _ h => h) (Or.inl ⟨by rfl, (by intro w hSw; (try dsimp only at hSw); go_simp)⟩) (by assumption) ?_
  try simp only [Act.put, List.getElem_toArray, List.getElem_cons_zero, List.getElem_cons_succ, List.setIfInBounds_toArray, List.set_cons_zero, List.set_cons_succ]
  refine wpAnyH_take (i := 16) (v := .bool true) rfl (by kernel_rfl) (by kernel_rfl) (by kernel_rfl) (fun _ _ _ h => h) (Or.inl ⟨by rfl, (by intro w hSw; (try dsimp only at hSw); go_simp)⟩) (by assumption) ?_
  try simp only [Act.put, List.getElem_toArray, List.getElem_cons_zero, List.getElem_cons_succ, List.setIfInBounds_toArray, List.set_cons_zero, List.set_cons_succ]
  refine wpAnyH_take (i := 17) (v := .int .i64 em) rfl (by kernel_rfl) (by kernel_rfl) (by kernel_rfl) (fun _ _ _ h => h) (Or.inl ⟨by rfl, (by intro w hSw; (try dsimp only at hSw); go_simp)⟩) (by assumption) ?_
  try simp only [Act.put, List.getElem_toArray, List.getElem_cons_zero, List.getElem_cons_succ, List.setIfInBounds_toArray, List.set_cons_zero, List.set_cons_succ]
  refine wpAnyH_take (i := 18) (v := .int .i64 em) rfl (by kernel_rfl) (by kernel_rfl) (by kernel_rfl) (fun _ _ _ h => h) (Or.inl ⟨by rfl, (by intro w hSw; (try dsimp only at hSw); go_simp)⟩) (by assumption) ?_
  try simp only [Act.put, List.getElem_toArray, List.getElem_cons_zero, List.getElem_cons_succ, List.setIfInBounds_toArray, List.set_cons_zero, List.set_cons_succ]
  refine wpAnyH_take (i := 19) (v := .bool true) rfl (by kernel_rfl) (by kernel_rfl) (by kernel_rfl) (fun _ _ _ h => h) (Or.inl ⟨by rfl, (by intro w hSw; (try dsimp only at hSw); go_simp)⟩) (by assumption) ?_
  try simp only [Act.put, List.getElem_toArray, List.getElem_cons_zero, List.getElem_cons_succ, List.setIfInBounds_toArray, List.set_cons_zero, List.set_cons_succ]
  refine wpAnyH_take (i := 20) (v := .bool true) rfl (by kernel_rfl) (by kernel_rfl) (by kernel_rfl) (fun _ _ _ h => h) (Or.inl ⟨by rfl, (by intro w hSw; (try dsimp only at hSw); go_simp)⟩) (by assumption) ?_
  try simp only [Act.put, List.getElem_toArray, List.getElem_cons_zero, List.getElem_cons_succ, List.setIfInBounds_toArray, List.set_cons_zero, List.set_cons_succ]
  refine wpAnyH_take (i := 21) (v := .bool true) rfl (by kernel_rfl) (by kernel_rfl) (by kernel_rfl) (fun _ _ _ h => h) (Or.inl ⟨by rfl, (by intro w hSw; (try dsimp only at hSw); go_simp)⟩) (by assumption) ?_
  try simp only [Act.put, List.getElem_toArray, List.getElem_cons_zero, List.getElem_cons_succ, List.setIfInBounds_toArray, List.set_cons_zero, List.set_cons_succ]
  refine wpAnyH_take (i := 22) (v := .agg P.toList.toArray) rfl (by kernel_rfl) (by kernel_rfl) (by kernel_rfl) (fun _ _ _ h => h) (yieldsIf_load_mid (by rfl) _ _ rfl _ _ rfl _ _ (fun w hSw => hSw.2.2.1) hMu rfl hl) (by assumption) ?_
  try simp only [Act.put, List.getElem_toArray, List.getElem_cons_zero, List.getElem_cons_succ, List.setIfInBounds_toArray, List.set_cons_zero, List.set_cons_succ]
  refine wpAnyH_take (i := 24) (v := .agg P2.toList.toArray) rfl (by kernel_rfl) (by kernel_rfl) (by kernel_rfl) (fun _ _ _ h => h) (yieldsIf_load_mid (by rfl) _ _ rfl _ _ rfl _ _ (fun w hSw => hSw.2.2.2) hMu rfl hl2) (by assumption) ?_
  try simp only [Act.put, List.getElem_toArray, List.getElem_cons_zero, List.getElem_cons_succ, List.setIfInBounds_toArray, List.set_cons_zero, List.set_cons_succ]
  refine wpAnyH_ready (rs := [23]) (by kernel_rfl) (by simp) (AllReadyH.cons rfl (fun K hK => ?_) AllReadyH.nil)
  try simp only [List.getElem_toArray, List.getElem_cons_zero, List.getElem_cons_succ]
  go_simp
  go_at_call 18
  try simp only [Array.toArray_toList]
  refine (mroot_any HU.out.a.2 (HR.out.below HU.out.b HR.out.two) (by have := HMD.out; omega)).mono ?_
  rintro e v1 ⟨rfl, hb⟩
  have HU1 := Lib.hid (HU.out.below hb)
  clear hb HU
  go_wp2_with fail
  refine hK.out _ _ (HU1.out.sld HSS.out) (fun hHeld => ?_)
  clear hK K
  try simp only [Act.put, List.getElem_toArray, List.getElem_cons_zero, List.getElem_cons_succ, List.setIfInBounds_toArray, List.set_cons_zero, List.set_cons_succ]
  refine wpAnyH_ready (rs := [25]) (by kernel_rfl) (by simp) (AllReadyH.cons rfl (fun K hK => ?_) AllReadyH.nil)
  try simp only [List.getElem_toArray, List.getElem_cons_zero, List.getElem_cons_succ]
  go_simp
  go_at_call 19
  try simp only [Array.toArray_toList]
  refine (rmroot_any HU1.out.q.2 (by have := HMD.out; omega)).mono ?_
  rintro e v2 ⟨rfl, hb⟩
  have HU2 := Lib.hid (HU1.out.below hb)
  clear hb HU1
  go_wp2_with fail
  refine hK.out _ _ (HU2.out.sld HSS.out) (fun hHeld => ?_)
  clear hK K
  try simp only [Act.put, List.getElem_toArray, List.getElem_cons_zero, List.getElem_cons_succ, List.setIfInBounds_toArray, List.set_cons_zero, List.set_cons_succ]
  refine wpAnyH_take (i := 26) (v := .bool true) rfl (by kernel_rfl) (by kernel_rfl) (by kernel_rfl) (fun _ _ _ h => h) (Or.inl ⟨by rfl, (by intro w hSw; (try dsimp only at hSw); go_simp)⟩) (by assumption) ?_
  try simp only [Act.put, List.getElem_toArray, List.getElem_cons_zero, List.getElem_cons_succ, List.setIfInBounds_toArray, List.set_cons_zero, List.set_cons_succ]
  refine wpAnyH_take (i := 27) (v := .bool true) rfl (by kernel_rfl) (by kernel_rfl) (by kernel_rfl) (fun _ _ _ h => h) (Or.inl ⟨by rfl, (by intro w hSw; (try dsimp only at hSw); go_simp)⟩) (by assumption) ?_
  try simp only [Act.put, List.getElem_toArray, List.getElem_cons_zero, List.getElem_cons_succ, List.setIfInBounds_toArray, List.set_cons_zero, List.set_cons_succ]
  refine wpAnyH_ready (rs := [28]) (by kernel_rfl) (by simp) (AllReadyH.cons rfl (fun K hK => ?_) AllReadyH.nil)
  try simp only [List.getElem_toArray, List.getElem_cons_zero, List.getElem_cons_succ]
  go_simp
  refine hK.out _ _ (HU2.out.sld HSS.out) (fun hHeld => ?_)
  clear hK K
  try simp only [Act.put, List.getElem_toArray, List.getElem_cons_zero, List.getElem_cons_succ, List.setIfInBounds_toArray, List.set_cons_zero, List.set_cons_succ]
  refine wpAnyH_done (by kernel_rfl) ?_ _
  have HB := Lib.hid HU2.out.b
  clear HU2 HQE
  go_wp2
  go_ret
  exact ⟨rfl, HB.out⟩
end Go.Proofs.YtdjibhpjdhpcgaaDoor
