/-
  The walk of ManifestTells.
-/
import Derived.Test.YtdjibhpjdhpcgaaDoorOm
set_option maxRecDepth 20000
namespace Go.Proofs.YtdjibhpjdhpcgaaDoor
set_option linter.unusedSimpArgs false
open Go.RowKit
theorem has_range' {w : World} {A : Nat} {P : Array Value} {m : Mf.Man} (h : Has w A P m) : w.rangeAt A 0 P.toList := fun j v hv => by
  rw [h.1.cell, Nat.zero_add]
  simpa using hv
theorem has_len' {w : World} {A : Nat} {P : Array Value} {m : Mf.Man} (h : Has w A P m) : (Tryd.prog.info? 27).map (·.size) = some P.toList.length := by
  obtain ⟨P', e, hs, _⟩ := mv_agg h.2
  injection e with e
  subst e
  rw [Array.length_toList, hs]
  exact info35
theorem has_box' {w : World} {S : Nat → Prop} {P : Array Value} {m : Mf.Man} (h : Mv w S (.agg P) m) : Has (w.alloc (.cells P 27)) w.heap.size P m :=
  ⟨Whole.new _ _ _, (h.old.below (below_alloc w _) (fun _ _ h => h)).old⟩
def etxt' (m : Mf.Man) : List Int := if m.bad then [] else Mf.body m
def eerr' (m : Mf.Man) : Int := if m.bad then 50 else 0
theorem encd_one' {w w' : World} {m : Mf.Man} {e : Ending} (h : Encd w m e w') : (∃ a n c, e = .returned (.tuple #[.slice a n c, .int .i64 (eerr' m)]) ∧ Txt w' (fun b => b < w'.heap.size) a n c (etxt' m)) ∧ Below w.heap.size w w' := by
  obtain ⟨h1, h2⟩ := h
  refine ⟨?_, h2⟩
  rcases h1 with ⟨hb, rfl⟩ | ⟨hb, a, n, c, rfl, ht⟩
  · refine ⟨none, 0, 0, by unfold eerr'; rw [if_pos hb], ?_⟩
    unfold etxt'; rw [if_pos hb]; exact Txt.nil _ _ _ _
  · refine ⟨a, n, c, by unfold eerr'; rw [if_neg hb], ?_⟩
    unfold etxt'; rw [if_neg hb]; exact ht.old
/-- A manifest and two texts, that stay. -/
structure Tun (w : World) (A : Nat) (P : Array Value) (m : Mf.Man) (a1 : Option Addr) (n1 c1 : Nat) (a2 : Option Addr) (n2 c2 : Nat) (T : List Int) (v : World) : Prop where
  a : Has v A P m
  t1 : Txt v (fun b => b < v.heap.size) a1 n1 c1 T
  t2 : Txt v (fun b => b < v.heap.size) a2 n2 c2 T
  b : Below w.heap.size w v
section
variable {w v v' : World} {A : Nat} {P : Array Value} {m : Mf.Man} {a1 a2 : Option Addr} {n1 c1 n2 c2 : Nat} {T : List Int}
theorem Tun.below (h : Tun w A P m a1 n1 c1 a2 n2 c2 T v) (hb : Below v.heap.size v v') : Tun w A P m a1 n1 c1 a2 n2 c2 T v' :=
  ⟨h.a.below hb, (h.t1.below hb (fun _ _ h => h)).old, (h.t2.below hb (fun _ _ h => h)).old, h.b.trans (hb.mono h.b.size)⟩
def Tld (A : Nat) (P : Array Value) (a1 : Option Addr) (n1 c1 : Nat) (a2 : Option Addr) (n2 c2 : Nat) (s : ByteArray) (w' : World) : Prop :=
  (convert 23 9 (.slice a1 n1 c1)).run Tryd.prog w' = .ok (.string s) w' ∧ (convert 23 9 (.slice a2 n2 c2)).run Tryd.prog w' = .ok (.string s) w' ∧ w'.rangeAt A 0 P.toList
theorem Tun.tld (h : Tun w A P m a1 n1 c1 a2 n2 c2 T v) {s : ByteArray} (hs : strOfNums T = s) : Tld A P a1 n1 c1 a2 n2 c2 s v := by
  subst hs
  exact ⟨Co.convert_txt h.t1, Co.convert_txt h.t2, has_range' h.a⟩
end
set_option maxHeartbeats 8000000 in
theorem tells_walk (v : Value) (m : Mf.Man) (i : Int) (w : World) (hR : Roots w) (hv : Mv w (fun b => b < w.heap.size) v m) (hi : -9223372036854775808 ≤ i ∧ i ≤ 9223372036854775807) :
    Calls Tryd.prog 5 #[v, .int .i64 i] w fun e w' => e = .returned (.bool true) ∧ Below w.heap.size w w' := by
  obtain ⟨P, rfl, hPs, hPa⟩ := mv_agg hv
  have HB0 := Lib.hid (has_box' hv)
  have HBA := Lib.hid (below_alloc w (.cells P 27))
  have HR := Lib.hid (hR.below (below_alloc w (.cells P 27)) hR.two)
  have HR0 := Lib.hid hR
  have HI := Lib.hid hi
  have hl := has_len' HB0.out
  have hMu := Tryd.underlying27
  have hszA : w.heap.size ≤ (w.alloc (.cells P 27)).heap.size := by rw [size_alloc]; omega
  have hdg : (∀ d ∈ m.ds, Dig d) ∧ Dig m.wh := by
    obtain ⟨_, _, _, _, _, h2, h3, _⟩ := hv
    exact ⟨h2.2.1, h3⟩
  have HRD : Hid ((Mf.root m).length = 32) := Lib.hid (tree_ok _ (fun d hd => by
    rcases List.mem_cons.1 hd with rfl | hd
    · exact hdg.2
    · exact hdg.1 d hd)).1
  clear hR hv hi hPs hPa hdg
  obtain ⟨f, hf⟩ : ∃ f, decide (m.ds.length ≤ 100) = f := ⟨_, rfl⟩
  have HF := Lib.hid hf
  clear hf
  cases f
  · go_enter Tryd.func5, Tryd.ntmps5
    go_wp2_with (first | (go_at_call 12; refine (awake_any _ HR.out).mono ?_; rintro e w1 ⟨rfl, hb⟩; have HB1 := Lib.hid hb; have HP1 := Lib.hid (HB0.out.below hb); clear hb) | ((with_reducible show wpList _ _ _ ((⟨_, Op.load 27 (.tmp 2), _, _, _, _⟩ : Oper) :: _) _ _); refine has_load HP1.out (by rfl) (.tmp 2) rfl rfl ?_))
    refine (few_any HP1.out.2).mono ?_
    rintro e w2 ⟨rfl, hb2⟩
    rw [HF.out]
    have HB2 := Lib.hid ((HBA.out.trans (HB1.out.mono hszA)).trans (hb2.mono (Nat.le_trans hszA HB1.out.size)))
    clear hb2
    go_wp2
    go_ret
    exact ⟨rfl, HB2.out⟩
  have HL1 : Hid (m.ds.length ≤ 150) := Lib.hid (by have := of_decide_eq_true HF.out; omega)
  obtain ⟨s, hs⟩ : ∃ s, strOfNums (etxt' m) = s := ⟨_, rfl⟩
  have HSS := Lib.hid hs
  obtain ⟨fv, hfv⟩ : ∃ fv, Mf.fr m i = fv := ⟨_, rfl⟩
  obtain ⟨tv, htv⟩ : ∃ tv, Mf.til m i = tv := ⟨_, rfl⟩
  obtain ⟨em, hem⟩ : ∃ em, eerr' m = em := ⟨_, rfl⟩
  obtain ⟨ck, hck⟩ : ∃ ck, Mf.chk m = ck := ⟨_, rfl⟩
  have HX := Lib.hid (And.intro hfv (And.intro htv (And.intro hem hck)))
  clear hs hfv htv hem hck
  go_enter Tryd.func5, Tryd.ntmps5
  go_wp2_with (first | (go_at_call 12; refine (awake_any _ HR.out).mono ?_; rintro e w1 ⟨rfl, hb⟩; have HB1 := Lib.hid hb; have HP1 := Lib.hid (HB0.out.below hb); clear hb) | ((with_reducible show wpList _ _ _ ((⟨_, Op.load 27 (.tmp 2), _, _, _, _⟩ : Oper) :: _) _ _); refine has_load HP1.out (by rfl) (.tmp 2) rfl rfl ?_))
  refine (few_any HP1.out.2).mono ?_
  rintro e w2 ⟨rfl, hb2⟩
  rw [HF.out]
  have HP2 := Lib.hid (HP1.out.below hb2)
  have HB2 := Lib.hid ((HBA.out.trans (HB1.out.mono hszA)).trans (hb2.mono (Nat.le_trans hszA HB1.out.size)))
  clear hb2 HP1 HB1 HB0 HBA HR hszA
  go_wp2_with (first | ((with_reducible show wpList _ _ _ ((⟨_, Op.load 27 (.tmp 2), _, _, _, _⟩ : Oper) :: _) _ _); refine has_load HP2.out (by rfl) (.tmp 2) rfl rfl ?_) | fail)
  refine (part_any HP2.out.2 HI.out).mono ?_
  rintro e w3 ⟨rfl, hb⟩
  rw [HX.out.1, HX.out.2.1]
  have HP3 := Lib.hid (HP2.out.below hb)
  have HB3 := Lib.hid (HB2.out.trans (hb.mono HB2.out.size))
  clear hb HP2 HB2
  go_wp2_with (first | ((with_reducible show wpList _ _ _ ((⟨_, Op.load 27 (.tmp 2), _, _, _, _⟩ : Oper) :: _) _ _); refine has_load HP3.out (by rfl) (.tmp 2) rfl rfl ?_) | fail)
  refine (rpart_any HP3.out.2 HI.out).mono ?_
  rintro e w4 ⟨rfl, hb⟩
  rw [HX.out.1, HX.out.2.1]
  have HP4 := Lib.hid (HP3.out.below hb)
  have HB4 := Lib.hid (HB3.out.trans (hb.mono HB3.out.size))
  clear hb HP3 HB3
  go_wp2_with (first | ((with_reducible show wpList _ _ _ ((⟨_, Op.load 27 (.tmp 2), _, _, _, _⟩ : Oper) :: _) _ _); refine has_load HP4.out (by rfl) (.tmp 2) rfl rfl ?_) | fail)
  refine (encode_any HP4.out.2).mono ?_
  intro e w5 hd
  obtain ⟨⟨aB, nB, cB, rfl, ht5⟩, hb⟩ := encd_one' hd
  rw [HX.out.2.2.1]
  have HP5 := Lib.hid (HP4.out.below hb)
  have HB5 := Lib.hid (HB4.out.trans (hb.mono HB4.out.size))
  have HT5 := Lib.hid ht5
  clear hb HP4 HB4 ht5 hd
  go_wp2_with (first | ((with_reducible show wpList _ _ _ ((⟨_, Op.load 27 (.tmp 2), _, _, _, _⟩ : Oper) :: _) _ _); refine has_load HP5.out (by rfl) (.tmp 2) rfl rfl ?_) | fail)
  refine (rencode_any HP5.out.2).mono ?_
  intro e w6 hd
  obtain ⟨⟨aC, nC, cC, rfl, ht6⟩, hb⟩ := encd_one' hd
  rw [HX.out.2.2.1]
  have HBU : Tun w w.heap.size P m aB nB cB aC nC cC (etxt' m) w6 := ⟨HP5.out.below hb, (HT5.out.below hb (fun _ _ h => h)).old, ht6, HB5.out.trans (hb.mono HB5.out.size)⟩
  have HU := Lib.hid (HBU.below (v' := w6.drew) (Below.refl _ _).drew)
  clear hb HP5 HB5 HT5 ht6 hd HBU
  have HQE : ∀ w : World, (Op.equalIn 10000 25 (.agg (nums (Mf.root m)).toArray) (.agg (nums (Mf.root m)).toArray)).run Tryd.prog w = .ok true w := fun w => by
    have h := equal32 9999 (fun a b w => run_equalIn_int w 9998 5 .u8 .u8 a b Tryd.underlying5) (Mf.root m) (Mf.root m) HRD.out HRD.out w
    rw [h, decide_eq_true rfl]
  go_wp2_with fail
  refine wp_region_held_drew (S := Tld w.heap.size P aB nB cB aC nC cC s) (by kernel_rfl) (HU.out.tld HSS.out) (fun hHeld => ?_)
  generalize w6.drew = v0 at *
  unfold Tld at *
  refine wpAnyH_take (i := 0) (v := .bool true) rfl (by kernel_rfl) (by kernel_rfl) (by kernel_rfl) (fun _ _ _ h => h) (Or.inl ⟨by rfl, (by intro w hSw; (try dsimp only at hSw); go_simp)⟩) (by assumption) ?_
  try simp only [Act.put, List.getElem_toArray, List.getElem_cons_zero, List.getElem_cons_succ, List.setIfInBounds_toArray, List.set_cons_zero, List.set_cons_succ]
  refine wpAnyH_take (i := 1) (v := .bool true) rfl (by kernel_rfl) (by kernel_rfl) (by kernel_rfl) (fun _ _ _ h => h) (Or.inl ⟨by rfl, (by intro w hSw; (try dsimp only at hSw); go_simp)⟩) (by assumption) ?_
  try simp only [Act.put, List.getElem_toArray, List.getElem_cons_zero, List.getElem_cons_succ, List.setIfInBounds_toArray, List.set_cons_zero, List.set_cons_succ]
  refine wpAnyH_take (i := 2) (v := .agg P.toList.toArray) rfl (by kernel_rfl) (by kernel_rfl) (by kernel_rfl) (fun _ _ _ h => h) (yieldsIf_load_mid (by rfl) _ _ rfl _ _ rfl _ _ (fun w hSw => hSw.2.2) hMu rfl hl) (by assumption) ?_
  try simp only [Act.put, List.getElem_toArray, List.getElem_cons_zero, List.getElem_cons_succ, List.setIfInBounds_toArray, List.set_cons_zero, List.set_cons_succ]
  refine wpAnyH_take (i := 4) (v := .agg P.toList.toArray) rfl (by kernel_rfl) (by kernel_rfl) (by kernel_rfl) (fun _ _ _ h => h) (yieldsIf_load_mid (by rfl) _ _ rfl _ _ rfl _ _ (fun w hSw => hSw.2.2) hMu rfl hl) (by assumption) ?_
  try simp only [Act.put, List.getElem_toArray, List.getElem_cons_zero, List.getElem_cons_succ, List.setIfInBounds_toArray, List.set_cons_zero, List.set_cons_succ]
  refine wpAnyH_ready (rs := [3]) (by kernel_rfl) (by simp) (AllReadyH.cons rfl (fun K hK => ?_) AllReadyH.nil)
  try simp only [List.getElem_toArray, List.getElem_cons_zero, List.getElem_cons_succ]
  go_simp
  go_at_call 23
  try simp only [Array.toArray_toList]
  refine (check_any HU.out.a.2).mono ?_
  rintro e v1 ⟨rfl, hb⟩
  rw [HX.out.2.2.2]
  have HV := HU.out
  clear HU
  have HU := Lib.hid (HV.below hb)
  clear hb HV
  go_wp2_with fail
  refine hK.out _ _ (HU.out.tld HSS.out) (fun hHeld => ?_)
  clear hK K
  try simp only [Act.put, List.getElem_toArray, List.getElem_cons_zero, List.getElem_cons_succ, List.setIfInBounds_toArray, List.set_cons_zero, List.set_cons_succ]
  refine wpAnyH_ready (rs := [5]) (by kernel_rfl) (by simp) (AllReadyH.cons rfl (fun K hK => ?_) AllReadyH.nil)
  try simp only [List.getElem_toArray, List.getElem_cons_zero, List.getElem_cons_succ]
  go_simp
  go_at_call 24
  try simp only [Array.toArray_toList]
  refine (rcheck_any HU.out.a.2).mono ?_
  rintro e v2 ⟨rfl, hb⟩
  rw [HX.out.2.2.2]
  have HV := HU.out
  clear HU
  have HU := Lib.hid (HV.below hb)
  clear hb HV
  go_wp2_with fail
  refine hK.out _ _ (HU.out.tld HSS.out) (fun hHeld => ?_)
  clear hK K
  try simp only [Act.put, List.getElem_toArray, List.getElem_cons_zero, List.getElem_cons_succ, List.setIfInBounds_toArray, List.set_cons_zero, List.set_cons_succ]
  refine wpAnyH_take (i := 6) (v := .bool true) rfl (by kernel_rfl) (by kernel_rfl) (by kernel_rfl) (fun _ _ _ h => h) (Or.inl ⟨by rfl, (by intro w hSw; (try dsimp only at hSw); go_simp)⟩) (by assumption) ?_
  try simp only [Act.put, List.getElem_toArray, List.getElem_cons_zero, List.getElem_cons_succ, List.setIfInBounds_toArray, List.set_cons_zero, List.set_cons_succ]
  refine wpAnyH_take (i := 7) (v := .bool true) rfl (by kernel_rfl) (by kernel_rfl) (by kernel_rfl) (fun _ _ _ h => h) (Or.inl ⟨by rfl, (by intro w hSw; (try dsimp only at hSw); go_simp)⟩) (by assumption) ?_
  try simp only [Act.put, List.getElem_toArray, List.getElem_cons_zero, List.getElem_cons_succ, List.setIfInBounds_toArray, List.set_cons_zero, List.set_cons_succ]
  refine wpAnyH_take (i := 8) (v := .bool true) rfl (by kernel_rfl) (by kernel_rfl) (by kernel_rfl) (fun _ _ _ h => h) (Or.inl ⟨by rfl, (by intro w hSw; (try dsimp only at hSw); go_simp)⟩) (by assumption) ?_
  try simp only [Act.put, List.getElem_toArray, List.getElem_cons_zero, List.getElem_cons_succ, List.setIfInBounds_toArray, List.set_cons_zero, List.set_cons_succ]
  refine wpAnyH_take (i := 9) (v := .int .i64 fv) rfl (by kernel_rfl) (by kernel_rfl) (by kernel_rfl) (fun _ _ _ h => h) (Or.inl ⟨by rfl, (by intro w hSw; (try dsimp only at hSw); go_simp)⟩) (by assumption) ?_
  try simp only [Act.put, List.getElem_toArray, List.getElem_cons_zero, List.getElem_cons_succ, List.setIfInBounds_toArray, List.set_cons_zero, List.set_cons_succ]
  refine wpAnyH_take (i := 10) (v := .int .i64 fv) rfl (by kernel_rfl) (by kernel_rfl) (by kernel_rfl) (fun _ _ _ h => h) (Or.inl ⟨by rfl, (by intro w hSw; (try dsimp only at hSw); go_simp)⟩) (by assumption) ?_
  try simp only [Act.put, List.getElem_toArray, List.getElem_cons_zero, List.getElem_cons_succ, List.setIfInBounds_toArray, List.set_cons_zero, List.set_cons_succ]
  refine wpAnyH_take (i := 11) (v := .bool true) rfl (by kernel_rfl) (by kernel_rfl) (by kernel_rfl) (fun _ _ _ h => h) (Or.inl ⟨by rfl, (by intro w hSw; (try dsimp only at hSw); go_simp)⟩) (by assumption) ?_
  try simp only [Act.put, List.getElem_toArray, List.getElem_cons_zero, List.getElem_cons_succ, List.setIfInBounds_toArray, List.set_cons_zero, List.set_cons_succ]
  refine wpAnyH_take (i := 12) (v := .bool true) rfl (by kernel_rfl) (by kernel_rfl) (by kernel_rfl) (fun _ _ _ h => h) (Or.inl ⟨by rfl, (by intro w hSw; (try dsimp only at hSw); go_simp)⟩) (by assumption) ?_
  try simp only [Act.put, List.getElem_toArray, List.getElem_cons_zero, List.getElem_cons_succ, List.setIfInBounds_toArray, List.set_cons_zero, List.set_cons_succ]
  refine wpAnyH_take (i := 13) (v := .bool true) rfl (by kernel_rfl) (by kernel_rfl) (by kernel_rfl) (fun _ _ _ h => h) (Or.inl ⟨by rfl, (by intro w hSw; (try dsimp only at hSw); go_simp)⟩) (by assumption) ?_
  try simp only [Act.put, List.getElem_toArray, List.getElem_cons_zero, List.getElem_cons_succ, List.setIfInBounds_toArray, List.set_cons_zero, List.set_cons_succ]
  refine wpAnyH_take (i := 14) (v := .int .i64 tv) rfl (by kernel_rfl) (by kernel_rfl) (by kernel_rfl) (fun _ _ _ h => h) (Or.inl ⟨by rfl, (by intro w hSw; (try dsimp only at hSw); go_simp)⟩) (by assumption) ?_
  try simp only [Act.put, List.getElem_toArray, List.getElem_cons_zero, List.getElem_cons_succ, List.setIfInBounds_toArray, List.set_cons_zero, List.set_cons_succ]
  refine wpAnyH_take (i := 15) (v := .int .i64 tv) rfl (by kernel_rfl) (by kernel_rfl) (by kernel_rfl) (fun _ _ _ h => h) (Or.inl ⟨by rfl, (by intro w hSw; (try dsimp only at hSw); go_simp)⟩) (by assumption) ?_
  try simp only [Act.put, List.getElem_toArray, List.getElem_cons_zero, List.getElem_cons_succ, List.setIfInBounds_toArray, List.set_cons_zero, List.set_cons_succ]
  refine wpAnyH_take (i := 16) (v := .bool true) rfl (by kernel_rfl) (by kernel_rfl) (by kernel_rfl) (fun _ _ _ h => h) (Or.inl ⟨by rfl, (by intro w hSw; (try dsimp only at hSw); go_simp)⟩) (by assumption) ?_
  try simp only [Act.put, List.getElem_toArray, List.getElem_cons_zero, List.getElem_cons_succ, List.setIfInBounds_toArray, List.set_cons_zero, List.set_cons_succ]
  refine wpAnyH_take (i := 17) (v := .bool true) rfl (by kernel_rfl) (by kernel_rfl) (by kernel_rfl) (fun _ _ _ h => h) (Or.inl ⟨by rfl, (by intro w hSw; (try dsimp only at hSw); go_simp)⟩) (by assumption) ?_
  try simp only [Act.put, List.getElem_toArray, List.getElem_cons_zero, List.getElem_cons_succ, List.setIfInBounds_toArray, List.set_cons_zero, List.set_cons_succ]
  refine wpAnyH_take (i := 18) (v := .bool true) rfl (by kernel_rfl) (by kernel_rfl) (by kernel_rfl) (fun _ _ _ h => h) (Or.inl ⟨by rfl, (by intro w hSw; (try dsimp only at hSw); go_simp)⟩) (by assumption) ?_
  try simp only [Act.put, List.getElem_toArray, List.getElem_cons_zero, List.getElem_cons_succ, List.setIfInBounds_toArray, List.set_cons_zero, List.set_cons_succ]
  refine wpAnyH_take (i := 19) (v := .slice aB nB cB) rfl (by kernel_rfl) (by kernel_rfl) (by kernel_rfl) (fun _ _ _ h => h) (Or.inl ⟨by rfl, (by intro w hSw; (try dsimp only at hSw); go_simp)⟩) (by assumption) ?_
  try simp only [Act.put, List.getElem_toArray, List.getElem_cons_zero, List.getElem_cons_succ, List.setIfInBounds_toArray, List.set_cons_zero, List.set_cons_succ]
  refine wpAnyH_take (i := 20) (v := .string s) rfl (by kernel_rfl) (by kernel_rfl) (by kernel_rfl) (fun _ _ _ h => h) (Or.inl ⟨by rfl, (by intro w hSw; (try dsimp only at hSw); go_simp)⟩) (by assumption) ?_
  try simp only [Act.put, List.getElem_toArray, List.getElem_cons_zero, List.getElem_cons_succ, List.setIfInBounds_toArray, List.set_cons_zero, List.set_cons_succ]
  refine wpAnyH_take (i := 21) (v := .slice aC nC cC) rfl (by kernel_rfl) (by kernel_rfl) (by kernel_rfl) (fun _ _ _ h => h) (Or.inl ⟨by rfl, (by intro w hSw; (try dsimp only at hSw); go_simp)⟩) (by assumption) ?_
  try simp only [Act.put, List.getElem_toArray, List.getElem_cons_zero, List.getElem_cons_succ, List.setIfInBounds_toArray, List.set_cons_zero, List.set_cons_succ]
  refine wpAnyH_take (i := 22) (v := .string s) rfl (by kernel_rfl) (by kernel_rfl) (by kernel_rfl) (fun _ _ _ h => h) (Or.inl ⟨by rfl, (by intro w hSw; (try dsimp only at hSw); go_simp)⟩) (by assumption) ?_
  try simp only [Act.put, List.getElem_toArray, List.getElem_cons_zero, List.getElem_cons_succ, List.setIfInBounds_toArray, List.set_cons_zero, List.set_cons_succ]
  refine wpAnyH_take (i := 23) (v := .bool true) rfl (by kernel_rfl) (by kernel_rfl) (by kernel_rfl) (fun _ _ _ h => h) (Or.inl ⟨by rfl, (by intro w hSw; (try dsimp only at hSw); go_simp)⟩) (by assumption) ?_
  try simp only [Act.put, List.getElem_toArray, List.getElem_cons_zero, List.getElem_cons_succ, List.setIfInBounds_toArray, List.set_cons_zero, List.set_cons_succ]
  refine wpAnyH_take (i := 24) (v := .bool true) rfl (by kernel_rfl) (by kernel_rfl) (by kernel_rfl) (fun _ _ _ h => h) (Or.inl ⟨by rfl, (by intro w hSw; (try dsimp only at hSw); go_simp)⟩) (by assumption) ?_
  try simp only [Act.put, List.getElem_toArray, List.getElem_cons_zero, List.getElem_cons_succ, List.setIfInBounds_toArray, List.set_cons_zero, List.set_cons_succ]
  refine wpAnyH_take (i := 25) (v := .bool true) rfl (by kernel_rfl) (by kernel_rfl) (by kernel_rfl) (fun _ _ _ h => h) (Or.inl ⟨by rfl, (by intro w hSw; (try dsimp only at hSw); go_simp)⟩) (by assumption) ?_
  try simp only [Act.put, List.getElem_toArray, List.getElem_cons_zero, List.getElem_cons_succ, List.setIfInBounds_toArray, List.set_cons_zero, List.set_cons_succ]
  refine wpAnyH_take (i := 26) (v := .int .i64 em) rfl (by kernel_rfl) (by kernel_rfl) (by kernel_rfl) (fun _ _ _ h => h) (Or.inl ⟨by rfl, (by intro w hSw; (try dsimp only at hSw); go_simp)⟩) (by assumption) ?_
  try simp only [Act.put, List.getElem_toArray, List.getElem_cons_zero, List.getElem_cons_succ, List.setIfInBounds_toArray, List.set_cons_zero, List.set_cons_succ]
  refine wpAnyH_take (i := 27) (v := .int .i64 em) rfl (by kernel_rfl) (by kernel_rfl) (by kernel_rfl) (fun _ _ _ h => h) (Or.inl ⟨by rfl, (by intro w hSw; (try dsimp only at hSw); go_simp)⟩) (by assumption) ?_
  try simp only [Act.put, List.getElem_toArray, List.getElem_cons_zero, List.getElem_cons_succ, List.setIfInBounds_toArray, List.set_cons_zero, List.set_cons_succ]
  refine wpAnyH_take (i := 28) (v := .bool true) rfl (by kernel_rfl) (by kernel_rfl) (by kernel_rfl) (fun _ _ _ h => h) (Or.inl ⟨by rfl, (by intro w hSw; (try dsimp only at hSw); go_simp)⟩) (by assumption) ?_
  try simp only [Act.put, List.getElem_toArray, List.getElem_cons_zero, List.getElem_cons_succ, List.setIfInBounds_toArray, List.set_cons_zero, List.set_cons_succ]
  refine wpAnyH_take (i := 29) (v := .bool true) rfl (by kernel_rfl) (by kernel_rfl) (by kernel_rfl) (fun _ _ _ h => h) (Or.inl ⟨by rfl, (by intro w hSw; (try dsimp only at hSw); go_simp)⟩) (by assumption) ?_
  try simp only [Act.put, List.getElem_toArray, List.getElem_cons_zero, List.getElem_cons_succ, List.setIfInBounds_toArray, List.set_cons_zero, List.set_cons_succ]
  refine wpAnyH_take (i := 30) (v := .bool true) rfl (by kernel_rfl) (by kernel_rfl) (by kernel_rfl) (fun _ _ _ h => h) (Or.inl ⟨by rfl, (by intro w hSw; (try dsimp only at hSw); go_simp)⟩) (by assumption) ?_
  try simp only [Act.put, List.getElem_toArray, List.getElem_cons_zero, List.getElem_cons_succ, List.setIfInBounds_toArray, List.set_cons_zero, List.set_cons_succ]
  refine wpAnyH_take (i := 31) (v := .agg P.toList.toArray) rfl (by kernel_rfl) (by kernel_rfl) (by kernel_rfl) (fun _ _ _ h => h) (yieldsIf_load_mid (by rfl) _ _ rfl _ _ rfl _ _ (fun w hSw => hSw.2.2) hMu rfl hl) (by assumption) ?_
  try simp only [Act.put, List.getElem_toArray, List.getElem_cons_zero, List.getElem_cons_succ, List.setIfInBounds_toArray, List.set_cons_zero, List.set_cons_succ]
  refine wpAnyH_take (i := 33) (v := .agg P.toList.toArray) rfl (by kernel_rfl) (by kernel_rfl) (by kernel_rfl) (fun _ _ _ h => h) (yieldsIf_load_mid (by rfl) _ _ rfl _ _ rfl _ _ (fun w hSw => hSw.2.2) hMu rfl hl) (by assumption) ?_
  try simp only [Act.put, List.getElem_toArray, List.getElem_cons_zero, List.getElem_cons_succ, List.setIfInBounds_toArray, List.set_cons_zero, List.set_cons_succ]
  refine wpAnyH_ready (rs := [32]) (by kernel_rfl) (by simp) (AllReadyH.cons rfl (fun K hK => ?_) AllReadyH.nil)
  try simp only [List.getElem_toArray, List.getElem_cons_zero, List.getElem_cons_succ]
  go_simp
  go_at_call 18
  try simp only [Array.toArray_toList]
  refine (mroot_any HU.out.a.2 (HR0.out.below HU.out.b HR0.out.two) HL1.out).mono ?_
  rintro e v3 ⟨rfl, hb⟩
  skip
  have HV := HU.out
  clear HU
  have HU := Lib.hid (HV.below hb)
  clear hb HV
  go_wp2_with fail
  refine hK.out _ _ (HU.out.tld HSS.out) (fun hHeld => ?_)
  clear hK K
  try simp only [Act.put, List.getElem_toArray, List.getElem_cons_zero, List.getElem_cons_succ, List.setIfInBounds_toArray, List.set_cons_zero, List.set_cons_succ]
  refine wpAnyH_ready (rs := [34]) (by kernel_rfl) (by simp) (AllReadyH.cons rfl (fun K hK => ?_) AllReadyH.nil)
  try simp only [List.getElem_toArray, List.getElem_cons_zero, List.getElem_cons_succ]
  go_simp
  go_at_call 19
  try simp only [Array.toArray_toList]
  refine (rmroot_any HU.out.a.2 HL1.out).mono ?_
  rintro e v4 ⟨rfl, hb⟩
  skip
  have HV := HU.out
  clear HU
  have HU := Lib.hid (HV.below hb)
  clear hb HV
  go_wp2_with fail
  refine hK.out _ _ (HU.out.tld HSS.out) (fun hHeld => ?_)
  clear hK K
  try simp only [Act.put, List.getElem_toArray, List.getElem_cons_zero, List.getElem_cons_succ, List.setIfInBounds_toArray, List.set_cons_zero, List.set_cons_succ]
  refine wpAnyH_take (i := 35) (v := .bool true) rfl (by kernel_rfl) (by kernel_rfl) (by kernel_rfl) (fun _ _ _ h => h) (Or.inl ⟨by rfl, (by intro w hSw; (try dsimp only at hSw); go_simp)⟩) (by assumption) ?_
  try simp only [Act.put, List.getElem_toArray, List.getElem_cons_zero, List.getElem_cons_succ, List.setIfInBounds_toArray, List.set_cons_zero, List.set_cons_succ]
  refine wpAnyH_take (i := 36) (v := .bool true) rfl (by kernel_rfl) (by kernel_rfl) (by kernel_rfl) (fun _ _ _ h => h) (Or.inl ⟨by rfl, (by intro w hSw; (try dsimp only at hSw); go_simp)⟩) (by assumption) ?_
  try simp only [Act.put, List.getElem_toArray, List.getElem_cons_zero, List.getElem_cons_succ, List.setIfInBounds_toArray, List.set_cons_zero, List.set_cons_succ]
  refine wpAnyH_ready (rs := [37]) (by kernel_rfl) (by simp) (AllReadyH.cons rfl (fun K hK => ?_) AllReadyH.nil)
  try simp only [List.getElem_toArray, List.getElem_cons_zero, List.getElem_cons_succ]
  go_simp
  refine hK.out _ _ (HU.out.tld HSS.out) (fun hHeld => ?_)
  clear hK K
  try simp only [Act.put, List.getElem_toArray, List.getElem_cons_zero, List.getElem_cons_succ, List.setIfInBounds_toArray, List.set_cons_zero, List.set_cons_succ]
  refine wpAnyH_done (by kernel_rfl) ?_ _
  have HB := Lib.hid HU.out.b
  clear HU HQE
  go_wp2
  go_ret
  exact ⟨rfl, HB.out⟩
end Go.Proofs.YtdjibhpjdhpcgaaDoor
