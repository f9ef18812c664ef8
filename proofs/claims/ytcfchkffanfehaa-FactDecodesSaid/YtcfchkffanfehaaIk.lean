/-
  The walk of read: the fact that bytes are, or a panic.
-/
import Derived.Test.YtcfchkffanfehaaIj
namespace Ft
open Go.Proofs.Ytcfchkffanfehaa
theorem dec_steps {l r1 r2 r3 : List Int} {k e n : Int} {g1 g2 g3 : Bool} (h1 : Mf.istep 1 3 l false = (k, r1, g1)) (h2 : Mf.istep 16 1099511627776 r1 g1 = (e, r2, g2)) (h3 : Mf.istep 0 8 r2 g2 = (n, r3, g3)) :
    (g3 = false → dec l = fine (decT k e n r3 (l.length : Nat))) ∧ (g3 = true → dec l = none ∧ r3 = []) := by
  have z1 : Cd.get 16 1099511627776 [] = none := rfl
  have z2 : Cd.get 0 8 [] = none := rfl
  unfold dec decM
  cases e1 : Cd.get 1 3 l with
  | none =>
    rw [Mf.istep_none e1] at h1
    injection h1 with a1 h1
    injection h1 with a2 a3
    subst a1 a2 a3
    rw [Mf.istep_none z1] at h2
    injection h2 with a1 h2
    injection h2 with a2 a3
    subst a1 a2 a3
    rw [Mf.istep_none z2] at h3
    injection h3 with a1 h3
    injection h3 with a2 a3
    subst a1 a2 a3
    exact ⟨(fun h => by cases h), (fun _ => by first | exact ⟨rfl, rfl⟩ | trivial)⟩
  | some x =>
    obtain ⟨v, r⟩ := x
    rw [Mf.istep_some e1] at h1
    injection h1 with a1 h1
    injection h1 with a2 a3
    subst a1 a2 a3
    cases e2 : Cd.get 16 1099511627776 r with
    | none =>
      rw [Mf.istep_none e2] at h2
      injection h2 with a1 h2
      injection h2 with a2 a3
      subst a1 a2 a3
      rw [Mf.istep_none z2] at h3
      injection h3 with a1 h3
      injection h3 with a2 a3
      subst a1 a2 a3
      simp only [e2]
      exact ⟨(fun h => by cases h), (fun _ => by first | exact ⟨rfl, rfl⟩ | trivial)⟩
    | some y =>
      obtain ⟨v2, q2⟩ := y
      rw [Mf.istep_some e2] at h2
      injection h2 with a1 h2
      injection h2 with a2 a3
      subst a1 a2 a3
      cases e3 : Cd.get 0 8 q2 with
      | none =>
        rw [Mf.istep_none e3] at h3
        injection h3 with a1 h3
        injection h3 with a2 a3
        subst a1 a2 a3
        simp only [e2, e3]
        exact ⟨(fun h => by cases h), (fun _ => by first | exact ⟨rfl, rfl⟩ | trivial)⟩
      | some z =>
        obtain ⟨v3, q3⟩ := z
        rw [Mf.istep_some e3] at h3
        injection h3 with a1 h3
        injection h3 with a2 a3
        subst a1 a2 a3
        simp only [e2, e3]
        exact ⟨(fun _ => by first | rfl | trivial), (fun h => by cases h)⟩
/-- What is decoded of the steps' answers. -/
theorem dec_one {l r3 : List Int} {e n : Int} {g3 : Bool} (h : (g3 = false → dec l = fine (decT 1 e n r3 (l.length : Nat))) ∧ (g3 = true → dec l = none ∧ r3 = [])) :
    (Co.txtOf (l.length : Nat) r3 = none → dec l = none) ∧
    (∀ t r4, Co.txtOf (l.length : Nat) r3 = some (t, r4) → (Mf.dec t = none → dec l = none) ∧
      ∀ m, Mf.dec t = some m → (Co.doneOf r4 g3 ≠ 0 → dec l = none) ∧ (Co.doneOf r4 g3 = 0 → dec l = if Fact.ok ⟨1, e, n, m⟩ 9 then some ⟨1, e, n, m⟩ else none)) := by
  cases g3 with
  | true =>
    obtain ⟨h1, h2⟩ := h.2 rfl
    subst h2
    exact ⟨fun _ => h1, fun t r4 e => by cases e⟩
  | false =>
    have h1 := h.1 rfl
    unfold decT at h1
    rw [if_pos rfl] at h1
    refine ⟨fun e => by rw [h1, e]; rfl, fun t r4 e => ?_⟩
    rw [e] at h1
    simp only at h1
    refine ⟨fun e2 => by rw [h1, e2]; rfl, fun m e2 => ?_⟩
    rw [e2] at h1
    simp only at h1
    by_cases hr : r4 = []
    · rw [if_pos hr] at h1
      refine ⟨fun hd => absurd (by unfold Co.doneOf; rw [if_neg (by simp [hr])]) hd, fun _ => ?_⟩
      rw [h1]; rfl
    · rw [if_neg hr] at h1
      refine ⟨fun _ => by rw [h1]; rfl, fun hd => ?_⟩
      unfold Co.doneOf at hd
      rw [if_pos (Or.inr hr)] at hd
      cases hd
theorem dec_else {l r3 : List Int} {k e n : Int} {g3 : Bool} (hk : k ≠ 1) (h : (g3 = false → dec l = fine (decT k e n r3 (l.length : Nat))) ∧ (g3 = true → dec l = none ∧ r3 = [])) :
    (Co.doneOf r3 g3 ≠ 0 → dec l = none) ∧ (Co.doneOf r3 g3 = 0 → dec l = if Fact.ok ⟨k, e, n, Mf.zero⟩ 9 then some ⟨k, e, n, Mf.zero⟩ else none) := by
  cases g3 with
  | true =>
    obtain ⟨h1, h2⟩ := h.2 rfl
    refine ⟨fun _ => h1, fun hd => ?_⟩
    unfold Co.doneOf at hd
    rw [if_pos (Or.inl rfl)] at hd
    cases hd
  | false =>
    have h1 := h.1 rfl
    unfold decT at h1
    rw [if_neg hk] at h1
    by_cases hr : r3 = []
    · rw [if_pos hr] at h1
      refine ⟨fun hd => absurd (by unfold Co.doneOf; rw [if_neg (by simp [hr])]) hd, fun _ => ?_⟩
      rw [h1]; rfl
    · rw [if_neg hr] at h1
      refine ⟨fun _ => by rw [h1]; rfl, fun hd => ?_⟩
      unfold Co.doneOf at hd
      rw [if_pos (Or.inr hr)] at hd
      cases hd
end Ft
namespace Go.Proofs.Ytcfchkffanfehaa
set_option maxRecDepth 20000
set_option linter.unusedSimpArgs false
set_option linter.unusedVariables false
open Go.RowKit
/-- What a panic of must bears. -/
def lostF : List PanicEntry := [{ v := .iface 31 (.int .i64 100), recovered := false }]
theorem fmust_ok (w : World) : Calls Try.prog 56 #[.bool true] w fun e w' => e = .returned (.tuple #[]) ∧ w = w' := by
  go_enter Try.func56, Try.ntmps56
  go_wp2
  go_end0
  exact ⟨rfl, rfl⟩
theorem fmust_no (w : World) : Calls Try.prog 56 #[.bool false] w fun e w' => e = .panicked lostF ∧ w = w' := by
  go_enter Try.func56, Try.ntmps56
  go_wp2
  exact ⟨rfl, rfl, rfl⟩
/-- The zero fact's cells. -/
def zf : Array Value := (fcs 0 0 0 zm.toList).toArray
theorem zeroF : #[Value.int IntKind.i64 0, Value.int IntKind.i64 0, Value.int IntKind.i64 0, Value.int IntKind.i64 0, Value.int IntKind.i64 0, Value.slice none 0 0, Value.int IntKind.u8 0, Value.int IntKind.u8 0, Value.int IntKind.u8 0, Value.int IntKind.u8 0, Value.int IntKind.u8 0, Value.int IntKind.u8 0, Value.int IntKind.u8 0, Value.int IntKind.u8 0, Value.int IntKind.u8 0, Value.int IntKind.u8 0, Value.int IntKind.u8 0, Value.int IntKind.u8 0, Value.int IntKind.u8 0, Value.int IntKind.u8 0, Value.int IntKind.u8 0, Value.int IntKind.u8 0, Value.int IntKind.u8 0, Value.int IntKind.u8 0, Value.int IntKind.u8 0, Value.int IntKind.u8 0, Value.int IntKind.u8 0, Value.int IntKind.u8 0, Value.int IntKind.u8 0, Value.int IntKind.u8 0, Value.int IntKind.u8 0, Value.int IntKind.u8 0, Value.int IntKind.u8 0, Value.int IntKind.u8 0, Value.int IntKind.u8 0, Value.int IntKind.u8 0, Value.int IntKind.u8 0, Value.int IntKind.u8 0] = zf := rfl
theorem zf_size : zf.size = 38 := rfl
theorem built_f (k e n : Int) : Try.prog.built 28 [(0, .int .i64 k), (1, .int .i64 e), (2, .int .i64 n)] = some (fcs k e n zm.toList).toArray := by kernel_rfl
theorem built_f0 : Try.prog.built 28 [] = some (fcs 0 0 0 zm.toList).toArray := by kernel_rfl
theorem zm_list (w : World) (S : Nat → Prop) : Mv w S (.agg zm.toList.toArray) Mf.zero := zm_mv w S
theorem loadVar38 {w : World} {b : Nat} {t : TypeId} {cs : Array Value} (h : Whole w b t cs) (hs : cs.size = 38) : (loadVar 28 ⟨b, 0, none⟩).run Try.prog w = .ok (.agg cs) w :=
  run_loadVar_row w b t _ cs (0, 0) _ h Try.underlying28 rfl (by rw [hs]; exact info38)
theorem fcs_size {k e n : Int} {M : List Value} (h : M.length = 35) : (fcs k e n M).toArray.size = 38 := by simp [fcs, h]
theorem splice_fcs {k e n : Int} {M M' : List Value} (h : M.length = 35) (h' : M'.length = 35) : splice (fcs k e n M) 3 M' = fcs k e n M' := by
  unfold splice fcs
  rw [h']
  simp [h]
theorem fcs_one {k e n : Int} {M : List Value} (h : ∀ u ∈ M, u.oneCell' = true) : (fcs k e n M).toArray.all (·.oneCell') = true := by
  refine all_oneCell_toArray ?_
  intro u hu
  simp only [fcs, List.mem_cons] at hu
  rcases hu with rfl | rfl | rfl | hu
  · rfl
  · rfl
  · rfl
  · exact h u hu
theorem zm_one : ∀ u ∈ zm.toList, u.oneCell' = true := by
  have h := mcs_one (s := 0) (c := 0) (v := .slice none 0 0) (h := zs 32) rfl
  intro u hu
  exact Array.all_eq_true_iff_forall_mem.1 h u (by simpa [zm] using hu)
theorem dec_nil : Mf.dec [] = none := rfl
/-- What read answers. -/
def Readf (w : World) (l : List Int) (e : Ending) (w' : World) : Prop :=
  ((∃ v f, Ft.dec l = some f ∧ e = .returned v ∧ Fv w' (w.heap.size ≤ ·) v f) ∨ (Ft.dec l = none ∧ e = .panicked lostF)) ∧ Below w.heap.size w w'
set_option maxHeartbeats 8000000 in
theorem fread_any {w : World} {S : Nat → Prop} {a : Option Addr} {n c : Nat} {l : List Int} (ht : Txt w S a n c l) (hn : n ≤ 1000000) :
    Calls Try.prog 39 #[.slice a n c] w (Readf w l) := by
  have HT := Lib.hid ht.old
  have hbl : Byt l := ht.2.2.1
  have HLN := Lib.hid ht.1
  obtain ⟨k, r1, g1, hs1⟩ : ∃ k r1 g1, Mf.istep 1 3 l false = (k, r1, g1) := ⟨_, _, _, rfl⟩
  obtain ⟨ep, r2, g2, hs2⟩ : ∃ ep r2 g2, Mf.istep 16 1099511627776 r1 g1 = (ep, r2, g2) := ⟨_, _, _, rfl⟩
  obtain ⟨nd, r3, g3, hs3⟩ : ∃ nd r3 g3, Mf.istep 0 8 r2 g2 = (nd, r3, g3) := ⟨_, _, _, rfl⟩
  have HST := Lib.hid (Ft.dec_steps hs1 hs2 hs3)
  have hi1 := Mf.istep_in (least := 1) (most := 3) (gv := false) hbl
  rw [hs1] at hi1
  have hi2 := Mf.istep_in (least := 16) (most := 1099511627776) (gv := g1) hi1.2.1
  rw [hs2] at hi2
  have hi3 := Mf.istep_in (least := 0) (most := 8) (gv := g2) hi2.2.1
  rw [hs3] at hi3
  dsimp only at hi1 hi2 hi3
  have HIN := Lib.hid (And.intro hi1.1 (And.intro hi2.1 hi3.1))
  have HR3 := Lib.hid (And.intro hi3.2.1 (show r3.length ≤ 1000000 by have h1 := ht.1; have := hi1.2.2; have := hi2.2.2; have := hi3.2.2; omega))
  have HE := Lib.hid (And.intro hs1 (And.intro hs2 hs3))
  clear ht hbl hs1 hs2 hs3 hi1 hi2 hi3
  go_enter Try.func39, Try.ntmps39
  go_wp2_with fail
  rw [zeroF]
  have HX1 := Lib.hid (Whole.new w 28 zf)
  have HB1 := Lib.hid (below_alloc w (.cells zf 28))
  have hX1 : w.heap.size < (w.alloc (.cells zf 28)).heap.size := HX1.out.lt
  generalize w.alloc (.cells zf 28) = w1 at *
  refine (Co.new_any (HT.out.below HB1.out (fun b _ h => h)) (by omega)).mono ?_
  rintro e w2 ⟨g, rfl, hg, hrd, hb2⟩
  have H2 := Lib.hid (And.intro hrd hb2)
  clear hrd hb2
  go_wp2_with fail
  refine (rint_step 1 3 H2.out.1).mono ?_
  rintro e w3 ⟨rfl, hrd, hgr⟩
  rw [HE.out.1] at hrd ⊢
  have H3 := Lib.hid (And.intro hrd (H2.out.2.grown hgr H2.out.2.size (fun b hb => by injection hb with hb; omega)))
  clear hrd hgr H2
  dsimp only at H3 ⊢
  go_wp2_with fail
  refine (rint_step 16 1099511627776 H3.out.1).mono ?_
  rintro e w4 ⟨rfl, hrd, hgr⟩
  rw [HE.out.2.1] at hrd ⊢
  have H4 := Lib.hid (And.intro hrd (H3.out.2.grown hgr H3.out.2.size (fun b hb => by injection hb with hb; omega)))
  clear hrd hgr H3
  dsimp only at H4 ⊢
  go_wp2_with fail
  refine (rint_step 0 8 H4.out.1).mono ?_
  rintro e w5 ⟨rfl, hrd, hgr⟩
  rw [HE.out.2.2] at hrd ⊢
  have H5 := Lib.hid (And.intro hrd (H4.out.2.grown hgr H4.out.2.size (fun b hb => by injection hb with hb; omega)))
  clear hrd hgr H4
  dsimp only at H5 ⊢
  obtain ⟨FL, hFL⟩ : ∃ FL, fcs k ep nd zm.toList = FL := ⟨_, rfl⟩
  have HBT := Lib.hid (built_f k ep nd)
  have hFS := fcs_size (k := k) (e := ep) (n := nd) (M := zm.toList) rfl
  have hFO := fcs_one (k := k) (e := ep) (n := nd) zm_one
  rw [hFL] at HBT hFS hFO
  have HFL := Lib.hid hFL
  clear hFL
  have hg5 : g < w5.heap.size := H5.out.1.lt
  have H6 : Hid (FB ((w5.alloc (.cells zf 28)).setRow w5.heap.size FL.toArray) w5.heap.size FL.toArray zm.toList ⟨k, ep, nd, Mf.zero⟩ ∧
      Co.Rd ((w5.alloc (.cells zf 28)).setRow w5.heap.size FL.toArray) g r3 g3 ∧ Below w1.heap.size w1 ((w5.alloc (.cells zf 28)).setRow w5.heap.size FL.toArray)) :=
    Lib.hid ⟨⟨put_row, by rw [← HFL.out], zm_list _ _, rfl, HIN.out⟩, H5.out.1.below (put_below (Below.refl _ _) (Nat.le_refl _)), put_below H5.out.2 H5.out.2.size⟩
  have k0 : ((w5.alloc (.cells zf 28)).setRow w5.heap.size FL.toArray).cell? ⟨w5.heap.size, 0, none⟩ = some (.int .i64 k) := H6.out.1.c0
  by_cases hk : k = 1
  · subst hk
    have d1 : ((1 : Int) == 1) = true := rfl
    have HD := Lib.hid (Ft.dec_one HST.out)
    clear HST HE
    go_wp2_with (first | ((with_reducible show wpList _ _ _ ((⟨_, Op.build 28 _, _, _, _, _⟩ : Oper) :: _) _ _); refine wpList_built rfl _ rfl _ rfl FL HBT.out ?_) | ((with_reducible show wpList _ _ _ ((⟨_, Op.store 28 _ _, _, _, _, _⟩ : Oper) :: _) _ _); rw [zeroF]; refine wpList_store_row rfl _ (.tmp 4) (.tmp 15) rfl w5.heap.size FL.toArray rfl rfl 28 _ (Whole.new w5 _ _) (by rw [hFS]; exact info38) (by rw [hFS]; rfl) hFO ?_) | fail)
    have hn' : w1.heap.size ≤ w5.heap.size := H5.out.2.size
    generalize (w5.alloc (.cells zf 28)).setRow w5.heap.size FL.toArray = w6 at *
    generalize w5.heap.size = F at *
    clear H5 HBT k0
    refine (Co.rtext_any (n : Int) H6.out.2.1 (by have := HR3.out.2; omega)).mono ?_
    rw [show ((n : Nat) : Int) = ((l.length : Nat) : Int) by rw [HLN.out]]
    rintro e w7 hx
    obtain ⟨t, r4, g4, v7, hv, rfl, htx, hd7, hrd7, hgr7⟩ : ∃ t r4 g4 v7, ((Co.txtOf (l.length : Nat) r3 = none ∧ t = []) ∨ (Co.txtOf (l.length : Nat) r3 = some (t, r4) ∧ g4 = g3)) ∧ e = .returned v7 ∧ (∃ a7 n7 c7, v7 = .slice a7 n7 c7 ∧ n7 ≤ 1000000 ∧ Txt w7 (fun _ => True) a7 n7 c7 t) ∧ t.length ≤ 1000000 ∧ Co.Rd w7 g r4 g4 ∧ w6.grownBy w7 (some g) := by
      rcases hx with ⟨t, r, v, ho, rfl, hown, hrd, hgr⟩ | ⟨ho, rfl, hrd, hgr⟩
      · have hle : t.length ≤ 1000000 := by
          have := (Ft.txt_some HR3.out.1 ho).1
          have h2 := congrArg List.length this
          simp only [List.length_append] at h2
          have := HR3.out.2
          omega
        have hbt : Byt t := byt_left (b := r) (byt_right (a := Cd.num (t.length : Nat)) (by rw [← (Ft.txt_some HR3.out.1 ho).1]; exact HR3.out.1))
        obtain ⟨a7, c7, rfl, ht7⟩ := Txt.own hown hbt
        exact ⟨t, r, g3, _, Or.inr ⟨ho, rfl⟩, rfl, ⟨a7, _, c7, rfl, hle, ht7.weak (fun _ _ _ => trivial)⟩, hle, hrd, hgr⟩
      · exact ⟨[], [], true, _, Or.inl ⟨ho, rfl⟩, rfl, ⟨none, 0, 0, rfl, by omega, Txt.nil _ _ _ _⟩, by simp, hrd, hgr⟩
    obtain ⟨a7, n7, c7, rfl, hn7, ht7⟩ := htx
    have hF7 : Hid (FB w7 F FL.toArray zm.toList ⟨1, ep, nd, Mf.zero⟩) := Lib.hid ⟨H6.out.1.whole.grown hgr7 (by intro e; injection e; omega), H6.out.1.eq, zm_list _ _, rfl, HIN.out⟩
    have H7 := Lib.hid (And.intro ht7 (And.intro hrd7 (H6.out.2.2.grown hgr7 H6.out.2.2.size (fun b hb => by injection hb with hb; omega))))
    have HV := Lib.hid hv
    clear ht7 hrd7 hgr7 hv hx H6
    go_wp2_with fail
    refine (decode_any H7.out.1 hn7).mono ?_
    rintro e w8 ⟨hd, hb8⟩
    have hF8 : Hid (FB w8 F FL.toArray zm.toList ⟨1, ep, nd, Mf.zero⟩) := Lib.hid (hF7.out.below hb8)
    have H8 := Lib.hid (And.intro (H7.out.2.1.below hb8) (H7.out.2.2.trans (hb8.mono H7.out.2.2.size)))
    have hlt78 : F < w7.heap.size := hF7.out.lt
    rcases hd with ⟨v8, m, hdec, rfl, hmv⟩ | ⟨hdec, rfl⟩
    case inr =>
      have HDEC : Hid (Ft.dec l = none) := Lib.hid (by
        rcases HV.out with ⟨h1, _⟩ | ⟨h1, _⟩
        · exact HD.out.1 h1
        · exact (HD.out.2 t r4 h1).1 hdec)
      clear hdec hb8 HV HD hF7 H7
      go_wp2_with (first | (go_at_call 56; refine (fmust_no _).mono ?_; rintro e wd ⟨rfl, rfl⟩) | ((with_reducible show wpList _ _ _ ((⟨_, Op.store 26 _ _, _, _, _, _⟩ : Oper) :: _) _ _); rw [zeroM, show (mcs 0 0 (.slice none 0 0) (zs 32)).toArray = zm from rfl]; refine wpList_store_row rfl _ (.tmp 5) (.tmp 25) rfl w8.heap.size zm rfl rfl 26 _ (Whole.new w8 _ _) (by rw [zm_size]; exact info35) rfl (mcs_one rfl) ?_))
      have hle := H8.out.2.size
      exact ⟨rfl, Or.inr ⟨HDEC.out, rfl⟩, HB1.out.trans ((put_below H8.out.2 hle).mono (Nat.le_of_lt hX1))⟩
    have HTX : Hid (Co.txtOf (l.length : Nat) r3 = some (t, r4) ∧ g4 = g3) := Lib.hid (by
      rcases HV.out with ⟨_, h2⟩ | h
      · subst h2; rw [dec_nil] at hdec; cases hdec
      · exact h)
    have HD2 := Lib.hid ((HD.out.2 t r4 HTX.out.1).2 m hdec)
    have hg4 := HTX.out.2
    subst hg4
    obtain ⟨Q, rfl, hQs, hQa⟩ := mv_agg hmv
    have HQ := Lib.hid (has_put hmv zm)
    have hF9 : Hid (FB ((w8.alloc (.cells zm 26)).setRow w8.heap.size Q) F FL.toArray zm.toList ⟨1, ep, nd, Mf.zero⟩) := Lib.hid (hF8.out.below (put_below (Below.refl _ _) (Nat.le_refl _)))
    have H9 := Lib.hid (And.intro (H8.out.1.below (put_below (T := 26) (z := zm) (N := Q) (Below.refl _ _) (Nat.le_refl _))) (put_below (T := 26) (z := zm) (N := Q) H8.out.2 H8.out.2.size))
    have hmv9 : Mv ((w8.alloc (.cells zm 26)).setRow w8.heap.size Q) (fun b => w7.heap.size ≤ b ∧ b < w8.heap.size) (.agg Q) m := (hmv.weak (S' := fun b => w7.heap.size ≤ b ∧ b < w8.heap.size) (fun b hb h => ⟨h, hb⟩)).below (put_below (Below.refl _ _) (Nat.le_refl _)) (fun b _ h => h.2)
    have HM9 := Lib.hid hmv9
    clear hmv hdec hb8 HV HD hF7 H7 hF8 HTX hmv9
    have hle8 := H8.out.2.size
    clear H8
    obtain ⟨QL, rfl⟩ : ∃ QL : List Value, Q = QL.toArray := ⟨Q.toList, by simp⟩
    have hql : QL.length = 35 := by simpa using hQs
    have hq1 : ∀ u ∈ QL, u.oneCell' = true := fun u hu => Array.all_eq_true_iff_forall_mem.1 hQa u (by simpa using hu)
    have hfl : FL.length = 38 := by simpa using hFS
    have hspl : splice FL 3 QL = fcs 1 ep nd QL := by rw [← HFL.out]; exact splice_fcs rfl hql
    have HSP := Lib.hid hspl
    clear hspl
    go_wp2_with (first
      | (go_at_call 56; refine (fmust_ok _).mono ?_; rintro e wd ⟨rfl, rfl⟩)
      | ((with_reducible show wpList _ _ _ ((⟨_, Op.load 26 (.tmp 5), _, _, _, _⟩ : Oper) :: _) _ _); refine has_load HQ.out (by rfl) (.tmp 5) rfl rfl ?_)
      | ((with_reducible show wpList _ _ _ ((⟨_, Op.store 26 (.tmp 31) _, _, _, _, _⟩ : Oper) :: _) _ _); refine wpList_store_part rfl _ (.tmp 31) (.tmp 30) rfl F 3 QL rfl rfl hF9.out.whole (by rw [hql]; exact info35) hq1 (by rw [hfl, hql]; omega) ?_)
      | ((with_reducible show wpList _ _ _ ((⟨_, Op.store 26 (.tmp 5) _, _, _, _, _⟩ : Oper) :: _) _ _); rw [zeroM, show (mcs 0 0 (.slice none 0 0) (zs 32)).toArray = zm from rfl]; refine wpList_store_row rfl _ (.tmp 5) (.tmp 25) rfl w8.heap.size QL.toArray rfl rfl 26 _ (Whole.new w8 _ _) (by rw [hQs]; exact info35) (by rw [hQs]; rfl) hQa ?_)
      | fail)
    rw [HSP.out]
    have hlt9 : w1.heap.size ≤ F := hn'
    obtain ⟨PF, hPF⟩ : ∃ PF, (fcs 1 ep nd QL).toArray = PF := ⟨_, rfl⟩
    rw [hPF]
    have hm10 := HM9.out.keep (w' := ((w8.alloc (.cells zm 26)).setRow w8.heap.size QL.toArray).setRow F PF) (by simp [World.setRow]) (fun b _ hb => setRow_other _ F b PF (by omega))
    have HF := Lib.hid (show FB (((w8.alloc (.cells zm 26)).setRow w8.heap.size QL.toArray).setRow F PF) F PF QL ⟨1, ep, nd, m⟩ from ⟨hF9.out.whole.row PF, hPF.symm, hm10.old, hql, HIN.out⟩)
    have HRD := Lib.hid (Rd_row H9.out.1 (show g < F by omega) PF)
    have HBL := Lib.hid (below_row H9.out.2 hlt9 PF)
    have HMV := Lib.hid (hm10.weak (S' := fun b => w1.heap.size ≤ b) (fun b _ hb => by omega))
    clear hPF hm10 HSP HQ hF9 H9 HM9 hql hq1 hfl hQs hQa hFS hFO HFL
    generalize ((w8.alloc (.cells zm 26)).setRow w8.heap.size QL.toArray).setRow F PF = w10 at *
    by_cases hdn : Co.doneOf r4 g4 = 0
    case neg =>
      have HDEC := Lib.hid (HD2.out.1 hdn)
      have HDN : Hid (Co.doneOf r4 g4 = 20) := Lib.hid (by
        unfold Co.doneOf at hdn ⊢
        split
        · rfl
        · rename_i h; exact absurd (if_neg h) hdn)
      clear hdn HD2
      go_wp2_with (first | (go_at_call 57; refine (Co.done_any HRD.out).mono ?_; rintro e wd ⟨rfl, rfl⟩; rw [HDN.out]) | (go_at_call 56; refine (fmust_no _).mono ?_; rintro e wd ⟨rfl, rfl⟩) | fail)
      exact ⟨rfl, Or.inr ⟨HDEC.out, rfl⟩, HB1.out.trans (HBL.out.mono (Nat.le_of_lt hX1))⟩
    have HDN := Lib.hid hdn
    by_cases hok : Ft.Fact.ok ⟨1, ep, nd, m⟩ 9
    case neg =>
      have HDEC := Lib.hid ((HD2.out.2 hdn).trans (if_neg hok))
      have HK := Lib.hid (Ft.chk_no hok)
      clear hdn hok HD2
      go_wp2_with (first | (go_at_call 57; refine (Co.done_any HRD.out).mono ?_; rintro e wd ⟨rfl, rfl⟩; rw [HDN.out]) | (go_at_call 56; refine (fmust_ok _).mono ?_; rintro e wd ⟨rfl, rfl⟩) | ((with_reducible show wpList _ _ _ ((⟨_, Op.load 28 (.tmp 4), _, _, _, _⟩ : Oper) :: _) _ _); refine fb_load HF.out (by rfl) (.tmp 4) rfl rfl ?_) | fail)
      refine (fcheck_any HF.out.val 9).mono ?_
      rintro e w11 ⟨rfl, hb11⟩
      rw [HK.out]
      have HBL11 := Lib.hid (HBL.out.trans (hb11.mono HBL.out.size))
      clear hb11
      go_wp2_with (first | (go_at_call 56; refine (fmust_no _).mono ?_; rintro e wd ⟨rfl, rfl⟩) | fail)
      exact ⟨rfl, Or.inr ⟨HDEC.out, rfl⟩, HB1.out.trans (HBL11.out.mono (Nat.le_of_lt hX1))⟩
    have HDEC := Lib.hid ((HD2.out.2 hdn).trans (if_pos hok))
    have HK := Lib.hid (Ft.chk_ok hok)
    clear hdn hok HD2
    go_wp2_with (first | (go_at_call 57; refine (Co.done_any HRD.out).mono ?_; rintro e wd ⟨rfl, rfl⟩; rw [HDN.out]) | (go_at_call 56; refine (fmust_ok _).mono ?_; rintro e wd ⟨rfl, rfl⟩) | ((with_reducible show wpList _ _ _ ((⟨_, Op.load 28 (.tmp 4), _, _, _, _⟩ : Oper) :: _) _ _); refine fb_load HF.out (by rfl) (.tmp 4) rfl rfl ?_) | fail)
    refine (fcheck_any HF.out.val 9).mono ?_
    rintro e w11 ⟨rfl, hb11⟩
    rw [HK.out]
    have HBL11 := Lib.hid (HBL.out.trans (hb11.mono HBL.out.size))
    have HF11 := Lib.hid (HF.out.below hb11)
    have HX11 := Lib.hid (HX1.out.below HBL11.out hX1)
    have HM11 := Lib.hid (HMV.out.below hb11 (fun b hb _ => hb))
    have hP38 := HF.out.size
    have hP1 := HF.out.one
    have HPE := Lib.hid HF.out.eq
    clear hb11 HF HMV HBL HRD
    go_wp2_with (first | (go_at_call 56; refine (fmust_ok _).mono ?_; rintro e wd ⟨rfl, rfl⟩) | ((with_reducible show wpList _ _ _ ((⟨_, Op.load 28 (.tmp 4), _, _, _, _⟩ : Oper) :: _) _ _); refine fb_load HF11.out (by rfl) (.tmp 4) rfl rfl ?_) | ((with_reducible show wpList _ _ _ ((⟨_, Op.store 28 _ _, _, _, _, _⟩ : Oper) :: _) _ _); refine wpList_store_row rfl _ (.tmp 2) (.tmp 40) rfl w.heap.size PF rfl rfl 28 _ HX11.out (by rw [hP38]; exact info38) (by rw [hP38]; rfl) hP1 ?_))
    refine bodyPost_ret (results_one_cell rfl _ _ _ _ rfl (loadVar38 (HX11.out.row PF) hP38)) rfl ?_
    refine ⟨Or.inl ⟨_, _, HDEC.out, rfl, ⟨_, by rw [HPE.out], ?_, HIN.out⟩⟩, below_row (HB1.out.trans (HBL11.out.mono (Nat.le_of_lt hX1))) (Nat.le_refl _) PF⟩
    exact (HM11.out.keep (w' := w11.setRow w.heap.size PF) (by simp [World.setRow]) (fun b _ hb => setRow_other w11 w.heap.size b PF (by omega))).weak (fun b _ hb => by omega)
  · have d1 : (k == 1) = false := by simp [hk]
    have HD2 := Lib.hid (Ft.dec_else hk HST.out)
    clear HST HE hk
    go_wp2_with (first | ((with_reducible show wpList _ _ _ ((⟨_, Op.build 28 _, _, _, _, _⟩ : Oper) :: _) _ _); refine wpList_built rfl _ rfl _ rfl FL HBT.out ?_) | ((with_reducible show wpList _ _ _ ((⟨_, Op.store 28 _ _, _, _, _, _⟩ : Oper) :: _) _ _); rw [zeroF]; refine wpList_store_row rfl _ (.tmp 4) (.tmp 15) rfl w5.heap.size FL.toArray rfl rfl 28 _ (Whole.new w5 _ _) (by rw [hFS]; exact info38) (by rw [hFS]; rfl) hFO ?_) | fail)
    obtain ⟨PF, hPF⟩ : ∃ PF, FL.toArray = PF := ⟨_, rfl⟩
    rw [hPF] at H6 ⊢
    have HF := Lib.hid H6.out.1
    have HRD := Lib.hid H6.out.2.1
    have HBL := Lib.hid H6.out.2.2
    have HMV := Lib.hid (zm_list ((w5.alloc (.cells zf 28)).setRow w5.heap.size PF) (fun b => w1.heap.size ≤ b))
    rw [hPF] at k0
    clear hPF HBT hFS hFO HFL H5 H6 k0
    generalize (w5.alloc (.cells zf 28)).setRow w5.heap.size PF = w10 at *
    generalize w5.heap.size = F at *
    by_cases hdn : Co.doneOf r3 g3 = 0
    case neg =>
      have HDEC := Lib.hid (HD2.out.1 hdn)
      have HDN : Hid (Co.doneOf r3 g3 = 20) := Lib.hid (by
        unfold Co.doneOf at hdn ⊢
        split
        · rfl
        · rename_i h; exact absurd (if_neg h) hdn)
      clear hdn HD2
      go_wp2_with (first | (go_at_call 57; refine (Co.done_any HRD.out).mono ?_; rintro e wd ⟨rfl, rfl⟩; rw [HDN.out]) | (go_at_call 56; refine (fmust_no _).mono ?_; rintro e wd ⟨rfl, rfl⟩) | fail)
      exact ⟨rfl, Or.inr ⟨HDEC.out, rfl⟩, HB1.out.trans (HBL.out.mono (Nat.le_of_lt hX1))⟩
    have HDN := Lib.hid hdn
    by_cases hok : Ft.Fact.ok ⟨k, ep, nd, Mf.zero⟩ 9
    case neg =>
      have HDEC := Lib.hid ((HD2.out.2 hdn).trans (if_neg hok))
      have HK := Lib.hid (Ft.chk_no hok)
      clear hdn hok HD2
      go_wp2_with (first | (go_at_call 57; refine (Co.done_any HRD.out).mono ?_; rintro e wd ⟨rfl, rfl⟩; rw [HDN.out]) | (go_at_call 56; refine (fmust_ok _).mono ?_; rintro e wd ⟨rfl, rfl⟩) | ((with_reducible show wpList _ _ _ ((⟨_, Op.load 28 (.tmp 4), _, _, _, _⟩ : Oper) :: _) _ _); refine fb_load HF.out (by rfl) (.tmp 4) rfl rfl ?_) | fail)
      refine (fcheck_any HF.out.val 9).mono ?_
      rintro e w11 ⟨rfl, hb11⟩
      rw [HK.out]
      have HBL11 := Lib.hid (HBL.out.trans (hb11.mono HBL.out.size))
      clear hb11
      go_wp2_with (first | (go_at_call 56; refine (fmust_no _).mono ?_; rintro e wd ⟨rfl, rfl⟩) | fail)
      exact ⟨rfl, Or.inr ⟨HDEC.out, rfl⟩, HB1.out.trans (HBL11.out.mono (Nat.le_of_lt hX1))⟩
    have HDEC := Lib.hid ((HD2.out.2 hdn).trans (if_pos hok))
    have HK := Lib.hid (Ft.chk_ok hok)
    clear hdn hok HD2
    go_wp2_with (first | (go_at_call 57; refine (Co.done_any HRD.out).mono ?_; rintro e wd ⟨rfl, rfl⟩; rw [HDN.out]) | (go_at_call 56; refine (fmust_ok _).mono ?_; rintro e wd ⟨rfl, rfl⟩) | ((with_reducible show wpList _ _ _ ((⟨_, Op.load 28 (.tmp 4), _, _, _, _⟩ : Oper) :: _) _ _); refine fb_load HF.out (by rfl) (.tmp 4) rfl rfl ?_) | fail)
    refine (fcheck_any HF.out.val 9).mono ?_
    rintro e w11 ⟨rfl, hb11⟩
    rw [HK.out]
    have HBL11 := Lib.hid (HBL.out.trans (hb11.mono HBL.out.size))
    have HF11 := Lib.hid (HF.out.below hb11)
    have HX11 := Lib.hid (HX1.out.below HBL11.out hX1)
    have HM11 := Lib.hid (HMV.out.below hb11 (fun b hb _ => hb))
    have hP38 := HF.out.size
    have hP1 := HF.out.one
    have HPE := Lib.hid HF.out.eq
    clear hb11 HF HMV HBL HRD
    go_wp2_with (first | (go_at_call 56; refine (fmust_ok _).mono ?_; rintro e wd ⟨rfl, rfl⟩) | ((with_reducible show wpList _ _ _ ((⟨_, Op.load 28 (.tmp 4), _, _, _, _⟩ : Oper) :: _) _ _); refine fb_load HF11.out (by rfl) (.tmp 4) rfl rfl ?_) | ((with_reducible show wpList _ _ _ ((⟨_, Op.store 28 _ _, _, _, _, _⟩ : Oper) :: _) _ _); refine wpList_store_row rfl _ (.tmp 2) (.tmp 40) rfl w.heap.size PF rfl rfl 28 _ HX11.out (by rw [hP38]; exact info38) (by rw [hP38]; rfl) hP1 ?_))
    refine bodyPost_ret (results_one_cell rfl _ _ _ _ rfl (loadVar38 (HX11.out.row PF) hP38)) rfl ?_
    refine ⟨Or.inl ⟨_, _, HDEC.out, rfl, ⟨_, by rw [HPE.out], ?_, HIN.out⟩⟩, below_row (HB1.out.trans (HBL11.out.mono (Nat.le_of_lt hX1))) (Nat.le_refl _) PF⟩
    exact (HM11.out.keep (w' := w11.setRow w.heap.size PF) (by simp [World.setRow]) (fun b _ hb => setRow_other w11 w.heap.size b PF (by omega))).weak (fun b _ hb => by omega)
end Go.Proofs.Ytcfchkffanfehaa
