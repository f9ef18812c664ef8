/-
  The walk of LatticeTells.
-/
import Derived.Test.YtdfmfjahnnifnaaLc
namespace Go.Proofs.Ytdfmfjahnnifnaa
set_option maxRecDepth 20000
set_option linter.unusedSimpArgs false
set_option linter.unusedVariables false
open Go.RowKit Go.Great
/-- Both sides, while facts are added. -/
structure Pair (w wr : World) (l : List Ft.Fact) (a : Option Addr) (n c : Nat) (R : List Fm) (a' : Option Addr) (c' : Nat) (R' : List Fm) : Prop where
  own : Own wr w.heap.size a n c R
  fs : FS R = l
  le : n ≤ c'
  fts : Fts wr (fun b => b < wr.heap.size) (fun b => b < wr.heap.size) a' n R'
  fs' : FS R' = l
  below : Below w.heap.size w wr
theorem Pair.on {w wr wr' : World} {l : List Ft.Fact} {a : Option Addr} {n c : Nat} {R : List Fm} {a' : Option Addr} {c' : Nat} {R' : List Fm} (h : Pair w wr l a n c R a' c' R') (hb : Below wr.heap.size wr wr') : Pair w wr' l a n c R a' c' R' :=
  ⟨h.own.below hb, h.fs, h.le, (h.fts.below hb (fun _ _ h => h) (fun _ _ h => h)).old, h.fs', h.below.trans (hb.mono h.below.size)⟩
theorem mani_few {l : List Ft.Fact} {e : Int} (h : ∀ f ∈ l, f.man.ds.length ≤ 100) : ((La.mani l e).getD Mf.zero).ds.length ≤ 1000 := by
  unfold La.mani
  cases hf : l.find? (La.whose 1 e) with
  | none => exact Nat.zero_le _
  | some f => exact Nat.le_trans (h f (List.mem_of_find?_eq_some hf)) (by omega)
set_option maxHeartbeats 4000000 in
theorem tells_walk (L : Lat) {w : World} {S D : Nat → Prop} {a : Option Addr} {n c : Nat} {R : List Fm} (h : Fts w S D a n R) (N K E M : Int) :
    Calls Try.prog 4 #[.int .i64 N, .slice a n c, .int .i64 K, .int .i64 E, .int .i64 M] w fun e w' => e = .returned (.bool true) ∧ Below w.heap.size w w' := by
  have H := Lib.hid h.old
  have HLN := Lib.hid (show (FS R).length = n by rw [FS_len, h.1])
  clear h
  go_enter Try.func4, Try.ntmps4
  go_wp2_with (go_at_call 12; refine (awake_any L _).mono ?_; rintro e w1 ⟨rfl, hb1⟩; have HB1 := Lib.hid hb1; clear hb1)
  go_loopw [12, 13, 14, 15, 16, 17, 18, 19, 20] (fun v u i _ _ _ _ _ _ wr => ∃ (j n2 c2 c3 : Nat) (a2 a3 : Option Addr) (R2 R3 : List Fm), j ≤ n ∧ j ≤ 40 ∧ n2 ≤ 40 ∧ v = .slice a2 n2 c2 ∧ u = .slice a3 n2 c3 ∧ i = .int .i64 (j : Int) ∧ Hid (Pair w wr (La.grown N (FS R) j) a2 n2 c2 R2 a3 c3 R3)) (fun _ _ i _ _ _ _ _ _ _ => 40 - (intOf i).toNat)
  case atStart => exact ⟨0, 0, 0, 0, none, none, [], [], Nat.zero_le _, by omega, by omega, rfl, rfl, rfl, Lib.hid ⟨Own.nil _ _, rfl, Nat.le_refl _, Fts.nil _ _ _ _, rfl, HB1.out⟩⟩
  case round =>
    obtain ⟨j, n2, c2, c3, a2, a3, R2, R3, hj, hjm, hn2, rfl, rfl, rfl, HJ⟩ := hrel
    clear HB1
    by_cases hlt : j < n
    case neg =>
      have q : ¬ ((j : Int) < (n : Int)) := by omega
      have HJ : Hid (Pair w wr (La.grown N (FS R) 40) a2 n2 c2 R2 a3 c3 R3) := Lib.hid (by have := HJ.out; unfold La.grown at this ⊢; rwa [fewOf_end (FS R) (most := 40) (Or.inl ⟨by rw [HLN.out]; omega, hjm⟩)] at this)
      have HG : Hid (La.Good N (FS R2) ∧ FewR R2 ∧ FS R3 = FS R2) := Lib.hid ⟨by rw [HJ.out.fs]; exact La.grown_good _ _ _, fewR_of HJ.out.fs (fun f hf => La.grown_few hf), HJ.out.fs'.trans HJ.out.fs.symm⟩
      obtain ⟨o, ho⟩ : ∃ o, La.mani (FS R2) E = o := ⟨_, rfl⟩
      have HOL : Hid ((o.getD Mf.zero).ds.length ≤ 1000) := Lib.hid (by rw [← ho, HJ.out.fs]; exact mani_few (fun f hf => La.grown_few hf))
      have HO := Lib.hid ho
      clear ho
      go_wp2_with fail
      refine (L.mani N E HJ.out.own.fts HJ.out.own.le (by omega) HG.out.1 HG.out.2.1).mono ?_
      rintro e v1 ⟨⟨Q1, rfl, hm1⟩, hb1⟩
      rw [HO.out] at hm1
      rw [HO.out]
      obtain ⟨P1, e1, hs1, ha1⟩ := mv_agg hm1
      injection e1 with e1
      subst e1
      have HP2 := Lib.hid ((HJ.out.on hb1).on (put_below (T := 28) (z := (mcs 0 0 (.slice none 0 0) (zs 32)).toArray) (N := Q1) (Below.refl _ _) (Nat.le_refl _)))
      have HM1 := Lib.hid (hm1.old.below (put_below (T := 28) (z := (mcs 0 0 (.slice none 0 0) (zs 32)).toArray) (N := Q1) (Below.refl v1.heap.size v1) (Nat.le_refl _)) (fun _ _ h => h)).old
      have HW1 : Hid (Whole ((v1.alloc (.cells (mcs 0 0 (.slice none 0 0) (zs 32)).toArray 28)).setRow v1.heap.size Q1) v1.heap.size 28 Q1) := Lib.hid put_row
      clear hm1 hb1 HJ
      go_upto_region 19 with (first | ((with_reducible show wpList _ _ _ ((⟨_, Op.store 28 (.tmp 21) _, _, _, _, _⟩ : Oper) :: _) _ _); rw [zeroM]; refine wpList_store_row rfl _ (.tmp 21) (.tmp 86) rfl v1.heap.size Q1 rfl rfl 28 _ (Whole.new v1 _ _) (by rw [hs1]; exact info35) (by rw [hs1]; rfl) ha1 ?_) | fail)
      generalize v1.heap.size = g1 at *
      generalize (v1.alloc (.cells (mcs 0 0 (.slice none 0 0) (zs 32)).toArray 28)).setRow g1 Q1 = v2 at *
      go_wp2_with fail
      refine (rmani_any HP2.out.fts (by omega) E).mono ?_
      rintro e v3 ⟨⟨Q2, rfl, hm2⟩, hb3⟩
      rw [HG.out.2.2, HO.out] at hm2
      rw [HG.out.2.2, HO.out]
      obtain ⟨P2, e2, hs2, ha2⟩ := mv_agg hm2
      injection e2 with e2
      subst e2
      have hb4 := put_below (T := 28) (z := (mcs 0 0 (.slice none 0 0) (zs 32)).toArray) (N := Q2) hb3 hb3.size
      have HP4 := Lib.hid (HP2.out.on hb4)
      have HM3 := Lib.hid (HM1.out.below hb4 (fun _ _ h => h)).old
      have HW3 := Lib.hid (HW1.out.below hb4 HW1.out.lt)
      have HM4 := Lib.hid (hm2.old.below (put_below (T := 28) (z := (mcs 0 0 (.slice none 0 0) (zs 32)).toArray) (N := Q2) (Below.refl v3.heap.size v3) (Nat.le_refl _)) (fun _ _ h => h)).old
      have HW4 : Hid (Whole ((v3.alloc (.cells (mcs 0 0 (.slice none 0 0) (zs 32)).toArray 28)).setRow v3.heap.size Q2) v3.heap.size 28 Q2) := Lib.hid put_row
      clear hm2 hb3 hb4 HP2 HM1 HW1
      go_upto_region 20 with (first | ((with_reducible show wpList _ _ _ ((⟨_, Op.store 28 (.tmp 23) _, _, _, _, _⟩ : Oper) :: _) _ _); rw [zeroM]; refine wpList_store_row rfl _ (.tmp 23) (.tmp 92) rfl v3.heap.size Q2 rfl rfl 28 _ (Whole.new v3 _ _) (by rw [hs2]; exact info35) (by rw [hs2]; rfl) ha2 ?_) | fail)
      generalize v3.heap.size = g3 at *
      generalize (v3.alloc (.cells (mcs 0 0 (.slice none 0 0) (zs 32)).toArray 28)).setRow g3 Q2 = v4 at *
      go_wp2_with (first | ((with_reducible show wpList _ _ _ ((⟨_, Op.load 28 (.tmp 21), _, _, _, _⟩ : Oper) :: _) _ _); refine wpList_load_row rfl _ (.tmp 21) rfl g1 rfl 28 Q1 (0, 0) _ HW3.out Try.underlying28 rfl (by rw [hs1]; exact info35) ?_) | ((with_reducible show wpList _ _ _ ((⟨_, Op.load 28 (.tmp 23), _, _, _, _⟩ : Oper) :: _) _ _); refine wpList_load_row rfl _ (.tmp 23) rfl g3 rfl 28 Q2 (0, 0) _ HW4.out Try.underlying28 rfl (by rw [hs2]; exact info35) ?_) | fail)
      refine (rsame_any HM3.out HM4.out (Or.inl HOL.out)).mono ?_
      rintro e v5 ⟨t, rfl, ht, hb5⟩
      obtain rfl : t = true := ht.2 rfl
      have HPv5 := Lib.hid (HP4.out.on hb5)
      clear ht hb5 HP4 HM3 HM4 HW3 HW4 HOL HO
      generalize o.isSome = so at *
      have hso : (so == so) = true := by simp
      go_wp2_with fail
      refine (L.who N K E HPv5.out.own.fts HPv5.out.own.le (by omega) HG.out.1).mono ?_
      rintro e v6 ⟨q6, m6, p6, rfl, hp6, hn6, hb6⟩
      have HPv6 := Lib.hid (HPv5.out.on hb6)
      have HN6 := Lib.hid hn6.old
      clear hn6 hb6 HPv5
      go_wp2_with fail
      refine (rwho_any HPv6.out.fts (by omega) K E).mono ?_
      rintro e v7 ⟨q7, m7, p7, hm7, rfl, hown7, hb7⟩
      rw [HG.out.2.2] at hm7 hown7
      obtain rfl : m7 = m6 := by rw [hm7]; exact HN6.out.1
      have hm40 : m7 ≤ 1000000 := by
        have h1 := who_len (FS R2) K E
        have h2 := HPv6.out.own.len
        rw [FS_len, h2] at h1
        omega
      have HPv7 := Lib.hid (HPv6.out.on hb7)
      have HN7 := Lib.hid (HN6.out.below hb7 (fun _ _ h => h))
      have HN7' := Lib.hid (ns_own hown7 hm7.symm)
      clear hown7 hb7 hm7 HPv6 HN6
      go_wp2_with fail
      refine (nsame_any HN7.out HN7'.out hm40).mono ?_
      rintro e v8 ⟨rfl, hbn⟩
      have HPv8 := Lib.hid (HPv7.out.on hbn)
      clear hbn HPv7
      clear HN7 HN7' hm40
      go_wp2_with fail
      refine (L.aborted N E M HPv8.out.own.fts HPv8.out.own.le (by omega) HG.out.1).mono ?_
      rintro e v9 ⟨rfl, hbn⟩
      have HPv9 := Lib.hid (HPv8.out.on hbn)
      clear hbn HPv8
      go_wp2_with fail
      refine (raborted_any HPv9.out.fts (by omega) E M).mono ?_
      rintro e v10 ⟨rfl, hbn⟩
      have HPv10 := Lib.hid (HPv9.out.on hbn)
      clear hbn HPv9
      rw [HG.out.2.2]
      generalize decide (La.aborted (FS R2) E M) = ab at *
      have hab : (ab == ab) = true := by simp
      go_wp2_with fail
      refine (L.best N M HPv10.out.own.fts HPv10.out.own.le (by omega) HG.out.1).mono ?_
      rintro e v11 ⟨rfl, hbn⟩
      have HPv11 := Lib.hid (HPv10.out.on hbn)
      clear hbn HPv10
      go_wp2_with fail
      refine (rbest_any HPv11.out.fts (by omega) M).mono ?_
      rintro e v12 ⟨rfl, hbn⟩
      have HPv12 := Lib.hid (HPv11.out.on hbn)
      clear hbn HPv11
      rw [HG.out.2.2]
      generalize La.best (FS R2) M = bs at *
      have hbs : (bs == bs) = true := by simp
      go_wp2_with fail
      refine (L.next N HPv12.out.own.fts HPv12.out.own.le (by omega) HG.out.1).mono ?_
      rintro e v13 ⟨rfl, hbn⟩
      have HPv13 := Lib.hid (HPv12.out.on hbn)
      clear hbn HPv12
      go_wp2_with fail
      refine (rnext_any HPv13.out.fts (by omega)).mono ?_
      rintro e v14 ⟨rfl, rfl⟩
      rw [HG.out.2.2]
      generalize La.next (FS R2) = nx at *
      have hnx : (nx == nx) = true := by simp
      go_wp2_with fail
      refine (L.has N K E M HPv13.out.own.fts HPv13.out.own.le (by omega) HG.out.1).mono ?_
      rintro e v15 ⟨rfl, hbn⟩
      have HPv15 := Lib.hid (HPv13.out.on hbn)
      clear hbn HPv13
      go_wp2_with fail
      refine (rhas_any HPv15.out.fts (by omega) K E M).mono ?_
      rintro e v16 ⟨rfl, rfl⟩
      rw [HG.out.2.2]
      generalize decide (La.has (FS R2) K E M) = hs at *
      have hhs : (hs == hs) = true := by simp
      go_wp2
      go_ret
      exact ⟨rfl, HPv15.out.below⟩
    by_cases hlm : j < 40
    case neg =>
      have q : (j : Int) < (n : Int) := by omega
      have q2 : ¬ ((j : Int) < (40 : Int)) := by omega
      have HJ : Hid (Pair w wr (La.grown N (FS R) 40) a2 n2 c2 R2 a3 c3 R3) := Lib.hid (by have := HJ.out; rwa [show j = 40 by omega] at this)
      have HG : Hid (La.Good N (FS R2) ∧ FewR R2 ∧ FS R3 = FS R2) := Lib.hid ⟨by rw [HJ.out.fs]; exact La.grown_good _ _ _, fewR_of HJ.out.fs (fun f hf => La.grown_few hf), HJ.out.fs'.trans HJ.out.fs.symm⟩
      obtain ⟨o, ho⟩ : ∃ o, La.mani (FS R2) E = o := ⟨_, rfl⟩
      have HOL : Hid ((o.getD Mf.zero).ds.length ≤ 1000) := Lib.hid (by rw [← ho, HJ.out.fs]; exact mani_few (fun f hf => La.grown_few hf))
      have HO := Lib.hid ho
      clear ho
      go_wp2_with fail
      refine (L.mani N E HJ.out.own.fts HJ.out.own.le (by omega) HG.out.1 HG.out.2.1).mono ?_
      rintro e v1 ⟨⟨Q1, rfl, hm1⟩, hb1⟩
      rw [HO.out] at hm1
      rw [HO.out]
      obtain ⟨P1, e1, hs1, ha1⟩ := mv_agg hm1
      injection e1 with e1
      subst e1
      have HP2 := Lib.hid ((HJ.out.on hb1).on (put_below (T := 28) (z := (mcs 0 0 (.slice none 0 0) (zs 32)).toArray) (N := Q1) (Below.refl _ _) (Nat.le_refl _)))
      have HM1 := Lib.hid (hm1.old.below (put_below (T := 28) (z := (mcs 0 0 (.slice none 0 0) (zs 32)).toArray) (N := Q1) (Below.refl v1.heap.size v1) (Nat.le_refl _)) (fun _ _ h => h)).old
      have HW1 : Hid (Whole ((v1.alloc (.cells (mcs 0 0 (.slice none 0 0) (zs 32)).toArray 28)).setRow v1.heap.size Q1) v1.heap.size 28 Q1) := Lib.hid put_row
      clear hm1 hb1 HJ
      go_upto_region 19 with (first | ((with_reducible show wpList _ _ _ ((⟨_, Op.store 28 (.tmp 21) _, _, _, _, _⟩ : Oper) :: _) _ _); rw [zeroM]; refine wpList_store_row rfl _ (.tmp 21) (.tmp 86) rfl v1.heap.size Q1 rfl rfl 28 _ (Whole.new v1 _ _) (by rw [hs1]; exact info35) (by rw [hs1]; rfl) ha1 ?_) | fail)
      generalize v1.heap.size = g1 at *
      generalize (v1.alloc (.cells (mcs 0 0 (.slice none 0 0) (zs 32)).toArray 28)).setRow g1 Q1 = v2 at *
      go_wp2_with fail
      refine (rmani_any HP2.out.fts (by omega) E).mono ?_
      rintro e v3 ⟨⟨Q2, rfl, hm2⟩, hb3⟩
      rw [HG.out.2.2, HO.out] at hm2
      rw [HG.out.2.2, HO.out]
      obtain ⟨P2, e2, hs2, ha2⟩ := mv_agg hm2
      injection e2 with e2
      subst e2
      have hb4 := put_below (T := 28) (z := (mcs 0 0 (.slice none 0 0) (zs 32)).toArray) (N := Q2) hb3 hb3.size
      have HP4 := Lib.hid (HP2.out.on hb4)
      have HM3 := Lib.hid (HM1.out.below hb4 (fun _ _ h => h)).old
      have HW3 := Lib.hid (HW1.out.below hb4 HW1.out.lt)
      have HM4 := Lib.hid (hm2.old.below (put_below (T := 28) (z := (mcs 0 0 (.slice none 0 0) (zs 32)).toArray) (N := Q2) (Below.refl v3.heap.size v3) (Nat.le_refl _)) (fun _ _ h => h)).old
      have HW4 : Hid (Whole ((v3.alloc (.cells (mcs 0 0 (.slice none 0 0) (zs 32)).toArray 28)).setRow v3.heap.size Q2) v3.heap.size 28 Q2) := Lib.hid put_row
      clear hm2 hb3 hb4 HP2 HM1 HW1
      go_upto_region 20 with (first | ((with_reducible show wpList _ _ _ ((⟨_, Op.store 28 (.tmp 23) _, _, _, _, _⟩ : Oper) :: _) _ _); rw [zeroM]; refine wpList_store_row rfl _ (.tmp 23) (.tmp 92) rfl v3.heap.size Q2 rfl rfl 28 _ (Whole.new v3 _ _) (by rw [hs2]; exact info35) (by rw [hs2]; rfl) ha2 ?_) | fail)
      generalize v3.heap.size = g3 at *
      generalize (v3.alloc (.cells (mcs 0 0 (.slice none 0 0) (zs 32)).toArray 28)).setRow g3 Q2 = v4 at *
      go_wp2_with (first | ((with_reducible show wpList _ _ _ ((⟨_, Op.load 28 (.tmp 21), _, _, _, _⟩ : Oper) :: _) _ _); refine wpList_load_row rfl _ (.tmp 21) rfl g1 rfl 28 Q1 (0, 0) _ HW3.out Try.underlying28 rfl (by rw [hs1]; exact info35) ?_) | ((with_reducible show wpList _ _ _ ((⟨_, Op.load 28 (.tmp 23), _, _, _, _⟩ : Oper) :: _) _ _); refine wpList_load_row rfl _ (.tmp 23) rfl g3 rfl 28 Q2 (0, 0) _ HW4.out Try.underlying28 rfl (by rw [hs2]; exact info35) ?_) | fail)
      refine (rsame_any HM3.out HM4.out (Or.inl HOL.out)).mono ?_
      rintro e v5 ⟨t, rfl, ht, hb5⟩
      obtain rfl : t = true := ht.2 rfl
      have HPv5 := Lib.hid (HP4.out.on hb5)
      clear ht hb5 HP4 HM3 HM4 HW3 HW4 HOL HO
      generalize o.isSome = so at *
      have hso : (so == so) = true := by simp
      go_wp2_with fail
      refine (L.who N K E HPv5.out.own.fts HPv5.out.own.le (by omega) HG.out.1).mono ?_
      rintro e v6 ⟨q6, m6, p6, rfl, hp6, hn6, hb6⟩
      have HPv6 := Lib.hid (HPv5.out.on hb6)
      have HN6 := Lib.hid hn6.old
      clear hn6 hb6 HPv5
      go_wp2_with fail
      refine (rwho_any HPv6.out.fts (by omega) K E).mono ?_
      rintro e v7 ⟨q7, m7, p7, hm7, rfl, hown7, hb7⟩
      rw [HG.out.2.2] at hm7 hown7
      obtain rfl : m7 = m6 := by rw [hm7]; exact HN6.out.1
      have hm40 : m7 ≤ 1000000 := by
        have h1 := who_len (FS R2) K E
        have h2 := HPv6.out.own.len
        rw [FS_len, h2] at h1
        omega
      have HPv7 := Lib.hid (HPv6.out.on hb7)
      have HN7 := Lib.hid (HN6.out.below hb7 (fun _ _ h => h))
      have HN7' := Lib.hid (ns_own hown7 hm7.symm)
      clear hown7 hb7 hm7 HPv6 HN6
      go_wp2_with fail
      refine (nsame_any HN7.out HN7'.out hm40).mono ?_
      rintro e v8 ⟨rfl, hbn⟩
      have HPv8 := Lib.hid (HPv7.out.on hbn)
      clear hbn HPv7
      clear HN7 HN7' hm40
      go_wp2_with fail
      refine (L.aborted N E M HPv8.out.own.fts HPv8.out.own.le (by omega) HG.out.1).mono ?_
      rintro e v9 ⟨rfl, hbn⟩
      have HPv9 := Lib.hid (HPv8.out.on hbn)
      clear hbn HPv8
      go_wp2_with fail
      refine (raborted_any HPv9.out.fts (by omega) E M).mono ?_
      rintro e v10 ⟨rfl, hbn⟩
      have HPv10 := Lib.hid (HPv9.out.on hbn)
      clear hbn HPv9
      rw [HG.out.2.2]
      generalize decide (La.aborted (FS R2) E M) = ab at *
      have hab : (ab == ab) = true := by simp
      go_wp2_with fail
      refine (L.best N M HPv10.out.own.fts HPv10.out.own.le (by omega) HG.out.1).mono ?_
      rintro e v11 ⟨rfl, hbn⟩
      have HPv11 := Lib.hid (HPv10.out.on hbn)
      clear hbn HPv10
      go_wp2_with fail
      refine (rbest_any HPv11.out.fts (by omega) M).mono ?_
      rintro e v12 ⟨rfl, hbn⟩
      have HPv12 := Lib.hid (HPv11.out.on hbn)
      clear hbn HPv11
      rw [HG.out.2.2]
      generalize La.best (FS R2) M = bs at *
      have hbs : (bs == bs) = true := by simp
      go_wp2_with fail
      refine (L.next N HPv12.out.own.fts HPv12.out.own.le (by omega) HG.out.1).mono ?_
      rintro e v13 ⟨rfl, hbn⟩
      have HPv13 := Lib.hid (HPv12.out.on hbn)
      clear hbn HPv12
      go_wp2_with fail
      refine (rnext_any HPv13.out.fts (by omega)).mono ?_
      rintro e v14 ⟨rfl, rfl⟩
      rw [HG.out.2.2]
      generalize La.next (FS R2) = nx at *
      have hnx : (nx == nx) = true := by simp
      go_wp2_with fail
      refine (L.has N K E M HPv13.out.own.fts HPv13.out.own.le (by omega) HG.out.1).mono ?_
      rintro e v15 ⟨rfl, hbn⟩
      have HPv15 := Lib.hid (HPv13.out.on hbn)
      clear hbn HPv13
      go_wp2_with fail
      refine (rhas_any HPv15.out.fts (by omega) K E M).mono ?_
      rintro e v16 ⟨rfl, rfl⟩
      rw [HG.out.2.2]
      generalize decide (La.has (FS R2) K E M) = hs at *
      have hhs : (hs == hs) = true := by simp
      go_wp2
      go_ret
      exact ⟨rfl, HPv15.out.below⟩
    have q : (j : Int) < (n : Int) := by omega
    have q2 : (j : Int) < (40 : Int) := by omega
    obtain ⟨b, off, rfl, _, hbl, hrg, hrw⟩ := (H.out.below HJ.out.below (fun _ _ h => h) (fun _ _ h => h)).at_ hlt
    obtain ⟨y, hy⟩ : ∃ y, R.getD j d0 = y := ⟨_, rfl⟩
    have hs := grown_snoc N (FS R) (j := j) (by rw [HLN.out]; exact hlt)
    rw [FS_get] at hs
    rw [hy] at hrg hrw hs
    have iY := info_fact hrw
    have und := Try.underlying30
    have HS := Lib.hid hs
    have HY := Lib.hid (And.intro hrw (fc_len hrw))
    have HRG := Lib.hid (And.intro hrg hbl)
    have HG : Hid (La.Good N (FS R2) ∧ FewR R2 ∧ FS R3 = FS R2) := Lib.hid ⟨by rw [HJ.out.fs]; exact La.grown_good _ _ _, fewR_of HJ.out.fs (fun f hf => La.grown_few hf), HJ.out.fs'.trans HJ.out.fs.symm⟩
    clear hs hrw hrg hy hbl
    go_wp2_with (first | ((with_reducible show wpList _ _ _ ((⟨_, Op.load 30 (.tmp 45), _, _, _, _⟩ : Oper) :: _) _ _); refine wpList_load_midG (by rfl) _ (.tmp 45) rfl b (off + j * 38) rfl (fc y) _ HRG.out.1 und rfl iY ?_) | fail)
    refine (few_any HY.out.1.fv).mono ?_
    rintro e v3 ⟨rfl, hb3⟩
    have HP3 := Lib.hid (HJ.out.on hb3)
    have HRG3 := Lib.hid (And.intro (range_below HRG.out.1 hb3 HRG.out.2) (Nat.lt_of_lt_of_le HRG.out.2 hb3.size))
    have HY3 := Lib.hid (HY.out.1.below hb3 (fun b h _ => h))
    clear hb3 HRG HJ
    by_cases hf : y.1.man.ds.length ≤ 100
    case neg =>
      have HS' : Hid (La.grown N (FS R) (j + 1) = La.grown N (FS R) j) := Lib.hid (by rw [HS.out, if_neg]; unfold La.few; simpa using hf)
      rw [decide_eq_false hf]
      clear hf HS
      go_wp2
      exact ⟨⟨j + 1, n2, c2, c3, a2, a3, R2, R3, by omega, by omega, by omega, rfl, rfl, by go_num, Lib.hid (by rw [HS'.out]; exact HP3.out)⟩, by simp [intOf]; omega⟩
    have HS' : Hid (La.grown N (FS R) (j + 1) = (La.add N (FS R2) y.1).1) := Lib.hid (by rw [HS.out, if_pos (by unfold La.few; simpa using hf), La.merge_one, HP3.out.fs])
    rw [decide_eq_true hf]
    have HFY := Lib.hid hf
    clear hf HS
    obtain ⟨k, hk⟩ : ∃ k, (La.add N (FS R2) y.1).2 = k := ⟨_, rfl⟩
    have HK := Lib.hid hk
    clear hk
    go_wp2_with (first | ((with_reducible show wpList _ _ _ ((⟨_, Op.load 30 (.tmp 55), _, _, _, _⟩ : Oper) :: _) _ _); refine wpList_load_midG (by rfl) _ (.tmp 55) rfl b (off + j * 38) rfl (fc y) _ HRG3.out.1 und rfl iY ?_) | fail)
    refine (L.add N HP3.out.own.fts HP3.out.own.le (by omega) HG.out.1 HG.out.2.1 HY3.out HFY.out).mono ?_
    rintro e v4 ⟨a4, n4, c4, R4, rfl, ho4, hl4, hb4⟩
    rw [HK.out]
    have HP4 := Lib.hid (HP3.out.on hb4)
    have HO4 := Lib.hid (And.intro (ho4.mono HP3.out.below.size) hl4)
    have HRG4 := Lib.hid (And.intro (range_below HRG3.out.1 hb4 HRG3.out.2) (Nat.lt_of_lt_of_le HRG3.out.2 hb4.size))
    have HY4 := Lib.hid (HY3.out.below hb4 (fun b h hd => Nat.lt_of_lt_of_le hd HP3.out.below.size))
    clear ho4 hl4 hb4 HP3 HRG3 HY3
    go_wp2_with (first | ((with_reducible show wpList _ _ _ ((⟨_, Op.load 30 (.tmp 65), _, _, _, _⟩ : Oper) :: _) _ _); refine wpList_load_midG (by rfl) _ (.tmp 65) rfl b (off + j * 38) rfl (fc y) _ HRG4.out.1 und rfl iY ?_) | fail)
    refine (radd_any HP4.out.fts HP4.out.le (by omega) HY4.out N).mono ?_
    rintro e v5 ⟨a5, n5, c5, R5, rfl, hc5, hf5, hl5, hb5⟩
    rw [HG.out.2.2, HK.out]
    have hn54 : n5 = n4 := by
      have h1 := congrArg List.length (hl5.trans ((by rw [HG.out.2.2] : (La.add N (FS R3) y.1).1 = (La.add N (FS R2) y.1).1).trans HO4.out.2.symm))
      rw [FS_len, FS_len, hf5.1, HO4.out.1.len] at h1
      exact h1
    subst hn54
    have HJ5 : Hid (Pair w v5 (La.grown N (FS R) (j + 1)) a4 n5 c4 R4 a5 c5 R5) := Lib.hid ⟨HO4.out.1.below hb5, by rw [HO4.out.2, HS'.out], hc5, hf5.old, by rw [hl5, HG.out.2.2, HS'.out], HP4.out.below.trans (hb5.mono HP4.out.below.size)⟩
    have hn5 : n5 ≤ 40 := by
      have h1 := HJ5.out.own.len
      have h2 := La.grown_len N (FS R) (j + 1)
      rw [← HJ5.out.fs, FS_len] at h2
      omega
    clear hc5 hf5 hl5 hb5 HO4 HP4 HRG4 HY4 HS' HG HK
    go_wp2_with fail
    refine (rlsame_any HJ5.out.own.fts HJ5.out.fts (by omega) (by omega) (fun z hz => Nat.le_trans (fewR_of HJ5.out.fs (fun f hf => La.grown_few hf) z hz) (by omega))).mono ?_
    rintro e v6 ⟨t, rfl, ht, hb6⟩
    obtain rfl : t = true := ht.2 (HJ5.out.fs.trans HJ5.out.fs'.symm)
    have HJ6 := Lib.hid (HJ5.out.on hb6)
    have hkk : (k != k) = false := by simp
    clear ht hb6 HJ5
    go_wp2
    exact ⟨⟨j + 1, n5, c4, c5, a4, a5, R4, R5, by omega, by omega, by omega, rfl, rfl, by go_num, HJ6⟩, by simp [intOf]; omega⟩
end Go.Proofs.Ytdfmfjahnnifnaa
