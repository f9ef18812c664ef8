/-
  The walk of the document's Decode of facts.
-/
import Derived.Test.YtcfchkffanfehaaIl
namespace Ft
open Go.Proofs.Ytcfchkffanfehaa
theorem getN_step {l : List Int} (hb : Byt l) {v : Int} {i : Nat} (h : Cd.getN l = (v, i)) (least most : Int) :
    (i = 0 → Cd.get least most l = none) ∧ (i ≠ 0 → i ≤ l.length ∧ Cd.get least most l = if least ≤ v ∧ v ≤ most then some (v, l.drop i) else none) := by
  cases e1 : Cd.parse l with
  | none =>
    have hg := Cd.getN_none e1
    rw [hg] at h
    injection h with ha hb'
    exact ⟨fun _ => by unfold Cd.get; rw [e1], fun hi => absurd hb'.symm hi⟩
  | some x =>
    obtain ⟨u, r⟩ := x
    rw [Mf.getN_some e1] at h
    injection h with ha hj
    obtain ⟨_, _, hl⟩ := Cd.parse_enc e1 hb
    have hlen := congrArg List.length hl
    rw [List.length_append] at hlen
    have hp := Cd.encU_pos u.toNat
    have hdr : l.drop i = r := by
      rw [show i = (Cd.encU u.toNat).length by omega, hl]
      exact List.drop_left
    refine ⟨fun hi => by omega, fun _ => ⟨by omega, ?_⟩⟩
    unfold Cd.get
    rw [e1, hdr]
    simp only [ha]
def Bad (k n : Int) (i j q : Nat) : Prop := i = 0 ∨ j = 0 ∨ q = 0 ∨ k < 1 ∨ 3 < k ∨ n < 0 ∨ 8 < n
theorem dec_getN {b : List Int} (hb : Byt b) {k e n : Int} {i j q : Nat} (h1 : Cd.getN b = (k, i)) (h2 : Cd.getN (b.drop i) = (e, j)) (h3 : Cd.getN (b.drop (i + j)) = (n, q)) :
    (Bad k n i j q → dec b = none) ∧ (¬ Bad k n i j q → i + j + q ≤ b.length ∧ dec b = if 16 ≤ e ∧ e ≤ 1099511627776 then fine (decT k e n (b.drop (i + j + q)) (b.length : Nat)) else none) := by
  have s1 := getN_step hb h1 1 3
  have s2 := getN_step (byt_drop hb i) h2 16 1099511627776
  have s3 := getN_step (byt_drop hb (i + j)) h3 0 8
  rw [List.drop_drop, List.length_drop] at s2
  rw [List.drop_drop, List.length_drop] at s3
  have step1 : i = 0 ∨ k < 1 ∨ 3 < k → dec b = none := by
    intro h
    unfold dec decM
    by_cases hi : i = 0
    · rw [s1.1 hi]
    · rw [(s1.2 hi).2, if_neg (by omega)]
  have step2 : i ≠ 0 → j = 0 → dec b = none := by
    intro hi h
    unfold dec decM
    rw [(s1.2 hi).2]
    by_cases hk : 1 ≤ k ∧ k ≤ 3
    · rw [if_pos hk]
      simp only
      rw [s2.1 h]
    · rw [if_neg hk]
  have full : i ≠ 0 → j ≠ 0 → 1 ≤ k ∧ k ≤ 3 → dec b = if 16 ≤ e ∧ e ≤ 1099511627776 then (match Cd.get 0 8 (b.drop (i + j)) with | none => none | some (n, r3) => fine (decT k e n r3 (b.length : Nat))) else none := by
    intro hi hj hk
    unfold dec decM
    rw [(s1.2 hi).2, if_pos hk]
    simp only
    rw [(s2.2 hj).2]
    by_cases he : 16 ≤ e ∧ e ≤ 1099511627776
    · simp only [if_pos he]
      rfl
    · simp only [if_neg he]
  constructor
  · intro hbad
    by_cases hi : i = 0
    · exact step1 (Or.inl hi)
    by_cases hk : 1 ≤ k ∧ k ≤ 3
    · by_cases hj : j = 0
      · exact step2 hi hj
      · rw [full hi hj hk]
        by_cases he : 16 ≤ e ∧ e ≤ 1099511627776
        · rw [if_pos he]
          by_cases hq : q = 0
          · rw [s3.1 hq]
          · have hn : ¬ (0 ≤ n ∧ n ≤ 8) := by unfold Bad at hbad; omega
            rw [(s3.2 hq).2, if_neg hn]
        · rw [if_neg he]
    · exact step1 (by omega)
  · intro hbad
    unfold Bad at hbad
    have hi : i ≠ 0 := by omega
    have hj : j ≠ 0 := by omega
    have hq : q ≠ 0 := by omega
    refine ⟨by have := (s1.2 hi).1; have := (s2.2 hj).1; have := (s3.2 hq).1; omega, ?_⟩
    rw [full hi hj (by omega)]
    by_cases he : 16 ≤ e ∧ e ≤ 1099511627776
    · rw [if_pos he, if_pos he, (s3.2 hq).2, if_pos (by omega)]
    · rw [if_neg he, if_neg he]
/-- The text that a rest begins with, of at most 4000 bytes; none: no bytes. -/
def txt4 (r : List Int) : List Int := match Co.txtOf 4000 r with
  | some (t, _) => t
  | none => []
def manOf (l : List Int) : Mf.Man := (Mf.dec l).getD Mf.zero
def candM (k : Int) (r : List Int) : Mf.Man := if k = 1 then manOf (txt4 r) else Mf.zero
theorem manOf_wf {l : List Int} (hb : Byt l) : (∀ d ∈ (manOf l).ds, Dig d) ∧ Dig (manOf l).wh := by
  unfold manOf
  cases h : Mf.dec l with
  | none => exact ⟨(fun d hd => by cases hd), ⟨rfl, byt_zeros 32⟩⟩
  | some m => exact (Mf.dec_some hb h).2.2
theorem txt4_byt {r : List Int} (hb : Byt r) : Byt (txt4 r) := by
  unfold txt4
  cases h : Co.txtOf 4000 r with
  | none => exact byt_nil
  | some x =>
    obtain ⟨t, q⟩ := x
    exact byt_left (b := q) (byt_right (a := Cd.num (t.length : Nat)) (by rw [← (txt_some hb h).1]; exact hb))
theorem txt4_le (r : List Int) (hb : Byt r) : (txt4 r).length ≤ 4000 := by
  unfold txt4
  cases h : Co.txtOf 4000 r with
  | none => exact Nat.zero_le _
  | some x =>
    obtain ⟨t, q⟩ := x
    have := (txt_some hb h).2
    show t.length ≤ 4000
    omega
theorem cand_wf {k e n : Int} {r : List Int} (hb : Byt r) : Fact.wf ⟨k, e, n, candM k r⟩ := by
  unfold Fact.wf candM
  by_cases hk : k = 1
  · rw [if_pos hk]; exact manOf_wf (txt4_byt hb)
  · rw [if_neg hk]; exact ⟨(fun d hd => by cases hd), ⟨rfl, byt_zeros 32⟩⟩
/-- The candidate is the fact that bytes are, or there is none. -/
theorem dec_cand {b : List Int} (hb : Byt b) {k e n : Int} {r : List Int} (hr : Byt r) (h : dec b = if 16 ≤ e ∧ e ≤ 1099511627776 then fine (decT k e n r (b.length : Nat)) else none) :
    (Fact.ok ⟨k, e, n, candM k r⟩ 9 ∧ Fact.bytes ⟨k, e, n, candM k r⟩ = b → dec b = some ⟨k, e, n, candM k r⟩) ∧
    (¬ (Fact.ok ⟨k, e, n, candM k r⟩ 9 ∧ Fact.bytes ⟨k, e, n, candM k r⟩ = b) → dec b = none) := by
  constructor
  · intro hh
    rw [← hh.2]
    rw [hh.2]
    have := dec_bytes hh.1 (cand_wf (k := k) (e := e) (n := n) hr)
    rw [hh.2] at this
    exact this
  · intro hh
    cases hd : dec b with
    | none => rfl
    | some f =>
      exfalso
      apply hh
      obtain ⟨f1, f2, f3⟩ := dec_some hb hd
      rw [hd] at h
      split at h
      · have key : f = ⟨k, e, n, candM k r⟩ := by
          cases hT : decT k e n r (b.length : Nat) with
          | none => rw [hT] at h; cases h
          | some g =>
            rw [hT] at h
            unfold fine at h
            simp only at h
            split at h
            · injection h with h
              subst h
              unfold decT at hT
              unfold candM
              by_cases hk : k = 1
              · rw [if_pos hk] at hT ⊢
                cases e5 : Co.txtOf (b.length : Nat) r with
                | none => rw [e5] at hT; cases hT
                | some u =>
                  obtain ⟨t, q⟩ := u
                  rw [e5] at hT
                  simp only at hT
                  obtain ⟨g1, _⟩ := txt_some hr e5
                  cases e6 : Mf.dec t with
                  | none => rw [e6] at hT; cases hT
                  | some m =>
                    rw [e6] at hT
                    simp only at hT
                    split at hT
                    · rename_i hq
                      injection hT with hT
                      subst hT hq
                      have hbt : Byt t := byt_left (b := []) (byt_right (a := Cd.num (t.length : Nat)) (by rw [← g1]; exact hr))
                      obtain ⟨m1, m2, m3, m4⟩ := Mf.dec_some hbt e6
                      have hle : t.length ≤ 2100 := by rw [← m2]; exact body_le m1 m3 m4
                      have : txt4 r = t := by
                        unfold txt4
                        rw [g1, txt_back (by omega) (by omega)]
                      rw [this]
                      unfold manOf
                      rw [e6]
                      rfl
                    · cases hT
              · rw [if_neg hk] at hT ⊢
                split at hT
                · injection hT with hT
                  exact hT.symm
                · cases hT
            · cases h
        subst key
        exact ⟨f1, f3⟩
      · cases h
end Ft
namespace Go.Proofs.Ytcfchkffanfehaa
set_option maxRecDepth 20000
set_option linter.unusedSimpArgs false
set_option linter.unusedVariables false
open Go.RowKit
theorem decd_man {w w' : World} {l : List Int} {e : Ending} (h : Decd w l e w') : (∃ Q x, e = .returned (.tuple #[.agg Q, .int .i64 x]) ∧ Q.size = 35 ∧ (Q.all fun x => x.oneCell') = true ∧ Mv w' (w.heap.size ≤ ·) (.agg Q) (Ft.manOf l)) ∧ Below w.heap.size w w' := by
  obtain ⟨h1, h2⟩ := h
  refine ⟨?_, h2⟩
  rcases h1 with ⟨v, m, hd, rfl, hm⟩ | ⟨hd, rfl⟩
  · obtain ⟨P, rfl, hs, ha⟩ := mv_agg hm
    exact ⟨P, 0, rfl, hs, ha, by unfold Ft.manOf; rw [hd]; exact hm⟩
  · exact ⟨zm, 50, rfl, zm_size, mcs_one rfl, by unfold Ft.manOf; rw [hd]; exact zm_mv _ _⟩
theorem got4 {w w' : World} {S : Nat → Prop} {r : List Int} {e : Ending} (hb : Byt r) (h : Co.GotT w S r (Co.txtOf 4000 r) e w') :
    ∃ a n c x, e = .returned (.tuple #[.slice a n c, .int .i64 x]) ∧ Txt w' (fun _ => True) a n c (Ft.txt4 r) ∧ n ≤ 4000 ∧ Below w.heap.size w w' := by
  have hle := Ft.txt4_le r hb
  obtain ⟨hbl, h⟩ := h
  unfold Ft.txt4 at hle ⊢
  cases ho : Co.txtOf 4000 r with
  | none =>
    rw [ho] at h hle
    exact ⟨none, 0, 0, 0, h, Txt.nil _ _ _ _, by omega, hbl⟩
  | some x =>
    obtain ⟨t, q⟩ := x
    rw [ho] at h hle
    obtain ⟨a, c, he, ht, _⟩ := h
    exact ⟨a, _, c, _, he, ht.weak (fun _ _ _ => trivial), hle, hbl⟩
set_option maxHeartbeats 8000000 in
theorem rfdecode_any {w : World} {S : Nat → Prop} {a : Option Addr} {n c : Nat} {l : List Int} (ht : Txt w S a n c l) (hn : n ≤ 1000000) :
    Calls Try.prog 24 #[.slice a n c] w (Decf w l) := by
  have HT := Lib.hid ht.old
  have HLN := Lib.hid ht.1
  have HBY := Lib.hid (show Byt l from ht.2.2.1)
  clear ht
  have hg1 := Mf.getN_le HBY.out
  obtain ⟨k, i, hG1⟩ : ∃ k i, Cd.getN l = (k, i) := ⟨_, _, rfl⟩
  rw [hG1] at hg1
  have hg2 := Mf.getN_le (byt_drop HBY.out i)
  obtain ⟨ep, j, hG2⟩ : ∃ ep j, Cd.getN (l.drop i) = (ep, j) := ⟨_, _, rfl⟩
  rw [hG2] at hg2
  have hg3 := Mf.getN_le (byt_drop HBY.out (i + j))
  obtain ⟨nd, q, hG3⟩ : ∃ nd q, Cd.getN (l.drop (i + j)) = (nd, q) := ⟨_, _, rfl⟩
  rw [hG3] at hg3
  rw [List.length_drop] at hg2 hg3
  have hin : i ≤ n := by rw [← HLN.out]; exact hg1.1
  have hijn : i + j ≤ n := by have := hg2.1; rw [HLN.out] at this; omega
  have hijq : i + j + q ≤ n := by have := hg3.1; rw [HLN.out] at this; omega
  have HDG := Lib.hid (Ft.dec_getN HBY.out hG1 hG2 hG3)
  have HIN := Lib.hid (show In64 k ∧ In64 ep ∧ In64 nd from ⟨hg1.2, hg2.2, hg3.2⟩)
  have HG := Lib.hid (And.intro hG1 (And.intro hG2 hG3))
  obtain ⟨A1, hA1, HT1⟩ : ∃ A, (∀ w, (Instr.slice 30 (.slice a n c) (some (.int .i64 (i : Int))) none none).run Try.prog w = .ok (.slice A (n - i) (c - i)) w) ∧ Hid (Txt w (fun b => b < w.heap.size) A (n - i) (c - i) (l.drop i)) := ⟨_, slice_from hin, Lib.hid (HT.out.drop i hin)⟩
  obtain ⟨I, hI⟩ : ∃ I, i + j = I := ⟨_, rfl⟩
  rw [hI] at hijn hijq HDG HG
  obtain ⟨A2, hA2, HT2⟩ : ∃ A, (∀ w, (Instr.slice 30 (.slice a n c) (some (.int .i64 (I : Int))) none none).run Try.prog w = .ok (.slice A (n - I) (c - I)) w) ∧ Hid (Txt w (fun b => b < w.heap.size) A (n - I) (c - I) (l.drop I)) := ⟨_, slice_from hijn, Lib.hid (HT.out.drop I hijn)⟩
  obtain ⟨J, hJ⟩ : ∃ J, I + q = J := ⟨_, rfl⟩
  rw [hJ] at hijq HDG
  obtain ⟨A3, hA3, HT3⟩ : ∃ A, (∀ w, (Instr.slice 30 (.slice a n c) (some (.int .i64 (J : Int))) none none).run Try.prog w = .ok (.slice A (n - J) (c - J)) w) ∧ Hid (Txt w (fun b => b < w.heap.size) A (n - J) (c - J) (l.drop J)) := ⟨_, slice_from hijq, Lib.hid (HT.out.drop J hijq)⟩
  have hI' : (i : Int) + (j : Int) = (I : Int) := by omega
  have hJ' : (I : Int) + (q : Int) = (J : Int) := by omega
  have HIJ := Lib.hid (And.intro hI hJ)
  clear hG1 hG2 hG3 hg1 hg2 hg3 hI hJ hin
  go_enter Try.func24, Try.ntmps24
  go_wp2_with fail
  rw [zeroF]
  have HX1 := Lib.hid (Whole.new w 28 zf)
  have HB1 := Lib.hid (below_alloc w (.cells zf 28))
  have hX1 : w.heap.size < (w.alloc (.cells zf 28)).heap.size := HX1.out.lt
  generalize w.alloc (.cells zf 28) = w1 at *
  refine (Co.get_ref (HT.out.below HB1.out (fun _ _ h => h)) hn).mono ?_
  rintro e w2 ⟨rfl, hb2⟩
  rw [HG.out.1]
  have HB2 := Lib.hid (show Below w1.heap.size w1 w2 from hb2)
  clear hb2
  dsimp only
  go_wp2_with fail
  refine (Co.get_ref (HT1.out.below (HB1.out.trans (HB2.out.mono (Nat.le_of_lt hX1))) (fun _ _ h => h)) (by omega)).mono ?_
  rintro e w3 ⟨rfl, hb3⟩
  rw [HG.out.2.1]
  have HB3 := Lib.hid (show Below w1.heap.size w1 w3 from HB2.out.trans (hb3.mono HB2.out.size))
  clear hb3 HB2
  dsimp only
  go_wp2_with fail
  refine (Co.get_ref (HT2.out.below (HB1.out.trans (HB3.out.mono (Nat.le_of_lt hX1))) (fun _ _ h => h)) (by omega)).mono ?_
  rintro e w4 ⟨rfl, hb4⟩
  rw [HG.out.2.2]
  have HB4 := Lib.hid (show Below w1.heap.size w1 w4 from HB3.out.trans (hb4.mono HB3.out.size))
  clear hb4 HB3
  dsimp only
  have HX := Lib.hid (HX1.out.below HB4.out hX1)
  have HBL := Lib.hid (HB1.out.trans (HB4.out.mono (Nat.le_of_lt hX1)))
  by_cases hbad : Ft.Bad k nd i j q
  · have HD0 := Lib.hid (HDG.out.1 hbad)
    clear HDG HG
    unfold Ft.Bad at hbad
    by_cases c1 : i = 0
    · have d1 : ((i : Int) == 0) = true := by simp [c1]
      clear hbad
      go_wp2_with (first | ((with_reducible show wpList _ _ _ ((⟨_, Op.build 28 _, _, _, _, _⟩ : Oper) :: _) _ _); refine wpList_built rfl _ rfl _ rfl _ built_f0 ?_) | ((with_reducible show wpList _ _ _ ((⟨_, Op.store 28 _ _, _, _, _, _⟩ : Oper) :: _) _ _); refine wpList_store_row rfl _ (.tmp 2) (.tmp 64) rfl w.heap.size zf rfl rfl 28 _ HX.out (by rw [zf_size]; exact info38) rfl zf_one ?_) | fail)
      refine bodyPost_ret (results_cell_one rfl _ _ _ _ rfl (loadVar38 (HX.out.row zf) zf_size)) rfl ?_
      exact ⟨Or.inr ⟨HD0.out, rfl⟩, below_row HBL.out (Nat.le_refl _) zf⟩
    have d1 : ((i : Int) == 0) = false := by simp [c1]
    by_cases c2 : j = 0
    · have d2 : ((j : Int) == 0) = true := by simp [c2]
      clear hbad
      go_wp2_with (first | ((with_reducible show wpList _ _ _ ((⟨_, Op.build 28 _, _, _, _, _⟩ : Oper) :: _) _ _); refine wpList_built rfl _ rfl _ rfl _ built_f0 ?_) | ((with_reducible show wpList _ _ _ ((⟨_, Op.store 28 _ _, _, _, _, _⟩ : Oper) :: _) _ _); refine wpList_store_row rfl _ (.tmp 2) (.tmp 64) rfl w.heap.size zf rfl rfl 28 _ HX.out (by rw [zf_size]; exact info38) rfl zf_one ?_) | fail)
      refine bodyPost_ret (results_cell_one rfl _ _ _ _ rfl (loadVar38 (HX.out.row zf) zf_size)) rfl ?_
      exact ⟨Or.inr ⟨HD0.out, rfl⟩, below_row HBL.out (Nat.le_refl _) zf⟩
    have d2 : ((j : Int) == 0) = false := by simp [c2]
    by_cases c3 : q = 0
    · have d3 : ((q : Int) == 0) = true := by simp [c3]
      clear hbad
      go_wp2_with (first | ((with_reducible show wpList _ _ _ ((⟨_, Op.build 28 _, _, _, _, _⟩ : Oper) :: _) _ _); refine wpList_built rfl _ rfl _ rfl _ built_f0 ?_) | ((with_reducible show wpList _ _ _ ((⟨_, Op.store 28 _ _, _, _, _, _⟩ : Oper) :: _) _ _); refine wpList_store_row rfl _ (.tmp 2) (.tmp 64) rfl w.heap.size zf rfl rfl 28 _ HX.out (by rw [zf_size]; exact info38) rfl zf_one ?_) | fail)
      refine bodyPost_ret (results_cell_one rfl _ _ _ _ rfl (loadVar38 (HX.out.row zf) zf_size)) rfl ?_
      exact ⟨Or.inr ⟨HD0.out, rfl⟩, below_row HBL.out (Nat.le_refl _) zf⟩
    have d3 : ((q : Int) == 0) = false := by simp [c3]
    by_cases c4 : k < 1
    · have d4 : decide (k < (1 : Int)) = true := decide_eq_true c4
      clear hbad
      go_wp2_with (first | ((with_reducible show wpList _ _ _ ((⟨_, Op.build 28 _, _, _, _, _⟩ : Oper) :: _) _ _); refine wpList_built rfl _ rfl _ rfl _ built_f0 ?_) | ((with_reducible show wpList _ _ _ ((⟨_, Op.store 28 _ _, _, _, _, _⟩ : Oper) :: _) _ _); refine wpList_store_row rfl _ (.tmp 2) (.tmp 64) rfl w.heap.size zf rfl rfl 28 _ HX.out (by rw [zf_size]; exact info38) rfl zf_one ?_) | fail)
      refine bodyPost_ret (results_cell_one rfl _ _ _ _ rfl (loadVar38 (HX.out.row zf) zf_size)) rfl ?_
      exact ⟨Or.inr ⟨HD0.out, rfl⟩, below_row HBL.out (Nat.le_refl _) zf⟩
    have d4 : decide (k < (1 : Int)) = false := decide_eq_false c4
    by_cases c5 : 3 < k
    · have d5 : decide ((3 : Int) < k) = true := decide_eq_true c5
      clear hbad
      go_wp2_with (first | ((with_reducible show wpList _ _ _ ((⟨_, Op.build 28 _, _, _, _, _⟩ : Oper) :: _) _ _); refine wpList_built rfl _ rfl _ rfl _ built_f0 ?_) | ((with_reducible show wpList _ _ _ ((⟨_, Op.store 28 _ _, _, _, _, _⟩ : Oper) :: _) _ _); refine wpList_store_row rfl _ (.tmp 2) (.tmp 64) rfl w.heap.size zf rfl rfl 28 _ HX.out (by rw [zf_size]; exact info38) rfl zf_one ?_) | fail)
      refine bodyPost_ret (results_cell_one rfl _ _ _ _ rfl (loadVar38 (HX.out.row zf) zf_size)) rfl ?_
      exact ⟨Or.inr ⟨HD0.out, rfl⟩, below_row HBL.out (Nat.le_refl _) zf⟩
    have d5 : decide ((3 : Int) < k) = false := decide_eq_false c5
    by_cases c6 : nd < 0
    · have d6 : decide (nd < (0 : Int)) = true := decide_eq_true c6
      clear hbad
      go_wp2_with (first | ((with_reducible show wpList _ _ _ ((⟨_, Op.build 28 _, _, _, _, _⟩ : Oper) :: _) _ _); refine wpList_built rfl _ rfl _ rfl _ built_f0 ?_) | ((with_reducible show wpList _ _ _ ((⟨_, Op.store 28 _ _, _, _, _, _⟩ : Oper) :: _) _ _); refine wpList_store_row rfl _ (.tmp 2) (.tmp 64) rfl w.heap.size zf rfl rfl 28 _ HX.out (by rw [zf_size]; exact info38) rfl zf_one ?_) | fail)
      refine bodyPost_ret (results_cell_one rfl _ _ _ _ rfl (loadVar38 (HX.out.row zf) zf_size)) rfl ?_
      exact ⟨Or.inr ⟨HD0.out, rfl⟩, below_row HBL.out (Nat.le_refl _) zf⟩
    have d6 : decide (nd < (0 : Int)) = false := decide_eq_false c6
    have c7 : 8 < nd := by omega
    have d7 : decide ((8 : Int) < nd) = true := decide_eq_true c7
    clear hbad
    go_wp2_with (first | ((with_reducible show wpList _ _ _ ((⟨_, Op.build 28 _, _, _, _, _⟩ : Oper) :: _) _ _); refine wpList_built rfl _ rfl _ rfl _ built_f0 ?_) | ((with_reducible show wpList _ _ _ ((⟨_, Op.store 28 _ _, _, _, _, _⟩ : Oper) :: _) _ _); refine wpList_store_row rfl _ (.tmp 2) (.tmp 64) rfl w.heap.size zf rfl rfl 28 _ HX.out (by rw [zf_size]; exact info38) rfl zf_one ?_) | fail)
    refine bodyPost_ret (results_cell_one rfl _ _ _ _ rfl (loadVar38 (HX.out.row zf) zf_size)) rfl ?_
    exact ⟨Or.inr ⟨HD0.out, rfl⟩, below_row HBL.out (Nat.le_refl _) zf⟩
  have HBR : Hid (Byt (l.drop J)) := Lib.hid (byt_drop HBY.out J)
  have HC := Lib.hid (Ft.dec_cand HBY.out HBR.out (HDG.out.2 hbad).2)
  clear HDG HG
  unfold Ft.Bad at hbad
  have d1 : ((i : Int) == 0) = false := by simp; omega
  have d2 : ((j : Int) == 0) = false := by simp; omega
  have d3 : ((q : Int) == 0) = false := by simp; omega
  have d4 : decide (k < (1 : Int)) = false := decide_eq_false (by omega)
  have d5 : decide ((3 : Int) < k) = false := decide_eq_false (by omega)
  have d6 : decide (nd < (0 : Int)) = false := decide_eq_false (by omega)
  have d7 : decide ((8 : Int) < nd) = false := decide_eq_false (by omega)
  clear hbad
  obtain ⟨FL, hFL⟩ : ∃ FL, fcs k ep nd zm.toList = FL := ⟨_, rfl⟩
  have HBT := Lib.hid (built_f k ep nd)
  have hFS := fcs_size (k := k) (e := ep) (n := nd) (M := zm.toList) rfl
  have hFO := fcs_one (k := k) (e := ep) (n := nd) zm_one
  rw [hFL] at HBT hFS hFO
  have HFL := Lib.hid hFL
  clear hFL
  have H6 : Hid (FB ((w4.alloc (.cells zf 28)).setRow w4.heap.size FL.toArray) w4.heap.size FL.toArray zm.toList ⟨k, ep, nd, Mf.zero⟩ ∧ Below w1.heap.size w1 ((w4.alloc (.cells zf 28)).setRow w4.heap.size FL.toArray)) :=
    Lib.hid ⟨⟨put_row, by rw [← HFL.out], zm_list _ _, rfl, HIN.out⟩, put_below HB4.out HB4.out.size⟩
  have k0 : ((w4.alloc (.cells zf 28)).setRow w4.heap.size FL.toArray).cell? ⟨w4.heap.size, 0, none⟩ = some (.int .i64 k) := H6.out.1.c0
  have hle4 : w1.heap.size ≤ w4.heap.size := HB4.out.size
  by_cases hk : k = 1
  · have dk : (k == 1) = true := by simp [hk]
    have HCM := Lib.hid (show Ft.candM k (l.drop J) = Ft.manOf (Ft.txt4 (l.drop J)) from if_pos hk)
    clear hk
    go_wp2_with (first | ((with_reducible show wpList _ _ _ ((⟨_, Op.build 28 _, _, _, _, _⟩ : Oper) :: _) _ _); refine wpList_built rfl _ rfl _ rfl FL HBT.out ?_) | ((with_reducible show wpList _ _ _ ((⟨_, Op.store 28 (.tmp 10) _, _, _, _, _⟩ : Oper) :: _) _ _); rw [zeroF]; refine wpList_store_row rfl _ (.tmp 10) (.tmp 68) rfl w4.heap.size FL.toArray rfl rfl 28 _ (Whole.new w4 _ _) (by rw [hFS]; exact info38) (by rw [hFS]; rfl) hFO ?_) | fail)
    generalize (w4.alloc (.cells zf 28)).setRow w4.heap.size FL.toArray = w6 at *
    generalize w4.heap.size = F at *
    clear HBT k0 HB4 HX HBL
    refine (Co.gettext_ref 4000 (HT3.out.below (HB1.out.trans (H6.out.2.mono (Nat.le_of_lt hX1))) (fun _ _ h => h)) (by omega)).mono ?_
    intro e w7 hgt
    obtain ⟨a7, n7, c7, x7, rfl, ht7, hn7, hb7⟩ := got4 HBR.out hgt
    have H7 := Lib.hid (And.intro (H6.out.1.below hb7) (And.intro (H6.out.2.trans (hb7.mono H6.out.2.size)) ht7))
    clear hgt ht7 hb7 H6
    go_wp2_with fail
    refine (rdecode_any H7.out.2.2 (by omega)).mono ?_
    intro e w8 hd
    obtain ⟨⟨Q, x8, rfl, hQs, hQa, hmv⟩, hb8⟩ := decd_man hd
    rw [← HCM.out] at hmv
    have hlt78 : F < w7.heap.size := H7.out.1.lt
    have HQ := Lib.hid (has_put hmv zm)
    have hF9 := Lib.hid ((H7.out.1.below hb8).below (put_below (T := 26) (z := zm) (N := Q) (Below.refl _ _) (Nat.le_refl _)))
    have hb18 := H7.out.2.1.trans (hb8.mono H7.out.2.1.size)
    have H9 := Lib.hid (put_below (T := 26) (z := zm) (N := Q) hb18 hb18.size)
    have HM9 := Lib.hid ((hmv.weak (S' := fun b => w7.heap.size ≤ b ∧ b < w8.heap.size) (fun b hb h => ⟨h, hb⟩)).below (put_below (T := 26) (z := zm) (N := Q) (Below.refl _ _) (Nat.le_refl _)) (fun b _ h => h.2))
    clear hd hmv hb8 hb18 H7
    obtain ⟨QL, rfl⟩ : ∃ QL : List Value, Q = QL.toArray := ⟨Q.toList, by simp⟩
    have hql : QL.length = 35 := by simpa using hQs
    have hq1 : ∀ u ∈ QL, u.oneCell' = true := fun u hu => Array.all_eq_true_iff_forall_mem.1 hQa u (by simpa using hu)
    have hfl : FL.length = 38 := by simpa using hFS
    have HSP := Lib.hid (show splice FL 3 QL = fcs k ep nd QL by rw [← HFL.out]; exact splice_fcs rfl hql)
    go_upto_region 11 with (first
      | ((with_reducible show wpList _ _ _ ((⟨_, Op.load 26 (.tmp 13), _, _, _, _⟩ : Oper) :: _) _ _); refine has_load HQ.out (by rfl) (.tmp 13) rfl rfl ?_)
      | ((with_reducible show wpList _ _ _ ((⟨_, Op.store 26 (.tmp 89) _, _, _, _, _⟩ : Oper) :: _) _ _); refine wpList_store_part rfl _ (.tmp 89) (.tmp 88) rfl F 3 QL rfl rfl hF9.out.whole (by rw [hql]; exact info35) hq1 (by rw [hfl, hql]; omega) ?_; rw [HSP.out])
      | ((with_reducible show wpList _ _ _ ((⟨_, Op.store 26 (.tmp 13) _, _, _, _, _⟩ : Oper) :: _) _ _); rw [zeroM, show (mcs 0 0 (.slice none 0 0) (zs 32)).toArray = zm from rfl]; refine wpList_store_row rfl _ (.tmp 13) (.tmp 86) rfl w8.heap.size QL.toArray rfl rfl 26 _ (Whole.new w8 _ _) (by rw [hQs]; exact info35) (by rw [hQs]; rfl) hQa ?_)
      | fail)
    obtain ⟨PF, hPF⟩ : ∃ PF, (fcs k ep nd QL).toArray = PF := ⟨_, rfl⟩
    rw [hPF]
    have hm10 := HM9.out.keep (w' := ((w8.alloc (.cells zm 26)).setRow w8.heap.size QL.toArray).setRow F PF) (by simp [World.setRow]) (fun b _ hb => setRow_other _ F b PF (by omega))
    have HF := Lib.hid (show FB (((w8.alloc (.cells zm 26)).setRow w8.heap.size QL.toArray).setRow F PF) F PF QL ⟨k, ep, nd, Ft.candM k (l.drop J)⟩ from ⟨hF9.out.whole.row PF, hPF.symm, hm10.old, hql, HIN.out⟩)
    have HBW := Lib.hid (below_row H9.out hle4 PF)
    have HMV := Lib.hid (hm10.weak (S' := fun b => w1.heap.size ≤ b) (fun b _ hb => by omega))
    clear hPF hm10 HSP HQ hF9 H9 HM9 hql hq1 hfl hQs hQa hFS hFO HFL HCM
    generalize ((w8.alloc (.cells zm 26)).setRow w8.heap.size QL.toArray).setRow F PF = w10 at *
    go_wp2_with (first | ((with_reducible show wpList _ _ _ ((⟨_, Op.load 28 (.tmp 10), _, _, _, _⟩ : Oper) :: _) _ _); refine fb_load HF.out (by rfl) (.tmp 10) rfl rfl ?_) | fail)
    refine (rfencode_any HF.out.val).mono ?_
    rintro e w11 ⟨he, hb11⟩
    have HBW11 := Lib.hid (HBW.out.trans (hb11.mono HBW.out.size))
    have HF11 := Lib.hid (HF.out.below hb11)
    have HX11 := Lib.hid (HX1.out.below HBW11.out hX1)
    have HM11 := Lib.hid (HMV.out.below hb11 (fun b hb _ => hb))
    have HBL11 := Lib.hid (HB1.out.trans (HBW11.out.mono (Nat.le_of_lt hX1)))
    have hP38 := HF.out.size
    have hP1 := HF.out.one
    have HPE := Lib.hid HF.out.eq
    clear hb11 HF HMV HBW
    rcases he with ⟨hno, rfl⟩ | ⟨hok, a11, n11, c11, rfl, ht11⟩
    · have HD0 := Lib.hid (HC.out.2 (fun h => hno h.1))
      clear hno HC
      go_wp2_with (first | ((with_reducible show wpList _ _ _ ((⟨_, Op.build 28 _, _, _, _, _⟩ : Oper) :: _) _ _); refine wpList_built rfl _ rfl _ rfl _ built_f0 ?_) | ((with_reducible show wpList _ _ _ ((⟨_, Op.store 28 _ _, _, _, _, _⟩ : Oper) :: _) _ _); refine wpList_store_row rfl _ (.tmp 2) (.tmp 104) rfl w.heap.size zf rfl rfl 28 _ HX11.out (by rw [zf_size]; exact info38) rfl zf_one ?_) | fail)
      refine bodyPost_ret (results_cell_one rfl _ _ _ _ rfl (loadVar38 (HX11.out.row zf) zf_size)) rfl ?_
      exact ⟨Or.inr ⟨HD0.out, rfl⟩, below_row HBL11.out (Nat.le_refl _) zf⟩
    have cv1 := Co.convert_txt ht11
    have cv2 := Co.convert_txt (HT.out.below HBL11.out (fun _ _ h => h))
    by_cases hbe : Ft.Fact.bytes ⟨k, ep, nd, Ft.candM k (l.drop J)⟩ = l
    · have HD0 := Lib.hid (HC.out.1 ⟨hok, hbe⟩)
      rw [hbe] at cv1
      obtain ⟨s, hs⟩ : ∃ s, strOfNums l = s := ⟨_, rfl⟩
      rw [hs] at cv1 cv2
      clear hbe hs ht11 hok HC
      go_wp2_with (first | ((with_reducible show wpList _ _ _ ((⟨_, Op.load 28 (.tmp 10), _, _, _, _⟩ : Oper) :: _) _ _); refine fb_load HF11.out (by rfl) (.tmp 10) rfl rfl ?_) | ((with_reducible show wpList _ _ _ ((⟨_, Op.store 28 _ _, _, _, _, _⟩ : Oper) :: _) _ _); refine wpList_store_row rfl _ (.tmp 2) (.tmp 105) rfl w.heap.size PF rfl rfl 28 _ HX11.out (by rw [hP38]; exact info38) (by rw [hP38]; rfl) hP1 ?_) | fail)
      refine bodyPost_ret (results_cell_one rfl _ _ _ _ rfl (loadVar38 (HX11.out.row PF) hP38)) rfl ?_
      refine ⟨Or.inl ⟨_, _, HD0.out, rfl, ⟨_, by rw [HPE.out], ?_, HIN.out⟩⟩, below_row HBL11.out (Nat.le_refl _) PF⟩
      exact (HM11.out.keep (w' := w11.setRow w.heap.size PF) (by simp [World.setRow]) (fun b _ hb => setRow_other w11 w.heap.size b PF (by omega))).weak (fun b _ hb => by omega)
    · have HD0 := Lib.hid (HC.out.2 (fun h => hbe h.2))
      obtain ⟨s, hs⟩ : ∃ s, strOfNums (Ft.Fact.bytes ⟨k, ep, nd, Ft.candM k (l.drop J)⟩) = s := ⟨_, rfl⟩
      obtain ⟨s', hs'⟩ : ∃ s, strOfNums l = s := ⟨_, rfl⟩
      have hne : ¬ s.toList = s'.toList := fun e => hbe (Co.strOf_inj (Co.str_toList (by rw [hs, hs']; exact e)) ht11.2.2.1 HBY.out)
      have hq : (s.toList == s'.toList) = false := beq_eq_false_iff_ne.2 hne
      rw [hs] at cv1
      rw [hs'] at cv2
      clear hbe hs hs' ht11 hok HC hne
      go_wp2_with (first | ((with_reducible show wpList _ _ _ ((⟨_, Op.build 28 _, _, _, _, _⟩ : Oper) :: _) _ _); refine wpList_built rfl _ rfl _ rfl _ built_f0 ?_) | ((with_reducible show wpList _ _ _ ((⟨_, Op.store 28 _ _, _, _, _, _⟩ : Oper) :: _) _ _); refine wpList_store_row rfl _ (.tmp 2) (.tmp 104) rfl w.heap.size zf rfl rfl 28 _ HX11.out (by rw [zf_size]; exact info38) rfl zf_one ?_) | fail)
      refine bodyPost_ret (results_cell_one rfl _ _ _ _ rfl (loadVar38 (HX11.out.row zf) zf_size)) rfl ?_
      exact ⟨Or.inr ⟨HD0.out, rfl⟩, below_row HBL11.out (Nat.le_refl _) zf⟩
  · have dk : (k == 1) = false := by simp [hk]
    have hcm : Ft.candM k (l.drop J) = Mf.zero := if_neg hk
    rw [hcm] at HC
    clear hk hcm
    go_upto_region 11 with (first | ((with_reducible show wpList _ _ _ ((⟨_, Op.build 28 _, _, _, _, _⟩ : Oper) :: _) _ _); refine wpList_built rfl _ rfl _ rfl FL HBT.out ?_) | ((with_reducible show wpList _ _ _ ((⟨_, Op.store 28 (.tmp 10) _, _, _, _, _⟩ : Oper) :: _) _ _); rw [zeroF]; refine wpList_store_row rfl _ (.tmp 10) (.tmp 68) rfl w4.heap.size FL.toArray rfl rfl 28 _ (Whole.new w4 _ _) (by rw [hFS]; exact info38) (by rw [hFS]; rfl) hFO ?_) | fail)
    obtain ⟨PF, hPF⟩ : ∃ PF, FL.toArray = PF := ⟨_, rfl⟩
    rw [hPF] at H6 ⊢
    have HF := Lib.hid H6.out.1
    have HBW := Lib.hid H6.out.2
    have HMV := Lib.hid (zm_list ((w4.alloc (.cells zf 28)).setRow w4.heap.size PF) (fun b => w1.heap.size ≤ b))
    rw [hPF] at k0
    clear hPF HBT hFS hFO HFL H6 k0 HB4 HX HBL
    generalize (w4.alloc (.cells zf 28)).setRow w4.heap.size PF = w10 at *
    generalize w4.heap.size = F at *
    go_wp2_with (first | ((with_reducible show wpList _ _ _ ((⟨_, Op.load 28 (.tmp 10), _, _, _, _⟩ : Oper) :: _) _ _); refine fb_load HF.out (by rfl) (.tmp 10) rfl rfl ?_) | fail)
    refine (rfencode_any HF.out.val).mono ?_
    rintro e w11 ⟨he, hb11⟩
    have HBW11 := Lib.hid (HBW.out.trans (hb11.mono HBW.out.size))
    have HF11 := Lib.hid (HF.out.below hb11)
    have HX11 := Lib.hid (HX1.out.below HBW11.out hX1)
    have HM11 := Lib.hid (HMV.out.below hb11 (fun b hb _ => hb))
    have HBL11 := Lib.hid (HB1.out.trans (HBW11.out.mono (Nat.le_of_lt hX1)))
    have hP38 := HF.out.size
    have hP1 := HF.out.one
    have HPE := Lib.hid HF.out.eq
    clear hb11 HF HMV HBW
    rcases he with ⟨hno, rfl⟩ | ⟨hok, a11, n11, c11, rfl, ht11⟩
    · have HD0 := Lib.hid (HC.out.2 (fun h => hno h.1))
      clear hno HC
      go_wp2_with (first | ((with_reducible show wpList _ _ _ ((⟨_, Op.build 28 _, _, _, _, _⟩ : Oper) :: _) _ _); refine wpList_built rfl _ rfl _ rfl _ built_f0 ?_) | ((with_reducible show wpList _ _ _ ((⟨_, Op.store 28 _ _, _, _, _, _⟩ : Oper) :: _) _ _); refine wpList_store_row rfl _ (.tmp 2) (.tmp 104) rfl w.heap.size zf rfl rfl 28 _ HX11.out (by rw [zf_size]; exact info38) rfl zf_one ?_) | fail)
      refine bodyPost_ret (results_cell_one rfl _ _ _ _ rfl (loadVar38 (HX11.out.row zf) zf_size)) rfl ?_
      exact ⟨Or.inr ⟨HD0.out, rfl⟩, below_row HBL11.out (Nat.le_refl _) zf⟩
    have cv1 := Co.convert_txt ht11
    have cv2 := Co.convert_txt (HT.out.below HBL11.out (fun _ _ h => h))
    by_cases hbe : Ft.Fact.bytes ⟨k, ep, nd, Mf.zero⟩ = l
    · have HD0 := Lib.hid (HC.out.1 ⟨hok, hbe⟩)
      rw [hbe] at cv1
      obtain ⟨s, hs⟩ : ∃ s, strOfNums l = s := ⟨_, rfl⟩
      rw [hs] at cv1 cv2
      clear hbe hs ht11 hok HC
      go_wp2_with (first | ((with_reducible show wpList _ _ _ ((⟨_, Op.load 28 (.tmp 10), _, _, _, _⟩ : Oper) :: _) _ _); refine fb_load HF11.out (by rfl) (.tmp 10) rfl rfl ?_) | ((with_reducible show wpList _ _ _ ((⟨_, Op.store 28 _ _, _, _, _, _⟩ : Oper) :: _) _ _); refine wpList_store_row rfl _ (.tmp 2) (.tmp 105) rfl w.heap.size PF rfl rfl 28 _ HX11.out (by rw [hP38]; exact info38) (by rw [hP38]; rfl) hP1 ?_) | fail)
      refine bodyPost_ret (results_cell_one rfl _ _ _ _ rfl (loadVar38 (HX11.out.row PF) hP38)) rfl ?_
      refine ⟨Or.inl ⟨_, _, HD0.out, rfl, ⟨_, by rw [HPE.out], ?_, HIN.out⟩⟩, below_row HBL11.out (Nat.le_refl _) PF⟩
      exact (HM11.out.keep (w' := w11.setRow w.heap.size PF) (by simp [World.setRow]) (fun b _ hb => setRow_other w11 w.heap.size b PF (by omega))).weak (fun b _ hb => by omega)
    · have HD0 := Lib.hid (HC.out.2 (fun h => hbe h.2))
      obtain ⟨s, hs⟩ : ∃ s, strOfNums (Ft.Fact.bytes ⟨k, ep, nd, Mf.zero⟩) = s := ⟨_, rfl⟩
      obtain ⟨s', hs'⟩ : ∃ s, strOfNums l = s := ⟨_, rfl⟩
      have hne : ¬ s.toList = s'.toList := fun e => hbe (Co.strOf_inj (Co.str_toList (by rw [hs, hs']; exact e)) ht11.2.2.1 HBY.out)
      have hq : (s.toList == s'.toList) = false := beq_eq_false_iff_ne.2 hne
      rw [hs] at cv1
      rw [hs'] at cv2
      clear hbe hs hs' ht11 hok HC hne
      go_wp2_with (first | ((with_reducible show wpList _ _ _ ((⟨_, Op.build 28 _, _, _, _, _⟩ : Oper) :: _) _ _); refine wpList_built rfl _ rfl _ rfl _ built_f0 ?_) | ((with_reducible show wpList _ _ _ ((⟨_, Op.store 28 _ _, _, _, _, _⟩ : Oper) :: _) _ _); refine wpList_store_row rfl _ (.tmp 2) (.tmp 104) rfl w.heap.size zf rfl rfl 28 _ HX11.out (by rw [zf_size]; exact info38) rfl zf_one ?_) | fail)
      refine bodyPost_ret (results_cell_one rfl _ _ _ _ rfl (loadVar38 (HX11.out.row zf) zf_size)) rfl ?_
      exact ⟨Or.inr ⟨HD0.out, rfl⟩, below_row HBL11.out (Nat.le_refl _) zf⟩
end Go.Proofs.Ytcfchkffanfehaa
