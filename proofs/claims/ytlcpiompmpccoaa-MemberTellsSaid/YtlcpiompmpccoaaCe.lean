/-
  The walk of the document's All; loads and comparisons of members that are taken first.
-/
import Derived.Test.YtlcpiompmpccoaaCc
namespace Go.Proofs.Ytlcpiompmpccoaa
open Go.RowKit Go.Great
set_option linter.unusedVariables false
set_option linter.unusedSimpArgs false
set_option maxRecDepth 20000
open Mb
theorem yields_bx {ops : Array Oper} {S : World → Prop} {op : Oper} {a : Act} (hw : Region.wanted op (yielded ops a.tmps) = true) (x : Operand) (ho : op.op = .load 24 x)
    (b : Nat) (hx : a.eval x = .pointer (some ⟨b, 0, none⟩)) (m : M) (hS : ∀ w, S w → Bx w b m) : YieldsIf Try.prog ops S op (.agg (mc m)) a :=
  .inl ⟨hw, fun w hw' => by
    unfold execOp
    simp only [ho, hx, Instr.loadAt, Instr.sureAddr, Sem.run_bind, Sem.run_pure, Result.andThen_ok, run_loadVar_row w b 24 24 (mc m) (0, 0) _ (hS w hw') Try.underlying24 rfl info2]⟩
theorem yields_cmpM {ops : Array Oper} {S : World → Prop} {o : Oper} {a : Act} (hw : Region.wanted o (yielded ops a.tmps) = true) (x y : Operand) (ty : TypeId) (ho : o.op = .binOp .eql 24 x y ty)
    (m k : M) (hx : a.eval x = .agg (mc m)) (hy : a.eval y = .agg (mc k)) (h : m = k) : YieldsIf Try.prog ops S o (.bool true) a := by
  refine Or.inl ⟨hw, fun w _ => ?_⟩
  unfold execOp
  simp only [ho, hx, hy, Sem.run_bind, guard_m, eqM, decide_eq_true h, Result.andThen_ok]
  rfl
theorem range2 {w : World} {b o : Nat} {m : M} (h0 : w.cell? ⟨b, o, none⟩ = some (.int .i64 m.1)) (h1 : w.cell? ⟨b, o + 1, none⟩ = some (.int .i64 m.2)) : w.rangeAt b o (mc m).toList := by
  intro k v hv
  match k, hv with
  | 0, hv => rw [Nat.add_zero, h0]; exact hv
  | 1, hv => rw [h1]; exact hv
set_option maxHeartbeats 8000000 in
theorem rall_any {w : World} {S S' : Nat → Prop} {a a' : Option Addr} {n n' c c' : Nat} {l l' : List M} (h : Ms w S a n l) (h' : Ms w S' a' n' l') (hn : n ≤ 10000) (hn' : n' ≤ 10000) :
    Calls Try.prog 23 #[.slice a n c, .slice a' n' c'] w (RowQ w (all l l')) := by
  have HM := Lib.hid (And.intro h.2.1 h'.2.1)
  have HLN := Lib.hid (And.intro h.1 h'.1)
  have H := Lib.hid (And.intro h.old h'.old)
  clear h h'
  go_enter Try.func23, Try.ntmps23
  go_wp2
  generalize hBe : w.heap.size = B at *
  have HBE := Lib.hid hBe
  clear hBe
  go_loopw [5, 6, 31, 43] (fun v i _ _ wr => ∃ (j c2 : Nat) (a2 : Option Addr), (j ≤ n ∨ j ≤ n') ∧ v = .slice a2 j c2 ∧ i = .int .i64 (j : Int) ∧ Hid (Mow wr B a2 j c2 ((all l l').take j) ∧ Below B w wr)) (fun _ i _ _ _ => n + n' - (intOf i).toNat)
  case atStart => exact ⟨0, 0, none, Or.inl (Nat.zero_le _), rfl, rfl, Lib.hid ⟨Mow.nil _ _, Below.refl _ _⟩⟩
  case round =>
    obtain ⟨j, c2, a2, hj, rfl, rfl, HJ⟩ := hrel
    have sj : B ≤ wr.heap.size := Nat.le_trans (by rw [HBE.out]; exact Nat.le_refl _) HJ.out.2.size
    have hjb : j ≤ 10000 := by omega
    by_cases hend : j < n ∨ j < n'
    case neg =>
      have q1 : ¬ ((j : Int) < (n : Int)) := by omega
      have q2 : ¬ ((j : Int) < (n' : Int)) := by omega
      have HE : Hid ((all l l').take j = all l l') := Lib.hid (List.take_of_length_le (by rw [all_len, HLN.out.1, HLN.out.2]; omega))
      clear hend hj
      go_wp2
      go_ret
      exact ⟨a2, j, c2, rfl, by rw [HBE.out, ← HE.out]; exact HJ.out.1, by rw [HBE.out]; exact HJ.out.2⟩
    have hs := all_snoc (a := l) (b := l') (i := j) (by rw [HLN.out.1, HLN.out.2]; exact hend)
    rw [HLN.out.1, HLN.out.2] at hs
    have HS := Lib.hid hs
    clear hs
    by_cases hlt : j < n
    · have q1 : (j : Int) < (n : Int) := by omega
      obtain ⟨b, off, rfl, hbB, hbl, c0, c1⟩ := (H.out.1.below HJ.out.2 (fun _ _ h => h)).at_ hlt
      have hmx : Min (l.getD j nought) := H.out.1.in_ hlt
      obtain ⟨x, hx⟩ : ∃ x, l.getD j nought = x := ⟨_, rfl⟩
      rw [hx] at c0 c1 hmx
      by_cases hlt' : j < n'
      · have q2 : ¬ ((j : Int) ≥ (n' : Int)) := by omega
        have q3 : ¬ ((j : Int) ≥ (n : Int)) := by omega
        obtain ⟨b', off', rfl, hbB', hbl', d0, d1⟩ := (H.out.2.below HJ.out.2 (fun _ _ h => h)).at_ hlt'
        have hmy : Min (l'.getD j nought) := H.out.2.in_ hlt'
        obtain ⟨y, hy⟩ : ∃ y, l'.getD j nought = y := ⟨_, rfl⟩
        rw [hy] at d0 d1 hmy
        have HS' : Hid ((all l l').take (j + 1) = (all l l').take j ++ [join x y]) := Lib.hid (by rw [HS.out, if_neg (by omega), if_neg (by omega), hx, hy])
        have HMJ := Lib.hid (min_join hmx hmy)
        have rx : wr.drew.rangeAt b (off + j * 2) (mc x).toList := range2 c0 c1
        have ry : wr.drew.rangeAt b' (off' + j * 2) (mc y).toList := range2 d0 d1
        have und := Try.underlying24
        have iX : (Try.prog.info? 24).map (·.size) = some (mc x).toList.length := info2
        have iY : (Try.prog.info? 24).map (·.size) = some (mc y).toList.length := info2
        clear c0 c1 d0 d1 hx hy hmx hmy hend hj
        go_upto_region 5 with fail
        refine wp_region_held_drew (S := fun w' => w'.rangeAt b (off + j * 2) (mc x).toList ∧ w'.rangeAt b' (off' + j * 2) (mc y).toList) (by kernel_rfl) ⟨rx, ry⟩ (fun hHeld => ?_)
        refine wpAnyH_take (i := 0) (v := .slice a2 j c2) rfl (by kernel_rfl) (by kernel_rfl) (by kernel_rfl) (fun _ _ _ h => h) (Or.inl ⟨by rfl, (by intro w hSw; (try dsimp only at hSw); go_simp)⟩) (by assumption) ?_
        try simp only [Act.put, List.getElem_toArray, List.getElem_cons_zero, List.getElem_cons_succ, List.setIfInBounds_toArray, List.set_cons_zero, List.set_cons_succ]
        refine wpAnyH_take (i := 1) (v := .slice (some ⟨b, off, none⟩) n c) rfl (by kernel_rfl) (by kernel_rfl) (by kernel_rfl) (fun _ _ _ h => h) (Or.inl ⟨by rfl, (by intro w hSw; (try dsimp only at hSw); go_simp)⟩) (by assumption) ?_
        try simp only [Act.put, List.getElem_toArray, List.getElem_cons_zero, List.getElem_cons_succ, List.setIfInBounds_toArray, List.set_cons_zero, List.set_cons_succ]
        refine wpAnyH_take (i := 2) (v := .int .i64 (j : Int)) rfl (by kernel_rfl) (by kernel_rfl) (by kernel_rfl) (fun _ _ _ h => h) (Or.inl ⟨by rfl, (by intro w hSw; (try dsimp only at hSw); go_simp)⟩) (by assumption) ?_
        try simp only [Act.put, List.getElem_toArray, List.getElem_cons_zero, List.getElem_cons_succ, List.setIfInBounds_toArray, List.set_cons_zero, List.set_cons_succ]
        refine wpAnyH_take (i := 3) (v := .pointer (some ⟨b, off + j * 2, none⟩)) rfl (by kernel_rfl) (by kernel_rfl) (by kernel_rfl) (fun _ _ _ h => h) (Or.inl ⟨by rfl, (by intro w hSw; (try dsimp only at hSw); go_simp)⟩) (by assumption) ?_
        try simp only [Act.put, List.getElem_toArray, List.getElem_cons_zero, List.getElem_cons_succ, List.setIfInBounds_toArray, List.set_cons_zero, List.set_cons_succ]
        refine wpAnyH_take (i := 4) (v := .agg (mc x)) rfl (by kernel_rfl) (by kernel_rfl) (by kernel_rfl) (fun _ _ _ h => h) (yieldsIf_load_mid (by rfl) _ _ rfl _ _ rfl _ _ (fun w hSw => hSw.1) und rfl iX) (by assumption) ?_
        try simp only [Act.put, List.getElem_toArray, List.getElem_cons_zero, List.getElem_cons_succ, List.setIfInBounds_toArray, List.set_cons_zero, List.set_cons_succ]
        refine wpAnyH_take (i := 5) (v := .slice (some ⟨b', off', none⟩) n' c') rfl (by kernel_rfl) (by kernel_rfl) (by kernel_rfl) (fun _ _ _ h => h) (Or.inl ⟨by rfl, (by intro w hSw; (try dsimp only at hSw); go_simp)⟩) (by assumption) ?_
        try simp only [Act.put, List.getElem_toArray, List.getElem_cons_zero, List.getElem_cons_succ, List.setIfInBounds_toArray, List.set_cons_zero, List.set_cons_succ]
        refine wpAnyH_take (i := 6) (v := .int .i64 (j : Int)) rfl (by kernel_rfl) (by kernel_rfl) (by kernel_rfl) (fun _ _ _ h => h) (Or.inl ⟨by rfl, (by intro w hSw; (try dsimp only at hSw); go_simp)⟩) (by assumption) ?_
        try simp only [Act.put, List.getElem_toArray, List.getElem_cons_zero, List.getElem_cons_succ, List.setIfInBounds_toArray, List.set_cons_zero, List.set_cons_succ]
        refine wpAnyH_take (i := 7) (v := .pointer (some ⟨b', off' + j * 2, none⟩)) rfl (by kernel_rfl) (by kernel_rfl) (by kernel_rfl) (fun _ _ _ h => h) (Or.inl ⟨by rfl, (by intro w hSw; (try dsimp only at hSw); go_simp)⟩) (by assumption) ?_
        try simp only [Act.put, List.getElem_toArray, List.getElem_cons_zero, List.getElem_cons_succ, List.setIfInBounds_toArray, List.set_cons_zero, List.set_cons_succ]
        refine wpAnyH_take (i := 8) (v := .agg (mc y)) rfl (by kernel_rfl) (by kernel_rfl) (by kernel_rfl) (fun _ _ _ h => h) (yieldsIf_load_mid (by rfl) _ _ rfl _ _ rfl _ _ (fun w hSw => hSw.2) und rfl iY) (by assumption) ?_
        try simp only [Act.put, List.getElem_toArray, List.getElem_cons_zero, List.getElem_cons_succ, List.setIfInBounds_toArray, List.set_cons_zero, List.set_cons_succ]
        refine wpAnyH_ready (rs := [9]) (by kernel_rfl) (by simp) (AllReadyH.cons rfl (fun K hK => ?_) AllReadyH.nil)
        try simp only [List.getElem_toArray, List.getElem_cons_zero, List.getElem_cons_succ]
        go_simp
        refine (rjoin_any x y wr.drew).mono ?_
        rintro e w3 ⟨rfl, hb3⟩
        have hb3' : Below wr.heap.size wr w3 := below_drew hb3
        have H3 : Hid (Mow w3 B a2 j c2 ((all l l').take j) ∧ Below B w w3 ∧ B ≤ w3.heap.size) := Lib.hid ⟨HJ.out.1.below hb3', HJ.out.2.trans (hb3'.mono sj), Nat.le_trans sj hb3'.size⟩
        have r3 : w3.rangeAt b (off + j * 2) (mc x).toList ∧ w3.rangeAt b' (off' + j * 2) (mc y).toList := ⟨fun k v hv => (hb3'.cell (p := ⟨b, off + j * 2 + k, none⟩) hbl).trans (rx k v hv), fun k v hv => (hb3'.cell (p := ⟨b', off' + j * 2 + k, none⟩) hbl').trans (ry k v hv)⟩
        have HBL := Lib.hid (And.intro (Nat.lt_of_lt_of_le hbl hb3'.size) (Nat.lt_of_lt_of_le hbl' hb3'.size))
        clear hb3 hb3' hHeld rx ry HJ
        obtain ⟨z, hz⟩ : ∃ z, join x y = z := ⟨_, rfl⟩
        rw [hz] at HS' HMJ ⊢
        clear hz
        go_wp2_with fail
        refine hK.out _ _ r3 (fun hHeld => ?_)
        clear hK K hHeld
        try simp only [Act.put, List.getElem_toArray, List.getElem_cons_zero, List.getElem_cons_succ, List.setIfInBounds_toArray, List.set_cons_zero, List.set_cons_succ]
        have hHeld := r3
        refine wpAnyH_ready (rs := [10]) (by kernel_rfl) (by simp) (AllReadyH.cons rfl (fun K hK => ?_) AllReadyH.nil)
        try simp only [List.getElem_toArray, List.getElem_cons_zero, List.getElem_cons_succ]
        refine if_wanted (by rfl) ?_
        refine wp_build1 28 rfl z rfl ?_
        have hb4 := below_alloc w3 (.cells (mc z) 24)
        have H4 : Hid (Mow (w3.alloc (.cells (mc z) 24)) B a2 j c2 ((all l l').take j) ∧ Below B w (w3.alloc (.cells (mc z) 24)) ∧ Ms (w3.alloc (.cells (mc z) 24)) (fun _ => True) (some ⟨w3.heap.size, 0, none⟩) 1 [z] ∧ B ≤ (w3.alloc (.cells (mc z) 24)).heap.size) := Lib.hid ⟨H3.out.1.below hb4, H3.out.2.1.alloc H3.out.2.2 _, ms_one (Whole.new _ _ _) trivial HMJ.out, Nat.le_trans H3.out.2.2 hb4.size⟩
        have r4 : (w3.alloc (.cells (mc z) 24)).rangeAt b (off + j * 2) (mc x).toList ∧ (w3.alloc (.cells (mc z) 24)).rangeAt b' (off' + j * 2) (mc y).toList := ⟨fun k v hv => (hb4.cell (p := ⟨b, off + j * 2 + k, none⟩) HBL.out.1).trans (r3.1 k v hv), fun k v hv => (hb4.cell (p := ⟨b', off' + j * 2 + k, none⟩) HBL.out.2).trans (r3.2 k v hv)⟩
        clear hb4 hHeld r3
        generalize w3.alloc (.cells (mc z) 24) = w4 at *
        refine hK.out _ _ r4 (fun hHeld => ?_)
        clear hK K hHeld
        try simp only [Act.put, List.getElem_toArray, List.getElem_cons_zero, List.getElem_cons_succ, List.setIfInBounds_toArray, List.set_cons_zero, List.set_cons_succ]
        have hHeld := r4
        refine wpAnyH_ready (rs := [11]) (by kernel_rfl) (by simp) (AllReadyH.cons rfl (fun K hK => ?_) AllReadyH.nil)
        try simp only [List.getElem_toArray, List.getElem_cons_zero, List.getElem_cons_succ]
        refine if_wanted (by rfl) ?_
        refine wp_append_ms w4 (.tmp 19) (.tmp 29) rfl B (.slice a2 j c2) j (flatM ((all l l').take j)) rfl H4.out.1.own (fun _ => True) (some ⟨w3.heap.size, 0, none⟩) 1 1 [z] rfl H4.out.2.2.1 (by omega) (by omega) H4.out.2.2.2 ?_
        intro v5 w5 hown hg ho
        obtain ⟨a5, c5, rfl, hl5⟩ := H4.out.1.add HMJ.out hown
        have HJ5 : Hid (Mow w5 B a5 (j + 1) c5 ((all l l').take (j + 1)) ∧ Below B w w5) := Lib.hid ⟨by rw [HS'.out]; exact hl5, H4.out.2.1.grown hg H4.out.2.2.2 (fun k hk => (H4.out.1.own.lt k hk).1)⟩
        have r5 : w5.rangeAt b (off + j * 2) (mc x).toList ∧ w5.rangeAt b' (off' + j * 2) (mc y).toList := ⟨fun k v hv => hg.cell (r4.1 k v hv) (fun e => by have := (H4.out.1.own.lt b e.symm).1; omega), fun k v hv => hg.cell (r4.2 k v hv) (fun e => by have := (H4.out.1.own.lt b' e.symm).1; omega)⟩
        clear hown hg hl5 ho hHeld r4
        refine hK.out _ _ r5 (fun hHeld => ?_)
        clear hK K hHeld
        try simp only [Act.put, List.getElem_toArray, List.getElem_cons_zero, List.getElem_cons_succ, List.setIfInBounds_toArray, List.set_cons_zero, List.set_cons_succ]
        have hHeld := r5
        refine wpAnyH_take (i := 12) (v := .slice a5 (j + 1) c5) rfl (by kernel_rfl) (by kernel_rfl) (by kernel_rfl) (fun _ _ _ h => h) (Or.inl ⟨by rfl, (by intro w hSw; (try dsimp only at hSw); go_simp)⟩) (by assumption) ?_
        try simp only [Act.put, List.getElem_toArray, List.getElem_cons_zero, List.getElem_cons_succ, List.setIfInBounds_toArray, List.set_cons_zero, List.set_cons_succ]
        refine wpAnyH_done (by kernel_rfl) ?_ _
        clear hHeld r5 und iX iY
        go_wp2
        exact ⟨⟨j + 1, c5, a5, by omega, rfl, by go_num, HJ5⟩, by simp [intOf]; omega⟩
      · have q2 : (j : Int) ≥ (n' : Int) := by omega
        have HS' : Hid ((all l l').take (j + 1) = (all l l').take j ++ [x]) := Lib.hid (by rw [HS.out, if_pos (by omega), hx])
        have HMJ := Lib.hid hmx
        have HLA : Hid (Mow (wr.alloc (.cells (mc x) 24)) B a2 j c2 ((all l l').take j) ∧ Ms (wr.alloc (.cells (mc x) 24)) (fun _ => True) (some ⟨wr.heap.size, 0, none⟩) 1 [x]) := Lib.hid ⟨HJ.out.1.below (below_alloc wr _), ms_one (Whole.new _ _ _) trivial HMJ.out⟩
        have und := Try.underlying24
        have iX : (Try.prog.info? 24).map (·.size) = some (mc x).toList.length := info2
        have HRX := Lib.hid (range2 c0 c1)
        clear hx hmx hend hj
        go_wp2_with (first
          | ((with_reducible show wpList _ _ _ ((⟨_, Op.buildSlice _ _ _, _, _, _, _⟩ : Oper) :: _) _ _); refine wpList_build1 (by rfl) 40 rfl x rfl ?_)
          | (at_builtin; refine wpList_append_ms _ (by rfl) (.tmp 36) (.tmp 41) rfl B (.slice a2 j c2) j (flatM ((all l l').take j)) rfl HLA.out.1.own (fun _ => True) (some ⟨wr.heap.size, 0, none⟩) 1 1 [x] rfl HLA.out.2 (by omega) (by omega) (by simp; omega) ?_)
          | fail)
        intro v5 w5 hown hg _
        obtain ⟨a5, c5, rfl, hl5⟩ := HLA.out.1.add HMJ.out hown
        have HJ5 : Hid (Mow w5 B a5 (j + 1) c5 ((all l l').take (j + 1)) ∧ Below B w w5) := Lib.hid ⟨by rw [HS'.out]; exact hl5, (HJ.out.2.alloc sj _).grown hg (by simp; omega) (fun k hk => (HLA.out.1.own.lt k hk).1)⟩
        clear hown hg hl5
        go_wp2
        exact ⟨⟨j + 1, c5, a5, by omega, rfl, by go_num, HJ5⟩, by simp [intOf]; omega⟩
    · have hlt' : j < n' := by omega
      have q1 : ¬ ((j : Int) < (n : Int)) := by omega
      have q2 : (j : Int) < (n' : Int) := by omega
      have q3 : ¬ ((j : Int) ≥ (n' : Int)) := by omega
      have q4 : (j : Int) ≥ (n : Int) := by omega
      obtain ⟨b', off', rfl, hbB', hbl', d0, d1⟩ := (H.out.2.below HJ.out.2 (fun _ _ h => h)).at_ hlt'
      have hmy : Min (l'.getD j nought) := H.out.2.in_ hlt'
      obtain ⟨y, hy⟩ : ∃ y, l'.getD j nought = y := ⟨_, rfl⟩
      rw [hy] at d0 d1 hmy
      have HS' : Hid ((all l l').take (j + 1) = (all l l').take j ++ [y]) := Lib.hid (by rw [HS.out, if_neg (by omega), if_pos (by omega), hy])
      have HMJ := Lib.hid hmy
      have HLA : Hid (Mow (wr.alloc (.cells (mc y) 24)) B a2 j c2 ((all l l').take j) ∧ Ms (wr.alloc (.cells (mc y) 24)) (fun _ => True) (some ⟨wr.heap.size, 0, none⟩) 1 [y]) := Lib.hid ⟨HJ.out.1.below (below_alloc wr _), ms_one (Whole.new _ _ _) trivial HMJ.out⟩
      have und := Try.underlying24
      have iX : (Try.prog.info? 24).map (·.size) = some (mc y).toList.length := info2
      have HRX := Lib.hid (range2 d0 d1)
      clear hy hmy hend hj
      go_wp2_with (first
        | ((with_reducible show wpList _ _ _ ((⟨_, Op.buildSlice _ _ _, _, _, _, _⟩ : Oper) :: _) _ _); refine wpList_build1 (by rfl) 52 rfl y rfl ?_)
        | (at_builtin; refine wpList_append_ms _ (by rfl) (.tmp 48) (.tmp 53) rfl B (.slice a2 j c2) j (flatM ((all l l').take j)) rfl HLA.out.1.own (fun _ => True) (some ⟨wr.heap.size, 0, none⟩) 1 1 [y] rfl HLA.out.2 (by omega) (by omega) (by simp; omega) ?_)
        | fail)
      intro v5 w5 hown hg _
      obtain ⟨a5, c5, rfl, hl5⟩ := HLA.out.1.add HMJ.out hown
      have HJ5 : Hid (Mow w5 B a5 (j + 1) c5 ((all l l').take (j + 1)) ∧ Below B w w5) := Lib.hid ⟨by rw [HS'.out]; exact hl5, (HJ.out.2.alloc sj _).grown hg (by simp; omega) (fun k hk => (HLA.out.1.own.lt k hk).1)⟩
      clear hown hg hl5
      go_wp2
      exact ⟨⟨j + 1, c5, a5, by omega, rfl, by go_num, HJ5⟩, by simp [intOf]; omega⟩
end Go.Proofs.Ytlcpiompmpccoaa
