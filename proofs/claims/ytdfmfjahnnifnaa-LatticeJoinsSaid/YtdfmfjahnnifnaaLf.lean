/-
  The walk of LatticeMerges.
-/
import Derived.Test.YtdfmfjahnnifnaaLe
namespace Go.Proofs.Ytdfmfjahnnifnaa
set_option maxRecDepth 20000
set_option linter.unusedSimpArgs false
set_option linter.unusedVariables false
open Go.RowKit Go.Great
set_option maxHeartbeats 4000000 in
theorem merges_walk (L : Lat) {w : World} {S D S' D' : Nat → Prop} {p p' : Option Addr} {n m c d : Nat} {R Q : List Fm} (h : Fts w S D p n R) (h' : Fts w S' D' p' m Q) (N : Int) :
    Calls Try.prog 5 #[.int .i64 N, .slice p n c, .slice p' m d] w fun e w' => e = .returned (.bool true) ∧ Below w.heap.size w w' := by
  have H := Lib.hid h.old
  have H' := Lib.hid h'.old
  have HLN := Lib.hid (show (FS Q).length = m by rw [FS_len, h'.1])
  clear h h'
  go_enter Try.func5, Try.ntmps5
  go_wp2_with (first | (go_at_call 12; refine (awake_any L _).mono ?_; rintro e w1 ⟨rfl, hb1⟩; have HB1 := Lib.hid hb1; clear hb1) | fail)
  refine (ol_grown40 L (H.out.below HB1.out (fun _ _ h => h) (fun _ _ h => h)) N).mono ?_
  rintro e w3 ⟨ax, nx, cx, rfl, hox, hb3⟩
  have HX := Lib.hid hox
  have HB3 := Lib.hid (HB1.out.trans (hb3.mono HB1.out.size))
  have HQ := Lib.hid (H'.out.below HB3.out (fun _ _ h => h) (fun _ _ h => h))
  clear hox hb3 HB1 H H'
  generalize hBe : w3.heap.size = B at *
  have HBE := Lib.hid hBe
  clear hBe
  go_wp2
  go_loopw [9, 10, 11] (fun v i _ wr => ∃ (j n2 c2 : Nat) (a2 : Option Addr) (R2 : List Fm), j ≤ m ∧ j ≤ 40 ∧ n2 ≤ j ∧ v = .slice a2 n2 c2 ∧ i = .int .i64 (j : Int) ∧ Hid (FS R2 = La.fewOf (FS Q) j) ∧ Hid (Lay wr B a2 n2 c2 R2 ∧ Below w3.heap.size w3 wr)) (fun _ i _ _ => 40 - (intOf i).toNat)
  case atStart => exact ⟨0, 0, 0, none, [], Nat.zero_le _, by omega, Nat.le_refl _, rfl, rfl, Lib.hid rfl, Lib.hid ⟨Lay.nil _ _, Below.refl _ _⟩⟩
  case round =>
    obtain ⟨j, n2, c2, a2, R2, hj, hjm, hn2, rfl, rfl, HE0, HJ⟩ := hrel
    have sj : B ≤ wr.heap.size := by rw [← HBE.out]; exact HJ.out.2.size
    by_cases hlt : j < m
    case neg =>
      have q : ¬ ((j : Int) < (m : Int)) := by omega
      have HE : Hid (FS R2 = La.fewOf (FS Q) 40) := Lib.hid (by rw [HE0.out, fewOf_end (FS Q) (most := 40) (Or.inl ⟨by rw [HLN.out]; omega, hjm⟩)])
      have HFE : Hid (FS R2 = La.fewOf (FS Q) 40) := HE
      have hn40 : n2 ≤ 40 := by
        have h1 := HJ.out.1.len
        have h2 := La.fewOf_len (FS Q) 40
        rw [← HFE.out, FS_len] at h2
        omega
      have HX5 := Lib.hid (HX.out.below HJ.out.2)
      go_wp2_with fail
      obtain ⟨RX, hX1, hX2⟩ := HX5.out
      have HRX := Lib.hid (And.intro hX1 hX2)
      have hnx : nx ≤ 40 := by
        have h1 := HX5.out.len
        have h2 := La.grown_len N (FS R) 40
        omega
      clear hX1 hX2
      refine (lat_merge L N HRX.out.1.fts HRX.out.1.le (by omega) HRX.out.2 (La.grown_good _ _ _) (fun f hf => La.grown_few hf) HJ.out.1.get.2 HJ.out.1.get.1 (by omega) HFE.out (fun f hf => La.fewOf_few hf) rfl).mono ?_
      rintro e w7 ⟨a7, n7, c7, R7, rfl, ho7, hl7, hb7⟩
      have HM7 := Lib.hid (And.intro ho7 hl7)
      have HRX7 := Lib.hid (HRX.out.1.below hb7)
      have HLY7 := Lib.hid (HJ.out.1.below hb7)
      have HB7 := Lib.hid ((HB3.out.trans (HJ.out.2.mono HB3.out.size)).trans (hb7.mono (Nat.le_trans HB3.out.size HJ.out.2.size)))
      clear ho7 hl7 hb7
      go_wp2_with fail
      refine (rmerge_any HRX7.out.fts HRX7.out.le HLY7.out.get.2 (by omega) (by omega) N).mono ?_
      rintro e w8 ⟨a8, n8, c8, R8, rfl, hc8, hf8, hl8, hb8⟩
      rw [HRX.out.2, HFE.out] at hl8
      have HM8 := Lib.hid (HM7.out.1.below hb8)
      have HN8 := Lib.hid (And.intro hf8 (HM7.out.2.trans hl8.symm))
      have HB8 := Lib.hid (HB7.out.trans (hb8.mono HB7.out.size))
      have hlen : n7 ≤ 1000 ∧ n8 ≤ 1000 := by
        have h1 := HM7.out.1.num HM7.out.2
        have h2 := La.merge_len (nodes := N) (La.fewOf (FS Q) 40) (a := La.grown N (FS R) 40)
        have h3 := La.grown_len N (FS R) 40
        have h4 := La.fewOf_len (FS Q) 40
        have h5 := hf8.1
        rw [← FS_len, hl8] at h5
        omega
      obtain ⟨hlen7, hlen8⟩ := hlen
      have HFW : Hid (FewR R7) := Lib.hid (fewR_of HM7.out.2 (fun f hf => (La.merge_mem _ hf).elim (fun h => La.grown_few h) (fun h => La.fewOf_few h)))
      clear hf8 hl8 hb8
      go_wp2_with fail
      refine (rlsame_any HM8.out.fts HN8.out.1 (by omega) (by omega) (fun z hz => Nat.le_trans (HFW.out z hz) (by omega))).mono ?_
      rintro e w9 ⟨t, rfl, ht, hb9⟩
      obtain rfl : t = true := ht.2 HN8.out.2
      have HB9 := Lib.hid (HB8.out.trans (hb9.mono HB8.out.size))
      clear ht hb9
      go_wp2
      go_ret
      exact ⟨rfl, HB9.out⟩
    by_cases hlm : j < 40
    case neg =>
      have q : (j : Int) < (m : Int) := by omega
      have q2 : ¬ ((j : Int) < (40 : Int)) := by omega
      have HE : Hid (FS R2 = La.fewOf (FS Q) 40) := Lib.hid (by rw [HE0.out, show j = 40 by omega])
      have HFE : Hid (FS R2 = La.fewOf (FS Q) 40) := HE
      have hn40 : n2 ≤ 40 := by
        have h1 := HJ.out.1.len
        have h2 := La.fewOf_len (FS Q) 40
        rw [← HFE.out, FS_len] at h2
        omega
      have HX5 := Lib.hid (HX.out.below HJ.out.2)
      go_wp2_with fail
      obtain ⟨RX, hX1, hX2⟩ := HX5.out
      have HRX := Lib.hid (And.intro hX1 hX2)
      have hnx : nx ≤ 40 := by
        have h1 := HX5.out.len
        have h2 := La.grown_len N (FS R) 40
        omega
      clear hX1 hX2
      refine (lat_merge L N HRX.out.1.fts HRX.out.1.le (by omega) HRX.out.2 (La.grown_good _ _ _) (fun f hf => La.grown_few hf) HJ.out.1.get.2 HJ.out.1.get.1 (by omega) HFE.out (fun f hf => La.fewOf_few hf) rfl).mono ?_
      rintro e w7 ⟨a7, n7, c7, R7, rfl, ho7, hl7, hb7⟩
      have HM7 := Lib.hid (And.intro ho7 hl7)
      have HRX7 := Lib.hid (HRX.out.1.below hb7)
      have HLY7 := Lib.hid (HJ.out.1.below hb7)
      have HB7 := Lib.hid ((HB3.out.trans (HJ.out.2.mono HB3.out.size)).trans (hb7.mono (Nat.le_trans HB3.out.size HJ.out.2.size)))
      clear ho7 hl7 hb7
      go_wp2_with fail
      refine (rmerge_any HRX7.out.fts HRX7.out.le HLY7.out.get.2 (by omega) (by omega) N).mono ?_
      rintro e w8 ⟨a8, n8, c8, R8, rfl, hc8, hf8, hl8, hb8⟩
      rw [HRX.out.2, HFE.out] at hl8
      have HM8 := Lib.hid (HM7.out.1.below hb8)
      have HN8 := Lib.hid (And.intro hf8 (HM7.out.2.trans hl8.symm))
      have HB8 := Lib.hid (HB7.out.trans (hb8.mono HB7.out.size))
      have hlen : n7 ≤ 1000 ∧ n8 ≤ 1000 := by
        have h1 := HM7.out.1.num HM7.out.2
        have h2 := La.merge_len (nodes := N) (La.fewOf (FS Q) 40) (a := La.grown N (FS R) 40)
        have h3 := La.grown_len N (FS R) 40
        have h4 := La.fewOf_len (FS Q) 40
        have h5 := hf8.1
        rw [← FS_len, hl8] at h5
        omega
      obtain ⟨hlen7, hlen8⟩ := hlen
      have HFW : Hid (FewR R7) := Lib.hid (fewR_of HM7.out.2 (fun f hf => (La.merge_mem _ hf).elim (fun h => La.grown_few h) (fun h => La.fewOf_few h)))
      clear hf8 hl8 hb8
      go_wp2_with fail
      refine (rlsame_any HM8.out.fts HN8.out.1 (by omega) (by omega) (fun z hz => Nat.le_trans (HFW.out z hz) (by omega))).mono ?_
      rintro e w9 ⟨t, rfl, ht, hb9⟩
      obtain rfl : t = true := ht.2 HN8.out.2
      have HB9 := Lib.hid (HB8.out.trans (hb9.mono HB8.out.size))
      clear ht hb9
      go_wp2
      go_ret
      exact ⟨rfl, HB9.out⟩
    have q : (j : Int) < (m : Int) := by omega
    have q2 : (j : Int) < (40 : Int) := by omega
    obtain ⟨b, off, rfl, _, hbl, hrg, hrw⟩ := (HQ.out.old.below HJ.out.2 (fun _ _ h => h) (fun _ _ h => h)).at_ hlt
    obtain ⟨y, hy⟩ : ∃ y, Q.getD j d0 = y := ⟨_, rfl⟩
    have hs := fewOf_snoc (FS Q) (j := j) (by rw [HLN.out]; exact hlt)
    rw [FS_get, ← HE0.out] at hs
    rw [hy] at hrg hrw hs
    have iY := info_fact hrw
    have und := Try.underlying30
    have HS := Lib.hid hs
    have HY := Lib.hid (And.intro (show Rw wr (fun b => b < B) y by rw [← HBE.out]; exact hrw) (fc_len hrw))
    have HRG := Lib.hid (And.intro hrg hbl)
    clear hs hrw hrg hy hbl
    go_wp2_with (first | ((with_reducible show wpList _ _ _ ((⟨_, Op.load 30 (.tmp 30), _, _, _, _⟩ : Oper) :: _) _ _); refine wpList_load_midG (by rfl) _ (.tmp 30) rfl b (off + j * 38) rfl (fc y) _ HRG.out.1 und rfl iY ?_) | fail)
    refine (few_any HY.out.1.fv).mono ?_
    rintro e v3 ⟨rfl, hb3⟩
    have HJ3 := Lib.hid (And.intro (HJ.out.1.below hb3) (HJ.out.2.trans (hb3.mono HJ.out.2.size)))
    have HRG3 := Lib.hid (range_below HRG.out.1 hb3 HRG.out.2)
    have HY3 := Lib.hid (HY.out.1.below hb3 (fun b h _ => h))
    have sj3 : B ≤ v3.heap.size := Nat.le_trans sj hb3.size
    clear hb3 HRG HJ
    by_cases hf : y.1.man.ds.length ≤ 100
    case neg =>
      have HS' : Hid (FS R2 = La.fewOf (FS Q) (j + 1)) := Lib.hid (by rw [HS.out, if_neg]; unfold La.few; simpa using hf)
      rw [decide_eq_false hf]
      clear hf HS
      go_wp2
      exact ⟨⟨j + 1, n2, c2, a2, R2, by omega, by omega, by omega, rfl, by go_num, HS', HJ3⟩, by simp [intOf]; omega⟩
    have HS' : Hid (FS (R2 ++ [y]) = La.fewOf (FS Q) (j + 1)) := Lib.hid (by rw [HS.out, if_pos (by unfold La.few; simpa using hf), FS_append]; rfl)
    rw [decide_eq_true hf]
    clear hf HS
    have HQ4 : Hid (Fts (v3.alloc (.cells (fc y).toArray 30)) (fun _ => True) (fun b => b < B) (some ⟨v3.heap.size, 0, none⟩) 1 [y]) := Lib.hid (fts_one (Whole.new _ _ _) trivial (HY3.out.keep (by simp) (fun b hlt _ => Below.heap_alloc _ _ _ hlt)))
    have HLA := Lib.hid (HJ3.out.1.below (below_alloc v3 (.cells (fc y).toArray 30)))
    go_wp2_with (first
      | ((with_reducible show wpList _ _ _ ((⟨_, Op.load 30 (.tmp 37), _, _, _, _⟩ : Oper) :: _) _ _); refine wpList_load_midG (by rfl) _ (.tmp 37) rfl b (off + j * 38) rfl (fc y) _ HRG3.out und rfl iY ?_)
      | ((with_reducible show wpList _ _ _ ((⟨_, Op.buildSlice _ _ _, _, _, _, _⟩ : Oper) :: _) _ _); refine wpList_buildF factsU (by rfl) 38 rfl (fc y) HY.out.2 rfl ?_)
      | (at_builtin; refine wpList_append_facts factsU _ (by rfl) (.tmp 34) (.tmp 39) rfl B (.slice a2 n2 c2) n2 (flatF R2) rfl HLA.out.own (fun _ => True) (fun b => b < B) (some ⟨v3.heap.size, 0, none⟩) 1 1 [y] rfl HQ4.out (by omega) (by omega) (by simp; omega) ?_)
      | fail)
    intro v5 w5 hown hg _
    obtain ⟨a5, c5, rfl, hl5⟩ := HLA.out.add (HQ4.out.2.1 y (List.mem_singleton.2 rfl)) hown hg
    have HJ5 : Hid (Lay w5 B a5 (n2 + 1) c5 (R2 ++ [y]) ∧ Below w3.heap.size w3 w5) := Lib.hid ⟨hl5, (HJ3.out.2.alloc HJ3.out.2.size _).grown hg (by simp; have := HJ3.out.2.size; omega) (by rw [HBE.out]; exact own_ge HLA.out.own)⟩
    clear hown hg hl5
    go_wp2
    exact ⟨⟨j + 1, n2 + 1, c5, a5, R2 ++ [y], by omega, by omega, by omega, rfl, by go_num, HS', HJ5⟩, by simp [intOf]; omega⟩
end Go.Proofs.Ytdfmfjahnnifnaa
