/-
  The document's block.
-/
import Derived.Test.YtfecobkpdmjaeaaVc
namespace Go.Proofs.Ytfecobkpdmjaeaa
open Go.RowKit
set_option linter.unusedVariables false
set_option linter.unusedSimpArgs false
set_option maxRecDepth 20000
theorem bk_byt (r : List Int) (i l : Nat) : (Jl.block r i l).getD 8 0 = 0 ∧ (Jl.block r i l).getD 9 0 = (((Jl.cut r i).length : Nat) : Int) ∧ (Jl.block r i l).getD 10 0 = ((Jl.isLast r i : Nat) : Int) ∧ (Jl.block r i l).getD 11 0 = 0 := by
  unfold Jl.block Jl.big
  simp
theorem bk_mid (r : List Int) (i l k : Nat) (h : k < 44) : (Jl.block r i l).getD (12 + k) 0 = (Jl.cut r i).getD k 0 := by
  have hc := Jl.cut_len r i
  have e : Jl.block r i l = (Jl.big l ++ [((0 : Nat) : Int), (((Jl.cut r i).length : Nat) : Int), ((Jl.isLast r i : Nat) : Int), 0]) ++ (Jl.cut r i ++ (List.replicate (44 - (Jl.cut r i).length) 0 ++ Jl.big l)) := by unfold Jl.block; simp only [List.append_assoc]
  rw [e, List.getD_eq_getElem?_getD, List.getElem?_append_right (by simp [Jl.big])]
  have e2 : 12 + k - (Jl.big l ++ [((0 : Nat) : Int), (((Jl.cut r i).length : Nat) : Int), ((Jl.isLast r i : Nat) : Int), 0]).length = k := by simp [Jl.big]
  rw [e2]
  by_cases hk : k < (Jl.cut r i).length
  · rw [List.getElem?_append_left hk, ← List.getD_eq_getElem?_getD]
  · rw [List.getElem?_append_right (by omega), List.getElem?_append_left (by rw [List.length_replicate]; omega), List.getElem?_replicate, if_pos (by omega), List.getD_eq_getElem?_getD, List.getElem?_eq_none (by omega)]
    rfl
theorem bk_cut (r : List Int) (i k : Nat) (h : k < 44) : (Jl.cut r i).getD k 0 = r.getD (44 * i + k) 0 := by
  unfold Jl.cut
  rw [List.getD_eq_getElem?_getD, List.getElem?_take, if_pos h, List.getElem?_drop, ← List.getD_eq_getElem?_getD]
theorem bk_big (r : List Int) (i l k : Nat) (h : k < 8) : (Jl.block r i l).getD k 0 = (Jl.big l).getD k 0 ∧ (Jl.block r i l).getD (56 + k) 0 = (Jl.big l).getD k 0 := by
  have hc := Jl.cut_len r i
  constructor
  · unfold Jl.block
    rw [List.append_assoc, List.getD_eq_getElem?_getD, List.getElem?_append_left (by simpa [Jl.big] using h), ← List.getD_eq_getElem?_getD]
  · have e : (Jl.block r i l).getD (56 + k) 0 = ((Jl.block r i l).drop 56).getD k 0 := by rw [List.getD_eq_getElem?_getD, List.getD_eq_getElem?_getD, List.getElem?_drop]
    rw [e, Jl.block_tail]
theorem FF.some {w wr : World} {H k : Nat} {T o : List Int} {M : Nat → Prop} (h : FF w wr H T o M) (hk : k < 64) : (∃ u, wr.cell? ⟨H + 1, k, none⟩ = some (.int .u8 u)) ∧ wr.frozen? ⟨H + 1, k, none⟩ = false := ⟨⟨_, h.cell hk⟩, h.2.1.frozen k⟩
theorem FF.more {w wr : World} {H k : Nat} {T o : List Int} {M M' : Nat → Prop} (h : FF w wr H T o M) (hv : T.getD k 0 = 0) (hM : ∀ j, M' j ↔ M j ∨ j = k) : FF w wr H T o M' := by
  refine ⟨⟨h.1.len, fun j hj => ?_, fun j hj => h.1.no j (fun hm => hj ((hM j).2 (Or.inl hm)))⟩, h.2⟩
  by_cases hm : M j
  · exact h.1.yes j hm
  · rcases (hM j).1 hj with h1 | h1
    · exact absurd h1 hm
    · subst h1; rw [h.1.no j hm, hv]
set_option maxHeartbeats 8000000 in
theorem rblock_any {S : Nat → Prop} {a : Option Addr} {n c i l : Nat} {r : List Int} {w : World} (h : Txt w S a n c r) (hS : ∀ b, S b → b < w.heap.size) (hn : n ≤ 100000) (hi : 44 * i < n) (hl : l ≤ 2199023255552) :
    Calls Try.prog 43 #[.slice a n c, .int .i64 (i : Int), .int .i64 (l : Int)] w fun e w' => e = .returned (.agg (nums (Jl.block r i l)).toArray) ∧ Below w.heap.size w w' := by
  obtain ⟨T, hT⟩ : ∃ T, Jl.block r i l = T := ⟨_, rfl⟩
  obtain ⟨w2, h2, k2, hF⟩ := ff_start w T
  have HT := Lib.hid (And.intro h hS)
  have H0 := Lib.hid hF
  have HS := Lib.hid (And.intro h2 k2)
  obtain ⟨m, hm⟩ : ∃ m, min 44 (n - 44 * i) = m := ⟨_, rfl⟩
  have hcut : (Jl.cut r i).length = m := by unfold Jl.cut; rw [List.length_take, List.length_drop, h.1]; exact hm
  obtain ⟨la, hla⟩ : ∃ la, Jl.isLast r i = la := ⟨_, rfl⟩
  have hla2 : la = if n ≤ 44 * i + 44 then 1 else 0 := by rw [← hla]; unfold Jl.isLast; rw [h.1]
  have hb := bk_byt r i l
  rw [hT, hcut, hla] at hb
  have HB := Lib.hid hb
  have HTT := Lib.hid hT
  have HC := Lib.hid hcut
  rw [hT]
  clear h hS hF h2 k2 hT hcut hla hb
  have hzb := zero_b
  go_enter Try.func43, Try.ntmps43
  go_upto_region 2 with (first | ((with_reducible show wpList _ _ _ ((⟨_, Op.build 45 _, _, _, _, _⟩ : Oper) :: _) _ _); refine wpList_built rfl #[] rfl [] rfl zb built_zb ?_) | ((with_reducible show wpList _ _ _ ((⟨_, Op.store 45 _ _, _, _, _, _⟩ : Oper) :: _) _ _); refine wpList_store_row rfl 45 (.tmp 7) (.tmp 12) rfl (w.heap.size + 1) zb rfl rfl 45 zb HS.out.2 info_zb rfl (all_nums _) ?_; rw [HS.out.1]) | fail)
  obtain ⟨H, hH⟩ : ∃ H, w.heap.size = H := ⟨_, rfl⟩
  rw [hH] at H0 ⊢
  have HH := Lib.hid hH
  clear hH HS hzb
  by_cases q : n - 44 * i > 44
  · have q1 : (44 : Int) < (n : Int) - 44 * (i : Int) := by omega
    obtain rfl : m = 44 := by omega
    obtain rfl : la = 0 := by rw [hla2, if_neg (by omega)]
    obtain ⟨⟨u8, c8⟩, f8⟩ := H0.out.some (k := 8) (by omega)
    have h3 := H0.out.set HH.out (k := 8) (by omega) (v := 0) HB.out.1.symm (M' := fun j => j = 8) (fun j => by simp)
    obtain ⟨⟨u9, c9⟩, f9⟩ := h3.some (k := 9) (by omega)
    have h4 := h3.set HH.out (k := 9) (by omega) (v := 44) HB.out.2.1.symm (M' := fun j => j = 8 ∨ j = 9) (fun j => Iff.rfl)
    have H5 := Lib.hid (h4.more (k := 10) HB.out.2.2.1 (M' := fun j => (j = 8 ∨ j = 9) ∨ j = 10) (fun j => Iff.rfl))
    clear h3 h4 hm hla2
    have hmn : 44 * i + 44 ≤ n := by omega
    go_upto_region 8 with fail
    obtain ⟨wx, hwx⟩ : ∃ wx, (w2.setCell ⟨H + 1, 8, none⟩ (.int .u8 0)).setCell ⟨H + 1, 9, none⟩ (.int .u8 44) = wx := ⟨_, rfl⟩
    rw [hwx] at H5 ⊢
    clear hwx f8 c8 f9 c9 u8 u9 q q1
    have H6 : Hid (∃ o, FF w wx H T o (fun j => ((j = 8 ∨ j = 9) ∨ j = 10) ∨ j < 0 ∨ (56 ≤ j ∧ j < 56 + 0))) := Lib.hid ⟨_, ⟨⟨H5.out.1.len, fun j hj => H5.out.1.yes j (by omega), fun j hj => H5.out.1.no j (by omega)⟩, H5.out.2⟩⟩
    clear H5
    go_wp2
    go_loopw [9] (fun vi wr => ∃ k : Nat, k ≤ 8 ∧ vi = .int .i64 (k : Int) ∧ Hid (∃ o, FF w wr H T o (fun j => ((j = 8 ∨ j = 9) ∨ j = 10) ∨ j < k ∨ (56 ≤ j ∧ j < 56 + k)))) (fun vi _ => 8 - (intOf vi).toNat)
    case atStart => exact ⟨0, Nat.zero_le _, rfl, H6⟩
    case round =>
      clear H6
      obtain ⟨k, hk, rfl, HX⟩ := hrel
      by_cases hlt : k < 8
      · obtain ⟨o, hF⟩ := HX.out
        obtain ⟨v, hv⟩ : ∃ v : Nat, l / 2 ^ (56 - 8 * k) % 256 = v := ⟨_, rfl⟩
        have hbg : (Jl.big l).getD k 0 = (v : Int) := by
          rw [← hv]
          have hk8 : k = 0 ∨ k = 1 ∨ k = 2 ∨ k = 3 ∨ k = 4 ∨ k = 5 ∨ k = 6 ∨ k = 7 := by omega
          rcases hk8 with rfl | rfl | rfl | rfl | rfl | rfl | rfl | rfl <;> unfold Jl.big <;> simp
        have hb2 := bk_big r i l k hlt
        rw [HTT.out, hbg] at hb2
        obtain ⟨⟨u1, ck⟩, fk⟩ := hF.some (k := k) (by omega)
        have h7 := hF.set HH.out (k := k) (by omega) hb2.1.symm (M' := fun j => (((j = 8 ∨ j = 9) ∨ j = 10) ∨ j < k ∨ (56 ≤ j ∧ j < 56 + k)) ∨ j = k) (fun j => Iff.rfl)
        obtain ⟨⟨u2, ck2⟩, fk2⟩ := h7.some (k := 56 + k) (by omega)
        have h8 := h7.set HH.out (k := 56 + k) (by omega) hb2.2.symm (M' := fun j => ((j = 8 ∨ j = 9) ∨ j = 10) ∨ j < k + 1 ∨ (56 ≤ j ∧ j < 56 + (k + 1))) (fun j => by omega)
        have H8 := Lib.hid h8
        have HV := Lib.hid hv
        have hvi : (l : Int) / 2 ^ (56 - 8 * k) % 256 = (v : Int) := by rw [← hv]; push_cast; rfl
        clear hF h7 h8 hb2 hbg hv
        have q2 : (k : Int) < 8 := by omega
        go_upto_region 12 with fail
        rw [hvi]
        clear hvi
        go_wp2
        go_roundw
        case rel => exact ⟨k + 1, by omega, by go_num, Lib.hid ⟨_, H8.out⟩⟩
        case measure => simp [intOf]; omega
      · obtain rfl : k = 8 := by omega
        have q2 : ¬ ((8 : Nat) : Int) < 8 := by omega
        have H9 : Hid (∃ o, FF w wr H T o (fun j => (j < 12 ∨ 56 ≤ j) ∨ (12 ≤ j ∧ j < 12 + 0))) := Lib.hid (by
          obtain ⟨o, hF⟩ := HX.out
          have h11 := hF.more (k := 11) HB.out.2.2.2 (M' := fun j => (((j = 8 ∨ j = 9) ∨ j = 10) ∨ j < 8 ∨ (56 ≤ j ∧ j < 56 + 8)) ∨ j = 11) (fun j => Iff.rfl)
          refine ⟨o, ⟨⟨h11.1.len, fun j hj => ?_, fun j hj => h11.1.no j (by omega)⟩, h11.2⟩⟩
          by_cases h64 : j < 64
          · exact h11.1.yes j (by omega)
          · have hTl : T.length = 64 := by rw [← HTT.out]; exact Jl.block_len _ _ _
            rw [List.getD_eq_getElem?_getD, List.getD_eq_getElem?_getD, List.getElem?_eq_none (by rw [h11.1.len]; omega), List.getElem?_eq_none (by omega)])
        clear HX
        go_wp2
        go_loopw [11] (fun vi wr => ∃ k : Nat, k ≤ 44 ∧ vi = .int .i64 (k : Int) ∧ Hid (∃ o, FF w wr H T o (fun j => (j < 12 ∨ 56 ≤ j) ∨ (12 ≤ j ∧ j < 12 + k)))) (fun vi _ => 44 - (intOf vi).toNat)
        case atStart => exact ⟨0, Nat.zero_le _, rfl, H9⟩
        case round =>
          clear H9
          obtain ⟨k, hk, rfl, HX⟩ := hrel
          by_cases hlt : k < 44
          · obtain ⟨o, hF⟩ := HX.out
            have q3 : (k : Int) < 44 := by omega
            obtain ⟨b, off, rfl, hSb, hb, hc⟩ := HT.out.1.cell (k := 44 * i + k) (by omega)
            obtain ⟨v, hv⟩ : ∃ v, r.getD (44 * i + k) 0 = v := ⟨_, rfl⟩
            have hc2 : wr.cell? ⟨b, off + (44 * i + k), none⟩ = some (.int .u8 v) := by rw [← hv]; exact (World.cell?_of_block (hF.2.2.2.block b (by rw [← HH.out]; exact HT.out.2 b hSb))).trans hc
            have hTk : T.getD (12 + k) 0 = v := by rw [← HTT.out, bk_mid r i l k (by omega), bk_cut r i k (by omega), hv]
            obtain ⟨⟨u1, ck⟩, fk⟩ := hF.some (k := 12 + k) (by omega)
            have h8 := hF.set HH.out (k := 12 + k) (by omega) hTk.symm (M' := fun j => (j < 12 ∨ 56 ≤ j) ∨ (12 ≤ j ∧ j < 12 + (k + 1))) (fun j => by omega)
            have H8 := Lib.hid h8
            clear hF h8 hTk hv hc hb hSb
            go_wp2
            go_roundw
            case rel => exact ⟨k + 1, by omega, by go_num, Lib.hid ⟨_, H8.out⟩⟩
            case measure => simp [intOf]; omega
          · obtain rfl : 44 = k := by omega
            have q3 : ¬ ((44 : Nat) : Int) < 44 := by omega
            have HE : Hid (Whole wr (H + 1) 45 (nums T).toArray ∧ Whole wr H 45 zb ∧ Below H w wr ∧ T.length = 64) := Lib.hid (by
              obtain ⟨o, hF⟩ := HX.out
              have hTl : T.length = 64 := by rw [← HTT.out]; exact Jl.block_len _ _ _
              have e := hF.1.done hTl (fun j hj => by
                obtain ⟨d, rfl⟩ : ∃ d, j = 12 + d := ⟨j - 12, by omega⟩
                rw [← HTT.out, bk_mid r i l d (by omega), List.getD_eq_getElem?_getD, List.getElem?_eq_none (by rw [HC.out]; omega)]
                rfl)
              rw [e] at hF
              exact ⟨hF.2.1, hF.2.2.1, hF.2.2.2, hTl⟩)
            clear HX
            go_wp2_with (first | ((with_reducible show wpList _ _ _ ((⟨_, Op.load 45 _, _, _, _, _⟩ : Oper) :: _) _ _); refine wpList_load_row rfl 45 (.tmp 7) rfl (H + 1) rfl 45 (nums T).toArray (0, 0) _ HE.out.1 und_b rfl (info_bn HE.out.2.2.2) ?_) | ((with_reducible show wpList _ _ _ ((⟨_, Op.store 45 _ _, _, _, _, _⟩ : Oper) :: _) _ _); refine wpList_store_row rfl 45 (.tmp 6) (.tmp 63) rfl H (nums T).toArray rfl rfl 45 zb HE.out.2.1 (info_bn HE.out.2.2.2) (size_bn HE.out.2.2.2) (all_nums _) ?_) | fail)
            refine bodyPost_ret (results_one_cell rfl _ _ _ _ rfl (run_loadVar_row _ _ _ _ _ (0, 0) _ (HE.out.2.1.row (nums T).toArray) und_b rfl (info_bn HE.out.2.2.2))) rfl ?_
            exact ⟨rfl, by rw [HH.out]; exact below_row HE.out.2.2.1 (Nat.le_refl _) _⟩
  · have q1 : ¬ (44 : Int) < (n : Int) - 44 * (i : Int) := by omega
    obtain rfl : la = 1 := by rw [hla2, if_pos (by omega)]
    have hmi : (n : Int) - 44 * (i : Int) = (m : Int) := by omega
    have hmn : 44 * i + m ≤ n := by omega
    have hm44 : m ≤ 44 := by omega
    have hm0 : 0 < m := by omega
    have q1m : ¬ (44 : Int) < (m : Int) := by omega
    have r1 : (m : Int) / 256 = 0 := by omega
    have r2 : (m : Int) % 256 = m := by omega
    have r3 : (m : Int).tdiv 256 = 0 := by rw [Int.tdiv_eq_ediv_of_nonneg (by omega)]; omega
    have r4 : (m : Int).tmod 256 = m := by rw [Int.tmod_eq_emod_of_nonneg (by omega)]; omega
    obtain ⟨⟨u10, c10⟩, f10⟩ := H0.out.some (k := 10) (by omega)
    have h3 := H0.out.set HH.out (k := 10) (by omega) (v := 1) HB.out.2.2.1.symm (M' := fun j => j = 10) (fun j => by simp)
    obtain ⟨⟨u8, c8⟩, f8⟩ := h3.some (k := 8) (by omega)
    have h4 := h3.set HH.out (k := 8) (by omega) (v := 0) HB.out.1.symm (M' := fun j => j = 10 ∨ j = 8) (fun j => Iff.rfl)
    obtain ⟨⟨u9, c9⟩, f9⟩ := h4.some (k := 9) (by omega)
    have h5 := h4.set HH.out (k := 9) (by omega) (v := (m : Int)) HB.out.2.1.symm (M' := fun j => (j = 8 ∨ j = 9) ∨ j = 10) (fun j => by omega)
    have H5 := Lib.hid h5
    clear h3 h4 h5 hm hla2
    go_upto_region 6 with fail
    clear hmi q1m
    go_upto_region 8 with fail
    obtain ⟨wx, hwx⟩ : ∃ wx, ((w2.setCell ⟨H + 1, 10, none⟩ (.int .u8 1)).setCell ⟨H + 1, 8, none⟩ (.int .u8 0)).setCell ⟨H + 1, 9, none⟩ (.int .u8 (m : Int)) = wx := ⟨_, rfl⟩
    rw [hwx] at H5 ⊢
    clear hwx f8 c8 f9 c9 u8 u9 q q1 f10 c10 u10 r1 r2 r3 r4
    have H6 : Hid (∃ o, FF w wx H T o (fun j => ((j = 8 ∨ j = 9) ∨ j = 10) ∨ j < 0 ∨ (56 ≤ j ∧ j < 56 + 0))) := Lib.hid ⟨_, ⟨⟨H5.out.1.len, fun j hj => H5.out.1.yes j (by omega), fun j hj => H5.out.1.no j (by omega)⟩, H5.out.2⟩⟩
    clear H5
    go_wp2
    go_loopw [9] (fun vi wr => ∃ k : Nat, k ≤ 8 ∧ vi = .int .i64 (k : Int) ∧ Hid (∃ o, FF w wr H T o (fun j => ((j = 8 ∨ j = 9) ∨ j = 10) ∨ j < k ∨ (56 ≤ j ∧ j < 56 + k)))) (fun vi _ => 8 - (intOf vi).toNat)
    case atStart => exact ⟨0, Nat.zero_le _, rfl, H6⟩
    case round =>
      clear H6
      obtain ⟨k, hk, rfl, HX⟩ := hrel
      by_cases hlt : k < 8
      · obtain ⟨o, hF⟩ := HX.out
        obtain ⟨v, hv⟩ : ∃ v : Nat, l / 2 ^ (56 - 8 * k) % 256 = v := ⟨_, rfl⟩
        have hbg : (Jl.big l).getD k 0 = (v : Int) := by
          rw [← hv]
          have hk8 : k = 0 ∨ k = 1 ∨ k = 2 ∨ k = 3 ∨ k = 4 ∨ k = 5 ∨ k = 6 ∨ k = 7 := by omega
          rcases hk8 with rfl | rfl | rfl | rfl | rfl | rfl | rfl | rfl <;> unfold Jl.big <;> simp
        have hb2 := bk_big r i l k hlt
        rw [HTT.out, hbg] at hb2
        obtain ⟨⟨u1, ck⟩, fk⟩ := hF.some (k := k) (by omega)
        have h7 := hF.set HH.out (k := k) (by omega) hb2.1.symm (M' := fun j => (((j = 8 ∨ j = 9) ∨ j = 10) ∨ j < k ∨ (56 ≤ j ∧ j < 56 + k)) ∨ j = k) (fun j => Iff.rfl)
        obtain ⟨⟨u2, ck2⟩, fk2⟩ := h7.some (k := 56 + k) (by omega)
        have h8 := h7.set HH.out (k := 56 + k) (by omega) hb2.2.symm (M' := fun j => ((j = 8 ∨ j = 9) ∨ j = 10) ∨ j < k + 1 ∨ (56 ≤ j ∧ j < 56 + (k + 1))) (fun j => by omega)
        have H8 := Lib.hid h8
        have HV := Lib.hid hv
        have hvi : (l : Int) / 2 ^ (56 - 8 * k) % 256 = (v : Int) := by rw [← hv]; push_cast; rfl
        clear hF h7 h8 hb2 hbg hv
        have q2 : (k : Int) < 8 := by omega
        go_upto_region 12 with fail
        rw [hvi]
        clear hvi
        go_wp2
        go_roundw
        case rel => exact ⟨k + 1, by omega, by go_num, Lib.hid ⟨_, H8.out⟩⟩
        case measure => simp [intOf]; omega
      · obtain rfl : k = 8 := by omega
        have q2 : ¬ ((8 : Nat) : Int) < 8 := by omega
        have H9 : Hid (∃ o, FF w wr H T o (fun j => (j < 12 ∨ 56 ≤ j) ∨ (12 ≤ j ∧ j < 12 + 0))) := Lib.hid (by
          obtain ⟨o, hF⟩ := HX.out
          have h11 := hF.more (k := 11) HB.out.2.2.2 (M' := fun j => (((j = 8 ∨ j = 9) ∨ j = 10) ∨ j < 8 ∨ (56 ≤ j ∧ j < 56 + 8)) ∨ j = 11) (fun j => Iff.rfl)
          refine ⟨o, ⟨⟨h11.1.len, fun j hj => ?_, fun j hj => h11.1.no j (by omega)⟩, h11.2⟩⟩
          by_cases h64 : j < 64
          · exact h11.1.yes j (by omega)
          · have hTl : T.length = 64 := by rw [← HTT.out]; exact Jl.block_len _ _ _
            rw [List.getD_eq_getElem?_getD, List.getD_eq_getElem?_getD, List.getElem?_eq_none (by rw [h11.1.len]; omega), List.getElem?_eq_none (by omega)])
        clear HX
        go_wp2
        go_loopw [11] (fun vi wr => ∃ k : Nat, k ≤ m ∧ vi = .int .i64 (k : Int) ∧ Hid (∃ o, FF w wr H T o (fun j => (j < 12 ∨ 56 ≤ j) ∨ (12 ≤ j ∧ j < 12 + k)))) (fun vi _ => m - (intOf vi).toNat)
        case atStart => exact ⟨0, Nat.zero_le _, rfl, H9⟩
        case round =>
          clear H9
          obtain ⟨k, hk, rfl, HX⟩ := hrel
          by_cases hlt : k < m
          · obtain ⟨o, hF⟩ := HX.out
            have q3 : (k : Int) < m := by omega
            obtain ⟨b, off, rfl, hSb, hb, hc⟩ := HT.out.1.cell (k := 44 * i + k) (by omega)
            obtain ⟨v, hv⟩ : ∃ v, r.getD (44 * i + k) 0 = v := ⟨_, rfl⟩
            have hc2 : wr.cell? ⟨b, off + (44 * i + k), none⟩ = some (.int .u8 v) := by rw [← hv]; exact (World.cell?_of_block (hF.2.2.2.block b (by rw [← HH.out]; exact HT.out.2 b hSb))).trans hc
            have hTk : T.getD (12 + k) 0 = v := by rw [← HTT.out, bk_mid r i l k (by omega), bk_cut r i k (by omega), hv]
            obtain ⟨⟨u1, ck⟩, fk⟩ := hF.some (k := 12 + k) (by omega)
            have h8 := hF.set HH.out (k := 12 + k) (by omega) hTk.symm (M' := fun j => (j < 12 ∨ 56 ≤ j) ∨ (12 ≤ j ∧ j < 12 + (k + 1))) (fun j => by omega)
            have H8 := Lib.hid h8
            clear hF h8 hTk hv hc hb hSb
            go_wp2
            go_roundw
            case rel => exact ⟨k + 1, by omega, by go_num, Lib.hid ⟨_, H8.out⟩⟩
            case measure => simp [intOf]; omega
          · obtain rfl : m = k := by omega
            have q3 : ¬ ((m : Nat) : Int) < m := by omega
            have HE : Hid (Whole wr (H + 1) 45 (nums T).toArray ∧ Whole wr H 45 zb ∧ Below H w wr ∧ T.length = 64) := Lib.hid (by
              obtain ⟨o, hF⟩ := HX.out
              have hTl : T.length = 64 := by rw [← HTT.out]; exact Jl.block_len _ _ _
              have e := hF.1.done hTl (fun j hj => by
                obtain ⟨d, rfl⟩ : ∃ d, j = 12 + d := ⟨j - 12, by omega⟩
                rw [← HTT.out, bk_mid r i l d (by omega), List.getD_eq_getElem?_getD, List.getElem?_eq_none (by rw [HC.out]; omega)]
                rfl)
              rw [e] at hF
              exact ⟨hF.2.1, hF.2.2.1, hF.2.2.2, hTl⟩)
            clear HX
            go_wp2_with (first | ((with_reducible show wpList _ _ _ ((⟨_, Op.load 45 _, _, _, _, _⟩ : Oper) :: _) _ _); refine wpList_load_row rfl 45 (.tmp 7) rfl (H + 1) rfl 45 (nums T).toArray (0, 0) _ HE.out.1 und_b rfl (info_bn HE.out.2.2.2) ?_) | ((with_reducible show wpList _ _ _ ((⟨_, Op.store 45 _ _, _, _, _, _⟩ : Oper) :: _) _ _); refine wpList_store_row rfl 45 (.tmp 6) (.tmp 63) rfl H (nums T).toArray rfl rfl 45 zb HE.out.2.1 (info_bn HE.out.2.2.2) (size_bn HE.out.2.2.2) (all_nums _) ?_) | fail)
            refine bodyPost_ret (results_one_cell rfl _ _ _ _ rfl (run_loadVar_row _ _ _ _ _ (0, 0) _ (HE.out.2.1.row (nums T).toArray) und_b rfl (info_bn HE.out.2.2.2))) rfl ?_
            exact ⟨rfl, by rw [HH.out]; exact below_row HE.out.2.2.1 (Nat.le_refl _) _⟩
end Go.Proofs.Ytfecobkpdmjaeaa
