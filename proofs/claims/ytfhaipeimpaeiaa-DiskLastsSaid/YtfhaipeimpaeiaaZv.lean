/-
  The walk of DiskLasts.
-/
import Derived.Test.YtfhaipeimpaeiaaZu
namespace Go.Proofs.Ytfhaipeimpaeiaa
open Go.RowKit
set_option linter.unusedVariables false
set_option linter.unusedSimpArgs false
set_option maxHeartbeats 8000000 in
set_option maxRecDepth 100000 in
theorem lasts_walk (ca : Option Addr) (cl cc : Nat) (cs : List Cl) (fa : Option Addr) (fl fc : Nat) (fs : List Int) (w : World)
    (hcs : Cls w (· < w.heap.size) ca cl cs) (hcm : cl ≤ maxLen) (hfs : Its w (· < w.heap.size) fa fl fs) (hfm : fl ≤ maxLen) (hf64 : Num64 fs) :
    Calls Try.prog 5 #[.slice ca cl cc, .slice fa fl fc] w fun e w' => e = .returned (.bool true) ∧ Below w.heap.size w w' := by
  have HL0 := Lib.hid (And.intro hcs hfs)
  have HM := Lib.hid hfm
  unfold maxLen at hcm
  clear hcs hfs hfm hf64
  go_enter Try.func5, Try.ntmps5
  go_wp2_with fail
  refine awake_any.mono ?_
  rintro e w1 ⟨rfl, hb1⟩
  have HB1 := Lib.hid hb1
  clear hb1
  go_wp2_with fail
  refine (new_ok (n := 20) (by omega)).mono ?_
  rintro e w2 ⟨p, bb, mb, rfl, hd2, hp, hbb, hmb, hb2⟩
  have hs1 := HB1.out.size
  have HP : Hid (w.heap.size ≤ p ∧ w.heap.size ≤ bb ∧ w.heap.size ≤ mb) := Lib.hid ⟨by omega, by omega, by omega⟩
  have H2 := Lib.hid (And.intro (HB1.out.trans (hb2.mono hs1)) hd2)
  clear hb2 hd2 hp hbb hmb hs1 HB1
  have hz1280 := zero_1280
  obtain ⟨w3, h3⟩ : ∃ w3, (w2.alloc (.cells (zc 1280) 45)).setRow w2.heap.size (zc 1280) = w3 := ⟨_, rfl⟩
  have H3 : Hid (∃ A : Dm.A, A.down = false ∧ Dk w3 p bb mb A 20 ∧ Whole w3 w2.heap.size 45 (nums A.last).toArray ∧ Below w.heap.size w w3) := Lib.hid (by
    have hb3 : Below w2.heap.size w2 w3 := by rw [← h3]; exact below_row ((Below.refl _ _).alloc (Nat.le_refl _) _) (Nat.le_refl _) _
    refine ⟨fresh 20, rfl, H2.out.2.old hb3, ?_, H2.out.1.trans (hb3.mono H2.out.1.size)⟩
    rw [← h3]
    exact (Whole.new w2 _ _).row _)
  have HW3 := Lib.hid h3
  have HS2 : Hid (w.heap.size ≤ w2.heap.size) := Lib.hid H2.out.1.size
  clear h3 H2
  go_upto_block 0 with (first | ((with_reducible show wpList _ _ _ ((⟨_, Op.build 45 _, _, _, _, _⟩ : Oper) :: _) _ _); refine wpList_built rfl _ rfl _ rfl _ built_1280 ?_) | ((with_reducible show wpList _ _ _ ((⟨_, Op.store 45 _ _, _, _, _, _⟩ : Oper) :: _) _ _); refine wpList_store_row rfl 45 (.tmp 8) (.tmp 30) rfl w2.heap.size (zc 1280) rfl rfl 45 (zc 1280) (Whole.new w2 _ _) info_1280 rfl (all_nums _) ?_; rw [HW3.out]; clear hz1280) | fail)
  go_cut [9] from 31 (fun _ wr => Hid (∃ A : Dm.A, A.down = false ∧ Dk wr p bb mb A 20 ∧ Whole wr w2.heap.size 45 (nums A.last).toArray ∧ Below w.heap.size w wr))
-- FIRST
  case first =>
    go_wp2
    go_loopw [9] (fun v wr => ∃ i : Nat, i ≤ cl ∧ i ≤ 40 ∧ v = .int .i64 (i : Int) ∧ Hid (∃ A : Dm.A, A.down = false ∧ Dk wr p bb mb A 20 ∧ Whole wr w2.heap.size 45 (nums A.last).toArray ∧ Below w.heap.size w wr)) (fun v _ => 40 - (intOf v).toNat)
    case atStart => exact ⟨0, Nat.zero_le _, Nat.zero_le _, rfl, H3⟩
    case round =>
      clear H3 HW3
      obtain ⟨i, hi1, hi2, rfl, HB0⟩ := hrel
      by_cases q1 : i < cl
      · have q1' : (i : Int) < (cl : Int) := by omega
        by_cases q2 : i < 40
        · have q2' : (i : Int) < 40 := by omega
          obtain ⟨A, hA⟩ := HB0.out
          have HA := Lib.hid hA
          clear hA HB0
          have HCL := HL0.out.1.keep HA.out.2.2.2.size (fun b hb' _ => HA.out.2.2.2.block b hb')
          obtain ⟨c, hc⟩ : ∃ c, cs[i]? = some c := ⟨_, List.getElem?_eq_getElem (by rw [HCL.1]; exact q1)⟩
          obtain ⟨sb, so, hca, hsB, _, hcat⟩ := HCL.2.resolve_left (by omega)
          obtain ⟨ga, gn, gm, hr, _, _, hcb, hcB⟩ := hcat i c hc
          have ck : wr.cell? ⟨sb, so + i * 67, none⟩ = some (.int .i64 c.kind) := hr 0 _ rfl
          have HSB := Lib.hid (And.intro hsB (And.intro hcb hcB))
          subst hca
          clear HCL hcat hc hsB hcb hcB
          by_cases q3 : c.kind = 1
          · have HR := Lib.hid hr
            have cn : wr.cell? ⟨sb, so + i * 67 + 1, none⟩ = some (.int .i64 c.n) := hr 1 _ rfl
            have rb : wr.rangeAt sb (so + i * 67 + 2) (nums c.b) := fun j v hv => by
              have := hr (2 + j) v (by show (Value.int .i64 c.kind :: Value.int .i64 c.n :: (nums c.b ++ _))[2 + j]? = _; rw [show 2 + j = j + 2 by omega]; simp only [List.getElem?_cons_succ]; rw [List.getElem?_append_left (List.getElem?_eq_some_iff.1 hv).1]; exact hv)
              rw [← this, Nat.add_assoc (so + i * 67)]
            rw [q3] at ck
            clear hr q3
            go_upto_region 12 with (fail)
            refine wp_region_held_drew (S := fun w' => w'.cell? ⟨sb, so + i * 67 + 1, none⟩ = some (.int .i64 c.n) ∧ w'.rangeAt sb (so + i * 67 + 2) (nums c.b)) (by kernel_rfl) ⟨cn, rb⟩ (fun hHeld => ?_)
            refine wpAnyH_take (i := 0) (v := .pointer (some ⟨p, 0, none⟩)) rfl (by kernel_rfl) (by kernel_rfl) (by kernel_rfl) (fun _ _ _ h => h) (Or.inl ⟨by rfl, (by intro w hSw; (try dsimp only at hSw); go_simp)⟩) (by assumption) ?_
            try simp only [Act.put, List.getElem_toArray, List.getElem_cons_zero, List.getElem_cons_succ, List.setIfInBounds_toArray, List.set_cons_zero, List.set_cons_succ]
            refine wpAnyH_take (i := 1) (v := .slice (some ⟨sb, so, none⟩) cl cc) rfl (by kernel_rfl) (by kernel_rfl) (by kernel_rfl) (fun _ _ _ h => h) (Or.inl ⟨by rfl, (by intro w hSw; (try dsimp only at hSw); go_simp)⟩) (by assumption) ?_
            try simp only [Act.put, List.getElem_toArray, List.getElem_cons_zero, List.getElem_cons_succ, List.setIfInBounds_toArray, List.set_cons_zero, List.set_cons_succ]
            refine wpAnyH_take (i := 2) (v := .int .i64 (i : Int)) rfl (by kernel_rfl) (by kernel_rfl) (by kernel_rfl) (fun _ _ _ h => h) (Or.inl ⟨by rfl, (by intro w hSw; (try dsimp only at hSw); go_simp)⟩) (by assumption) ?_
            try simp only [Act.put, List.getElem_toArray, List.getElem_cons_zero, List.getElem_cons_succ, List.setIfInBounds_toArray, List.set_cons_zero, List.set_cons_succ]
            refine wpAnyH_take (i := 3) (v := .pointer (some ⟨sb, so + i * 67, none⟩)) rfl (by kernel_rfl) (by kernel_rfl) (by kernel_rfl) (fun _ _ _ h => h) (Or.inl ⟨by rfl, (by intro w hSw; (try dsimp only at hSw); go_simp)⟩) (by assumption) ?_
            try simp only [Act.put, List.getElem_toArray, List.getElem_cons_zero, List.getElem_cons_succ, List.setIfInBounds_toArray, List.set_cons_zero, List.set_cons_succ]
            refine wpAnyH_take (i := 4) (v := .pointer (some ⟨sb, so + i * 67 + 1, none⟩)) rfl (by kernel_rfl) (by kernel_rfl) (by kernel_rfl) (fun _ _ _ h => h) (Or.inl ⟨by rfl, (by intro w hSw; (try dsimp only at hSw); go_simp)⟩) (by assumption) ?_
            try simp only [Act.put, List.getElem_toArray, List.getElem_cons_zero, List.getElem_cons_succ, List.setIfInBounds_toArray, List.set_cons_zero, List.set_cons_succ]
            refine wpAnyH_take (i := 5) (v := .int .i64 c.n) rfl (by kernel_rfl) (by kernel_rfl) (by kernel_rfl) (fun _ _ _ h => h) (Or.inl ⟨by rfl, (by intro w hSw; (try dsimp only at hSw); go_simp)⟩) (by assumption) ?_
            try simp only [Act.put, List.getElem_toArray, List.getElem_cons_zero, List.getElem_cons_succ, List.setIfInBounds_toArray, List.set_cons_zero, List.set_cons_succ]
            refine wpAnyH_take (i := 6) (v := .slice (some ⟨sb, so, none⟩) cl cc) rfl (by kernel_rfl) (by kernel_rfl) (by kernel_rfl) (fun _ _ _ h => h) (Or.inl ⟨by rfl, (by intro w hSw; (try dsimp only at hSw); go_simp)⟩) (by assumption) ?_
            try simp only [Act.put, List.getElem_toArray, List.getElem_cons_zero, List.getElem_cons_succ, List.setIfInBounds_toArray, List.set_cons_zero, List.set_cons_succ]
            refine wpAnyH_take (i := 7) (v := .int .i64 (i : Int)) rfl (by kernel_rfl) (by kernel_rfl) (by kernel_rfl) (fun _ _ _ h => h) (Or.inl ⟨by rfl, (by intro w hSw; (try dsimp only at hSw); go_simp)⟩) (by assumption) ?_
            try simp only [Act.put, List.getElem_toArray, List.getElem_cons_zero, List.getElem_cons_succ, List.setIfInBounds_toArray, List.set_cons_zero, List.set_cons_succ]
            refine wpAnyH_take (i := 8) (v := .pointer (some ⟨sb, so + i * 67, none⟩)) rfl (by kernel_rfl) (by kernel_rfl) (by kernel_rfl) (fun _ _ _ h => h) (Or.inl ⟨by rfl, (by intro w hSw; (try dsimp only at hSw); go_simp)⟩) (by assumption) ?_
            try simp only [Act.put, List.getElem_toArray, List.getElem_cons_zero, List.getElem_cons_succ, List.setIfInBounds_toArray, List.set_cons_zero, List.set_cons_succ]
            refine wpAnyH_take (i := 9) (v := .pointer (some ⟨sb, so + i * 67 + 2, none⟩)) rfl (by kernel_rfl) (by kernel_rfl) (by kernel_rfl) (fun _ _ _ h => h) (Or.inl ⟨by rfl, (by intro w hSw; (try dsimp only at hSw); go_simp)⟩) (by assumption) ?_
            try simp only [Act.put, List.getElem_toArray, List.getElem_cons_zero, List.getElem_cons_succ, List.setIfInBounds_toArray, List.set_cons_zero, List.set_cons_succ]
            refine wpAnyH_take (i := 10) (v := .agg (nums c.b).toArray) rfl (by kernel_rfl) (by kernel_rfl) (by kernel_rfl) (fun _ _ _ h => h) (yieldsIf_load_mid (by rfl) 32 _ rfl _ _ rfl _ _ (fun w hSw => hSw.2) und_b rfl (info_bm HSB.out.2.1)) (by assumption) ?_
            try simp only [Act.put, List.getElem_toArray, List.getElem_cons_zero, List.getElem_cons_succ, List.setIfInBounds_toArray, List.set_cons_zero, List.set_cons_succ]
            refine wpAnyH_ready (rs := [11]) (by kernel_rfl) (by simp) (AllReadyH.cons rfl (fun K hK => ?_) AllReadyH.nil)
            try simp only [List.getElem_toArray, List.getElem_cons_zero, List.getElem_cons_succ]
            go_simp
            go_at_call 21
            have hdd : Dk wr.drew p bb mb A 20 := HA.out.2.1.keep rfl rfl rfl
            refine (write_z (z := c.n) (b := c.b) hdd HSB.out.2.1 HSB.out.2.2).mono ?_
            rintro e v2 ⟨rfl, hd2, ho2'⟩
            have ho2 : Only [p, bb, mb] wr v2 := ⟨ho2'.os, ho2'.tape, ho2'.output, ho2'.size, ho2'.block⟩
            obtain ⟨E, hE⟩ : ∃ E, bad A 20 c.n = E := ⟨_, rfl⟩
            rw [hE]
            have hsbn : sb ∉ [p, bb, mb] := by have := HP.out; have := HSB.out.1; simp; omega
            have hsbl : sb < wr.heap.size := by have := HSB.out.1; have := HA.out.2.2.2.size; omega
            have HA2 : Hid (Dk v2 p bb mb (wrz A 20 c.n c.b) 20 ∧ Whole v2 w2.heap.size 45 (nums A.last).toArray ∧ Below w.heap.size w v2 ∧ (wrz A 20 c.n c.b).down = false ∧ (wrz A 20 c.n c.b).last = A.last) := Lib.hid ⟨hd2, whole_only HA.out.2.2.1 HA.out.2.1 (by decide) (by decide) ho2, ho2.after HA.out.2.2.2 HP.out, by unfold wrz; split <;> exact HA.out.1, by unfold wrz; split <;> rfl⟩
            have ck2 : v2.cell? ⟨sb, so + i * 67, none⟩ = some (.int .i64 1) := (World.cell?_of_block (w := wr) (ho2.block sb hsbl hsbn)).trans ck
            have cn2 : v2.cell? ⟨sb, so + i * 67 + 1, none⟩ = some (.int .i64 c.n) := (World.cell?_of_block (w := wr) (ho2.block sb hsbl hsbn)).trans cn
            have rb2 : v2.rangeAt sb (so + i * 67 + 2) (nums c.b) := fun j v hv => (World.cell?_of_block (w := wr) (ho2.block sb hsbl hsbn)).trans (rb j v hv)
            have HS2' := Lib.hid (And.intro cn2 rb2)
            clear hdd hd2 ho2 ho2' hE hsbn hsbl cn rb cn2 rb2 HA ck
            go_wp2_with fail
            refine hK.out _ _ HS2'.out (fun hHeld => ?_)
            clear hK K hHeld
            try simp only [Act.put, List.getElem_toArray, List.getElem_cons_zero, List.getElem_cons_succ, List.setIfInBounds_toArray, List.set_cons_zero, List.set_cons_succ]
            refine wpAnyH_done (by kernel_rfl) ?_ _
            go_wp2
            go_roundw
            case rel => exact ⟨i + 1, by omega, by omega, by go_num, Lib.hid ⟨wrz A 20 c.n c.b, HA2.out.2.2.2.1, HA2.out.1, by rw [HA2.out.2.2.2.2]; exact HA2.out.2.1, HA2.out.2.2.1⟩⟩
            case measure => simp [intOf]; omega
          · have q3' : (c.kind == 1) = false := by simpa using q3
            clear q3 hr
            by_cases q4 : c.kind = 3
            · have q4' : (c.kind == 3) = true := by simpa using q4
              have Q4 := Lib.hid q4
              clear q4
              go_wp2_with fail
              refine (flush_any HA.out.2.1 HA.out.1).mono ?_
              rintro e w6 ⟨rfl, hd6, ho6⟩
              obtain ⟨L, hL⟩ : ∃ L, (Dm.flush A).last = L := ⟨_, rfl⟩
              have hF : Dm.flush A = ⟨L, [], false⟩ := by rw [← hL]; unfold Dm.flush; rw [HA.out.1]
              rw [hF] at hd6
              have HLl : Hid (L.length = 1280 ∧ A.last.length = 1280) := Lib.hid ⟨hd6.ok.len, HA.out.2.1.ok.len⟩
              have H7 : Hid (Dk w6 p bb mb ⟨L, [], false⟩ 20 ∧ Whole w6 w2.heap.size 45 (nums (L.take (0 * 64) ++ A.last.drop (0 * 64))).toArray ∧ Below w.heap.size w w6) := Lib.hid ⟨hd6, by have := whole_only HA.out.2.2.1 HA.out.2.1 (by decide) (by decide) ho6; simpa using this, ho6.after HA.out.2.2.2 HP.out⟩
              have HAA : Hid (A.down = false) := Lib.hid HA.out.1
              clear hd6 ho6 hL hF HA ck
              go_wp2
              go_loopw [10] (fun v wr => ∃ k : Nat, k ≤ 20 ∧ v = .int .i64 (k : Int) ∧ Hid (Dk wr p bb mb ⟨L, [], false⟩ 20 ∧ Whole wr w2.heap.size 45 (nums (L.take (k * 64) ++ A.last.drop (k * 64))).toArray ∧ Below w.heap.size w wr)) (fun v _ => 20 - (intOf v).toNat)
              case atStart => exact ⟨0, Nat.zero_le _, rfl, H7⟩
              case round =>
                clear H7
                obtain ⟨k, hk, rfl, HB⟩ := hrel
                by_cases hlt : k < 20
                · have q1 : (k : Int) < 20 := by omega
                  obtain ⟨b, hb⟩ : ∃ b, Dm.blk L k = b := ⟨_, rfl⟩
                  have hbl : b.length = 64 := by rw [← hb]; exact Dm.blk_len (n := 20) HLl.out.1 hlt
                  have HBK := Lib.hid (And.intro hb hbl)
                  clear hb hbl
                  go_wp2_with fail
                  refine (read_any (k := k) HB.out.1 rfl hlt).mono ?_
                  rintro e w8 ⟨rfl, hb8⟩
                  rw [show Dm.read ⟨L, [], false⟩ k = b from HBK.out.1]
                  obtain ⟨w9, h9, k9, b9⟩ := boxed w8 b
                  have hb9 := hb8.trans (b9.mono hb8.size)
                  have hw9 := HB.out.2.1.keep (hb9.block _ HB.out.2.1.lt)
                  have hsp : splice (nums (L.take (k * 64) ++ A.last.drop (k * 64))) (k * 64) (nums b) = nums (L.take ((k + 1) * 64) ++ A.last.drop ((k + 1) * 64)) := by rw [← HBK.out.1]; exact fill_splice' HLl.out.1 HLl.out.2 hlt
                  have hfit : k * 64 + (nums b).length ≤ (nums (L.take (k * 64) ++ A.last.drop (k * 64))).length := by rw [nums_len, nums_len, List.length_append, List.length_take, List.length_drop, HLl.out.1, HLl.out.2, HBK.out.2]; omega
                  have hw10 : Whole (w9.setRow w2.heap.size (nums (L.take ((k + 1) * 64) ++ A.last.drop ((k + 1) * 64))).toArray) w2.heap.size 45 (nums (L.take ((k + 1) * 64) ++ A.last.drop ((k + 1) * 64))).toArray := hw9.row _
                  have hb10 : Below w.heap.size w (w9.setRow w2.heap.size (nums (L.take ((k + 1) * 64) ++ A.last.drop ((k + 1) * 64))).toArray) := below_row (HB.out.2.2.trans (hb9.mono HB.out.2.2.size)) HS2.out _
                  have hd9 := HB.out.1.old hb9
                  have hf := dk_far hd9 (by decide) (by decide) hw9
                  simp only [List.mem_cons, List.not_mem_nil, or_false, not_or] at hf
                  have hd10 : Dk (w9.setRow w2.heap.size (nums (L.take ((k + 1) * 64) ++ A.last.drop ((k + 1) * 64))).toArray) p bb mb ⟨L, [], false⟩ 20 := hd9.keep (setRow_other w9 _ _ _ (fun e => hf.1 e.symm)) (setRow_other w9 _ _ _ (fun e => hf.2.1 e.symm)) (setRow_other w9 _ _ _ (fun e => hf.2.2 e.symm))
                  have HN := Lib.hid (And.intro hw9 (And.intro hsp (And.intro hfit (And.intro k9 (And.intro hw10 (And.intro hb10 (And.intro hd10 h9)))))))
                  clear hb8 h9 k9 b9 hb9 hw9 hsp hfit hw10 hb10 hd9 hf hd10
                  have hzb := zero_b
                  go_wp2_with (first | ((with_reducible show wpList _ _ _ ((⟨_, Op.store 32 _ _, _, _, _, _⟩ : Oper) :: _) _ _); refine wpList_store_row rfl 32 (.tmp 11) (.tmp 75) rfl w8.heap.size (nums b).toArray rfl rfl 32 zb (Whole.new w8 _ _) (info_bn HBK.out.2) (size_bn HBK.out.2) (all_nums _) ?_; rw [HN.out.2.2.2.2.2.2.2]) | ((with_reducible show wpList _ _ _ ((⟨_, Op.load 32 _, _, _, _, _⟩ : Oper) :: _) _ _); refine wpList_load_row rfl 32 (.tmp 11) rfl w8.heap.size rfl 32 (nums b).toArray (0, 0) _ HN.out.2.2.2.1 und_b rfl (info_bn HBK.out.2) ?_) | ((with_reducible show wpList _ _ _ ((⟨_, Op.store 32 _ _, _, _, _, _⟩ : Oper) :: _) _ _); refine wpList_store_part rfl 32 (.tmp 79) (.tmp 78) rfl w2.heap.size (k * 64) (nums b) rfl rfl HN.out.1 (info_bm HBK.out.2) (nums_one _) HN.out.2.2.1 ?_; rw [HN.out.2.1]) | fail)
                  go_roundw
                  case rel => exact ⟨k + 1, by omega, by go_num, Lib.hid ⟨HN.out.2.2.2.2.2.2.1, HN.out.2.2.2.2.1, HN.out.2.2.2.2.2.1⟩⟩
                  case measure => simp [intOf]; omega
                · have hk20 : k = 20 := by omega
                  subst hk20
                  have q1 : ¬ ((20 : Int) < 20) := by omega
                  have HC : Hid (Dk wr p bb mb ⟨L, [], false⟩ 20 ∧ Whole wr w2.heap.size 45 (nums L).toArray ∧ Below w.heap.size w wr) := Lib.hid ⟨HB.out.1, by have := HB.out.2.1; rw [List.drop_eq_nil_of_le (by rw [HLl.out.2]; omega), List.append_nil, List.take_of_length_le (by rw [HLl.out.1]; omega)] at this; exact this, HB.out.2.2⟩
                  clear HB hk hlt
                  go_wp2
                  go_roundw
                  case rel => exact ⟨i + 1, by omega, by omega, by go_num, Lib.hid ⟨⟨L, [], false⟩, rfl, HC.out⟩⟩
                  case measure => simp [intOf]; omega
            · have q4' : (c.kind == 3) = false := by simpa using q4
              clear q4
              go_wp2
              go_roundw
              case rel => exact ⟨i + 1, by omega, by omega, by go_num, Lib.hid ⟨A, HA.out⟩⟩
              case measure => simp [intOf]; omega
        · have q2' : ¬ ((i : Int) < 40) := by omega
          go_wp2
          go_meet
          case rel => exact HB0
      · have q1' : ¬ ((i : Int) < (cl : Int)) := by omega
        go_wp2
        go_meet
        case rel => exact HB0
-- REST
  case rest =>
  obtain ⟨A, hA⟩ := hcut.out
  obtain ⟨wC, hwC⟩ : ∃ wC, wC = wc := ⟨_, rfl⟩
  subst hwC
  obtain ⟨N, hN⟩ : ∃ N, Dm.now A = N := ⟨_, rfl⟩
  have hng := Dm.now_get hA.2.1.ok
  rw [hN] at hng
  have HNN : Hid (N.length = 1280 ∧ (∀ m, Dm.blk N m = Dm.read A m) ∧ A.down = false ∧ Dm.now A = N ∧ Dm.Ok A 20) := Lib.hid ⟨hng.1, hng.2.2, hA.1, hN, hA.2.1.ok⟩
  have hz1280 := zero_1280
  obtain ⟨w7, h7⟩ : ∃ w7, (wC.alloc (.cells (zc 1280) 45)).setRow wC.heap.size (zc 1280) = w7 := ⟨_, rfl⟩
  have hb7 : Below wC.heap.size wC w7 := by rw [← h7]; exact below_row ((Below.refl _ _).alloc (Nat.le_refl _) _) (Nat.le_refl _) _
  have H7 : Hid (Dk w7 p bb mb A 20 ∧ Whole w7 wC.heap.size 45 (nums (N.take (0 * 64) ++ (zeros 1280).drop (0 * 64))).toArray ∧ Below w.heap.size w w7) := Lib.hid ⟨hA.2.1.old hb7, by rw [← h7]; exact (Whole.new wC _ _).row _, hA.2.2.2.trans (hb7.mono hA.2.2.2.size)⟩
  have H7L : Hid (Whole w7 w2.heap.size 45 (nums A.last).toArray) := Lib.hid (hA.2.2.1.keep (hb7.block _ hA.2.2.1.lt))
  have HW7 := Lib.hid h7
  have HSC : Hid (w.heap.size ≤ wC.heap.size ∧ w2.heap.size ≠ wC.heap.size) := Lib.hid ⟨hA.2.2.2.size, by have := hA.2.2.1.lt; omega⟩
  clear hA hcut H3 HW3 hN hng h7 hb7
  go_wp2_with (first | ((with_reducible show wpList _ _ _ ((⟨_, Op.build 45 _, _, _, _, _⟩ : Oper) :: _) _ _); refine wpList_built rfl _ rfl _ rfl _ built_1280 ?_) | ((with_reducible show wpList _ _ _ ((⟨_, Op.store 45 _ _, _, _, _, _⟩ : Oper) :: _) _ _); refine wpList_store_row rfl 45 (.tmp 13) (.tmp 80) rfl wC.heap.size (zc 1280) rfl rfl 45 (zc 1280) (Whole.new wC _ _) info_1280 rfl (all_nums _) ?_; rw [HW7.out]; clear hz1280) | fail)
  go_loopw [14] (fun v wr => ∃ k : Nat, k ≤ 20 ∧ v = .int .i64 (k : Int) ∧ Hid (Dk wr p bb mb A 20 ∧ Whole wr wC.heap.size 45 (nums (N.take (k * 64) ++ (zeros 1280).drop (k * 64))).toArray ∧ Below w.heap.size w wr) ∧ Hid (Whole wr w2.heap.size 45 (nums A.last).toArray)) (fun v _ => 20 - (intOf v).toNat)
  case atStart => exact ⟨0, Nat.zero_le _, rfl, H7, H7L⟩
  case round =>
    clear H7 HW7 H7L
    obtain ⟨k, hk, rfl, HB, HLB⟩ := hrel
    by_cases hlt : k < 20
    · have q1 : (k : Int) < 20 := by omega
      obtain ⟨b, hb⟩ : ∃ b, Dm.blk N k = b := ⟨_, rfl⟩
      have hbl : b.length = 64 := by rw [← hb]; exact Dm.blk_len (n := 20) HNN.out.1 hlt
      have HBK := Lib.hid (And.intro hb hbl)
      clear hb hbl
      go_wp2_with fail
      refine (read_any (k := k) HB.out.1 HNN.out.2.2.1 hlt).mono ?_
      rintro e w8 ⟨rfl, hb8⟩
      rw [show Dm.read A k = b from ((HNN.out.2.1 k).symm.trans HBK.out.1)]
      obtain ⟨w9, h9, k9, b9⟩ := boxed w8 b
      have hb9 := hb8.trans (b9.mono hb8.size)
      have hw9 := HB.out.2.1.keep (hb9.block _ HB.out.2.1.lt)
      have hsp : splice (nums (N.take (k * 64) ++ (zeros 1280).drop (k * 64))) (k * 64) (nums b) = nums (N.take ((k + 1) * 64) ++ (zeros 1280).drop ((k + 1) * 64)) := by rw [← HBK.out.1]; exact fill_splice' HNN.out.1 (zeros_len 1280) hlt
      have hfit : k * 64 + (nums b).length ≤ (nums (N.take (k * 64) ++ (zeros 1280).drop (k * 64))).length := by rw [nums_len, nums_len, List.length_append, List.length_take, List.length_drop, HNN.out.1, (zeros_len 1280), HBK.out.2]; omega
      have hw10 : Whole (w9.setRow wC.heap.size (nums (N.take ((k + 1) * 64) ++ (zeros 1280).drop ((k + 1) * 64))).toArray) wC.heap.size 45 (nums (N.take ((k + 1) * 64) ++ (zeros 1280).drop ((k + 1) * 64))).toArray := hw9.row _
      have hb10 : Below w.heap.size w (w9.setRow wC.heap.size (nums (N.take ((k + 1) * 64) ++ (zeros 1280).drop ((k + 1) * 64))).toArray) := below_row (HB.out.2.2.trans (hb9.mono HB.out.2.2.size)) HSC.out.1 _
      have hd9 := HB.out.1.old hb9
      have hf := dk_far hd9 (by decide) (by decide) hw9
      simp only [List.mem_cons, List.not_mem_nil, or_false, not_or] at hf
      have hd10 : Dk (w9.setRow wC.heap.size (nums (N.take ((k + 1) * 64) ++ (zeros 1280).drop ((k + 1) * 64))).toArray) p bb mb A 20 := hd9.keep (setRow_other w9 _ _ _ (fun e => hf.1 e.symm)) (setRow_other w9 _ _ _ (fun e => hf.2.1 e.symm)) (setRow_other w9 _ _ _ (fun e => hf.2.2 e.symm))
      have HN := Lib.hid (And.intro hw9 (And.intro hsp (And.intro hfit (And.intro k9 (And.intro hw10 (And.intro hb10 (And.intro hd10 h9)))))))
      have HLB2 : Hid (Whole (w9.setRow wC.heap.size (nums (N.take ((k + 1) * 64) ++ (zeros 1280).drop ((k + 1) * 64))).toArray) w2.heap.size 45 (nums A.last).toArray) := Lib.hid ((HLB.out.keep (hb9.block _ HLB.out.lt)).rowFar HSC.out.2 _)
      clear hb8 h9 k9 b9 hb9 hw9 hsp hfit hw10 hb10 hd9 hf hd10
      have hzb := zero_b
      go_wp2_with (first | ((with_reducible show wpList _ _ _ ((⟨_, Op.store 32 _ _, _, _, _, _⟩ : Oper) :: _) _ _); refine wpList_store_row rfl 32 (.tmp 15) (.tmp 89) rfl w8.heap.size (nums b).toArray rfl rfl 32 zb (Whole.new w8 _ _) (info_bn HBK.out.2) (size_bn HBK.out.2) (all_nums _) ?_; rw [HN.out.2.2.2.2.2.2.2]) | ((with_reducible show wpList _ _ _ ((⟨_, Op.load 32 _, _, _, _, _⟩ : Oper) :: _) _ _); refine wpList_load_row rfl 32 (.tmp 15) rfl w8.heap.size rfl 32 (nums b).toArray (0, 0) _ HN.out.2.2.2.1 und_b rfl (info_bn HBK.out.2) ?_) | ((with_reducible show wpList _ _ _ ((⟨_, Op.store 32 _ _, _, _, _, _⟩ : Oper) :: _) _ _); refine wpList_store_part rfl 32 (.tmp 93) (.tmp 92) rfl wC.heap.size (k * 64) (nums b) rfl rfl HN.out.1 (info_bm HBK.out.2) (nums_one _) HN.out.2.2.1 ?_; rw [HN.out.2.1]) | fail)
      go_roundw
      case rel => exact ⟨k + 1, by omega, by go_num, Lib.hid ⟨HN.out.2.2.2.2.2.2.1, HN.out.2.2.2.2.1, HN.out.2.2.2.2.2.1⟩, HLB2⟩
      case measure => simp [intOf]; omega
    · have hk20 : k = 20 := by omega
      subst hk20
      have q1 : ¬ ((20 : Int) < 20) := by omega
      have HC : Hid (Dk wr p bb mb A 20 ∧ Whole wr wC.heap.size 45 (nums N).toArray ∧ Whole wr w2.heap.size 45 (nums A.last).toArray ∧ Below w.heap.size w wr) := Lib.hid ⟨HB.out.1, by have := HB.out.2.1; rw [List.drop_eq_nil_of_le (by rw [zeros_len]; omega), List.append_nil, List.take_of_length_le (by rw [HNN.out.1]; omega)] at this; exact this, HLB.out, HB.out.2.2⟩
      clear HB HLB hk hlt
      go_wp2_with fail
      have hif : Its wr (fun b => b ≠ p ∧ b ≠ bb ∧ b ≠ mb) fa fl fs := (HL0.out.2.keep HC.out.2.2.2.size (fun b hb' _ => HC.out.2.2.2.block b hb')).weak (fun b _ hb' => by have := HP.out; omega)
      refine (crash_any HC.out.1 HNN.out.2.2.1 hif HM.out).mono ?_
      rintro e w9 ⟨rfl, hd9, ho9⟩
      have H9 := Lib.hid (And.intro hd9 (And.intro (whole_only HC.out.2.1 HC.out.1 (by decide) (by decide) ho9) (And.intro (whole_only HC.out.2.2.1 HC.out.1 (by decide) (by decide) ho9) (ho9.after HC.out.2.2.2 HP.out))))
      clear hif hd9 ho9 HC q1
      go_wp2_with fail
      refine (start_any H9.out.1).mono ?_
      rintro e w10 ⟨rfl, hd10, hg10, hs10⟩
      have ho10 : Only [p, bb, mb] w9 w10 := Only.of_grown hg10 (by simp)
      obtain ⟨A2, hA2⟩ : ∃ A2, Dm.start (Dm.crash A fs) = A2 := ⟨_, rfl⟩
      have HA2 : Hid (A2.down = false ∧ A2.fresh = [] ∧ ∀ k, k < 20 → ∃ m, m ≤ 64 ∧ Dm.read A2 k = (Dm.blk N k).take m ++ (Dm.blk A.last k).drop m) := Lib.hid (by rw [← hA2]; exact ⟨rfl, rfl, fun k hk => by have := crash_read HNN.out.2.2.2.2 hk fs; rw [HNN.out.2.2.2.1] at this; exact this⟩)
      rw [hA2] at hd10
      have H10 : Hid (Dk w10 p bb mb A2 20 ∧ Whole w10 wC.heap.size 45 (nums N).toArray ∧ Whole w10 w2.heap.size 45 (nums A.last).toArray ∧ Below w.heap.size w w10) := Lib.hid ⟨hd10, whole_only H9.out.2.1 H9.out.1 (by decide) (by decide) ho10, whole_only H9.out.2.2.1 H9.out.1 (by decide) (by decide) ho10, ho10.after H9.out.2.2.2 HP.out⟩
      clear hd10 hg10 hs10 ho10 hA2 H9
      go_wp2
      go_loopw [17] (fun v wr => ∃ k : Nat, k ≤ 20 ∧ v = .int .i64 (k : Int) ∧ Hid (Dk wr p bb mb A2 20 ∧ Whole wr wC.heap.size 45 (nums N).toArray ∧ Whole wr w2.heap.size 45 (nums A.last).toArray ∧ Below w.heap.size w wr)) (fun v _ => 20 - (intOf v).toNat)
      case atStart => exact ⟨0, Nat.zero_le _, rfl, H10⟩
      case round =>
        clear H10
        obtain ⟨k, hk, rfl, HB⟩ := hrel
        by_cases hlt : k < 20
        · have q1 : (k : Int) < 20 := by omega
          obtain ⟨b, hb⟩ : ∃ b, Dm.read A2 k = b := ⟨_, rfl⟩
          obtain ⟨m, hm, hbm⟩ := HA2.out.2.2 k hlt
          rw [hb] at hbm
          have hbl : b.length = 64 := by rw [← hb]; exact (Dm.read_len HB.out.1.ok hlt).1
          have HBK := Lib.hid (And.intro hb (And.intro hbl hbm))
          clear hb hbl hbm
          go_wp2_with fail
          refine (read_any (k := k) HB.out.1 HA2.out.1 hlt).mono ?_
          rintro e w11 ⟨rfl, hb11⟩
          rw [HBK.out.1]
          obtain ⟨w12, h12, k12, b12⟩ := boxed w11 b
          have hb12 := hb11.trans (b12.mono hb11.size)
          have HX : Hid (Dk w12 p bb mb A2 20 ∧ Whole w12 wC.heap.size 45 (nums N).toArray ∧ Whole w12 w2.heap.size 45 (nums A.last).toArray ∧ Whole w12 w11.heap.size 32 (nums b).toArray ∧ Below w.heap.size w w12) := Lib.hid ⟨HB.out.1.old hb12, HB.out.2.1.keep (hb12.block _ HB.out.2.1.lt), HB.out.2.2.1.keep (hb12.block _ HB.out.2.2.1.lt), k12, HB.out.2.2.2.trans (hb12.mono HB.out.2.2.2.size)⟩
          have H12 := Lib.hid h12
          clear hb11 h12 k12 b12 hb12 HB
          have hzb := zero_b
          go_upto_block 8 with (first | ((with_reducible show wpList _ _ _ ((⟨_, Op.store 32 _ _, _, _, _, _⟩ : Oper) :: _) _ _); refine wpList_store_row rfl 32 (.tmp 18) (.tmp 107) rfl w11.heap.size (nums b).toArray rfl rfl 32 zb (Whole.new w11 _ _) (info_bn HBK.out.2.1) (size_bn HBK.out.2.1) (all_nums _) ?_; rw [H12.out]) | fail)
          clear hzb H12
          have hjN : ∀ j, j < 64 → N[k * 64 + j]? = (Dm.blk N k)[j]? := fun j hj => by rw [Dm.blk_get, if_pos hj, Nat.mul_comm]
          have hjL : ∀ j, j < 64 → A.last[k * 64 + j]? = (Dm.blk A.last k)[j]? := fun j hj => by rw [Dm.blk_get, if_pos hj, Nat.mul_comm]
          have hNl : (Dm.blk N k).length = 64 := Dm.blk_len (n := 20) HNN.out.1 hlt
          have HJ := Lib.hid (And.intro hjN (And.intro hjL hNl))
          clear hjN hjL hNl
          go_cut [20] from 109 to 123 (fun v wr => ∃ j : Nat, m ≤ j ∧ j ≤ 64 ∧ v = .int .i64 (j : Int) ∧ Hid (Dk wr p bb mb A2 20 ∧ Whole wr wC.heap.size 45 (nums N).toArray ∧ Whole wr w2.heap.size 45 (nums A.last).toArray ∧ Whole wr w11.heap.size 32 (nums b).toArray ∧ Below w.heap.size w wr))
          case first =>
            go_wp2
            go_loopw [20] (fun v wr => ∃ j : Nat, j ≤ 64 ∧ v = .int .i64 (j : Int) ∧ Hid (Dk wr p bb mb A2 20 ∧ Whole wr wC.heap.size 45 (nums N).toArray ∧ Whole wr w2.heap.size 45 (nums A.last).toArray ∧ Whole wr w11.heap.size 32 (nums b).toArray ∧ Below w.heap.size w wr)) (fun v _ => 64 - (intOf v).toNat)
            case atStart => exact ⟨0, Nat.zero_le _, rfl, HX⟩
            case round =>
              clear HX
              obtain ⟨j, hj, rfl, HY⟩ := hrel
              by_cases hj64 : j < 64
              · have q2 : decide ((j : Int) < 64) = true := by simp; omega
                have q3 : (j : Int) < 64 := by omega
                obtain ⟨x, hx⟩ : ∃ x, b[j]? = some x := ⟨_, List.getElem?_eq_getElem (by rw [HBK.out.2.1]; exact hj64)⟩
                obtain ⟨y, hy⟩ : ∃ y, (Dm.blk N k)[j]? = some y := ⟨_, List.getElem?_eq_getElem (by rw [HJ.out.2.2]; exact hj64)⟩
                have cX : wr.cell? ⟨w11.heap.size, j, none⟩ = some (.int .u8 x) := (HY.out.2.2.2.1.cell j).trans (by rw [List.getElem?_toArray]; simp [nums, hx])
                have cN : wr.cell? ⟨wC.heap.size, k * 64 + j, none⟩ = some (.int .u8 y) := (HY.out.2.1.cell _).trans (by rw [List.getElem?_toArray]; simp [nums, HJ.out.1 j hj64, hy])
                by_cases hxy : x = y
                · have q4 : (x == y) = true := by simpa using hxy
                  clear hx hy hxy hj64
                  go_wp2
                  go_quiet (fail)
                  go_wp2
                  go_roundw
                  case rel => exact ⟨j + 1, by omega, by go_num, Lib.hid ⟨HY.out.1.keep rfl rfl rfl, HY.out.2.1, HY.out.2.2.1, HY.out.2.2.2.1, below_drewN HY.out.2.2.2.2 _⟩⟩
                  case measure => simp [intOf]; omega
                · have q4 : (x == y) = false := by simpa using hxy
                  have hmj : m ≤ j := by
                    apply Decidable.byContradiction
                    intro hh
                    rw [HBK.out.2.2, List.getElem?_append_left (by simp [HJ.out.2.2]; omega), List.getElem?_take, if_pos (by omega), hy] at hx
                    exact hxy (Option.some.inj hx).symm
                  clear hx hy hxy hj64
                  go_wp2
                  go_quiet (fail)
                  go_wp2
                  go_meet
                  case rel => exact ⟨j, hmj, hj, rfl, Lib.hid ⟨HY.out.1.keep rfl rfl rfl, HY.out.2.1, HY.out.2.2.1, HY.out.2.2.2.1, below_drewN HY.out.2.2.2.2 _⟩⟩
              · have q2 : decide ((j : Int) < 64) = false := by simp; omega
                have q3 : ¬ ((j : Int) < 64) := by omega
                have hmj : m ≤ j := by omega
                clear hj64
                go_wp2
                go_quiet (fail)
                go_wp2
                go_meet
                case rel => exact ⟨j, hmj, hj, rfl, Lib.hid ⟨HY.out.1.keep rfl rfl rfl, HY.out.2.1, HY.out.2.2.1, HY.out.2.2.2.1, below_drewN HY.out.2.2.2.2 _⟩⟩
          case rest =>
          obtain ⟨j0, hmj0, hj0, rfl, HX2⟩ := hcut
          clear HX
          go_wp2
          go_loopw [20] (fun v wr => ∃ j : Nat, m ≤ j ∧ j ≤ 64 ∧ v = .int .i64 (j : Int) ∧ Hid (Dk wr p bb mb A2 20 ∧ Whole wr wC.heap.size 45 (nums N).toArray ∧ Whole wr w2.heap.size 45 (nums A.last).toArray ∧ Whole wr w11.heap.size 32 (nums b).toArray ∧ Below w.heap.size w wr)) (fun v _ => 64 - (intOf v).toNat)
          case atStart => exact ⟨j0, hmj0, hj0, rfl, HX2⟩
          case round =>
            clear HX2
            obtain ⟨j, hmj, hj, rfl, HY⟩ := hrel
            by_cases hj64 : j < 64
            · have q2 : decide ((j : Int) < 64) = true := by simp; omega
              have q3 : (j : Int) < 64 := by omega
              obtain ⟨x, hx⟩ : ∃ x, b[j]? = some x := ⟨_, List.getElem?_eq_getElem (by rw [HBK.out.2.1]; exact hj64)⟩
              have hy : (Dm.blk A.last k)[j]? = some x := by
                rw [← hx, HBK.out.2.2]
                have hml : ((Dm.blk N k).take m).length = m := by simp [HJ.out.2.2]; omega
                rw [List.getElem?_append_right (by omega), hml, List.getElem?_drop]
                congr 1; omega
              have cX : wr.cell? ⟨w11.heap.size, j, none⟩ = some (.int .u8 x) := (HY.out.2.2.2.1.cell j).trans (by rw [List.getElem?_toArray]; simp [nums, hx])
              have cN : wr.cell? ⟨w2.heap.size, k * 64 + j, none⟩ = some (.int .u8 x) := (HY.out.2.2.1.cell _).trans (by rw [List.getElem?_toArray]; simp [nums, HJ.out.2.1 j hj64, hy])
              have q4 : (x == x) = true := by simp
              clear hx hy hj64
              go_wp2
              go_quiet (fail)
              go_wp2
              go_roundw
              case rel => exact ⟨j + 1, by omega, by omega, by go_num, Lib.hid ⟨HY.out.1.keep rfl rfl rfl, HY.out.2.1, HY.out.2.2.1, HY.out.2.2.2.1, below_drewN HY.out.2.2.2.2 _⟩⟩
              case measure => simp [intOf]; omega
            · have q2 : decide ((j : Int) < 64) = false := by simp; omega
              have q3 : ¬ ((j : Int) < 64) := by omega
              have hj64' : j = 64 := by omega
              subst hj64'
              have q4 : ((64 : Int) != 64) = false := by decide
              clear hj64 q3
              have q3 : ¬ ((64 : Int) < 64) := by omega
              go_wp2
              go_quiet (fail)
              go_wp2
              go_roundw
              case rel => exact ⟨k + 1, by omega, by go_num, Lib.hid ⟨HY.out.1.keep rfl rfl rfl, HY.out.2.1, HY.out.2.2.1, below_drewN HY.out.2.2.2.2 _⟩⟩
              case measure => simp [intOf]; omega
        · have q1 : ¬ ((k : Int) < 20) := by omega
          clear hlt hk
          go_wp2_with fail
          refine (dirty_any HB.out.1).mono ?_
          rintro e w11 ⟨g11, rfl, hg11, hg11l, hb11⟩
          rw [HA2.out.2.1]
          have HZ := Lib.hid (HB.out.2.2.2.trans (hb11.mono HB.out.2.2.2.size))
          clear hg11 hg11l hb11 HB q1
          go_wp2
          go_ret
          exact ⟨rfl, HZ.out⟩
end Go.Proofs.Ytfhaipeimpaeiaa
