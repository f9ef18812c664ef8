/-
  The document's need, the law's first: bytes that are filled in.
-/
import Derived.Test.YtfecobkpdmjaeaaVa
namespace Go.Proofs.Ytfecobkpdmjaeaa
open Go.RowKit
set_option linter.unusedVariables false
set_option linter.unusedSimpArgs false
set_option maxRecDepth 20000
theorem rneed_any {a : Option Addr} {n c : Nat} {w : World} (hn : n ≤ 100000) : Calls Try.prog 42 #[.slice a n c] w fun e w' => e = .returned (.int .i64 (((n + 43) / 44 : Nat) : Int)) ∧ w = w' := by
  go_enter Try.func42, Try.ntmps42
  go_wp2
  go_loop [3] (fun v => ∃ k : Nat, k ≤ (n + 43) / 44 ∧ v = .int .i64 (k : Int)) (fun v => (n + 43) / 44 - (intOf v).toNat)
  case atStart => exact ⟨0, Nat.zero_le _, rfl⟩
  case round =>
    obtain ⟨k, hk, rfl⟩ := hrel
    by_cases hlt : 44 * k < n
    · have q1 : 44 * (k : Int) < (n : Int) := by omega
      go_wp2
      go_round
      case rel => exact ⟨k + 1, by omega, by go_num⟩
      case measure => simp [intOf]; omega
    · have q1 : ¬ 44 * (k : Int) < (n : Int) := by omega
      obtain rfl : k = (n + 43) / 44 := by omega
      go_wp2
      go_ret
      exact ⟨rfl, rfl⟩
theorem set_nums (l : List Int) (k : Nat) (v : Int) : (nums l).toArray.setIfInBounds k (.int .u8 v) = (nums (l.set k v)).toArray := by
  rw [List.setIfInBounds_toArray]; unfold nums; rw [List.map_set]
/-- The bytes o are those of T where M says so, and nought elsewhere. -/
structure Fil (T : List Int) (M : Nat → Prop) (o : List Int) : Prop where
  len : o.length = 64
  yes : ∀ j, M j → o.getD j 0 = T.getD j 0
  no : ∀ j, ¬ M j → o.getD j 0 = 0
theorem Fil.zero (T : List Int) : Fil T (fun _ => False) z64 := ⟨rfl, fun j h => h.elim, fun j _ => by
  by_cases hj : j < 64
  · have e : z64[j]? = some 0 := by unfold z64; rw [List.getElem?_replicate, if_pos hj]
    rw [List.getD_eq_getElem?_getD, e]; rfl
  · have e : z64[j]? = none := List.getElem?_eq_none (by show 64 ≤ j; omega)
    rw [List.getD_eq_getElem?_getD, e]; rfl⟩
theorem Fil.set {T o : List Int} {M M' : Nat → Prop} (h : Fil T M o) {k : Nat} (hk : k < 64) {v : Int} (hv : v = T.getD k 0) (hM : ∀ j, M' j ↔ M j ∨ j = k) : Fil T M' (o.set k v) := by
  have hl := h.len
  refine ⟨by rw [List.length_set]; exact hl, fun j hj => ?_, fun j hj => ?_⟩
  · by_cases e : j = k
    · subst e; rw [List.getD_eq_getElem?_getD, List.getElem?_set, if_pos rfl, if_pos (by omega)]
      exact hv
    · have := h.yes j (((hM j).1 hj).resolve_right e)
      simp only [List.getD_eq_getElem?_getD, List.getElem?_set, if_neg (Ne.symm e)] at this ⊢
      exact this
  · have e : j ≠ k := fun e => hj ((hM j).2 (Or.inr e))
    have := h.no j (fun hm => hj ((hM j).2 (Or.inl hm)))
    simp only [List.getD_eq_getElem?_getD, List.getElem?_set, if_neg (Ne.symm e)] at this ⊢
    exact this
theorem Fil.done {T o : List Int} {M : Nat → Prop} (h : Fil T M o) (hT : T.length = 64) (hn : ∀ j, ¬ M j → T.getD j 0 = 0) : o = T := by
  refine List.ext_getElem (by rw [h.len, hT]) (fun j h1 h2 => ?_)
  have e1 : o.getD j 0 = o[j] := by simp [List.getD, h1]
  have e2 : T.getD j 0 = T[j] := by simp [List.getD, h2]
  rw [← e1, ← e2]
  by_cases hm : Classical.propDecidable (M j) |>.decide
  · exact h.yes j (by simpa using hm)
  · have hm' : ¬ M j := by simpa using hm
    rw [h.no j hm', hn j hm']
/-- The first sixty-four bytes of a text, with noughts behind. -/
def fst64 (r : List Int) : List Int := r.take 64 ++ List.replicate (64 - r.length) 0
theorem fst64_len (r : List Int) : (fst64 r).length = 64 := by unfold fst64; simp; omega
theorem fst64_byt {r : List Int} (h : Byt r) : Byt (fst64 r) := byt_append (byt_take h _) (byt_zeros _)
theorem fst64_get (r : List Int) (j : Nat) (h : j < 64) : (fst64 r).getD j 0 = r.getD j 0 := by
  unfold fst64
  by_cases hj : j < r.length
  · rw [List.getD_eq_getElem?_getD, List.getElem?_append_left (by rw [List.length_take]; omega), List.getElem?_take, if_pos h, ← List.getD_eq_getElem?_getD]
  · rw [List.getD_eq_getElem?_getD, List.getElem?_append_right (by rw [List.length_take]; omega), List.getElem?_replicate]
    split <;> simp [List.getD, hj]
def FF (w wr : World) (H : Nat) (T o : List Int) (M : Nat → Prop) : Prop := Fil T M o ∧ Whole wr (H + 1) 45 (nums o).toArray ∧ Whole wr H 45 zb ∧ Below H w wr
theorem FF.set {w wr : World} {H k : Nat} {T o : List Int} {M M' : Nat → Prop} (h : FF w wr H T o M) (hH : w.heap.size = H) (hk : k < 64) {v : Int} (hv : v = T.getD k 0) (hM : ∀ j, M' j ↔ M j ∨ j = k) : FF w (wr.setCell ⟨H + 1, k, none⟩ (.int .u8 v)) H T (o.set k v) M' := by
  refine ⟨h.1.set hk hv hM, by rw [← set_nums]; exact h.2.1.set k _, h.2.2.1.far (by show H ≠ H + 1; omega) _, ?_⟩
  have ho := only_set wr (H + 1) k (.int .u8 v)
  exact h.2.2.2.trans (ho.below (by have := h.2.2.2.size; omega) (fun j hj => by simp at hj; omega))
theorem FF.cell {w wr : World} {H k : Nat} {T o : List Int} {M : Nat → Prop} (h : FF w wr H T o M) (hk : k < 64) : wr.cell? ⟨H + 1, k, none⟩ = some (.int .u8 (o.getD k 0)) := by
  rw [h.2.1.cell, List.getElem?_toArray, nums_get o k (by rw [h.1.len]; exact hk)]
theorem ff_start (w : World) (T : List Int) : ∃ w', ((w.alloc (.cells zb 45)).alloc (.cells zb 45)).setRow (w.heap.size + 1) zb = w' ∧ Whole ((w.alloc (.cells zb 45)).alloc (.cells zb 45)) (w.heap.size + 1) 45 zb ∧ FF w w' w.heap.size T z64 (fun _ => False) := by
  obtain ⟨w2, h2, k2, b2⟩ := boxed (w.alloc (.cells zb 45)) z64
  have hsz : (w.alloc (.cells zb 45)).heap.size = w.heap.size + 1 := by simp
  rw [hsz] at h2
  refine ⟨w2, h2, by have := Whole.new (w.alloc (.cells zb 45)) 45 zb; rw [hsz] at this; exact this, Fil.zero T, by rw [hsz] at k2; exact k2, (Whole.new w _ _).below b2 (by rw [hsz]; omega), (below_alloc _ _).trans (b2.mono (by rw [hsz]; omega))⟩
set_option maxHeartbeats 4000000 in
theorem first_any {S : Nat → Prop} {a : Option Addr} {n c : Nat} {r : List Int} {w : World} (h : Txt w S a n c r) (hS : ∀ b, S b → b < w.heap.size) (hn : n ≤ 100000) :
    Calls Try.prog 22 #[.slice a n c] w fun e w' => e = .returned (.agg (nums (fst64 r)).toArray) ∧ Below w.heap.size w w' := by
  obtain ⟨w2, h2, k2, hF⟩ := ff_start w (fst64 r)
  have HT := Lib.hid (And.intro h hS)
  have H0 := Lib.hid hF
  have HS := Lib.hid (And.intro h2 k2)
  clear h hS hF h2 k2
  have hzb := zero_b
  go_enter Try.func22, Try.ntmps22
  go_upto_region 2 with (first | ((with_reducible show wpList _ _ _ ((⟨_, Op.build 45 _, _, _, _, _⟩ : Oper) :: _) _ _); refine wpList_built rfl #[] rfl [] rfl zb built_zb ?_) | ((with_reducible show wpList _ _ _ ((⟨_, Op.store 45 _ _, _, _, _, _⟩ : Oper) :: _) _ _); refine wpList_store_row rfl 45 (.tmp 3) (.tmp 5) rfl (w.heap.size + 1) zb rfl rfl 45 zb HS.out.2 info_zb rfl (all_nums _) ?_; rw [HS.out.1]) | fail)
  obtain ⟨H, hH⟩ : ∃ H, w.heap.size = H := ⟨_, rfl⟩
  rw [hH] at H0 ⊢
  have HH := Lib.hid hH
  clear hH HS hzb
  go_wp2
  go_loopw [4] (fun vi wr => ∃ k : Nat, k ≤ min n 64 ∧ vi = .int .i64 (k : Int) ∧ Hid (∃ o, FF w wr H (fst64 r) o (· < k))) (fun vi _ => min n 64 - (intOf vi).toNat)
  case atStart => exact ⟨0, Nat.zero_le _, rfl, Lib.hid ⟨z64, ⟨⟨H0.out.1.len, fun j hj => absurd hj (Nat.not_lt_zero _), fun j _ => H0.out.1.no j id⟩, H0.out.2⟩⟩⟩
  case round =>
    clear H0
    obtain ⟨k, hk, rfl, HB⟩ := hrel
    by_cases hlt : k < n
    · have q1 : (k : Int) < (n : Int) := by omega
      by_cases hl2 : k < 64
      · have q2 : (k : Int) < 64 := by omega
        obtain ⟨o, hF⟩ := HB.out
        obtain ⟨b, off, rfl, hSb, hb, hc⟩ := HT.out.1.cell (k := k) hlt
        have hc2 : wr.cell? ⟨b, off + k, none⟩ = some (.int .u8 (r.getD k 0)) := (World.cell?_of_block (hF.2.2.2.block b (by rw [← HH.out]; exact hb))).trans hc
        have co := hF.cell hl2
        have fo := hF.2.1.frozen k
        have hst := hF.set HH.out hl2 (v := r.getD k 0) (fst64_get r k hl2).symm (M' := (· < k + 1)) (fun j => by omega)
        have HF := Lib.hid hst
        obtain ⟨v, hv⟩ : ∃ v, r.getD k 0 = v := ⟨_, rfl⟩
        rw [hv] at hc2 HF
        clear hF hst hv hc hb hSb
        go_wp2
        go_roundw
        case rel => exact ⟨k + 1, by omega, by go_num, Lib.hid ⟨_, HF.out⟩⟩
        case measure => simp [intOf]; omega
      · have q2 : ¬ (k : Int) < 64 := by omega
        have HE : Hid (Whole wr (H + 1) 45 (nums (fst64 r)).toArray ∧ Whole wr H 45 zb ∧ Below H w wr ∧ (fst64 r).length = 64) := Lib.hid (by
          obtain ⟨o, hF⟩ := HB.out
          have e := hF.1.done (fst64_len r) (fun j hj => by
            by_cases h64 : j < 64
            · rw [fst64_get r j h64, List.getD_eq_getElem?_getD, List.getElem?_eq_none (by have := HT.out.1.1; omega)]; rfl
            · rw [List.getD_eq_getElem?_getD, List.getElem?_eq_none (by rw [fst64_len]; omega)]; rfl)
          rw [e] at hF
          exact ⟨hF.2.1, hF.2.2.1, hF.2.2.2, fst64_len r⟩)
        clear HB
        go_wp2_with (first | ((with_reducible show wpList _ _ _ ((⟨_, Op.load 45 _, _, _, _, _⟩ : Oper) :: _) _ _); refine wpList_load_row rfl 45 (.tmp 3) rfl (H + 1) rfl 45 (nums (fst64 r)).toArray (0, 0) _ HE.out.1 und_b rfl (info_bn HE.out.2.2.2) ?_) | ((with_reducible show wpList _ _ _ ((⟨_, Op.store 45 _ _, _, _, _, _⟩ : Oper) :: _) _ _); refine wpList_store_row rfl 45 (.tmp 2) (.tmp 22) rfl H (nums (fst64 r)).toArray rfl rfl 45 zb HE.out.2.1 (info_bn HE.out.2.2.2) (size_bn HE.out.2.2.2) (all_nums _) ?_) | fail)
        refine bodyPost_ret (results_one_cell rfl _ _ _ _ rfl (run_loadVar_row _ _ _ _ _ (0, 0) _ (HE.out.2.1.row (nums (fst64 r)).toArray) und_b rfl (info_bn HE.out.2.2.2))) rfl ?_
        exact ⟨rfl, by rw [HH.out]; exact below_row HE.out.2.2.1 (Nat.le_refl _) _⟩
    · have q1 : ¬ (k : Int) < (n : Int) := by omega
      have HE : Hid (Whole wr (H + 1) 45 (nums (fst64 r)).toArray ∧ Whole wr H 45 zb ∧ Below H w wr ∧ (fst64 r).length = 64) := Lib.hid (by
        obtain ⟨o, hF⟩ := HB.out
        have e := hF.1.done (fst64_len r) (fun j hj => by
          by_cases h64 : j < 64
          · rw [fst64_get r j h64, List.getD_eq_getElem?_getD, List.getElem?_eq_none (by have := HT.out.1.1; omega)]; rfl
          · rw [List.getD_eq_getElem?_getD, List.getElem?_eq_none (by rw [fst64_len]; omega)]; rfl)
        rw [e] at hF
        exact ⟨hF.2.1, hF.2.2.1, hF.2.2.2, fst64_len r⟩)
      clear HB
      go_wp2_with (first | ((with_reducible show wpList _ _ _ ((⟨_, Op.load 45 _, _, _, _, _⟩ : Oper) :: _) _ _); refine wpList_load_row rfl 45 (.tmp 3) rfl (H + 1) rfl 45 (nums (fst64 r)).toArray (0, 0) _ HE.out.1 und_b rfl (info_bn HE.out.2.2.2) ?_) | ((with_reducible show wpList _ _ _ ((⟨_, Op.store 45 _ _, _, _, _, _⟩ : Oper) :: _) _ _); refine wpList_store_row rfl 45 (.tmp 2) (.tmp 22) rfl H (nums (fst64 r)).toArray rfl rfl 45 zb HE.out.2.1 (info_bn HE.out.2.2.2) (size_bn HE.out.2.2.2) (all_nums _) ?_) | fail)
      refine bodyPost_ret (results_one_cell rfl _ _ _ _ rfl (run_loadVar_row _ _ _ _ _ (0, 0) _ (HE.out.2.1.row (nums (fst64 r)).toArray) und_b rfl (info_bn HE.out.2.2.2))) rfl ?_
      exact ⟨rfl, by rw [HH.out]; exact below_row HE.out.2.2.1 (Nat.le_refl _) _⟩
end Go.Proofs.Ytfecobkpdmjaeaa
