/-
  The walk of DiskOrder.
-/
import Derived.Test.YtfhaipeimpaeiaaZs
namespace Go.Proofs.Ytfhaipeimpaeiaa
open Go.RowKit
set_option linter.unusedVariables false
set_option linter.unusedSimpArgs false
def keys (f : Dm.F) : List Nat := f.map (·.1)
def bools (l : List Nat) : List Value := (List.range 20).map fun k => .bool (decide (k ∈ l))
theorem bools_len (l : List Nat) : (bools l).length = 20 := by simp [bools]
theorem bools_get {l : List Nat} {k : Nat} (h : k < 20) : (bools l)[k]? = some (.bool (decide (k ∈ l))) := by simp [bools, h]
theorem bools_set {l : List Nat} {k : Nat} (h : k < 20) : (bools l).toArray.setIfInBounds k (.bool true) = (bools (l ++ [k])).toArray := by
  rw [List.setIfInBounds_toArray]
  congr 1
  apply List.ext_getElem?
  intro q
  rw [List.getElem?_set]
  by_cases e : k = q
  · subst e
    rw [if_pos rfl, if_pos (by rw [bools_len]; exact h), bools_get h]
    simp
  · rw [if_neg e]
    by_cases hq : q < 20
    · rw [bools_get hq, bools_get hq]
      congr 2
      simp [show ¬ q = k from fun h => e h.symm]
    · rw [List.getElem?_eq_none (by rw [bools_len]; omega), List.getElem?_eq_none (by rw [bools_len]; omega)]
theorem keys_set (f : Dm.F) (k : Nat) (b : List Int) : keys (Dm.set f k b) = if k ∈ keys f then keys f else keys f ++ [k] := by
  cases h : Dm.look f k with
  | none =>
    have := Dm.look_none.1 h
    unfold keys
    rw [if_neg this, Dm.set_none h, List.map_append]
    rfl
  | some b0 =>
    have : k ∈ keys f := List.mem_map.2 ⟨_, Dm.look_mem h, rfl⟩
    rw [if_pos this]
    exact Dm.set_keys_there h b
def c20 : Array Value := (bools []).toArray
theorem built_20 : Try.prog.built 52 [] = some c20 := by kernel_rfl
theorem zero_20 (w : World) : (zeroValue 52).run Try.prog w = .ok (.agg c20) w := by kernel_rfl
theorem info_20 : (Try.prog.info? 52).map (·.size) = some c20.size := by kernel_rfl
theorem all_20 : c20.all (·.oneCell') = true := by kernel_rfl
def zc (n : Nat) : Array Value := (nums (zeros n)).toArray
theorem built_1280 : Try.prog.built 45 [] = some (zc 1280) := by kernel_rfl
theorem zero_1280 (w : World) : (zeroValue 45).run Try.prog w = .ok (.agg (zc 1280)) w := by kernel_rfl
theorem info_1280 : (Try.prog.info? 45).map (·.size) = some (zc 1280).size := by
  have h : (Try.prog.info? 45).map (·.size) = some 1280 := by kernel_rfl
  rw [h]
  simp [zc, nums_len, zeros_len]
theorem und_1280 : Try.prog.underlying 45 = some (.array 20 32) := by kernel_rfl
theorem fill_splice {L : List Int} (hL : L.length = 1280) {k : Nat} (hk : k < 20) : splice (nums (L.take (k * 64) ++ zeros (1280 - k * 64))) (k * 64) (nums (Dm.blk L k)) = nums (L.take ((k + 1) * 64) ++ zeros (1280 - (k + 1) * 64)) := by
  have h1 : (L.take (k * 64)).length = k * 64 := by simp; omega
  have h2 : (Dm.blk L k).length = 64 := Dm.blk_len (n := 20) hL hk
  unfold splice
  rw [← nums_take, nums_len, h2, ← nums_drop, ← nums_append, ← nums_append]
  congr 1
  rw [List.take_append_of_le_length (by omega), List.take_of_length_le (by omega), List.drop_append, h1, List.drop_eq_nil_of_le (by omega), List.nil_append]
  have e1 : (zeros (1280 - k * 64)).drop (k * 64 + 64 - k * 64) = zeros (1280 - (k + 1) * 64) := by
    unfold zeros
    rw [List.drop_replicate]
    congr 1; omega
  rw [e1, ← List.append_assoc]
  congr 1
  have e2 : (k + 1) * 64 = k * 64 + 64 := by omega
  rw [e2, List.take_add]
  congr 1
  unfold Dm.blk
  rw [Nat.mul_comm]
set_option maxHeartbeats 8000000 in
set_option maxRecDepth 100000 in
theorem order_walk (la : Option Addr) (ll lc : Nat) (ls : List Int) (fa : Option Addr) (fl fc : Nat) (fs : List Int) (w : World)
    (hls : Its w (· < w.heap.size) la ll ls) (hlm : ll ≤ maxLen) (hl64 : Num64 ls) (hfs : Its w (· < w.heap.size) fa fl fs) (hfm : fl ≤ maxLen) (hf64 : Num64 fs) :
    Calls Try.prog 8 #[.slice la ll lc, .slice fa fl fc] w fun e w' => e = .returned (.bool true) ∧ Below w.heap.size w w' := by
  have HL0 := Lib.hid (And.intro hls hfs)
  have HM := Lib.hid hfm
  unfold maxLen at hlm
  clear hls hl64 hfs hfm hf64
  go_enter Try.func8, Try.ntmps8
  go_wp2_with fail
  refine awake_any.mono ?_
  rintro e w1 ⟨rfl, hb1⟩
  have HB1 := Lib.hid hb1
  clear hb1
  go_wp2_with fail
  refine (new_ok (n := 20) (by omega)).mono ?_
  rintro e w2 ⟨p, bb, mb, rfl, hd2, hp, hbb, hmb, hb2⟩
  have hs1 := HB1.out.size
  have HP : Hid (w.heap.size ≤ p ∧ w.heap.size ≤ bb ∧ w.heap.size ≤ mb) := Lib.hid ⟨by omega, by omega, by omega⟩
  have H2 := Lib.hid (And.intro (HB1.out.trans (hb2.mono hs1)) hd2)
  clear hb2 hd2 hp hbb hmb hs1 HB1
  obtain ⟨SB, hSB⟩ : ∃ SB, w2.heap.size = SB := ⟨_, rfl⟩
  have hz20 := zero_20
  obtain ⟨w3, h3⟩ : ∃ w3, (w2.alloc (.cells c20 52)).setRow w2.heap.size c20 = w3 := ⟨_, rfl⟩
  have H3 : Hid (∃ A : Dm.A, A.down = false ∧ Dk w3 p bb mb A 20 ∧ w3.ownsRow w.heap.size 3 1 (.slice none 0 0) (keys A.fresh).length (ints (keys A.fresh)) ∧ Whole w3 w2.heap.size 52 (bools (keys A.fresh)).toArray ∧ Below w.heap.size w w3) := Lib.hid (by
    have hb3 : Below w2.heap.size w2 w3 := by rw [← h3]; exact below_row ((Below.refl _ _).alloc (Nat.le_refl _) _) (Nat.le_refl _) _
    refine ⟨fresh 20, rfl, H2.out.2.old hb3, ⟨rfl, Or.inl ⟨rfl, rfl⟩⟩, ?_, H2.out.1.trans (hb3.mono H2.out.1.size)⟩
    rw [← h3]
    exact (Whole.new w2 _ _).row _)
  have HW3 := Lib.hid h3
  clear h3 hSB
  go_upto_block 0 with (first | ((with_reducible show wpList _ _ _ ((⟨_, Op.build 52 _, _, _, _, _⟩ : Oper) :: _) _ _); refine wpList_built rfl _ rfl _ rfl _ built_20 ?_) | ((with_reducible show wpList _ _ _ ((⟨_, Op.store 52 _ _, _, _, _, _⟩ : Oper) :: _) _ _); refine wpList_store_row rfl 52 (.tmp 9) (.tmp 31) rfl w2.heap.size c20 rfl rfl 52 c20 (Whole.new w2 _ _) info_20 rfl all_20 ?_; rw [HW3.out]; clear hz20) | fail)
  have HLS : Hid (Its w (· < w.heap.size) la ll ls) := Lib.hid HL0.out.1
  go_cut [8] from 32 (fun v wr => Hid (∃ A : Dm.A, A.down = false ∧ Dk wr p bb mb A 20 ∧ wr.ownsRow w.heap.size 3 1 v (keys A.fresh).length (ints (keys A.fresh)) ∧ Below w.heap.size w wr))
-- FIRST
  case first =>
    go_wp2
    go_loopw [8, 10] (fun v8 v10 wr => ∃ i : Nat, i ≤ ll ∧ i ≤ 40 ∧ v10 = .int .i64 (i : Int) ∧ Hid (∃ A : Dm.A, A.down = false ∧ Dk wr p bb mb A 20 ∧ wr.ownsRow w.heap.size 3 1 v8 (keys A.fresh).length (ints (keys A.fresh)) ∧ Whole wr w2.heap.size 52 (bools (keys A.fresh)).toArray ∧ Below w.heap.size w wr)) (fun _ v _ => 40 - (intOf v).toNat)
    case atStart => exact ⟨0, Nat.zero_le _, Nat.zero_le _, rfl, H3⟩
    case round =>
      clear H3
      obtain ⟨i, hi1, hi2, rfl, HB⟩ := hrel
      by_cases q1 : i < ll
      · have q1' : (i : Int) < (ll : Int) := by omega
        by_cases q2 : i < 40
        · have q2' : (i : Int) < 40 := by omega
          obtain ⟨A, hA⟩ := HB.out
          have HA := Lib.hid hA
          have HKZ : Hid ((keys A.fresh).length ≤ 20) := Lib.hid (by have := hA.2.1.ok.fok.size; simpa [keys] using this)
          clear hA HB
          obtain ⟨z, hz⟩ : ∃ z, ls.getD i 0 = z := ⟨_, rfl⟩
          obtain ⟨lb, lo, hla, _, _, hlc⟩ := (HLS.out.keep HA.out.2.2.2.2.size (fun b hb' _ => HA.out.2.2.2.2.block b hb')).2.resolve_left (by omega)
          have cl : wr.cell? ⟨lb, lo + i, none⟩ = some (.int .i64 z) := by rw [hlc i q1, hz]
          rename_i hlbB _
          have HLB := Lib.hid hlbB
          clear hlbB hlc hz
          subst hla
          have hw8 : IntKind.u8.wrap (i : Int) = (i : Int) := by rw [IntKind.wrap_u8']; omega
          go_upto_region 12 with (fail)
          refine wp_region_held_drew (S := fun w' => w'.cell? ⟨lb, lo + i, none⟩ = some (.int .i64 z)) (by kernel_rfl) cl (fun hHeld => ?_)
          refine wpAnyH_take (i := 0) (v := .pointer (some ⟨p, 0, none⟩)) rfl (by kernel_rfl) (by kernel_rfl) (by kernel_rfl) (fun _ _ _ h => h) (Or.inl ⟨by rfl, (by intro w hSw; (try dsimp only at hSw); go_simp)⟩) (by assumption) ?_
          try simp only [Act.put, List.getElem_toArray, List.getElem_cons_zero, List.getElem_cons_succ, List.setIfInBounds_toArray, List.set_cons_zero, List.set_cons_succ]
          refine wpAnyH_take (i := 1) (v := .slice (some ⟨lb, lo, none⟩) ll lc) rfl (by kernel_rfl) (by kernel_rfl) (by kernel_rfl) (fun _ _ _ h => h) (Or.inl ⟨by rfl, (by intro w hSw; (try dsimp only at hSw); go_simp)⟩) (by assumption) ?_
          try simp only [Act.put, List.getElem_toArray, List.getElem_cons_zero, List.getElem_cons_succ, List.setIfInBounds_toArray, List.set_cons_zero, List.set_cons_succ]
          refine wpAnyH_take (i := 2) (v := .int .i64 (i : Int)) rfl (by kernel_rfl) (by kernel_rfl) (by kernel_rfl) (fun _ _ _ h => h) (Or.inl ⟨by rfl, (by intro w hSw; (try dsimp only at hSw); go_simp)⟩) (by assumption) ?_
          try simp only [Act.put, List.getElem_toArray, List.getElem_cons_zero, List.getElem_cons_succ, List.setIfInBounds_toArray, List.set_cons_zero, List.set_cons_succ]
          refine wpAnyH_take (i := 3) (v := .pointer (some ⟨lb, lo + i, none⟩)) rfl (by kernel_rfl) (by kernel_rfl) (by kernel_rfl) (fun _ _ _ h => h) (Or.inl ⟨by rfl, (by intro w hSw; (try dsimp only at hSw); go_simp)⟩) (by assumption) ?_
          try simp only [Act.put, List.getElem_toArray, List.getElem_cons_zero, List.getElem_cons_succ, List.setIfInBounds_toArray, List.set_cons_zero, List.set_cons_succ]
          refine wpAnyH_take (i := 4) (v := .int .i64 z) rfl (by kernel_rfl) (by kernel_rfl) (by kernel_rfl) (fun _ _ _ h => h) (Or.inl ⟨by rfl, (by intro w hSw; (try dsimp only at hSw); go_simp)⟩) (by assumption) ?_
          try simp only [Act.put, List.getElem_toArray, List.getElem_cons_zero, List.getElem_cons_succ, List.setIfInBounds_toArray, List.set_cons_zero, List.set_cons_succ]
          refine wpAnyH_take (i := 5) (v := .int .i64 (i : Int)) rfl (by kernel_rfl) (by kernel_rfl) (by kernel_rfl) (fun _ _ _ h => h) (Or.inl ⟨by rfl, (by intro w hSw; (try dsimp only at hSw); go_simp)⟩) (by assumption) ?_
          try simp only [Act.put, List.getElem_toArray, List.getElem_cons_zero, List.getElem_cons_succ, List.setIfInBounds_toArray, List.set_cons_zero, List.set_cons_succ]
          refine wpAnyH_take (i := 6) (v := .int .u8 (i : Int)) rfl (by kernel_rfl) (by kernel_rfl) (by kernel_rfl) (fun _ _ _ h => h) (Or.inl ⟨by rfl, (by intro w hSw; (try dsimp only at hSw); go_simp)⟩) (by assumption) ?_
          try simp only [Act.put, List.getElem_toArray, List.getElem_cons_zero, List.getElem_cons_succ, List.setIfInBounds_toArray, List.set_cons_zero, List.set_cons_succ]
          refine wpAnyH_ready (rs := [7]) (by kernel_rfl) (by simp) (AllReadyH.cons rfl (fun K hK => ?_) AllReadyH.nil)
          try simp only [List.getElem_toArray, List.getElem_cons_zero, List.getElem_cons_succ]
          go_simp
          go_at_call 24
          refine all_any.mono ?_
          rintro e v1 ⟨rfl, hb1⟩
          have hb1' : Below wr.heap.size wr v1 := ⟨hb1.os, hb1.tape, hb1.output, hb1.size, hb1.block⟩
          have HA1 : Hid (A.down = false ∧ Dk v1 p bb mb A 20 ∧ v1.ownsRow w.heap.size 3 1 u8 (keys A.fresh).length (ints (keys A.fresh)) ∧ Whole v1 w2.heap.size 52 (bools (keys A.fresh)).toArray ∧ Below w.heap.size w v1) := Lib.hid ⟨HA.out.1, HA.out.2.1.old hb1', own_below HA.out.2.2.1 hb1', HA.out.2.2.2.1.keep (hb1'.block _ HA.out.2.2.2.1.lt), HA.out.2.2.2.2.trans (hb1'.mono HA.out.2.2.2.2.size)⟩
          have cl1 : v1.cell? ⟨lb, lo + i, none⟩ = some (.int .i64 z) := (World.cell?_of_block (w := wr) (hb1'.block lb (by have := HLB.out; have := HA.out.2.2.2.2.size; omega))).trans cl
          clear hb1 hb1' HA cl
          go_wp2_with fail
          refine hK.out _ _ cl1 (fun hHeld => ?_)
          clear hK K
          try simp only [Act.put, List.getElem_toArray, List.getElem_cons_zero, List.getElem_cons_succ, List.setIfInBounds_toArray, List.set_cons_zero, List.set_cons_succ]
          refine wpAnyH_ready (rs := [8]) (by kernel_rfl) (by simp) (AllReadyH.cons rfl (fun K hK => ?_) AllReadyH.nil)
          try simp only [List.getElem_toArray, List.getElem_cons_zero, List.getElem_cons_succ]
          go_simp
          go_at_call 21
          refine (write_z (z := z) (b := all (i : Int)) HA1.out.2.1 (all_len _) (all_byt (by omega) (by omega))).mono ?_
          rintro e v2 ⟨rfl, hd2, ho2⟩
          obtain ⟨E, hE⟩ : ∃ E, bad A 20 z = E := ⟨_, rfl⟩
          rw [hE]
          have HA2 : Hid (Dk v2 p bb mb (wrz A 20 z (all (i : Int))) 20 ∧ v2.ownsRow w.heap.size 3 1 u8 (keys A.fresh).length (ints (keys A.fresh)) ∧ Whole v2 w2.heap.size 52 (bools (keys A.fresh)).toArray ∧ Below w.heap.size w v2) := Lib.hid ⟨hd2, own_only HA1.out.2.2.1 HA1.out.2.1 ho2, whole_only HA1.out.2.2.2.1 HA1.out.2.1 (by decide) (by decide) ho2, ho2.after HA1.out.2.2.2.2 HP.out⟩
          have cl2 : v2.cell? ⟨lb, lo + i, none⟩ = some (.int .i64 z) := (World.cell?_of_block (w := v1) (ho2.block lb (by have := HLB.out; have := HA1.out.2.2.2.2.size; omega) (by have := HP.out; have := HLB.out; simp; omega))).trans cl1
          have HD1 := Lib.hid HA1.out.1
          have HE := Lib.hid hE
          clear hd2 ho2 cl1 HA1 hE
          go_wp2_with fail
          refine hK.out _ _ cl2 (fun hHeld => ?_)
          clear hK K
          try simp only [Act.put, List.getElem_toArray, List.getElem_cons_zero, List.getElem_cons_succ, List.setIfInBounds_toArray, List.set_cons_zero, List.set_cons_succ]
          refine wpAnyH_take (i := 9) (v := .int .i64 E) rfl (by kernel_rfl) (by kernel_rfl) (by kernel_rfl) (fun _ _ _ h => h) (Or.inl ⟨by rfl, (by intro w hSw; (try dsimp only at hSw); go_simp)⟩) (by assumption) ?_
          try simp only [Act.put, List.getElem_toArray, List.getElem_cons_zero, List.getElem_cons_succ, List.setIfInBounds_toArray, List.set_cons_zero, List.set_cons_succ]
          refine wpAnyH_done (by kernel_rfl) ?_ _
          have HCL := Lib.hid cl2
          clear hHeld hw8
          have hE := HE.out
          have hbe : bad A 20 z = if z < 0 ∨ 20 ≤ z then 61 else 0 := by unfold bad; rw [HD1.out]; rfl
          rw [hbe] at hE
          by_cases q3 : 0 ≤ z
          · by_cases q4 : z < 20
            · rw [if_neg (by omega)] at hE
              subst hE
              obtain ⟨k, rfl⟩ := Int.eq_ofNat_of_zero_le q3
              have q5 : k < 20 := by omega
              have HW : Hid (wrz A 20 (k : Int) (all (i : Int)) = Dm.write A k (all (i : Int))) := Lib.hid (by unfold wrz; rw [if_pos (by rw [hbe, if_neg (by omega)])]; rfl)
              by_cases hm : k ∈ keys A.fresh
              · have cs : v2.cell? ⟨w2.heap.size, k, none⟩ = some (.bool true) := (HA2.out.2.2.1.cell k).trans (by rw [List.getElem?_toArray, bools_get q5]; simp [hm])
                have HK : Hid (keys (wrz A 20 (k : Int) (all (i : Int))).fresh = keys A.fresh) := Lib.hid (by rw [HW.out]; show keys (Dm.set A.fresh k _) = _; rw [keys_set, if_pos hm])
                clear hbe hm
                go_wp2
                go_roundw
                case rel => exact ⟨i + 1, by omega, by omega, by go_num, Lib.hid ⟨wrz A 20 (k : Int) (all (i : Int)), by rw [HW.out]; exact HD1.out, HA2.out.1, by rw [HK.out]; exact HA2.out.2.1, by rw [HK.out]; exact HA2.out.2.2.1, HA2.out.2.2.2⟩⟩
                case measure => simp [intOf]; omega
              · have cs : v2.cell? ⟨w2.heap.size, k, none⟩ = some (.bool false) := (HA2.out.2.2.1.cell k).trans (by rw [List.getElem?_toArray, bools_get q5]; simp [hm])
                have fs' : v2.frozen? ⟨w2.heap.size, k, none⟩ = false := HA2.out.2.2.1.frozen k
                have HK : Hid (keys (wrz A 20 (k : Int) (all (i : Int))).fresh = keys A.fresh ++ [k]) := Lib.hid (by rw [HW.out]; show keys (Dm.set A.fresh k _) = _; rw [keys_set, if_neg hm])
                have hne : w2.heap.size ≠ lb := by have := H2.out.1.size; have := HLB.out; omega
                have k3 : Whole (v2.setCell ⟨w2.heap.size, k, none⟩ (.bool true)) w2.heap.size 52 (bools (keys A.fresh ++ [k])).toArray := by
                  have := HA2.out.2.2.1.set k (.bool true)
                  rw [bools_set q5] at this
                  exact this
                have hlt2 := HA2.out.2.2.1.lt
                have hsc : (v2.setCell ⟨w2.heap.size, k, none⟩ (.bool true)).heap.size = v2.heap.size := by simp [World.setCell]
                have ho3 : (v2.setCell ⟨w2.heap.size, k, none⟩ (.bool true)).ownsRow w.heap.size 3 1 u8 (keys A.fresh).length (ints (keys A.fresh)) := own_keep HA2.out.2.1 (fun g cur hg => Below.heap_setCell v2 ⟨w2.heap.size, k, none⟩ _ g (fun e => by
                  have h1 := HA2.out.2.2.1
                  unfold Whole at h1
                  change g = w2.heap.size at e
                  rw [e, h1] at hg
                  injection hg with h3
                  injection h3 with _ h4
                  exact absurd h4 (by decide)))
                have hd3 : Dk (v2.setCell ⟨w2.heap.size, k, none⟩ (.bool true)) p bb mb (wrz A 20 (k : Int) (all (i : Int))) 20 := by
                  have hf := dk_far HA2.out.1 (by decide) (by decide) HA2.out.2.2.1
                  simp only [List.mem_cons, List.not_mem_nil, or_false, not_or] at hf
                  exact HA2.out.1.keep (Below.heap_setCell v2 _ _ p (fun e => hf.1 e.symm)) (Below.heap_setCell v2 _ _ bb (fun e => hf.2.1 e.symm)) (Below.heap_setCell v2 _ _ mb (fun e => hf.2.2 e.symm))
                have hb3 : Below w.heap.size w (v2.setCell ⟨w2.heap.size, k, none⟩ (.bool true)) := HA2.out.2.2.2.setCell (by have := H2.out.1.size; exact this) _
                obtain ⟨v3, h3⟩ : ∃ v3, v2.setCell ⟨w2.heap.size, k, none⟩ (.bool true) = v3 := ⟨_, rfl⟩
                rw [h3] at k3 ho3 hd3 hb3 hsc
                have cl3 : v3.cell? ⟨lb, lo + i, none⟩ = some (.int .i64 (k : Int)) := by rw [← h3]; exact (World.cell?_of_block (w := v2) (Below.heap_setCell v2 ⟨w2.heap.size, k, none⟩ _ lb (fun e => hne e.symm))).trans HCL.out
                have hb4 : Below v3.heap.size v3 (v3.alloc (.cells #[.int .i64 (k : Int)] 3)) := (Below.refl _ _).alloc (Nat.le_refl _) _
                obtain ⟨v', v5, hrun, hown5, hg5, hloc⟩ := run_append_ints (v3.alloc (.cells #[.int .i64 (k : Int)] 3)) w.heap.size 33 u8 (keys A.fresh) (own_below ho3 hb4) (fun _ => True) (some ⟨v3.heap.size, 0, none⟩) 1 1 [k] (its_one v3 (k : Int) trivial) (fun e => by cases e) (by have := HKZ.out; omega) (by have := hb3.size; simp; omega)
                have HR : Hid (keys (wrz A 20 (k : Int) (all (i : Int))).fresh = keys A.fresh ++ [k] ∧ Dk v5 p bb mb (wrz A 20 (k : Int) (all (i : Int))) 20 ∧ v5.ownsRow w.heap.size 3 1 v' (keys A.fresh ++ [k]).length (ints (keys A.fresh ++ [k])) ∧ Whole v5 w2.heap.size 52 (bools (keys A.fresh ++ [k])).toArray ∧ Below w.heap.size w v5) := Lib.hid (by
                  have hnb : ∀ g t cur, (v3.alloc (.cells #[.int .i64 (k : Int)] 3)).heap[g]? = some (.cells cur t (0, 0)) → t ≠ 3 → some g ≠ u8.ownBlock := by
                    intro g t cur hgc hti heq
                    rcases (own_below ho3 hb4).2 with ⟨h0, _⟩ | ⟨g0, cap, cu, h0, _, h1, _⟩
                    · rw [h0] at heq; cases heq
                    · rw [h0] at heq
                      cases heq
                      rw [h1] at hgc
                      injection hgc with h5
                      injection h5 with _ h6
                      exact hti h6.symm
                  have hd4 := hd3.old hb4
                  have k4 := k3.keep (hb4.block _ k3.lt)
                  refine ⟨HK.out, hd4.keep (hg5.block p hd4.cells.lt (hnb _ _ _ hd4.cells (by decide))) (hg5.block bb hd4.bytes.lt (hnb _ _ _ hd4.bytes (by decide))) (hg5.block mb hd4.map.lt (fun heq => ?_)), hown5, k4.keep (hg5.block _ k4.lt (hnb _ _ _ k4 (by decide))), ?_⟩
                  · rcases (own_below ho3 hb4).2 with ⟨h0, _⟩ | ⟨g0, cap, cu, h0, _, h1, _⟩
                    · rw [h0] at heq; cases heq
                    · rw [h0] at heq
                      cases heq
                      obtain ⟨es, clock, hbm, _⟩ := hd4.map
                      rw [h1] at hbm
                      cases hbm
                  · have hb34 := hb3.trans (hb4.mono hb3.size)
                    refine hb34.trans ⟨hg5.os, hg5.tape, hg5.output, hg5.size, fun g hg => hg5.block g (by have := hb34.size; omega) (fun heq => ?_)⟩
                    rcases (own_below ho3 hb4).2 with ⟨h0, _⟩ | ⟨g0, cap, cu, h0, h2, h1, _⟩
                    · rw [h0] at heq; cases heq
                    · rw [h0] at heq
                      cases heq
                      have hg' : g0 < w.heap.size := hg
                      omega)
                have H3' := Lib.hid h3
                have HSC := Lib.hid hsc
                clear hbe hm hne k3 ho3 hd3 hb3 hb4 hown5 hg5 hloc hlt2 h3 hsc HA2
                go_upto_region 17 with (fail)
                rw [H3'.out]
                have HRUN := Lib.hid hrun
                clear hrun
                go_wp2_with (first | (at_builtin; refine wpList_append_run rfl (.tmp 82) (.tmp 87) 33 33 rfl rfl u8 _ v' v5 rfl rfl HRUN.out ?_) | fail)
                go_roundw
                case rel => exact ⟨i + 1, by omega, by omega, by go_num, Lib.hid ⟨wrz A 20 (k : Int) (all (i : Int)), by rw [HW.out]; exact HD1.out, HR.out.2.1, by rw [HR.out.1]; exact HR.out.2.2.1, by rw [HR.out.1]; exact HR.out.2.2.2.1, HR.out.2.2.2.2⟩⟩
                case measure => simp [intOf]; omega
            · rw [if_pos (by omega)] at hE
              subst hE
              have q5 : 20 ≤ z := by omega
              have HW : Hid (wrz A 20 z (all (i : Int)) = A) := Lib.hid (by unfold wrz; rw [if_neg (by rw [hbe, if_pos (by omega)]; omega)])
              clear hbe
              go_wp2
              go_roundw
              case rel => exact ⟨i + 1, by omega, by omega, by go_num, Lib.hid ⟨A, HD1.out, by have := HA2.out.1; rw [HW.out] at this; exact this, HA2.out.2.1, HA2.out.2.2.1, HA2.out.2.2.2⟩⟩
              case measure => simp [intOf]; omega
          · rw [if_pos (by omega)] at hE
            subst hE
            have q5 : z < 0 := by omega
            have HW : Hid (wrz A 20 z (all (i : Int)) = A) := Lib.hid (by unfold wrz; rw [if_neg (by rw [hbe, if_pos (by omega)]; omega)])
            clear hbe
            go_wp2
            go_roundw
            case rel => exact ⟨i + 1, by omega, by omega, by go_num, Lib.hid ⟨A, HD1.out, by have := HA2.out.1; rw [HW.out] at this; exact this, HA2.out.2.1, HA2.out.2.2.1, HA2.out.2.2.2⟩⟩
            case measure => simp [intOf]; omega
        · have q2' : ¬ ((i : Int) < 40) := by omega
          go_wp2
          go_meet
          case rel => obtain ⟨A, h1, h2, h3, h4, h5⟩ := HB.out; exact Lib.hid ⟨A, h1, h2, h3, h5⟩
      · have q1' : ¬ ((i : Int) < (ll : Int)) := by omega
        go_wp2
        go_meet
        case rel => obtain ⟨A, h1, h2, h3, h4, h5⟩ := HB.out; exact Lib.hid ⟨A, h1, h2, h3, h5⟩
-- REST
  case rest =>
  obtain ⟨A, hA⟩ := hcut.out
  obtain ⟨oa, oc, hv8, hit8⟩ := own_its hA.2.2.1
  subst hv8
  have HA := Lib.hid (And.intro hA.1 (And.intro hA.2.1 (And.intro hit8 hA.2.2.2)))
  have HKZ : Hid ((keys A.fresh).length ≤ 20) := Lib.hid (by have := hA.2.1.ok.fok.size; simpa [keys] using this)
  clear hA hit8 hcut H3 HW3
  go_wp2_with fail
  refine (dirty_any HA.out.2.1).mono ?_
  rintro e w4 ⟨g0, rfl, hg0, hg0l, hb4⟩
  have hkl : A.fresh.length = (keys A.fresh).length := by simp [keys]
  rw [hkl]
  have H4 := Lib.hid (And.intro (HA.out.2.1.old hb4) (And.intro (HA.out.2.2.1.keep hb4.size (fun b hb _ => hb4.block b hb)) (And.intro (its_whole hg0) (HA.out.2.2.2.trans (hb4.mono HA.out.2.2.2.size)))))
  have HAD := Lib.hid HA.out.1
  clear hg0 hg0l hb4 hkl HA
  go_wp2_with fail
  refine (same_any H4.out.2.2.1 H4.out.2.1 (Nat.le_trans HKZ.out (by unfold maxLen; omega))).mono ?_
  rintro e w5 ⟨rfl, q, rfl⟩
  have H5 : Hid (Dk (w4.drewN q) p bb mb A 20 ∧ Below w.heap.size w (w4.drewN q)) := Lib.hid ⟨H4.out.1.keep rfl rfl rfl, below_drewN H4.out.2.2.2 q⟩
  generalize w4.drewN q = w5 at *
  clear H4
  go_wp2_with fail
  refine (flush_any H5.out.1 HAD.out).mono ?_
  rintro e w6 ⟨rfl, hd6, ho6⟩
  obtain ⟨L, hL⟩ : ∃ L, (Dm.flush A).last = L := ⟨_, rfl⟩
  have hF : Dm.flush A = ⟨L, [], false⟩ := by rw [← hL]; unfold Dm.flush; rw [HAD.out]
  rw [hF] at hd6
  have hLl : L.length = 1280 := hd6.ok.len
  have hz1280 := zero_1280
  obtain ⟨w7, h7⟩ : ∃ w7, (w6.alloc (.cells (zc 1280) 45)).setRow w6.heap.size (zc 1280) = w7 := ⟨_, rfl⟩
  have hb7 : Below w6.heap.size w6 w7 := by rw [← h7]; exact below_row ((Below.refl _ _).alloc (Nat.le_refl _) _) (Nat.le_refl _) _
  have hb6 := ho6.after H5.out.2 HP.out
  have H7 : Hid (Dk w7 p bb mb ⟨L, [], false⟩ 20 ∧ Whole w7 w6.heap.size 45 (nums (L.take (0 * 64) ++ zeros (1280 - 0 * 64))).toArray ∧ Below w.heap.size w w7) := Lib.hid ⟨hd6.old hb7, by rw [← h7]; exact (Whole.new w6 _ _).row _, hb6.trans (hb7.mono hb6.size)⟩
  have HW7 := Lib.hid h7
  have HLl := Lib.hid hLl
  have HS6 : Hid (w.heap.size ≤ w6.heap.size) := Lib.hid hb6.size
  clear hd6 ho6 hL hF h7 hb7 hb6 H5 HAD hLl HKZ
  go_wp2_with (first | ((with_reducible show wpList _ _ _ ((⟨_, Op.build 45 _, _, _, _, _⟩ : Oper) :: _) _ _); refine wpList_built rfl _ rfl _ rfl _ built_1280 ?_) | ((with_reducible show wpList _ _ _ ((⟨_, Op.store 45 _ _, _, _, _, _⟩ : Oper) :: _) _ _); refine wpList_store_row rfl 45 (.tmp 14) (.tmp 95) rfl w6.heap.size (zc 1280) rfl rfl 45 (zc 1280) (Whole.new w6 _ _) info_1280 rfl (all_nums _) ?_; rw [HW7.out]; clear hz1280) | fail)
  go_loopw [15] (fun v wr => ∃ k : Nat, k ≤ 20 ∧ v = .int .i64 (k : Int) ∧ Hid (Dk wr p bb mb ⟨L, [], false⟩ 20 ∧ Whole wr w6.heap.size 45 (nums (L.take (k * 64) ++ zeros (1280 - k * 64))).toArray ∧ Below w.heap.size w wr)) (fun v _ => 20 - (intOf v).toNat)
  case atStart => exact ⟨0, Nat.zero_le _, rfl, H7⟩
  case round =>
    clear H7 HW7
    obtain ⟨k, hk, rfl, HB⟩ := hrel
    by_cases hlt : k < 20
    · have q1 : (k : Int) < 20 := by omega
      obtain ⟨b, hb⟩ : ∃ b, Dm.blk L k = b := ⟨_, rfl⟩
      have hbl : b.length = 64 := by rw [← hb]; exact Dm.blk_len (n := 20) HLl.out hlt
      have HBK := Lib.hid (And.intro hb hbl)
      clear hb hbl
      go_wp2_with fail
      refine (read_any (k := k) HB.out.1 rfl hlt).mono ?_
      rintro e w8 ⟨rfl, hb8⟩
      rw [show Dm.read ⟨L, [], false⟩ k = b from HBK.out.1]
      obtain ⟨w9, h9, k9, b9⟩ := boxed w8 b
      have hb9 := hb8.trans (b9.mono hb8.size)
      have hw9 := HB.out.2.1.keep (hb9.block _ HB.out.2.1.lt)
      have hsp : splice (nums (L.take (k * 64) ++ zeros (1280 - k * 64))) (k * 64) (nums b) = nums (L.take ((k + 1) * 64) ++ zeros (1280 - (k + 1) * 64)) := by rw [← HBK.out.1]; exact fill_splice HLl.out hlt
      have hfit : k * 64 + (nums b).length ≤ (nums (L.take (k * 64) ++ zeros (1280 - k * 64))).length := by rw [nums_len, nums_len, List.length_append, List.length_take, HLl.out, zeros_len, HBK.out.2]; omega
      have hw10 : Whole (w9.setRow w6.heap.size (nums (L.take ((k + 1) * 64) ++ zeros (1280 - (k + 1) * 64))).toArray) w6.heap.size 45 (nums (L.take ((k + 1) * 64) ++ zeros (1280 - (k + 1) * 64))).toArray := hw9.row _
      have hb6w : w.heap.size ≤ w6.heap.size := HS6.out
      have hb10 : Below w.heap.size w (w9.setRow w6.heap.size (nums (L.take ((k + 1) * 64) ++ zeros (1280 - (k + 1) * 64))).toArray) := below_row (HB.out.2.2.trans (hb9.mono HB.out.2.2.size)) hb6w _
      have hd9 := HB.out.1.old hb9
      have hf := dk_far hd9 (by decide) (by decide) hw9
      simp only [List.mem_cons, List.not_mem_nil, or_false, not_or] at hf
      have hd10 : Dk (w9.setRow w6.heap.size (nums (L.take ((k + 1) * 64) ++ zeros (1280 - (k + 1) * 64))).toArray) p bb mb ⟨L, [], false⟩ 20 := hd9.keep (setRow_other w9 _ _ _ (fun e => hf.1 e.symm)) (setRow_other w9 _ _ _ (fun e => hf.2.1 e.symm)) (setRow_other w9 _ _ _ (fun e => hf.2.2 e.symm))
      have HN := Lib.hid (And.intro hw9 (And.intro hsp (And.intro hfit (And.intro k9 (And.intro hw10 (And.intro hb10 (And.intro hd10 h9)))))))
      clear hb8 h9 k9 b9 hb9 hw9 hsp hfit hw10 hb6w hb10 hd9 hf hd10
      have hzb := zero_b
      go_wp2_with (first | ((with_reducible show wpList _ _ _ ((⟨_, Op.store 32 _ _, _, _, _, _⟩ : Oper) :: _) _ _); refine wpList_store_row rfl 32 (.tmp 16) (.tmp 104) rfl w8.heap.size (nums b).toArray rfl rfl 32 zb (Whole.new w8 _ _) (info_bn HBK.out.2) (size_bn HBK.out.2) (all_nums _) ?_; rw [HN.out.2.2.2.2.2.2.2]) | ((with_reducible show wpList _ _ _ ((⟨_, Op.load 32 _, _, _, _, _⟩ : Oper) :: _) _ _); refine wpList_load_row rfl 32 (.tmp 16) rfl w8.heap.size rfl 32 (nums b).toArray (0, 0) _ HN.out.2.2.2.1 und_b rfl (info_bn HBK.out.2) ?_) | ((with_reducible show wpList _ _ _ ((⟨_, Op.store 32 _ _, _, _, _, _⟩ : Oper) :: _) _ _); refine wpList_store_part rfl 32 (.tmp 108) (.tmp 107) rfl w6.heap.size (k * 64) (nums b) rfl rfl HN.out.1 (info_bm HBK.out.2) (nums_one _) HN.out.2.2.1 ?_; rw [HN.out.2.1]) | fail)
      go_roundw
      case rel => exact ⟨k + 1, by omega, by go_num, Lib.hid ⟨HN.out.2.2.2.2.2.2.1, HN.out.2.2.2.2.1, HN.out.2.2.2.2.2.1⟩⟩
      case measure => simp [intOf]; omega
    · have hk20 : k = 20 := by omega
      subst hk20
      have q1 : ¬ ((20 : Int) < 20) := by omega
      have HC : Hid (Dk wr p bb mb ⟨L, [], false⟩ 20 ∧ Whole wr w6.heap.size 45 (nums L).toArray ∧ Below w.heap.size w wr) := Lib.hid ⟨HB.out.1, by have := HB.out.2.1; rw [show zeros (1280 - 20 * 64) = [] from rfl, List.append_nil, List.take_of_length_le (by rw [HLl.out]; omega)] at this; exact this, HB.out.2.2⟩
      clear HB hk hlt
      go_wp2_with fail
      refine (dirty_any HC.out.1).mono ?_
      rintro e w8 ⟨g8, rfl, hg8, hg8l, hb8⟩
      rw [show (List.length (Dm.A.mk L [] false).fresh) = 0 from rfl]
      have H8 := Lib.hid (And.intro (HC.out.1.old hb8) (And.intro (HC.out.2.1.keep (hb8.block _ HC.out.2.1.lt)) (HC.out.2.2.trans (hb8.mono HC.out.2.2.size))))
      clear hg8 hg8l hb8 HC q1
      go_wp2_with fail
      have hif : Its w8 (fun b => b ≠ p ∧ b ≠ bb ∧ b ≠ mb) fa fl fs := (HL0.out.2.keep H8.out.2.2.size (fun b hb' _ => H8.out.2.2.block b hb')).weak (fun b _ hb' => by have := HP.out; omega)
      refine (crash_any H8.out.1 rfl hif HM.out).mono ?_
      rintro e w9 ⟨rfl, hd9, ho9⟩
      have H9 := Lib.hid (And.intro hd9 (And.intro (whole_only H8.out.2.1 H8.out.1 (by decide) (by decide) ho9) (ho9.after H8.out.2.2 HP.out)))
      clear hif hd9 ho9 H8
      go_wp2_with fail
      refine (start_any H9.out.1).mono ?_
      rintro e w10 ⟨rfl, hd10, hg10, hs10⟩
      have ho10 : Only [p, bb, mb] w9 w10 := Only.of_grown hg10 (by simp)
      have hA10 : Dm.start (Dm.crash ⟨L, [], false⟩ fs) = ⟨L, [], false⟩ := rfl
      rw [hA10] at hd10
      have H10 : Hid (Dk w10 p bb mb ⟨L, [], false⟩ 20 ∧ Whole w10 w6.heap.size 45 (nums L).toArray ∧ Below w.heap.size w w10) := Lib.hid ⟨hd10, whole_only H9.out.2.1 H9.out.1 (by decide) (by decide) ho10, ho10.after H9.out.2.2 HP.out⟩
      clear hd10 hg10 hs10 ho10 hA10 H9
      go_wp2
      go_loopw [19] (fun v wr => ∃ k : Nat, k ≤ 20 ∧ v = .int .i64 (k : Int) ∧ Hid (Dk wr p bb mb ⟨L, [], false⟩ 20 ∧ Whole wr w6.heap.size 45 (nums L).toArray ∧ Below w.heap.size w wr)) (fun v _ => 20 - (intOf v).toNat)
      case atStart => exact ⟨0, Nat.zero_le _, rfl, H10⟩
      case round =>
        clear H10
        obtain ⟨k, hk, rfl, HB⟩ := hrel
        by_cases hlt : k < 20
        · have q1 : (k : Int) < 20 := by omega
          obtain ⟨b, hb⟩ : ∃ b, Dm.blk L k = b := ⟨_, rfl⟩
          have hbl : b.length = 64 := by rw [← hb]; exact Dm.blk_len (n := 20) HLl.out hlt
          have HBK := Lib.hid (And.intro hb hbl)
          clear hb hbl
          go_wp2_with fail
          refine (read_any (k := k) HB.out.1 rfl hlt).mono ?_
          rintro e w11 ⟨rfl, hb11⟩
          rw [show Dm.read ⟨L, [], false⟩ k = b from HBK.out.1]
          obtain ⟨w12, h12, k12, b12⟩ := boxed w11 b
          have hb12 := hb11.trans (b12.mono hb11.size)
          have HN := Lib.hid (And.intro (HB.out.1.old hb12) (And.intro (HB.out.2.1.keep (hb12.block _ HB.out.2.1.lt)) (And.intro (HB.out.2.2.trans (hb12.mono HB.out.2.2.size)) (And.intro k12 h12))))
          have hr1 : w12.rangeAt w11.heap.size 0 (nums b) := fun j v hv => by rw [Nat.zero_add, k12.cell, List.getElem?_toArray]; exact hv
          have hr2 : w12.rangeAt w6.heap.size (k * 64) (nums b) := fun j v hv => by
            have hj : j < 64 := by have := (List.getElem?_eq_some_iff.1 hv).1; rw [nums_len, HBK.out.2] at this; exact this
            rw [HN.out.2.1.cell, List.getElem?_toArray, ← hv, ← HBK.out.1]
            unfold nums
            rw [List.getElem?_map, List.getElem?_map, Dm.blk_get, if_pos hj, Nat.mul_comm]
          have hneq : ∀ w, (binOp .neq 32 (.agg (nums b).toArray) (.agg (nums b).toArray)).run Try.prog w = .ok (.bool false) w := fun w => by rw [neq64 b b HBK.out.2 HBK.out.2 w, decide_eq_true rfl]; rfl
          clear hb11 h12 k12 b12 hb12
          have hzb := zero_b
          go_upto_region 33 with (first | ((with_reducible show wpList _ _ _ ((⟨_, Op.store 32 _ _, _, _, _, _⟩ : Oper) :: _) _ _); refine wpList_store_row rfl 32 (.tmp 20) (.tmp 126) rfl w11.heap.size (nums b).toArray rfl rfl 32 zb (Whole.new w11 _ _) (info_bn HBK.out.2) (size_bn HBK.out.2) (all_nums _) ?_; rw [HN.out.2.2.2.2]) | fail)
          clear hzb
          refine wp_region_held_drew (S := fun w' => w'.rangeAt w11.heap.size 0 (nums b) ∧ w'.rangeAt w6.heap.size (k * 64) (nums b)) (by kernel_rfl) ⟨hr1, hr2⟩ (fun hHeld => ?_)
          clear hr1 hr2
          refine wpAnyH_take (i := 0) (v := .agg (nums b).toArray) rfl (by kernel_rfl) (by kernel_rfl) (by kernel_rfl) (fun _ _ _ h => h) (yieldsIf_load_mid (by rfl) 32 _ rfl _ _ rfl _ _ (fun w hSw => hSw.1) und_b rfl (info_bm HBK.out.2)) (by assumption) ?_
          try simp only [Act.put, List.getElem_toArray, List.getElem_cons_zero, List.getElem_cons_succ, List.setIfInBounds_toArray, List.set_cons_zero, List.set_cons_succ]
          refine wpAnyH_take (i := 1) (v := .int .i64 (k : Int)) rfl (by kernel_rfl) (by kernel_rfl) (by kernel_rfl) (fun _ _ _ h => h) (Or.inl ⟨by rfl, (by intro w hSw; (try dsimp only at hSw); go_simp)⟩) (by assumption) ?_
          try simp only [Act.put, List.getElem_toArray, List.getElem_cons_zero, List.getElem_cons_succ, List.setIfInBounds_toArray, List.set_cons_zero, List.set_cons_succ]
          refine wpAnyH_take (i := 2) (v := .pointer (some ⟨w6.heap.size, k * 64, none⟩)) rfl (by kernel_rfl) (by kernel_rfl) (by kernel_rfl) (fun _ _ _ h => h) (Or.inl ⟨by rfl, (by intro w hSw; (try dsimp only at hSw); go_simp)⟩) (by assumption) ?_
          try simp only [Act.put, List.getElem_toArray, List.getElem_cons_zero, List.getElem_cons_succ, List.setIfInBounds_toArray, List.set_cons_zero, List.set_cons_succ]
          refine wpAnyH_take (i := 3) (v := .agg (nums b).toArray) rfl (by kernel_rfl) (by kernel_rfl) (by kernel_rfl) (fun _ _ _ h => h) (yieldsIf_load_mid (by rfl) 32 _ rfl _ _ rfl _ _ (fun w hSw => hSw.2) und_b rfl (info_bm HBK.out.2)) (by assumption) ?_
          try simp only [Act.put, List.getElem_toArray, List.getElem_cons_zero, List.getElem_cons_succ, List.setIfInBounds_toArray, List.set_cons_zero, List.set_cons_succ]
          refine wpAnyH_take (i := 4) (v := .bool false) rfl (by kernel_rfl) (by kernel_rfl) (by kernel_rfl) (fun _ _ _ h => h) (Or.inl ⟨by rfl, (by intro w hSw; (try dsimp only at hSw); go_simp)⟩) (by assumption) ?_
          try simp only [Act.put, List.getElem_toArray, List.getElem_cons_zero, List.getElem_cons_succ, List.setIfInBounds_toArray, List.set_cons_zero, List.set_cons_succ]
          refine wpAnyH_take (i := 5) (v := .bool false) rfl (by kernel_rfl) (by kernel_rfl) (by kernel_rfl) (fun _ _ _ h => h) (Or.inl ⟨by rfl, (by intro w hSw; (try dsimp only at hSw); go_simp)⟩) (by assumption) ?_
          try simp only [Act.put, List.getElem_toArray, List.getElem_cons_zero, List.getElem_cons_succ, List.setIfInBounds_toArray, List.set_cons_zero, List.set_cons_succ]
          refine wpAnyH_take (i := 6) (v := .int .i64 0) rfl (by kernel_rfl) (by kernel_rfl) (by kernel_rfl) (fun _ _ _ h => h) (Or.inl ⟨by rfl, (by intro w hSw; (try dsimp only at hSw); go_simp)⟩) (by assumption) ?_
          try simp only [Act.put, List.getElem_toArray, List.getElem_cons_zero, List.getElem_cons_succ, List.setIfInBounds_toArray, List.set_cons_zero, List.set_cons_succ]
          refine wpAnyH_take (i := 7) (v := .bool false) rfl (by kernel_rfl) (by kernel_rfl) (by kernel_rfl) (fun _ _ _ h => h) (Or.inl ⟨by rfl, (by intro w hSw; (try dsimp only at hSw); go_simp)⟩) (by assumption) ?_
          try simp only [Act.put, List.getElem_toArray, List.getElem_cons_zero, List.getElem_cons_succ, List.setIfInBounds_toArray, List.set_cons_zero, List.set_cons_succ]
          refine wpAnyH_take (i := 8) (v := .bool false) rfl (by kernel_rfl) (by kernel_rfl) (by kernel_rfl) (fun _ _ _ h => h) (Or.inl ⟨by rfl, (by intro w hSw; (try dsimp only at hSw); go_simp)⟩) (by assumption) ?_
          try simp only [Act.put, List.getElem_toArray, List.getElem_cons_zero, List.getElem_cons_succ, List.setIfInBounds_toArray, List.set_cons_zero, List.set_cons_succ]
          refine wpAnyH_done (by kernel_rfl) ?_ _
          clear hHeld hneq
          go_wp2
          go_roundw
          case rel => exact ⟨k + 1, by omega, by go_num, Lib.hid ⟨HN.out.1.keep rfl rfl rfl, HN.out.2.1, HN.out.2.2.1.os, HN.out.2.2.1.tape, HN.out.2.2.1.output, HN.out.2.2.1.size, HN.out.2.2.1.block⟩⟩
          case measure => simp [intOf]; omega
        · have q1 : ¬ ((k : Int) < 20) := by omega
          go_wp2
          go_ret
          exact ⟨rfl, HB.out.2.2⟩
end Go.Proofs.Ytfhaipeimpaeiaa
