/-
  The walk of the document's Same of any two manifests.
-/
import Derived.Test.YtdfmfjahnnifnaaZq
namespace Go.Proofs.Ytdfmfjahnnifnaa
set_option maxRecDepth 20000
set_option linter.unusedSimpArgs false
set_option linter.unusedVariables false
open Go.RowKit
/-- What Same answers. -/
def Samed (w : World) (m m' : Mf.Man) (e : Ending) (w' : World) : Prop := ∃ b : Bool, e = .returned (.bool b) ∧ (b = true ↔ m = m') ∧ Below w.heap.size w w'
theorem samed_no {w : World} {m m' : Mf.Man} {w' : World} (h : m ≠ m') (hb : Below w.heap.size w w') : Samed w m m' (.returned (.bool false)) w' :=
  ⟨false, rfl, ⟨(fun e => by cases e), fun e => absurd e h⟩, hb⟩
theorem samed_yes {w : World} {m m' : Mf.Man} {w' : World} (h : m = m') (hb : Below w.heap.size w w') : Samed w m m' (.returned (.bool true)) w' :=
  ⟨true, rfl, ⟨fun _ => h, fun _ => rfl⟩, hb⟩
theorem ds_eq {ds ds' : List (List Int)} (hl : ds.length = ds'.length) (h : ∀ j, j < ds.length → ds.getD j [] = ds'.getD j []) : ds = ds' := by
  apply List.ext_getElem hl
  intro i h1 h2
  have := h i h1
  simpa [h1, h2] using this
set_option maxHeartbeats 4000000 in
theorem rsame_any {w : World} {S S' : Nat → Prop} {v v' : Value} {m m' : Mf.Man} (h : Mv w S v m) (h' : Mv w S' v' m') (hn : m.ds.length ≤ 1000 ∨ m'.ds.length ≤ 1000) :
    Calls Try.prog 19 #[v, v'] w (Samed w m m') := by
  obtain ⟨sz, ch, ds, wh⟩ := m
  obtain ⟨sz', ch', ds', wh'⟩ := m'
  obtain ⟨a, n, c, rfl, hnc, hd, hw, hs, hc⟩ := h
  obtain ⟨a', n', c', rfl, hnc', hd', hw', hs', hc'⟩ := h'
  dsimp only at hd hw hs hc hd' hw' hs' hc' hn ⊢
  have HDG := Lib.hid hd.old
  have HDG' := Lib.hid hd'.old
  have HLN := Lib.hid (And.intro hd.1 (And.intro hd'.1 hn))
  have c0 : (mcs sz ch (.slice a n c) wh).toArray[0]? = some (.int .i64 sz) := rfl
  have c1 : (mcs sz ch (.slice a n c) wh).toArray[1]? = some (.int .i64 ch) := rfl
  have c2 : (mcs sz ch (.slice a n c) wh).toArray[2]? = some (.slice a n c) := rfl
  have ct := Lib.hid (mcs_tail (s := sz) (c := ch) (x := .slice a n c) (h := wh))
  have e0 : (mcs sz' ch' (.slice a' n' c') wh').toArray[0]? = some (.int .i64 sz') := rfl
  have e1 : (mcs sz' ch' (.slice a' n' c') wh').toArray[1]? = some (.int .i64 ch') := rfl
  have e2 : (mcs sz' ch' (.slice a' n' c') wh').toArray[2]? = some (.slice a' n' c') := rfl
  have et := Lib.hid (mcs_tail (s := sz') (c := ch') (x := .slice a' n' c') (h := wh'))
  have hi32 : (Try.prog.info? 26).map (·.size) = some (nums wh).length := by rw [nums_len, hw.1]; exact info32
  have hi32' : (Try.prog.info? 26).map (·.size) = some (nums wh').length := by rw [nums_len, hw'.1]; exact info32
  have HQ0 : ∀ w : World, (Op.equalIn 10000 26 (.agg (nums wh).toArray) (.agg (nums wh').toArray)).run Try.prog w = .ok (decide (wh = wh')) w := fun w =>
    equal32 9999 (fun a b w => run_equalIn_int w 9998 5 .u8 .u8 a b Try.underlying5) wh wh' hw.1 hw'.1 w
  clear hd hw hs hc hnc hd' hw' hs' hc' hnc' hn
  generalize (mcs sz ch (.slice a n c) wh).toArray = P at *
  generalize (mcs sz' ch' (.slice a' n' c') wh').toArray = P' at *
  by_cases z0 : sz = sz'
  case neg =>
    have d0 : (sz != sz') = true := by simp [z0]
    have d1 : (sz == sz') = false := by simp [z0]
    have HB := Lib.hid (below_two w (.cells P 28) (.cells P' 28))
    have HN : Hid (Mf.Man.mk sz ch ds wh ≠ Mf.Man.mk sz' ch' ds' wh') := Lib.hid (fun e => by injection e with e; exact z0 e)
    clear z0 HQ0
    go_enter Try.func19, Try.ntmps19
    go_wp2
    go_ret
    exact samed_no HN.out HB.out
  subst z0
  by_cases z1 : ch = ch'
  case neg =>
    have d0 : (ch != ch') = true := by simp [z1]
    have d1 : (ch == ch') = false := by simp [z1]
    have HB := Lib.hid (below_two w (.cells P 28) (.cells P' 28))
    have HN : Hid (Mf.Man.mk sz ch ds wh ≠ Mf.Man.mk sz ch' ds' wh') := Lib.hid (fun e => by injection e with _ e; exact z1 e)
    clear z1 HQ0
    go_enter Try.func19, Try.ntmps19
    go_wp2
    go_ret
    exact samed_no HN.out HB.out
  subst z1
  have kw : Whole ((w.alloc (.cells P 28)).alloc (.cells P' 28)) w.heap.size 28 P := (Whole.new w 28 P).alloc _
  have kr : Whole ((w.alloc (.cells P 28)).alloc (.cells P' 28)) (w.heap.size + 1) 28 P' := by
    have h := Whole.new (w.alloc (.cells P 28)) 28 P'
    rw [size_alloc] at h; exact h
  have HRG : Hid (((w.alloc (.cells P 28)).alloc (.cells P' 28)).rangeAt w.heap.size 3 (nums wh)) := Lib.hid (tail_range kw ct.out)
  have HRG' : Hid (((w.alloc (.cells P 28)).alloc (.cells P' 28)).rangeAt (w.heap.size + 1) 3 (nums wh')) := Lib.hid (tail_range kr et.out)
  have H2 : Hid (Whole ((w.alloc (.cells P 28)).alloc (.cells P' 28)) w.heap.size 28 P ∧ Whole ((w.alloc (.cells P 28)).alloc (.cells P' 28)) (w.heap.size + 1) 28 P' ∧ Below w.heap.size w ((w.alloc (.cells P 28)).alloc (.cells P' 28))) := Lib.hid ⟨kw, kr, below_two w _ _⟩
  clear kw kr
  by_cases z2 : wh = wh'
  case neg =>
    have HQ : ∀ w : World, (Op.equalIn 10000 26 (.agg (nums wh).toArray) (.agg (nums wh').toArray)).run Try.prog w = .ok false w := fun w => by rw [HQ0, decide_eq_false z2]
    have HN : Hid (Mf.Man.mk sz ch ds wh ≠ Mf.Man.mk sz ch ds' wh') := Lib.hid (fun e => by injection e with _ _ _ e; exact z2 e)
    clear z2 HQ0
    generalize nums wh = nw at *
    generalize nums wh' = nw' at *
    go_enter Try.func19, Try.ntmps19
    go_wp2_with (first | ((with_reducible show wpList _ _ _ ((⟨_, Op.load 26 (.tmp 19), _, _, _, _⟩ : Oper) :: _) _ _); refine wpList_load_midG (by rfl) _ (.tmp 19) rfl w.heap.size 3 rfl nw _ HRG.out und32 rfl hi32 ?_) | ((with_reducible show wpList _ _ _ ((⟨_, Op.load 26 (.tmp 21), _, _, _, _⟩ : Oper) :: _) _ _); refine wpList_load_midG (by rfl) _ (.tmp 21) rfl (w.heap.size + 1) 3 rfl nw' _ HRG'.out und32 rfl hi32' ?_))
    go_ret
    exact samed_no HN.out H2.out.2.2
  subst z2
  have HQ : ∀ w : World, (Op.equalIn 10000 26 (.agg (nums wh).toArray) (.agg (nums wh).toArray)).run Try.prog w = .ok true w := fun w => by rw [HQ0, decide_eq_true rfl]
  clear HQ0
  have hi32' := hi32
  by_cases z3 : n = n'
  case neg =>
    have d0 : ((n : Int) != (n' : Int)) = true := by simp; omega
    have d1 : (n != n') = true := by simp [z3]
    have d2 : ((n : Int) == (n' : Int)) = false := by simp; omega
    have d3 : (n == n') = false := by simp [z3]
    have HN : Hid (Mf.Man.mk sz ch ds wh ≠ Mf.Man.mk sz ch ds' wh) := Lib.hid (fun e => by
      injection e with _ _ e _
      exact z3 (by rw [← HLN.out.1, ← HLN.out.2.1, e]))
    clear z3
    generalize hnw : nums wh = nw at *
    have HRG' : Hid (((w.alloc (.cells P 28)).alloc (.cells P' 28)).rangeAt (w.heap.size + 1) 3 nw) := HRG'
    obtain ⟨nw', rfl⟩ : ∃ nw', nw' = nw := ⟨_, rfl⟩
    clear hnw
    go_enter Try.func19, Try.ntmps19
    go_wp2_with (first
      | ((with_reducible show wpList _ _ _ ((⟨_, Op.load 26 (.tmp 19), _, _, _, _⟩ : Oper) :: _) _ _); refine wpList_load_midG (by rfl) _ (.tmp 19) rfl w.heap.size 3 rfl nw' _ HRG.out und32 rfl hi32 ?_)
      | ((with_reducible show wpList _ _ _ ((⟨_, Op.load 26 (.tmp 21), _, _, _, _⟩ : Oper) :: _) _ _); refine wpList_load_midG (by rfl) _ (.tmp 21) rfl (w.heap.size + 1) 3 rfl nw' _ HRG'.out und32 rfl hi32' ?_))
    go_ret
    exact samed_no HN.out H2.out.2.2
  subst z3
  have hn1 : n ≤ 1000 := by have := HLN.out; omega
  generalize hnw : nums wh = nw at *
  have HRG' : Hid (((w.alloc (.cells P 28)).alloc (.cells P' 28)).rangeAt (w.heap.size + 1) 3 nw) := HRG'
  clear hnw
  go_enter Try.func19, Try.ntmps19
  go_wp2_with (first
    | ((with_reducible show wpList _ _ _ ((⟨_, Op.load 26 (.tmp 19), _, _, _, _⟩ : Oper) :: _) _ _); refine wpList_load_midG (by rfl) _ (.tmp 19) rfl w.heap.size 3 rfl nw _ HRG.out und32 rfl hi32 ?_)
    | ((with_reducible show wpList _ _ _ ((⟨_, Op.load 26 (.tmp 21), _, _, _, _⟩ : Oper) :: _) _ _); refine wpList_load_midG (by rfl) _ (.tmp 21) rfl (w.heap.size + 1) 3 rfl nw _ HRG'.out und32 rfl hi32 ?_))
  clear HRG HRG' HQ ct et hi32 hi32'
  generalize (w.alloc (.cells P 28)).alloc (.cells P' 28) = w2 at *
  go_loopw [5] (fun i wr => ∃ k : Nat, k ≤ n ∧ i = .int .i64 (k : Int) ∧ Hid (Whole wr w.heap.size 28 P ∧ Whole wr (w.heap.size + 1) 28 P' ∧ Below w.heap.size w wr ∧ ∀ j, j < k → ds.getD j [] = ds'.getD j [])) (fun i _ => n - (intOf i).toNat)
  case atStart => exact ⟨0, Nat.zero_le _, rfl, Lib.hid ⟨H2.out.1, H2.out.2.1, H2.out.2.2, fun j hj => absurd hj (Nat.not_lt_zero j)⟩⟩
  case round =>
    obtain ⟨k, hk, rfl, HK⟩ := hrel
    have k2 : wr.cell? ⟨w.heap.size, 2, none⟩ = some (.slice a n c) := by rw [HK.out.1.cell]; exact c2
    have k3 : wr.cell? ⟨w.heap.size + 1, 2, none⟩ = some (.slice a' n c') := by rw [HK.out.2.1.cell]; exact e2
    by_cases hlt : k < n
    · obtain ⟨b, off, rfl, hbS, hbl, hrg, hdg⟩ := HDG.out.cell_at hlt
      obtain ⟨b', off', rfl, hbS', hbl', hrg', hdg'⟩ := HDG'.out.cell_at hlt
      have rg1 : wr.drew.rangeAt b (off + k * 32) _ := range_below hrg HK.out.2.2.1.drew hbl
      have rg2 : wr.drew.rangeAt b' (off' + k * 32) _ := range_below hrg' HK.out.2.2.1.drew hbl'
      have HKD := Lib.hid (show Whole wr.drew w.heap.size 28 P ∧ Whole wr.drew (w.heap.size + 1) 28 P' ∧ Below w.heap.size w wr.drew from ⟨HK.out.1, HK.out.2.1, HK.out.2.2.1.drew⟩)
      have k21 : wr.drew.cell? ⟨w.heap.size, 2, none⟩ = _ := k2
      have k31 : wr.drew.cell? ⟨w.heap.size + 1, 2, none⟩ = _ := k3
      have HEQ := Lib.hid HK.out.2.2.2
      obtain ⟨d, hdd⟩ : ∃ d, ds.getD k [] = d := ⟨_, rfl⟩
      obtain ⟨d', hdd'⟩ : ∃ d', ds'.getD k [] = d' := ⟨_, rfl⟩
      rw [hdd] at rg1 hdg
      rw [hdd'] at rg2 hdg'
      have HD := Lib.hid (And.intro hdd hdd')
      have hi1 : (Try.prog.info? 26).map (·.size) = some (nums d).length := by rw [nums_len, hdg.1]; exact info32
      have hi2 : (Try.prog.info? 26).map (·.size) = some (nums d').length := by rw [nums_len, hdg'.1]; exact info32
      have hu := und32
      have HQ0 : ∀ w : World, (Op.equalIn 10000 26 (.agg (nums d).toArray) (.agg (nums d').toArray)).run Try.prog w = .ok (decide (d = d')) w := fun w =>
        equal32 9999 (fun a b w => run_equalIn_int w 9998 5 .u8 .u8 a b Try.underlying5) d d' hdg.1 hdg'.1 w
      clear hdg hrg hrg' hdg' hdd hdd'
      by_cases z : d = d'
      · subst z
        have HQ : ∀ w : World, (Op.equalIn 10000 26 (.agg (nums d).toArray) (.agg (nums d).toArray)).run Try.prog w = .ok true w := fun w => by rw [HQ0, decide_eq_true rfl]
        clear HQ0 hi2
        generalize nums d = nd at *
        go_wp2
        refine wp_region_held_drew (S := fun w' => w'.cell? ⟨w.heap.size, 2, none⟩ = some (.slice (some ⟨b, off, none⟩) n c) ∧ w'.cell? ⟨w.heap.size + 1, 2, none⟩ = some (.slice (some ⟨b', off', none⟩) n c') ∧ w'.rangeAt b (off + k * 32) nd ∧ w'.rangeAt b' (off' + k * 32) nd) (by kernel_rfl) ⟨k21, k31, rg1, rg2⟩ (fun hHeld => ?_)
        refine wpAnyH_take (i := 0) (v := .pointer (some ⟨w.heap.size, 2, none⟩)) rfl (by kernel_rfl) (by kernel_rfl) (by kernel_rfl) (fun _ _ _ h => h) (Or.inl ⟨by rfl, (by intro w hSw; (try dsimp only at hSw); go_simp)⟩) (by assumption) ?_
        try simp only [Act.put, List.getElem_toArray, List.getElem_cons_zero, List.getElem_cons_succ, List.setIfInBounds_toArray, List.set_cons_zero, List.set_cons_succ]
        refine wpAnyH_take (i := 1) (v := .slice (some ⟨b, off, none⟩) n c) rfl (by kernel_rfl) (by kernel_rfl) (by kernel_rfl) (fun _ _ _ h => h) (Or.inl ⟨by rfl, (by intro w hSw; (try dsimp only at hSw); go_simp)⟩) (by assumption) ?_
        try simp only [Act.put, List.getElem_toArray, List.getElem_cons_zero, List.getElem_cons_succ, List.setIfInBounds_toArray, List.set_cons_zero, List.set_cons_succ]
        refine wpAnyH_take (i := 2) (v := .int .i64 (k : Int)) rfl (by kernel_rfl) (by kernel_rfl) (by kernel_rfl) (fun _ _ _ h => h) (Or.inl ⟨by rfl, (by intro w hSw; (try dsimp only at hSw); go_simp)⟩) (by assumption) ?_
        try simp only [Act.put, List.getElem_toArray, List.getElem_cons_zero, List.getElem_cons_succ, List.setIfInBounds_toArray, List.set_cons_zero, List.set_cons_succ]
        refine wpAnyH_take (i := 3) (v := .pointer (some ⟨b, off + k * 32, none⟩)) rfl (by kernel_rfl) (by kernel_rfl) (by kernel_rfl) (fun _ _ _ h => h) (Or.inl ⟨by rfl, (by intro w hSw; (try dsimp only at hSw); go_simp)⟩) (by assumption) ?_
        try simp only [Act.put, List.getElem_toArray, List.getElem_cons_zero, List.getElem_cons_succ, List.setIfInBounds_toArray, List.set_cons_zero, List.set_cons_succ]
        refine wpAnyH_take (i := 4) (v := .agg nd.toArray) rfl (by kernel_rfl) (by kernel_rfl) (by kernel_rfl) (fun _ _ _ h => h) (yieldsIf_load_mid (by rfl) _ _ rfl _ _ rfl _ _ (fun w hSw => hSw.2.2.1) hu rfl hi1) (by assumption) ?_
        try simp only [Act.put, List.getElem_toArray, List.getElem_cons_zero, List.getElem_cons_succ, List.setIfInBounds_toArray, List.set_cons_zero, List.set_cons_succ]
        refine wpAnyH_take (i := 5) (v := .pointer (some ⟨w.heap.size + 1, 2, none⟩)) rfl (by kernel_rfl) (by kernel_rfl) (by kernel_rfl) (fun _ _ _ h => h) (Or.inl ⟨by rfl, (by intro w hSw; (try dsimp only at hSw); go_simp)⟩) (by assumption) ?_
        try simp only [Act.put, List.getElem_toArray, List.getElem_cons_zero, List.getElem_cons_succ, List.setIfInBounds_toArray, List.set_cons_zero, List.set_cons_succ]
        refine wpAnyH_take (i := 6) (v := .slice (some ⟨b', off', none⟩) n c') rfl (by kernel_rfl) (by kernel_rfl) (by kernel_rfl) (fun _ _ _ h => h) (Or.inl ⟨by rfl, (by intro w hSw; (try dsimp only at hSw); go_simp)⟩) (by assumption) ?_
        try simp only [Act.put, List.getElem_toArray, List.getElem_cons_zero, List.getElem_cons_succ, List.setIfInBounds_toArray, List.set_cons_zero, List.set_cons_succ]
        refine wpAnyH_take (i := 7) (v := .int .i64 (k : Int)) rfl (by kernel_rfl) (by kernel_rfl) (by kernel_rfl) (fun _ _ _ h => h) (Or.inl ⟨by rfl, (by intro w hSw; (try dsimp only at hSw); go_simp)⟩) (by assumption) ?_
        try simp only [Act.put, List.getElem_toArray, List.getElem_cons_zero, List.getElem_cons_succ, List.setIfInBounds_toArray, List.set_cons_zero, List.set_cons_succ]
        refine wpAnyH_take (i := 8) (v := .pointer (some ⟨b', off' + k * 32, none⟩)) rfl (by kernel_rfl) (by kernel_rfl) (by kernel_rfl) (fun _ _ _ h => h) (Or.inl ⟨by rfl, (by intro w hSw; (try dsimp only at hSw); go_simp)⟩) (by assumption) ?_
        try simp only [Act.put, List.getElem_toArray, List.getElem_cons_zero, List.getElem_cons_succ, List.setIfInBounds_toArray, List.set_cons_zero, List.set_cons_succ]
        refine wpAnyH_take (i := 9) (v := .agg nd.toArray) rfl (by kernel_rfl) (by kernel_rfl) (by kernel_rfl) (fun _ _ _ h => h) (yieldsIf_load_mid (by rfl) _ _ rfl _ _ rfl _ _ (fun w hSw => hSw.2.2.2) hu rfl hi1) (by assumption) ?_
        try simp only [Act.put, List.getElem_toArray, List.getElem_cons_zero, List.getElem_cons_succ, List.setIfInBounds_toArray, List.set_cons_zero, List.set_cons_succ]
        refine wpAnyH_take (i := 10) (v := .bool false) rfl (by kernel_rfl) (by kernel_rfl) (by kernel_rfl) (fun _ _ _ h => h) (Or.inl ⟨by rfl, (by intro w hSw; (try dsimp only at hSw); go_simp)⟩) (by assumption) ?_
        try simp only [Act.put, List.getElem_toArray, List.getElem_cons_zero, List.getElem_cons_succ, List.setIfInBounds_toArray, List.set_cons_zero, List.set_cons_succ]
        refine wpAnyH_done (by kernel_rfl) ?_ _
        go_wp2
        refine ⟨⟨k + 1, by omega, by go_num, Lib.hid ⟨HKD.out.1, HKD.out.2.1, HKD.out.2.2, fun j hj => ?_⟩⟩, by simp [intOf]; omega⟩
        by_cases hjk : j = k
        · rw [hjk, HD.out.1, HD.out.2]
        · exact HEQ.out j (by omega)
      · have HQ : ∀ w : World, (Op.equalIn 10000 26 (.agg (nums d).toArray) (.agg (nums d').toArray)).run Try.prog w = .ok false w := fun w => by rw [HQ0, decide_eq_false z]
        have HN : Hid (Mf.Man.mk sz ch ds wh ≠ Mf.Man.mk sz ch ds' wh) := Lib.hid (fun e => by
          injection e with _ _ e _
          exact z (by rw [← HD.out.1, ← HD.out.2, e]))
        clear HQ0 z
        generalize nums d = nd at *
        generalize nums d' = nd' at *
        go_wp2
        refine wp_region_held_drew (S := fun w' => w'.cell? ⟨w.heap.size, 2, none⟩ = some (.slice (some ⟨b, off, none⟩) n c) ∧ w'.cell? ⟨w.heap.size + 1, 2, none⟩ = some (.slice (some ⟨b', off', none⟩) n c') ∧ w'.rangeAt b (off + k * 32) nd ∧ w'.rangeAt b' (off' + k * 32) nd') (by kernel_rfl) ⟨k21, k31, rg1, rg2⟩ (fun hHeld => ?_)
        refine wpAnyH_take (i := 0) (v := .pointer (some ⟨w.heap.size, 2, none⟩)) rfl (by kernel_rfl) (by kernel_rfl) (by kernel_rfl) (fun _ _ _ h => h) (Or.inl ⟨by rfl, (by intro w hSw; (try dsimp only at hSw); go_simp)⟩) (by assumption) ?_
        try simp only [Act.put, List.getElem_toArray, List.getElem_cons_zero, List.getElem_cons_succ, List.setIfInBounds_toArray, List.set_cons_zero, List.set_cons_succ]
        refine wpAnyH_take (i := 1) (v := .slice (some ⟨b, off, none⟩) n c) rfl (by kernel_rfl) (by kernel_rfl) (by kernel_rfl) (fun _ _ _ h => h) (Or.inl ⟨by rfl, (by intro w hSw; (try dsimp only at hSw); go_simp)⟩) (by assumption) ?_
        try simp only [Act.put, List.getElem_toArray, List.getElem_cons_zero, List.getElem_cons_succ, List.setIfInBounds_toArray, List.set_cons_zero, List.set_cons_succ]
        refine wpAnyH_take (i := 2) (v := .int .i64 (k : Int)) rfl (by kernel_rfl) (by kernel_rfl) (by kernel_rfl) (fun _ _ _ h => h) (Or.inl ⟨by rfl, (by intro w hSw; (try dsimp only at hSw); go_simp)⟩) (by assumption) ?_
        try simp only [Act.put, List.getElem_toArray, List.getElem_cons_zero, List.getElem_cons_succ, List.setIfInBounds_toArray, List.set_cons_zero, List.set_cons_succ]
        refine wpAnyH_take (i := 3) (v := .pointer (some ⟨b, off + k * 32, none⟩)) rfl (by kernel_rfl) (by kernel_rfl) (by kernel_rfl) (fun _ _ _ h => h) (Or.inl ⟨by rfl, (by intro w hSw; (try dsimp only at hSw); go_simp)⟩) (by assumption) ?_
        try simp only [Act.put, List.getElem_toArray, List.getElem_cons_zero, List.getElem_cons_succ, List.setIfInBounds_toArray, List.set_cons_zero, List.set_cons_succ]
        refine wpAnyH_take (i := 4) (v := .agg nd.toArray) rfl (by kernel_rfl) (by kernel_rfl) (by kernel_rfl) (fun _ _ _ h => h) (yieldsIf_load_mid (by rfl) _ _ rfl _ _ rfl _ _ (fun w hSw => hSw.2.2.1) hu rfl hi1) (by assumption) ?_
        try simp only [Act.put, List.getElem_toArray, List.getElem_cons_zero, List.getElem_cons_succ, List.setIfInBounds_toArray, List.set_cons_zero, List.set_cons_succ]
        refine wpAnyH_take (i := 5) (v := .pointer (some ⟨w.heap.size + 1, 2, none⟩)) rfl (by kernel_rfl) (by kernel_rfl) (by kernel_rfl) (fun _ _ _ h => h) (Or.inl ⟨by rfl, (by intro w hSw; (try dsimp only at hSw); go_simp)⟩) (by assumption) ?_
        try simp only [Act.put, List.getElem_toArray, List.getElem_cons_zero, List.getElem_cons_succ, List.setIfInBounds_toArray, List.set_cons_zero, List.set_cons_succ]
        refine wpAnyH_take (i := 6) (v := .slice (some ⟨b', off', none⟩) n c') rfl (by kernel_rfl) (by kernel_rfl) (by kernel_rfl) (fun _ _ _ h => h) (Or.inl ⟨by rfl, (by intro w hSw; (try dsimp only at hSw); go_simp)⟩) (by assumption) ?_
        try simp only [Act.put, List.getElem_toArray, List.getElem_cons_zero, List.getElem_cons_succ, List.setIfInBounds_toArray, List.set_cons_zero, List.set_cons_succ]
        refine wpAnyH_take (i := 7) (v := .int .i64 (k : Int)) rfl (by kernel_rfl) (by kernel_rfl) (by kernel_rfl) (fun _ _ _ h => h) (Or.inl ⟨by rfl, (by intro w hSw; (try dsimp only at hSw); go_simp)⟩) (by assumption) ?_
        try simp only [Act.put, List.getElem_toArray, List.getElem_cons_zero, List.getElem_cons_succ, List.setIfInBounds_toArray, List.set_cons_zero, List.set_cons_succ]
        refine wpAnyH_take (i := 8) (v := .pointer (some ⟨b', off' + k * 32, none⟩)) rfl (by kernel_rfl) (by kernel_rfl) (by kernel_rfl) (fun _ _ _ h => h) (Or.inl ⟨by rfl, (by intro w hSw; (try dsimp only at hSw); go_simp)⟩) (by assumption) ?_
        try simp only [Act.put, List.getElem_toArray, List.getElem_cons_zero, List.getElem_cons_succ, List.setIfInBounds_toArray, List.set_cons_zero, List.set_cons_succ]
        refine wpAnyH_take (i := 9) (v := .agg nd'.toArray) rfl (by kernel_rfl) (by kernel_rfl) (by kernel_rfl) (fun _ _ _ h => h) (yieldsIf_load_mid (by rfl) _ _ rfl _ _ rfl _ _ (fun w hSw => hSw.2.2.2) hu rfl hi2) (by assumption) ?_
        try simp only [Act.put, List.getElem_toArray, List.getElem_cons_zero, List.getElem_cons_succ, List.setIfInBounds_toArray, List.set_cons_zero, List.set_cons_succ]
        refine wpAnyH_take (i := 10) (v := .bool true) rfl (by kernel_rfl) (by kernel_rfl) (by kernel_rfl) (fun _ _ _ h => h) (Or.inl ⟨by rfl, (by intro w hSw; (try dsimp only at hSw); go_simp)⟩) (by assumption) ?_
        try simp only [Act.put, List.getElem_toArray, List.getElem_cons_zero, List.getElem_cons_succ, List.setIfInBounds_toArray, List.set_cons_zero, List.set_cons_succ]
        refine wpAnyH_done (by kernel_rfl) ?_ _
        go_wp2
        go_ret
        exact samed_no HN.out HKD.out.2.2
    · obtain rfl : k = n := by omega
      have HEQ := Lib.hid HK.out.2.2.2
      go_wp2
      go_ret
      refine samed_yes ?_ HK.out.2.2.1
      rw [ds_eq (by rw [HLN.out.1, HLN.out.2.1]) (fun j hj => HEQ.out j (by rw [← HLN.out.1]; exact hj))]
end Go.Proofs.Ytdfmfjahnnifnaa
