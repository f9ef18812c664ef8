/-
  The walk of Read.
-/
import Derived.Test.YtfecobkpdmjaeaaZg
namespace Go.Proofs.Ytfecobkpdmjaeaa
open Go.RowKit
set_option linter.unusedVariables false
set_option maxRecDepth 20000
set_option linter.unusedSimpArgs false
def z64 : List Int := List.replicate 64 0
def zb : Array Value := (nums z64).toArray
theorem zero_b (w : World) : (zeroValue 45).run Try.prog w = .ok (.agg zb) w := by kernel_rfl
theorem nums_all (l : List Int) : (nums l).toArray.all (·.oneCell') = true := all_nums l
theorem results_cell_tmp {fn : Func} {p q : Tmp} {ty : TypeId} (h : fn.results = #[.cell p ty, .tmp q]) (tmps : Array Value) (P : Program) (w : World) (a : Addr) {v u : Value} (ht : tmps.getD p undef = .pointer (some a)) (hv : (loadVar ty a).run P w = .ok v w) (hu : tmps.getD q undef = u) :
    (results fn tmps).run P w = .ok (.tuple #[v, u]) w := by
  subst hu
  simp only [results, h]
  simp only [Array.getD_eq_getD_getElem?] at ht
  simp [ht, hv, asAddr]
theorem loadVar_b {w : World} {g : Nat} {t : TypeId} {l : List Int} (hg : Whole w g t (nums l).toArray) (h64 : l.length = 64) : (loadVar 45 ⟨g, 0, none⟩).run Try.prog w = .ok (.agg (nums l).toArray) w :=
  run_loadVar_row w g t 45 (nums l).toArray (0, 0) _ hg und_b rfl (by rw [info_b]; simp [nums_len, h64])
theorem info_bn {b : List Int} (h : b.length = 64) : (Try.prog.info? 45).map (·.size) = some (nums b).toArray.size := by rw [List.size_toArray, nums_len, h]; exact info_b
theorem info_bm {b : List Int} (h : b.length = 64) : (Try.prog.info? 45).map (·.size) = some (nums b).length := by rw [nums_len, h]; exact info_b
theorem size_bn {b : List Int} (h : b.length = 64) : zb.size = (nums b).toArray.size := by
  have : (nums b).toArray.size = 64 := by rw [List.size_toArray, nums_len, h]
  rw [this]; rfl
theorem z64_len : z64.length = 64 := rfl
set_option maxHeartbeats 4000000 in
theorem read_bad {v : Value} {z E : Int} {w : World} (hf : ∀ w', Below w.heap.size w w' → Calls Try.prog 47 #[v, .int .i64 z] w' fun e w'' => e = .returned (.int .i64 E) ∧ w' = w'') (hE : E ≠ 0) :
    Calls Try.prog 49 #[v, .int .i64 z] w fun e w' => e = .returned (.tuple #[.agg (nums z64).toArray, .int .i64 E]) ∧ Below w.heap.size w w' := by
  have hzb := zero_b
  have HF := Lib.hid hf
  have h1 : (E == 0) = false := by simpa using hE
  clear hf
  go_enter Try.func49, Try.ntmps49
  go_wp2_with fail
  have k4 : Whole ((w.alloc (.cells zb 45)).alloc (.cells zb 45)) w.heap.size 45 zb := (Whole.new w _ _).alloc _
  have k6 : Whole ((w.alloc (.cells zb 45)).alloc (.cells zb 45)) (w.heap.size + 1) 45 zb := by
    have := Whole.new (w.alloc (.cells zb 45)) 45 zb
    rw [size_alloc] at this
    exact this
  have hb : Below w.heap.size w ((w.alloc (.cells zb 45)).alloc (.cells zb 45)) := ((Below.refl _ _).alloc (Nat.le_refl _) _).alloc (by simp) _
  generalize (w.alloc (.cells zb 45)).alloc (.cells zb 45) = w1 at *
  refine (HF.out w1 hb).mono ?_
  rintro e w2 ⟨rfl, rfl⟩
  have HK := Lib.hid (And.intro k4 (And.intro k6 hb))
  clear k4 k6 hb hzb
  go_wp2_with (first | ((with_reducible show wpList _ _ _ ((⟨_, Op.load 45 _, _, _, _, _⟩ : Oper) :: _) _ _); refine wpList_load_row rfl 45 (.tmp 6) rfl (w.heap.size + 1) rfl 45 zb (0, 0) _ HK.out.2.1 und_b rfl info_b ?_) | ((with_reducible show wpList _ _ _ ((⟨_, Op.store 45 _ _, _, _, _, _⟩ : Oper) :: _) _ _); refine wpList_store_row rfl 45 (.tmp 4) (.tmp 15) rfl w.heap.size zb rfl rfl 45 zb HK.out.1 info_b rfl (all_nums _) ?_))
  refine ⟨rfl, _, results_cell_tmp rfl _ _ _ _ rfl (loadVar_b (l := z64) (HK.out.1.row zb) z64_len) rfl, rfl, below_row HK.out.2.2 (Nat.le_refl _) _⟩
theorem zw_range {w : World} {g : Nat} {t : TypeId} (h : Whole w g t zwc) : Whole w g t (wvc 0 z64).toArray := h
set_option maxHeartbeats 4000000 in
theorem read_yes {p bb mb n k : Nat} {a : Dm.A} {b : List Int} {w : World} (h : Dk w p bb mb a n) (hd : a.down = false) (hk : k < n) (hl : Dm.look a.fresh k = some b) :
    Calls Try.prog 49 #[.pointer (some ⟨p, 0, none⟩), .int .i64 (k : Int)] w fun e w' => e = .returned (.tuple #[.agg (nums b).toArray, .int .i64 0]) ∧ Below w.heap.size w w' := by
  have hzb := zero_b
  have hzc := zero_wc
  have HD := Lib.hid (And.intro h (And.intro hd (And.intro hl hk)))
  have hbl : b.length = 64 := (h.ok.fok.1 _ (Dm.look_mem hl)).2.1
  have HBL := Lib.hid hbl
  clear h hd hl hk hbl
  go_enter Try.func49, Try.ntmps49
  go_wp2_with fail
  have k4 : Whole ((w.alloc (.cells zb 45)).alloc (.cells zb 45)) w.heap.size 45 zb := (Whole.new w _ _).alloc _
  have hb : Below w.heap.size w ((w.alloc (.cells zb 45)).alloc (.cells zb 45)) := ((Below.refl _ _).alloc (Nat.le_refl _) _).alloc (by simp) _
  generalize (w.alloc (.cells zb 45)).alloc (.cells zb 45) = w1 at *
  have hd1 := HD.out.1.old hb
  refine (find_up HD.out.1.ok.small HD.out.2.2.2 hd1.c0 (by rw [hd1.c2, HD.out.2.1])).mono ?_
  rintro e w2 ⟨rfl, rfl⟩
  have c1 := hd1.c1
  obtain ⟨i, hi, hlk⟩ := frs_lookup_yes hd1.map HD.out.1.ok.fok HD.out.1.ok.small HD.out.2.2.2 HD.out.2.2.1
  have hlk' : (Instr.lookup 64 (.map (some mb)) (.int .i64 (k : Int)) true).run Try.prog w1 = .ok (.tuple #[.agg (wvc i b).toArray, .bool true]) w1 := hlk true
  have hc1 : (Try.prog.info? 88).map (·.size) = some (wvc i b).toArray.size := by rw [info_w]; simp [wvc_len i HBL.out]
  have hc2 : zwc.size = (wvc i b).toArray.size := by simp [wvc_len i HBL.out, zwc, nums_len]
  have hb3 : Below w1.heap.size w1 ((w1.alloc (.cells zwc 88)).setRow w1.heap.size (wvc i b).toArray) := below_row ((Below.refl _ _).alloc (Nat.le_refl _) _) (Nat.le_refl _) _
  have hw3 : Whole ((w1.alloc (.cells zwc 88)).setRow w1.heap.size (wvc i b).toArray) w1.heap.size 88 (wvc i b).toArray := (Whole.new w1 _ _).row _
  obtain ⟨w3, h3⟩ : ∃ w3, (w1.alloc (.cells zwc 88)).setRow w1.heap.size (wvc i b).toArray = w3 := ⟨_, rfl⟩
  rw [h3] at hb3 hw3
  have k43 : Whole w3 w.heap.size 45 zb := k4.keep (hb3.block _ k4.lt)
  have HK := Lib.hid (And.intro k43 (And.intro (wv_range hw3) (And.intro (hb.trans (hb3.mono hb.size)) (And.intro hc1 hc2))))
  have H3 := Lib.hid h3
  clear k4 hb hzb hd1 hlk hc1 hc2 hb3 hw3 h3 k43 hi
  go_wp2_with (first | ((with_reducible show wpList _ _ _ ((⟨_, Op.store 88 _ _, _, _, _, _⟩ : Oper) :: _) _ _); refine wpList_store_row rfl 88 (.tmp 8) (.tmp 24) rfl w1.heap.size (wvc i b).toArray rfl rfl 88 zwc (Whole.new w1 _ _) HK.out.2.2.2.1 HK.out.2.2.2.2 (wvc_all i b) ?_; rw [H3.out]; clear hzc c1 hlk') | ((with_reducible show wpList _ _ _ ((⟨_, Op.load 45 _, _, _, _, _⟩ : Oper) :: _) _ _); refine wpList_load_mid rfl 45 (.tmp 27) rfl w1.heap.size 1 rfl (nums b) _ HK.out.2.1 und_b rfl (info_bm HBL.out) ?_) | ((with_reducible show wpList _ _ _ ((⟨_, Op.store 45 _ _, _, _, _, _⟩ : Oper) :: _) _ _); refine wpList_store_row rfl 45 (.tmp 4) (.tmp 28) rfl w.heap.size (nums b).toArray rfl rfl 45 zb HK.out.1 (info_bn HBL.out) (size_bn HBL.out) (all_nums _) ?_))
  refine ⟨rfl, _, results_cell_tmp rfl _ _ _ _ rfl (loadVar_b (HK.out.1.row (nums b).toArray) HBL.out) rfl, rfl, below_row HK.out.2.2.1 (Nat.le_refl _) _⟩
set_option maxHeartbeats 4000000 in
theorem read_no {p bb mb n k : Nat} {a : Dm.A} {w : World} (h : Dk w p bb mb a n) (hd : a.down = false) (hk : k < n) (hl : Dm.look a.fresh k = none) :
    Calls Try.prog 49 #[.pointer (some ⟨p, 0, none⟩), .int .i64 (k : Int)] w fun e w' => e = .returned (.tuple #[.agg (nums (Dm.blk a.last k)).toArray, .int .i64 0]) ∧ Below w.heap.size w w' := by
  have hzb := zero_b
  have hzc := zero_wc
  have HD := Lib.hid (And.intro h (And.intro hd (And.intro hl hk)))
  obtain ⟨b, hb0⟩ : ∃ b, Dm.blk a.last k = b := ⟨_, rfl⟩
  have HBL : Hid (b.length = 64) := Lib.hid (by rw [← hb0]; exact Dm.blk_len h.ok.len hk)
  have HB0 := Lib.hid hb0
  rw [hb0]
  clear h hd hl hk hb0
  go_enter Try.func49, Try.ntmps49
  go_wp2_with fail
  have k4 : Whole ((w.alloc (.cells zb 45)).alloc (.cells zb 45)) w.heap.size 45 zb := (Whole.new w _ _).alloc _
  have k6 : Whole ((w.alloc (.cells zb 45)).alloc (.cells zb 45)) (w.heap.size + 1) 45 zb := by
    have := Whole.new (w.alloc (.cells zb 45)) 45 zb
    rw [size_alloc] at this
    exact this
  have hb : Below w.heap.size w ((w.alloc (.cells zb 45)).alloc (.cells zb 45)) := ((Below.refl _ _).alloc (Nat.le_refl _) _).alloc (by simp) _
  generalize (w.alloc (.cells zb 45)).alloc (.cells zb 45) = w1 at *
  have hd1 := HD.out.1.old hb
  refine (find_up HD.out.1.ok.small HD.out.2.2.2 hd1.c0 (by rw [hd1.c2, HD.out.2.1])).mono ?_
  rintro e w2 ⟨rfl, rfl⟩
  have c1 := hd1.c1
  have hlk' : (Instr.lookup 64 (.map (some mb)) (.int .i64 (k : Int)) true).run Try.prog w1 = .ok (.tuple #[.agg zwc, .bool false]) w1 := frs_lookup_no hd1.map HD.out.1.ok.fok HD.out.1.ok.small HD.out.2.2.2 HD.out.2.2.1
  have hb3 : Below w1.heap.size w1 ((w1.alloc (.cells zwc 88)).setRow w1.heap.size zwc) := below_row ((Below.refl _ _).alloc (Nat.le_refl _) _) (Nat.le_refl _) _
  obtain ⟨w3, h3⟩ : ∃ w3, (w1.alloc (.cells zwc 88)).setRow w1.heap.size zwc = w3 := ⟨_, rfl⟩
  rw [h3] at hb3
  have k43 : Whole w3 w.heap.size 45 zb := k4.keep (hb3.block _ k4.lt)
  have k63 : Whole w3 (w.heap.size + 1) 45 zb := k6.keep (hb3.block _ k6.lt)
  have hd3 := hd1.old hb3
  have HK := Lib.hid (And.intro k43 (And.intro k63 (And.intro hd3 (hb.trans (hb3.mono hb.size)))))
  have H3 := Lib.hid h3
  clear k4 k6 hb hzb hd1 hb3 h3 k43 k63 hd3
  go_wp2_with ((with_reducible show wpList _ _ _ ((⟨_, Op.store 88 _ _, _, _, _, _⟩ : Oper) :: _) _ _); refine wpList_store_row rfl 88 (.tmp 8) (.tmp 24) rfl w1.heap.size zwc rfl rfl 88 zwc (Whole.new w1 _ _) info_w rfl (wvc_all 0 z64) ?_; rw [H3.out]; clear hzc c1 hlk')
  have hsl := slice_all (g := w.heap.size + 1) (o := 0)
  have d0 := HK.out.2.2.1.c0
  go_still_tail 4, (by kernel_rfl)
  still_call ((block_any (w := w3.drew) HD.out.1.ok.small HD.out.2.2.2 d0).mono fun e w'' h => ⟨h.1, h.2.symm⟩)
  repeat still_step
  refine wpStill_nil ?_
  change wpList _ _ _ _ _ w3.drew
  have hsrc : ∀ j v, (nums b)[j]? = some v → w3.drew.cell? ((⟨bb, 64 * k, none⟩ : Addr).add j) = some v := by
    intro j v hv
    rw [Addr.add_lit]
    show w3.cell? _ = _
    have hj : j < b.length := by have := (List.getElem?_eq_some_iff.1 hv).1; rwa [nums_len] at this
    have hj' : j < 64 := by rw [HBL.out] at hj; exact hj
    rw [HK.out.2.2.1.bytes.cell, List.getElem?_toArray, ← hv, ← HB0.out]
    unfold nums
    rw [List.getElem?_map, List.getElem?_map, Dm.blk_get, if_pos hj']
  refine wpList_copy_own rfl (.tmp 29) (.tmp 32) 37 37 rfl 5 Try.underlying37 infou8 (w.heap.size + 1) 0 64 64 ⟨bb, 64 * k, none⟩ 64 64 rfl rfl zb 45 HK.out.2.1 (nums b) (by rw [nums_len, HBL.out]; rfl) hsrc (by rw [nums_len, HBL.out]; decide) (nums_one _) ?_
  have e1 : (zb.toList.take 0 ++ (nums b ++ zb.toList.drop (0 + (nums b).length))).toArray = (nums b).toArray := by
    have : zb.toList.drop (0 + (nums b).length) = [] := List.drop_eq_nil_of_le (by rw [nums_len, HBL.out]; decide)
    rw [this]; simp
  rw [e1]
  have hw4 : Whole (w3.drew.setRow (w.heap.size + 1) (nums b).toArray) (w.heap.size + 1) 45 (nums b).toArray := Whole.row (cs := zb) HK.out.2.1 _
  have hv4 : Whole (w3.drew.setRow (w.heap.size + 1) (nums b).toArray) w.heap.size 45 zb := Whole.rowFar (w := w3.drew) HK.out.1 (by omega) _
  have hb4 : Below w.heap.size w (w3.drew.setRow (w.heap.size + 1) (nums b).toArray) := below_row (w := w3.drew) (g := w.heap.size + 1) ⟨HK.out.2.2.2.os, HK.out.2.2.2.tape, HK.out.2.2.2.output, HK.out.2.2.2.size, HK.out.2.2.2.block⟩ (by omega) _
  generalize w3.drew.setRow (w.heap.size + 1) (nums b).toArray = w4 at *
  have HE := Lib.hid (And.intro hw4 (And.intro hv4 hb4))
  clear hw4 hv4 hb4 hsrc e1 hsl d0
  go_wp2_with (first | ((with_reducible show wpList _ _ _ ((⟨_, Op.load 45 _, _, _, _, _⟩ : Oper) :: _) _ _); refine wpList_load_row rfl 45 (.tmp 6) rfl (w.heap.size + 1) rfl 45 (nums b).toArray (0, 0) _ HE.out.1 und_b rfl (info_bn HBL.out) ?_) | ((with_reducible show wpList _ _ _ ((⟨_, Op.store 45 _ _, _, _, _, _⟩ : Oper) :: _) _ _); refine wpList_store_row rfl 45 (.tmp 4) (.tmp 34) rfl w.heap.size (nums b).toArray rfl rfl 45 zb HE.out.2.1 (info_bn HBL.out) (size_bn HBL.out) (all_nums _) ?_))
  refine ⟨rfl, _, results_cell_tmp rfl _ _ _ _ rfl (loadVar_b (HE.out.2.1.row (nums b).toArray) HBL.out) rfl, rfl, below_row HE.out.2.2 (Nat.le_refl _) _⟩
theorem read_any {p bb mb n k : Nat} {a : Dm.A} {w : World} (h : Dk w p bb mb a n) (hd : a.down = false) (hk : k < n) :
    Calls Try.prog 49 #[.pointer (some ⟨p, 0, none⟩), .int .i64 (k : Int)] w fun e w' => e = .returned (.tuple #[.agg (nums (Dm.read a k)).toArray, .int .i64 0]) ∧ Below w.heap.size w w' := by
  unfold Dm.read
  cases hl : Dm.look a.fresh k with
  | none => exact read_no h hd hk hl
  | some b => exact read_yes h hd hk hl
/-- What a block that isn't there answers. -/
def bad (a : Dm.A) (n : Nat) (z : Int) : Int := if a.down then 60 else if z < 0 ∨ (n : Int) ≤ z then 61 else 0
theorem find_bad {p bb mb n : Nat} {a : Dm.A} {z : Int} {w : World} (h : Dk w p bb mb a n) (hb : bad a n z ≠ 0) :
    Calls Try.prog 47 #[.pointer (some ⟨p, 0, none⟩), .int .i64 z] w fun e w' => e = .returned (.int .i64 (bad a n z)) ∧ w = w' := by
  unfold bad at hb ⊢
  by_cases hd : a.down = true
  · rw [if_pos hd]; exact find_down (by rw [h.c2, hd])
  · rw [if_neg hd] at hb ⊢
    by_cases hz : z < 0 ∨ (n : Int) ≤ z
    · rw [if_pos hz]; exact find_place h.ok.small hz h.c0 (by rw [h.c2]; simpa using hd)
    · rw [if_neg hz] at hb; exact absurd rfl hb
theorem read_err {p bb mb n : Nat} {a : Dm.A} {z : Int} {w : World} (h : Dk w p bb mb a n) (hb : bad a n z ≠ 0) :
    Calls Try.prog 49 #[.pointer (some ⟨p, 0, none⟩), .int .i64 z] w fun e w' => e = .returned (.tuple #[.agg (nums z64).toArray, .int .i64 (bad a n z)]) ∧ Below w.heap.size w w' :=
  read_bad (fun w' hw => find_bad (h.old hw) hb) hb
theorem read_nil {z : Int} {w : World} : Calls Try.prog 49 #[.pointer none, .int .i64 z] w fun e w' => e = .returned (.tuple #[.agg (nums z64).toArray, .int .i64 1]) ∧ Below w.heap.size w w' :=
  read_bad (fun w' hw => find_nil) (by omega)
end Go.Proofs.Ytfecobkpdmjaeaa
