/-
  The walk of Write.
-/
import Derived.Test.YtfecobkpdmjaeaaZh
import Derived.Deep.Cut
namespace Go.Proofs.Ytfecobkpdmjaeaa
open Go.RowKit
set_option linter.unusedVariables false
set_option maxRecDepth 20000
set_option linter.unusedSimpArgs false
theorem run_store_part {P : Program} (w : World) (g o : Nat) (n ty : TypeId) (cur cells : List Value) (hg : Whole w g n cur.toArray) (hi : (P.info? ty).map (·.size) = some cells.length) (h1 : ∀ v ∈ cells, v.oneCell' = true) (hf : o + cells.length ≤ cur.length) :
    (storeVar ty ⟨g, o, none⟩ (.agg cells.toArray)).run P w = .ok () (w.setRow g (splice cur o cells).toArray) := by
  have := run_storeCells_at (P := P) g o n cells 0 cur.toArray w hg (by simp; omega) h1
  cases hq : P.info? ty with
  | none => simp [hq] at hi
  | some i =>
    have hs : cells.length = i.size := by simp [hq] at hi; omega
    simp only [Nat.add_zero] at this
    simp [storeVar, sizeOf, typeInfo, hq, Value.cells, hs, this, splice]
theorem wp_store_part {P : Program} {op : Oper} {a : Act} {w : World} {K : Act → World → Prop} {Q : Exit → Act → World → Prop} {n : TypeId} {cur : List Value} (ty : TypeId) (x y : Operand) (ho : op.op = .store ty x y)
    (g o : Nat) (cells : List Value) (hx : a.eval x = .pointer (some ⟨g, o, none⟩)) (hy : a.eval y = .agg cells.toArray)
    (hg : Whole w g n cur.toArray) (hi : (P.info? ty).map (·.size) = some cells.length) (h1 : ∀ v ∈ cells, v.oneCell' = true) (hf : o + cells.length ≤ cur.length)
    (h : K (a.put op.dst undef) (w.setRow g (splice cur o cells).toArray)) : Oper.wp P op a w K Q := by
  unfold Oper.wp execOp
  simp only [ho, hx, hy, Instr.storeAt, Instr.sureAddr, Sem.run_bind, Sem.run_pure, Result.andThen_ok, run_store_part w g o n ty cur cells hg hi h1 hf]
  exact h
theorem wpList_store_part {P : Program} {ops : Array Oper} {rest : List Oper} {op : Oper} {a : Act} {w : World} {Q : Exit → Act → World → Prop} (hgd : op.guard = none) {n : TypeId} {cur : List Value} (ty : TypeId) (x y : Operand) (ho : op.op = .store ty x y)
    (g o : Nat) (cells : List Value) (hx : a.eval x = .pointer (some ⟨g, o, none⟩)) (hy : a.eval y = .agg cells.toArray)
    (hg : Whole w g n cur.toArray) (hi : (P.info? ty).map (·.size) = some cells.length) (h1 : ∀ v ∈ cells, v.oneCell' = true) (hf : o + cells.length ≤ cur.length)
    (h : wpList P ops Q rest (a.put op.dst undef) (w.setRow g (splice cur o cells).toArray)) : wpList P ops Q (op :: rest) a w :=
  wpList_plain hgd fun _ hK => wp_store_part ty x y ho g o cells hx hy hg hi h1 hf (hK _ _ h)
theorem wpStill_load_row {P : Program} {ops : Array Oper} {w : World} {Q : Act → Prop} {a : Act} {o : Oper} {rest : List Oper} (hw : Region.wanted o (yielded ops a.tmps) = true) (ty : TypeId) (x : Operand) (ho : o.op = .load ty x)
    (g : Nat) (hx : a.eval x = .pointer (some ⟨g, 0, none⟩)) (t : TypeId) (cs : Array Value) (fr : Nat × Nat) (d : TypeDesc) (hg : w.heap[g]? = some (.cells cs t fr))
    (hu : P.underlying ty = some d) (hd : (match d with | .struct _ | .array _ _ => true | _ => false) = true) (hi : (P.info? ty).map (·.size) = some cs.size)
    (h : wpStill P ops w Q rest (a.put o.dst (.agg cs))) : wpStill P ops w Q (o :: rest) a := by
  refine wpStill_step (fun K hK => ?_)
  rw [if_pos hw]
  unfold Oper.still execOp
  simp only [ho, hx, Instr.loadAt, Instr.sureAddr, Sem.run_bind, Sem.run_pure, Result.andThen_ok, run_loadVar_row w g t ty cs fr d hg hu hd hi, Oper.stillUpon_value]
  exact hK _ h
theorem wpList_update_frs (w : World) {ops : Array Oper} {rest : List Oper} {o : Oper} {a : Act} {Q : Exit → Act → World → Prop} (hg : o.guard = none) (m x v : Operand) (hop : o.op = Op.mapUpdate 64 m x v) (mb : Nat) (f : Dm.F) (n k i : Nat) (b : List Int)
    (hm : a.eval m = .map (some mb)) (hx : a.eval x = .int .i64 (k : Int)) (hv : a.eval v = .agg (wvc i b).toArray) (h : Frs w mb f) (hf : Dm.Fok f n) (hn : n ≤ 4096) (hk : k < n) (hi : (Dm.look f k = none ∧ i = f.length) ∨ ∃ b0, f[i]? = some (k, b0))
    (hK : ∀ w', Frs w' mb (Dm.set f k b) → w.grownBy w' (some mb) → w'.heap.size = w.heap.size → wpList Try.prog ops Q rest (a.put o.dst undef) w') : wpList Try.prog ops Q (o :: rest) a w := by
  refine wpList_plain hg fun K' hK' => ?_
  obtain ⟨w', hrun, r1, r2, r3⟩ := frs_store (b := b) h hf hn hk hi
  have hrun' : (Instr.mapUpdate 64 (.map (some mb)) (.int .i64 (k : Int)) (.agg (wvc i b).toArray)).run Try.prog w = .ok () w' := hrun
  unfold Oper.wp
  simp [execOp, hop, hm, hx, hv, hrun', Result.andThen]
  exact hK' _ _ (hK w' r1 r2 r3)
theorem und_wr : ∃ fs, Try.prog.underlying 88 = some (.struct fs) := ⟨_, Try.underlying88⟩
theorem wvc_set (i : Nat) {b0 b : List Int} (h : b0.length = 64) (h' : b.length = 64) : splice (wvc i b0) 1 (nums b) = wvc i b := by
  unfold splice wvc
  have e : (Value.int .i64 (i : Int) :: nums b0).drop (1 + (nums b).length) = [] := List.drop_eq_nil_of_le (by simp [nums_len, h, h'])
  rw [e, List.append_nil]
  rfl
theorem write_bad {v : Value} {z E : Int} {b : List Int} {w : World} (hf : ∀ w', Below w.heap.size w w' → Calls Try.prog 47 #[v, .int .i64 z] w' fun e w'' => e = .returned (.int .i64 E) ∧ w' = w'') (hE : E ≠ 0) :
    Calls Try.prog 21 #[v, .int .i64 z, .agg (nums b).toArray] w fun e w' => e = .returned (.int .i64 E) ∧ Below w.heap.size w w' := by
  have HF := Lib.hid hf
  have h1 : (E == 0) = false := by simpa using hE
  clear hf
  obtain ⟨C, hC⟩ : ∃ C, (nums b).toArray = C := ⟨_, rfl⟩
  rw [hC]
  clear hC
  go_enter Try.func21, Try.ntmps21
  go_wp2_with (go_at_call 47; refine (HF.out _ ((Below.refl _ _).alloc (Nat.le_refl _) _)).mono ?_; rintro e w' ⟨rfl, rfl⟩)
  go_ret
  exact ⟨rfl, (Below.refl _ _).alloc (Nat.le_refl _) _⟩
set_option maxHeartbeats 4000000 in
theorem write_no {p bb mb n k : Nat} {a : Dm.A} {b : List Int} {w : World} (h : Dk w p bb mb a n) (hd : a.down = false) (hk : k < n) (hl : Dm.look a.fresh k = none) (hb64 : b.length = 64) (hB : Byt b) :
    Calls Try.prog 21 #[.pointer (some ⟨p, 0, none⟩), .int .i64 (k : Int), .agg (nums b).toArray] w fun e w' => e = .returned (.int .i64 0) ∧ Dk w' p bb mb (Dm.write a k b) n ∧ Only [mb] w w' := by
  have hzc := zero_wc
  have HD := Lib.hid (And.intro h (And.intro hd (And.intro hl hk)))
  have HBL := Lib.hid (And.intro hb64 hB)
  clear h hd hl hk hb64 hB
  obtain ⟨C, hC⟩ : ∃ C, (nums b).toArray = C := ⟨_, rfl⟩
  rw [hC]
  have HC := Lib.hid hC
  clear hC
  go_enter Try.func21, Try.ntmps21
  go_wp2_with fail
  have k5 : Whole (w.alloc (.cells C 45)) w.heap.size 45 C := Whole.new w _ _
  have hb : Below w.heap.size w (w.alloc (.cells C 45)) := (Below.refl _ _).alloc (Nat.le_refl _) _
  generalize w.alloc (.cells C 45) = w1 at *
  have hd1 := HD.out.1.old hb
  refine (find_up HD.out.1.ok.small HD.out.2.2.2 hd1.c0 (by rw [hd1.c2, HD.out.2.1])).mono ?_
  rintro e w2 ⟨rfl, rfl⟩
  have c1 := hd1.c1
  have hlk' : (Instr.lookup 64 (.map (some mb)) (.int .i64 (k : Int)) true).run Try.prog w1 = .ok (.tuple #[.agg zwc, .bool false]) w1 := frs_lookup_no hd1.map HD.out.1.ok.fok HD.out.1.ok.small HD.out.2.2.2 HD.out.2.2.1
  have hb3 : Below w1.heap.size w1 ((w1.alloc (.cells zwc 88)).setRow w1.heap.size zwc) := below_row ((Below.refl _ _).alloc (Nat.le_refl _) _) (Nat.le_refl _) _
  have hw3 : Whole ((w1.alloc (.cells zwc 88)).setRow w1.heap.size zwc) w1.heap.size 88 (wvc 0 z64).toArray := (Whole.new w1 _ _).row _
  obtain ⟨w3, h3⟩ : ∃ w3, (w1.alloc (.cells zwc 88)).setRow w1.heap.size zwc = w3 := ⟨_, rfl⟩
  rw [h3] at hb3 hw3
  have k53 : Whole w3 w.heap.size 45 C := k5.keep (hb3.block _ k5.lt)
  have hd3 := hd1.old hb3
  have d1 := hd3.c1
  obtain ⟨L, hL⟩ : ∃ L, a.fresh.length = L := ⟨_, rfl⟩
  have hlen : ∀ ty, (Builtin.len_ #[64] ty #[.map (some mb)]).run Try.prog w3 = .ok (.int .i64 (L : Int)) w3 := fun ty => by rw [frs_len hd3.map ty, hL]
  have cG : w3.cell? ⟨w1.heap.size, 0, none⟩ = some (.int .i64 0) := (hw3.cell 0).trans (by rw [List.getElem?_toArray]; rfl)
  have fG : w3.frozen? ⟨w1.heap.size, 0, none⟩ = false := hw3.frozen 0
  have hne : w.heap.size ≠ w1.heap.size := by have := k5.lt; omega
  have k54 : Whole (w3.setCell ⟨w1.heap.size, 0, none⟩ (.int .i64 (L : Int))) w.heap.size 45 C := k53.far (by simpa using hne) _
  have k84 : Whole (w3.setCell ⟨w1.heap.size, 0, none⟩ (.int .i64 (L : Int))) w1.heap.size 88 (wvc L z64).toArray := by
    have := hw3.set 0 (.int .i64 (L : Int))
    rw [List.setIfInBounds_toArray] at this
    exact this
  have hb4 : Below w.heap.size w (w3.setCell ⟨w1.heap.size, 0, none⟩ (.int .i64 (L : Int))) := (hb.trans (hb3.mono hb.size)).setCell hb.size _
  have HB1 : Hid (w.heap.size ≤ w1.heap.size) := Lib.hid hb.size
  have HK := Lib.hid (And.intro k54 (And.intro k84 (And.intro hb4 (And.intro hL hne))))
  have H3 := Lib.hid h3
  clear k5 hb hd1 hb3 hw3 h3 k53 hd3 k54 k84 hb4 hL hne
  obtain ⟨w4, h4⟩ : ∃ w4, w3.setCell ⟨w1.heap.size, 0, none⟩ (.int .i64 (L : Int)) = w4 := ⟨_, rfl⟩
  have H4 := Lib.hid h4
  rw [h4] at HK
  clear h4
  go_upto_region 7 with (first | ((with_reducible show wpList _ _ _ ((⟨_, Op.store 88 _ _, _, _, _, _⟩ : Oper) :: _) _ _); refine wpList_store_row rfl 88 (.tmp 8) (.tmp 23) rfl w1.heap.size zwc rfl rfl 88 zwc (Whole.new w1 _ _) info_w rfl (wvc_all 0 z64) ?_; rw [H3.out]; clear hzc c1 hlk') | fail)
  rw [H4.out]
  clear cG fG hlen d1
  have hC := HC.out
  subst hC
  have hsp := wvc_set L (b0 := z64) z64_len HBL.out.1
  have hd4 := HD.out.1.old HK.out.2.2.1
  have hi5 := info_bn HBL.out.1
  have hi6 := info_bm HBL.out.1
  have hcl : 1 + (nums b).length ≤ (wvc L z64).length := by rw [wvc_len _ z64_len, nums_len, HBL.out.1]; omega
  have hw5 : Whole (w4.setRow w1.heap.size (wvc L b).toArray) w1.heap.size 88 (wvc L b).toArray := HK.out.2.1.row _
  have hb5 : Below w.heap.size w (w4.setRow w1.heap.size (wvc L b).toArray) := below_row HK.out.2.2.1 (by have := HB1.out; omega) _
  have hd5 := HD.out.1.old hb5
  have e1 : (w4.drew).setRow w1.heap.size (wvc L b).toArray = (w4.setRow w1.heap.size (wvc L b).toArray).drew := rfl
  obtain ⟨w5, h5⟩ : ∃ w5, w4.setRow w1.heap.size (wvc L b).toArray = w5 := ⟨_, rfl⟩
  rw [h5] at hw5 hb5 hd5
  have c15 := hd5.c1
  have HE := Lib.hid (And.intro hw5 (And.intro hb5 hd5))
  have H5 := Lib.hid (And.intro h5 (And.intro hsp (And.intro hi5 (And.intro hi6 hcl))))
  clear hsp hd4 hi5 hi6 hcl hw5 hb5 hd5 e1 h5
  go_upto_region 8 with (first | ((with_reducible show wpList _ _ _ ((⟨_, Op.load 45 _, _, _, _, _⟩ : Oper) :: _) _ _); refine wpList_load_row rfl 45 (.tmp 5) rfl w.heap.size rfl 45 (nums b).toArray (0, 0) _ HK.out.1 und_b rfl H5.out.2.2.1 ?_) | ((with_reducible show wpList _ _ _ ((⟨_, Op.store 45 _ _, _, _, _, _⟩ : Oper) :: _) _ _); refine wpList_store_part rfl 45 (.tmp 34) (.tmp 33) rfl w1.heap.size 1 (nums b) rfl rfl HK.out.2.1 H5.out.2.2.2.1 (nums_one _) H5.out.2.2.2.2 ?_; rw [H5.out.2.1, H5.out.1]))
  have c15' : w5.drew.cell? ⟨p, 1, none⟩ = some (.map (some mb)) := c15
  go_frame
  refine wp_region_still_tail 6 (by kernel_rfl) (by kernel_rfl) ?_
  simp only [List.take_succ_cons, List.take_zero, List.drop_succ_cons, List.drop_zero]
  iterate 5 still_step
  refine wpStill_load_row (by rfl) 88 (.tmp 8) rfl w1.heap.size rfl 88 (wvc L b).toArray (0, 0) _ HE.out.1 Try.underlying88 rfl (by rw [info_w]; simp [wvc_len L HBL.out.1]) ?_
  refine wpStill_nil ?_
  go_frame
  change wpList _ _ _ _ _ w5.drew
  refine wpList_update_frs w5.drew rfl (.tmp 38) (.tmp 39) (.tmp 40) rfl mb a.fresh n k L b rfl rfl rfl HE.out.2.2.map HD.out.1.ok.fok HD.out.1.ok.small HD.out.2.2.2 (Or.inl ⟨HD.out.2.2.1, HK.out.2.2.2.1.symm⟩) ?_
  intro w6 hf6 hg6 hs6
  have hd6 : Dk w6 p bb mb (Dm.write a k b) n := ⟨HE.out.2.2.cells.keep (hg6.block p HE.out.2.2.cells.lt (by have := HE.out.2.2.ne2; intro e; injection e; omega)), HE.out.2.2.bytes.keep (hg6.block bb HE.out.2.2.bytes.lt (by have := HE.out.2.2.ne3; intro e; injection e; omega)), hf6, Dm.write_ok HD.out.1.ok HD.out.2.2.2 HBL.out.1 HBL.out.2⟩
  have ho6 : Only [mb] w w6 := (Only.of_below HE.out.2.1).trans (Only.of_grown (a := w5) ⟨hg6.os, hg6.tape, hg6.output, hg6.size, hg6.block⟩ (by simp))
  have HF := Lib.hid (And.intro hd6 ho6)
  clear hf6 hg6 hs6 hd6 ho6 c15 c15'
  go_wp2
  go_ret
  exact ⟨rfl, HF.out⟩
set_option maxHeartbeats 4000000 in
theorem write_yes {p bb mb n k : Nat} {a : Dm.A} {b b0 : List Int} {w : World} (h : Dk w p bb mb a n) (hd : a.down = false) (hk : k < n) (hl : Dm.look a.fresh k = some b0) (hb64 : b.length = 64) (hB : Byt b) :
    Calls Try.prog 21 #[.pointer (some ⟨p, 0, none⟩), .int .i64 (k : Int), .agg (nums b).toArray] w fun e w' => e = .returned (.int .i64 0) ∧ Dk w' p bb mb (Dm.write a k b) n ∧ Only [mb] w w' := by
  have hzc := zero_wc
  have HD := Lib.hid (And.intro h (And.intro hd (And.intro hl hk)))
  have HBL := Lib.hid (And.intro hb64 hB)
  have HB0 : Hid (b0.length = 64) := Lib.hid (h.ok.fok.1 _ (Dm.look_mem hl)).2.1
  clear h hd hl hk hb64 hB
  obtain ⟨C, hC⟩ : ∃ C, (nums b).toArray = C := ⟨_, rfl⟩
  rw [hC]
  have HC := Lib.hid hC
  clear hC
  go_enter Try.func21, Try.ntmps21
  go_wp2_with fail
  have k5 : Whole (w.alloc (.cells C 45)) w.heap.size 45 C := Whole.new w _ _
  have hb : Below w.heap.size w (w.alloc (.cells C 45)) := (Below.refl _ _).alloc (Nat.le_refl _) _
  generalize w.alloc (.cells C 45) = w1 at *
  have hd1 := HD.out.1.old hb
  refine (find_up HD.out.1.ok.small HD.out.2.2.2 hd1.c0 (by rw [hd1.c2, HD.out.2.1])).mono ?_
  rintro e w2 ⟨rfl, rfl⟩
  have c1 := hd1.c1
  obtain ⟨i, hi, hlk⟩ := frs_lookup_yes hd1.map HD.out.1.ok.fok HD.out.1.ok.small HD.out.2.2.2 HD.out.2.2.1
  have hlk' : (Instr.lookup 64 (.map (some mb)) (.int .i64 (k : Int)) true).run Try.prog w1 = .ok (.tuple #[.agg (wvc i b0).toArray, .bool true]) w1 := hlk true
  have hc1 : (Try.prog.info? 88).map (·.size) = some (wvc i b0).toArray.size := by rw [info_w]; simp [wvc_len i HB0.out]
  have hc2 : zwc.size = (wvc i b0).toArray.size := by simp [wvc_len i HB0.out, zwc, nums_len]
  have hb3 : Below w1.heap.size w1 ((w1.alloc (.cells zwc 88)).setRow w1.heap.size (wvc i b0).toArray) := below_row ((Below.refl _ _).alloc (Nat.le_refl _) _) (Nat.le_refl _) _
  have hw3 : Whole ((w1.alloc (.cells zwc 88)).setRow w1.heap.size (wvc i b0).toArray) w1.heap.size 88 (wvc i b0).toArray := (Whole.new w1 _ _).row _
  obtain ⟨w3, h3⟩ : ∃ w3, (w1.alloc (.cells zwc 88)).setRow w1.heap.size (wvc i b0).toArray = w3 := ⟨_, rfl⟩
  rw [h3] at hb3 hw3
  have k53 : Whole w3 w.heap.size 45 C := k5.keep (hb3.block _ k5.lt)
  have HB1 : Hid (w.heap.size ≤ w1.heap.size) := Lib.hid hb.size
  have HK := Lib.hid (And.intro k53 (And.intro hw3 (And.intro (hb.trans (hb3.mono hb.size)) (And.intro hc1 (And.intro hc2 hi)))))
  have H3 := Lib.hid h3
  clear k5 hb hd1 hb3 hw3 h3 k53 hc1 hc2 hi hlk
  go_upto_region 7 with (first | ((with_reducible show wpList _ _ _ ((⟨_, Op.store 88 _ _, _, _, _, _⟩ : Oper) :: _) _ _); refine wpList_store_row rfl 88 (.tmp 8) (.tmp 23) rfl w1.heap.size (wvc i b0).toArray rfl rfl 88 zwc (Whole.new w1 _ _) HK.out.2.2.2.1 HK.out.2.2.2.2.1 (wvc_all i b0) ?_; rw [H3.out]; clear hzc c1 hlk') | fail)
  have hC := HC.out
  subst hC
  have hsp := wvc_set i (b0 := b0) HB0.out HBL.out.1
  have hd4 := HD.out.1.old HK.out.2.2.1
  have hi5 := info_bn HBL.out.1
  have hi6 := info_bm HBL.out.1
  have hcl : 1 + (nums b).length ≤ (wvc i b0).length := by rw [wvc_len _ HB0.out, nums_len, HBL.out.1]; omega
  have hw5 : Whole (w3.setRow w1.heap.size (wvc i b).toArray) w1.heap.size 88 (wvc i b).toArray := HK.out.2.1.row _
  have hb5 : Below w.heap.size w (w3.setRow w1.heap.size (wvc i b).toArray) := below_row HK.out.2.2.1 (by have := HB1.out; omega) _
  have hd5 := HD.out.1.old hb5
  have e1 : (w3.drew).setRow w1.heap.size (wvc i b).toArray = (w3.setRow w1.heap.size (wvc i b).toArray).drew := rfl
  obtain ⟨w5, h5⟩ : ∃ w5, w3.setRow w1.heap.size (wvc i b).toArray = w5 := ⟨_, rfl⟩
  rw [h5] at hw5 hb5 hd5
  have c15 := hd5.c1
  have HE := Lib.hid (And.intro hw5 (And.intro hb5 hd5))
  have H5 := Lib.hid (And.intro h5 (And.intro hsp (And.intro hi5 (And.intro hi6 hcl))))
  clear hsp hd4 hi5 hi6 hcl hw5 hb5 hd5 e1 h5
  go_upto_region 8 with (first | ((with_reducible show wpList _ _ _ ((⟨_, Op.load 45 _, _, _, _, _⟩ : Oper) :: _) _ _); refine wpList_load_row rfl 45 (.tmp 5) rfl w.heap.size rfl 45 (nums b).toArray (0, 0) _ HK.out.1 und_b rfl H5.out.2.2.1 ?_) | ((with_reducible show wpList _ _ _ ((⟨_, Op.store 45 _ _, _, _, _, _⟩ : Oper) :: _) _ _); refine wpList_store_part rfl 45 (.tmp 34) (.tmp 33) rfl w1.heap.size 1 (nums b) rfl rfl HK.out.2.1 H5.out.2.2.2.1 (nums_one _) H5.out.2.2.2.2 ?_; rw [H5.out.2.1, H5.out.1]))
  have c15' : w5.drew.cell? ⟨p, 1, none⟩ = some (.map (some mb)) := c15
  go_frame
  refine wp_region_still_tail 6 (by kernel_rfl) (by kernel_rfl) ?_
  simp only [List.take_succ_cons, List.take_zero, List.drop_succ_cons, List.drop_zero]
  iterate 5 still_step
  refine wpStill_load_row (by rfl) 88 (.tmp 8) rfl w1.heap.size rfl 88 (wvc i b).toArray (0, 0) _ HE.out.1 Try.underlying88 rfl (by rw [info_w]; simp [wvc_len i HBL.out.1]) ?_
  refine wpStill_nil ?_
  go_frame
  change wpList _ _ _ _ _ w5.drew
  refine wpList_update_frs w5.drew rfl (.tmp 38) (.tmp 39) (.tmp 40) rfl mb a.fresh n k i b rfl rfl rfl HE.out.2.2.map HD.out.1.ok.fok HD.out.1.ok.small HD.out.2.2.2 (Or.inr ⟨b0, HK.out.2.2.2.2.2⟩) ?_
  intro w6 hf6 hg6 hs6
  have hd6 : Dk w6 p bb mb (Dm.write a k b) n := ⟨HE.out.2.2.cells.keep (hg6.block p HE.out.2.2.cells.lt (by have := HE.out.2.2.ne2; intro e; injection e; omega)), HE.out.2.2.bytes.keep (hg6.block bb HE.out.2.2.bytes.lt (by have := HE.out.2.2.ne3; intro e; injection e; omega)), hf6, Dm.write_ok HD.out.1.ok HD.out.2.2.2 HBL.out.1 HBL.out.2⟩
  have ho6 : Only [mb] w w6 := (Only.of_below HE.out.2.1).trans (Only.of_grown (a := w5) ⟨hg6.os, hg6.tape, hg6.output, hg6.size, hg6.block⟩ (by simp))
  have HF := Lib.hid (And.intro hd6 ho6)
  clear hf6 hg6 hs6 hd6 ho6 c15 c15'
  go_wp2
  go_ret
  exact ⟨rfl, HF.out⟩
theorem write_any {p bb mb n k : Nat} {a : Dm.A} {b : List Int} {w : World} (h : Dk w p bb mb a n) (hd : a.down = false) (hk : k < n) (hb64 : b.length = 64) (hB : Byt b) :
    Calls Try.prog 21 #[.pointer (some ⟨p, 0, none⟩), .int .i64 (k : Int), .agg (nums b).toArray] w fun e w' => e = .returned (.int .i64 0) ∧ Dk w' p bb mb (Dm.write a k b) n ∧ Only [mb] w w' := by
  cases hl : Dm.look a.fresh k with
  | none => exact write_no h hd hk hl hb64 hB
  | some b0 => exact write_yes h hd hk hl hb64 hB
theorem write_err {p bb mb n : Nat} {a : Dm.A} {z : Int} {b : List Int} {w : World} (h : Dk w p bb mb a n) (hb : bad a n z ≠ 0) :
    Calls Try.prog 21 #[.pointer (some ⟨p, 0, none⟩), .int .i64 z, .agg (nums b).toArray] w fun e w' => e = .returned (.int .i64 (bad a n z)) ∧ Below w.heap.size w w' :=
  write_bad (fun w' hw => find_bad (h.old hw) hb) hb
theorem write_nil {z : Int} {b : List Int} {w : World} : Calls Try.prog 21 #[.pointer none, .int .i64 z, .agg (nums b).toArray] w fun e w' => e = .returned (.int .i64 1) ∧ Below w.heap.size w w' :=
  write_bad (fun w' hw => find_nil) (by omega)
end Go.Proofs.Ytfecobkpdmjaeaa
