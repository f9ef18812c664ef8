/-
  Facts in memory; the walks of isEmpty and few, and the document's none.
-/
import Derived.Test.YtdfmfjahnnifnaaIb
import Derived.Test.YtdfmfjahnnifnaaIc
namespace Go.Proofs.Ytdfmfjahnnifnaa
set_option maxRecDepth 20000
set_option linter.unusedSimpArgs false
set_option linter.unusedVariables false
open Go.RowKit
/-- The 38 cells of a fact. -/
def fcs (k e n : Int) (M : List Value) : List Value := .int .i64 k :: .int .i64 e :: .int .i64 n :: M
/-- The value v is the fact f; its digests lie in blocks of S. -/
def Fv (w : World) (S : Nat → Prop) (v : Value) (f : Ft.Fact) : Prop :=
  ∃ M, v = .agg (fcs f.kind f.epoch f.node M).toArray ∧ Mv w S (.agg M.toArray) f.man ∧ In64 f.kind ∧ In64 f.epoch ∧ In64 f.node
section
variable {w w' : World} {S S' : Nat → Prop} {v : Value} {f : Ft.Fact}
theorem Fv.keep (h : Fv w S v f) (hz : w.heap.size ≤ w'.heap.size) (hk : ∀ b, b < w.heap.size → S b → w'.heap[b]? = w.heap[b]?) : Fv w' S v f := by
  obtain ⟨M, e, h1, h2⟩ := h
  exact ⟨M, e, h1.keep hz hk, h2⟩
theorem Fv.weak (h : Fv w S v f) (hs : ∀ b, b < w.heap.size → S b → S' b) : Fv w S' v f := by
  obtain ⟨M, e, h1, h2⟩ := h
  exact ⟨M, e, h1.weak hs, h2⟩
theorem Fv.old (h : Fv w S v f) : Fv w (fun b => b < w.heap.size) v f := h.weak fun _ hb _ => hb
theorem Fv.below {B : Nat} (h : Fv w S v f) (hb : Below B w w') (hs : ∀ b, b < w.heap.size → S b → b < B) : Fv w' S v f :=
  h.keep hb.size fun b hlt hS => hb.block b (hs b hlt hS)
theorem Fv.wf (h : Fv w S v f) : f.wf := by
  obtain ⟨M, e, ⟨a, n, c, e1, h1, h2, h3, _⟩, _⟩ := h
  exact ⟨h2.2.1, h3⟩
end
theorem info38 : (Try.prog.info? 30).map (·.size) = some 38 := by kernel_rfl
/-- The block A holds the fact f; its cells are P, its manifest's M. -/
structure FB (w : World) (A : Nat) (P : Array Value) (M : List Value) (f : Ft.Fact) : Prop where
  whole : Whole w A 30 P
  eq : P = (fcs f.kind f.epoch f.node M).toArray
  mv : Mv w (fun b => b < w.heap.size) (.agg M.toArray) f.man
  len : M.length = 35
  ins : In64 f.kind ∧ In64 f.epoch ∧ In64 f.node
section
variable {w w' : World} {A : Nat} {P : Array Value} {M : List Value} {f : Ft.Fact}
theorem FB.below (h : FB w A P M f) (hb : Below w.heap.size w w') : FB w' A P M f :=
  ⟨h.whole.below hb h.whole.lt, h.eq, (h.mv.below hb (fun _ _ h => h)).old, h.len, h.ins⟩
theorem FB.alloc (h : FB w A P M f) (o : Obj) : FB (w.alloc o) A P M f := h.below (below_alloc w o)
theorem FB.lt (h : FB w A P M f) : A < w.heap.size := h.whole.lt
theorem FB.c0 (h : FB w A P M f) : w.cell? ⟨A, 0, none⟩ = some (.int .i64 f.kind) := by rw [h.whole.cell, h.eq]; rfl
theorem FB.c1 (h : FB w A P M f) : w.cell? ⟨A, 1, none⟩ = some (.int .i64 f.epoch) := by rw [h.whole.cell, h.eq]; rfl
theorem FB.c2 (h : FB w A P M f) : w.cell? ⟨A, 2, none⟩ = some (.int .i64 f.node) := by rw [h.whole.cell, h.eq]; rfl
theorem FB.tail (h : FB w A P M f) : w.rangeAt A 3 M := fun j v hv => by
  rw [h.whole.cell, h.eq, List.getElem?_toArray, Nat.add_comm]
  exact hv
theorem FB.c5 (h : FB w A P M f) : ∃ a n c, w.cell? ⟨A, 5, none⟩ = some (.slice a n c) ∧ f.man.ds.length = n := by
  obtain ⟨a, n, c, e, h1, h2, _⟩ := h.mv
  refine ⟨a, n, c, ?_, h2.1⟩
  injection e with e
  have e := congrArg Array.toList e
  simp only at e
  rw [h.whole.cell, h.eq, e]
  rfl
theorem FB.size (h : FB w A P M f) : P.size = 38 := by rw [h.eq]; simp [fcs, h.len]
theorem FB.info (h : FB w A P M f) : (Try.prog.info? 30).map (·.size) = some P.size := by rw [h.size]; exact info38
theorem FB.infoM (h : FB w A P M f) : (Try.prog.info? 28).map (·.size) = some M.length := by rw [h.len]; exact info35
theorem FB.val (h : FB w A P M f) : Fv w (fun b => b < w.heap.size) (.agg P) f := ⟨M, by rw [h.eq], h.mv, h.ins⟩
theorem FB.one (h : FB w A P M f) : P.all (·.oneCell') = true := by
  obtain ⟨a, n, c, e, _⟩ := h.mv
  injection e with e
  have e := congrArg Array.toList e
  simp only at e
  rw [h.eq]
  refine all_oneCell_toArray ?_
  intro u hu
  simp only [fcs, List.mem_cons] at hu
  rcases hu with rfl | rfl | rfl | hu
  · rfl
  · rfl
  · rfl
  · rw [e, mcs] at hu
    simp only [List.mem_cons] at hu
    rcases hu with rfl | rfl | rfl | hu
    · rfl
    · rfl
    · rfl
    · exact nums_one _ u hu
end
theorem fv_agg {w : World} {S : Nat → Prop} {v : Value} {f : Ft.Fact} (h : Fv w S v f) : ∃ P M, v = .agg P ∧ P = (fcs f.kind f.epoch f.node M).toArray ∧ Mv w S (.agg M.toArray) f.man ∧ M.length = 35 ∧ In64 f.kind ∧ In64 f.epoch ∧ In64 f.node := by
  obtain ⟨M, rfl, h1, h2⟩ := h
  obtain ⟨P', e, hs, _⟩ := mv_agg h1
  injection e with e
  exact ⟨_, M, rfl, rfl, h1, by rw [← hs, ← e]; simp, h2⟩
/-- A fact that is boxed. -/
theorem fv_box {w : World} {S : Nat → Prop} {v : Value} {f : Ft.Fact} (h : Fv w S v f) : ∃ P M, v = .agg P ∧ FB (w.alloc (.cells P 30)) w.heap.size P M f := by
  obtain ⟨P, M, rfl, h1, h2, h3, h4⟩ := fv_agg h
  exact ⟨P, M, rfl, Whole.new _ _ _, h1, (h2.old.below (below_alloc _ _) (fun _ _ h => h)).old, h3, h4⟩
/-- A fact that is laid into a variable of its own. -/
theorem fb_put {w : World} {S : Nat → Prop} {P : Array Value} {M : List Value} {f : Ft.Fact} (h1 : P = (fcs f.kind f.epoch f.node M).toArray) (h2 : Mv w S (.agg M.toArray) f.man) (h3 : M.length = 35) (h4 : In64 f.kind ∧ In64 f.epoch ∧ In64 f.node) (z : Array Value) :
    FB ((w.alloc (.cells z 30)).setRow w.heap.size P) w.heap.size P M f :=
  ⟨put_row, h1, (h2.old.below (put_below (Below.refl _ _) (Nat.le_refl _)) (fun _ _ h => h)).old, h3, h4⟩
set_option maxHeartbeats 2000000 in
theorem isEmpty_any {w : World} {S : Nat → Prop} {v : Value} {m : Mf.Man} (h : Mv w S v m) :
    Calls Try.prog 67 #[v] w fun e w' => e = .returned (.bool (decide (Ft.emp m))) ∧ Below w.heap.size w w' := by
  obtain ⟨sz, ch, ds, wh⟩ := m
  obtain ⟨a, n, c, rfl, hnc, hd, hw, hs, hc⟩ := h
  dsimp only at hd hw hs hc ⊢
  have HLN := Lib.hid hd.1
  have c0 : (mcs sz ch (.slice a n c) wh).toArray[0]? = some (.int .i64 sz) := rfl
  have c1 : (mcs sz ch (.slice a n c) wh).toArray[1]? = some (.int .i64 ch) := rfl
  have c2 : (mcs sz ch (.slice a n c) wh).toArray[2]? = some (.slice a n c) := rfl
  have ct := Lib.hid (mcs_tail (s := sz) (c := ch) (x := .slice a n c) (h := wh))
  have hi32 : (Try.prog.info? 26).map (·.size) = some (nums wh).length := by rw [nums_len, hw.1]; exact info32
  have HQ0 : ∀ w : World, (Op.equalIn 10000 26 (.agg (nums wh).toArray) (.agg (nums (zs 32)).toArray)).run Try.prog w = .ok (decide (wh = zs 32)) w := fun w =>
    equal32 9999 (fun a b w => run_equalIn_int w 9998 5 .u8 .u8 a b Try.underlying5) wh (zs 32) hw.1 rfl w
  clear hd hw hs hc hnc
  generalize (mcs sz ch (.slice a n c) wh).toArray = P at *
  have HB := Lib.hid (below_alloc w (.cells P 28))
  have HRG : Hid ((w.alloc (.cells P 28)).rangeAt w.heap.size 3 (nums wh)) := Lib.hid (tail_range (Whole.new _ _ _) ct.out)
  by_cases z0 : sz = 0
  case neg =>
    have d0 : (sz == 0) = false := by simp [z0]
    have HN := Lib.hid (show decide (Ft.emp ⟨sz, ch, ds, wh⟩) = false from decide_eq_false fun e => z0 e.1)
    clear z0 HQ0
    go_enter Try.func67, Try.ntmps67
    go_wp2
    go_ret
    exact ⟨ret_bool HN.out.symm, HB.out⟩
  have d0 : (sz == 0) = true := by simp [z0]
  by_cases z1 : ch = 0
  case neg =>
    have d1 : (ch == 0) = false := by simp [z1]
    have HN := Lib.hid (show decide (Ft.emp ⟨sz, ch, ds, wh⟩) = false from decide_eq_false fun e => z1 e.2.1)
    clear z0 z1 HQ0
    go_enter Try.func67, Try.ntmps67
    go_wp2
    go_ret
    exact ⟨ret_bool HN.out.symm, HB.out⟩
  have d1 : (ch == 0) = true := by simp [z1]
  by_cases z2 : n = 0
  case neg =>
    have d2 : ((n : Int) == 0) = false := by simp [z2]
    have HN := Lib.hid (show decide (Ft.emp ⟨sz, ch, ds, wh⟩) = false from decide_eq_false fun e => z2 (by rw [← HLN.out]; exact e.2.2.1))
    clear z0 z1 z2 HQ0
    go_enter Try.func67, Try.ntmps67
    go_wp2
    go_ret
    exact ⟨ret_bool HN.out.symm, HB.out⟩
  have d2 : ((n : Int) == 0) = true := by simp [z2]
  obtain ⟨r, hr⟩ : ∃ r, decide (wh = zs 32) = r := ⟨_, rfl⟩
  have HQ : ∀ w : World, (Op.equalIn 10000 26 (.agg (nums wh).toArray) (.agg (nums (zs 32)).toArray)).run Try.prog w = .ok r w := fun w => by rw [HQ0, hr]
  have HN := Lib.hid (show decide (Ft.emp ⟨sz, ch, ds, wh⟩) = r by
    rw [← hr]
    have e : Ft.emp ⟨sz, ch, ds, wh⟩ ↔ wh = zs 32 := ⟨fun e => e.2.2.2, fun e => ⟨z0, z1, by show ds.length = 0; rw [HLN.out]; exact z2, e⟩⟩
    simp only [e])
  clear z0 z1 z2 HQ0 hr
  generalize nums wh = nw at *
  have HBZ := Lib.hid built_z32
  generalize nums (zs 32) = nz at *
  go_enter Try.func67, Try.ntmps67
  go_wp2_with (first
    | ((with_reducible show wpList _ _ _ ((⟨_, Op.load 26 (.tmp 18), _, _, _, _⟩ : Oper) :: _) _ _); refine wpList_load_midG (by rfl) _ (.tmp 18) rfl w.heap.size 3 rfl nw _ HRG.out und32 rfl hi32 ?_)
    | ((with_reducible show wpList _ _ _ ((⟨_, Op.build 26 _, _, _, _, _⟩ : Oper) :: _) _ _); refine wpList_builtG (by rfl) _ rfl _ rfl nz HBZ.out ?_))
  go_ret
  exact ⟨ret_bool HN.out.symm, HB.out⟩
set_option maxHeartbeats 1000000 in
theorem rnone_any {w : World} {S : Nat → Prop} {v : Value} {m : Mf.Man} (h : Mv w S v m) :
    Calls Try.prog 63 #[v] w fun e w' => e = .returned (.bool (decide (Ft.emp m))) ∧ Below w.heap.size w w' := by
  have HM := Lib.hid h
  obtain ⟨P, rfl, hsz, hone⟩ := mv_agg h
  clear h
  have HC := Lib.hid (show Mv (w.alloc (.cells P 28)) (fun b => b < w.heap.size) (.agg P) m from HM.out.old.keep (by simp) fun b hb _ => Below.heap_alloc _ _ _ hb)
  go_enter Try.func63, Try.ntmps63
  go_wp2_with (first
    | ((with_reducible show wpList _ _ _ ((⟨_, Op.load 28 _, _, _, _, _⟩ : Oper) :: _) _ _); refine wpList_load_row rfl _ (.tmp 1) rfl w.heap.size rfl 28 P (0, 0) _ (Whole.new w _ _) Try.underlying28 rfl (by rw [hsz]; exact info35) ?_)
    | ((with_reducible show wpList _ _ _ ((⟨_, Op.build 28 _, _, _, _, _⟩ : Oper) :: _) _ _); refine wpList_built rfl _ rfl _ rfl _ built_nil ?_))
  refine (rsame_any HC.out (zm_mv _ (fun _ => True)) (Or.inr (Nat.zero_le _))).mono ?_
  rintro e w2 ⟨b, rfl, hb, hbl⟩
  have HN := Lib.hid (show b = decide (Ft.emp m) by
    cases b with
    | true => exact (decide_eq_true (by rw [hb.1 rfl]; exact Ft.zero_emp)).symm
    | false => exact (decide_eq_false (fun e => by have := hb.2 (Ft.emp_zero e); cases this)).symm)
  have HB := Lib.hid (below_box hbl)
  clear hb hbl
  go_wp2
  go_ret
  exact ⟨ret_bool HN.out, HB.out⟩
theorem few_any {w : World} {S : Nat → Prop} {v : Value} {f : Ft.Fact} (h : Fv w S v f) :
    Calls Try.prog 13 #[v] w fun e w' => e = .returned (.bool (decide (f.man.ds.length ≤ 100))) ∧ Below w.heap.size w w' := by
  obtain ⟨P, M, rfl, hb⟩ := fv_box h
  clear h
  have HB := Lib.hid (below_alloc w (.cells P 30))
  obtain ⟨a, n, c, k5, hn⟩ := hb.c5
  obtain ⟨r, hr⟩ : ∃ r, decide ((n : Int) ≤ 100) = r := ⟨_, rfl⟩
  have HN := Lib.hid (show decide (f.man.ds.length ≤ 100) = r by
    rw [← hr]
    have e : f.man.ds.length ≤ 100 ↔ (n : Int) ≤ 100 := by rw [hn]; omega
    simp only [e])
  clear hn hb
  go_enter Try.func13, Try.ntmps13
  go_wp2
  go_ret
  exact ⟨ret_bool HN.out.symm, HB.out⟩
end Go.Proofs.Ytdfmfjahnnifnaa
