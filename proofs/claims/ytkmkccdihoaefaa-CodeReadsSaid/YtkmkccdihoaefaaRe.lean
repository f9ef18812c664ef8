/-
  The walks of package code's Reader: Hash.
-/
import Derived.Test.YtkmkccdihoaefaaRd
import Derived.Laws.CopyRow
import Derived.Laws.Tables
import Derived.Deep.RegionHeld3
import Derived.RegionDies
namespace Go.Proofs.Ytkmkccdihoaefaa
open Go.RowKit

def zero32 : List Int := List.replicate 32 0
theorem info32 : (Try.prog.info? 26).map (·.size) = some 32 := by kernel_rfl
theorem und32 : Try.prog.underlying 26 = some (.array 32 5) := by kernel_rfl
theorem infou8 : (Try.prog.info? 5).map (·.size) = some 1 := by kernel_rfl
theorem Whole.row {w : World} {b : Nat} {t : TypeId} {old : Array Value} (h : Whole w b t old) (cs : Array Value) : Whole (w.setRow b cs) b t cs := setRow_heap w b old cs t (0, 0) h
theorem Whole.rowFar {w : World} {b g : Nat} {t : TypeId} {old : Array Value} (h : Whole w b t old) (hg : b ≠ g) (cs : Array Value) : Whole (w.setRow g cs) b t old := (setRow_other w g b cs hg).trans h
theorem below_row {B g : Nat} {a w : World} (h : Below B a w) (hg : B ≤ g) (cs : Array Value) : Below B a (w.setRow g cs) :=
  h.trans ⟨rfl, rfl, rfl, by simp [World.setRow], fun k hk => setRow_other w g k cs (by omega)⟩
theorem load32 {w : World} {b : Nat} {t : TypeId} {cs : Array Value} (h : Whole w b t cs) (hs : cs.size = 32) : (Instr.loadAt 26 (.pointer (some ⟨b, 0, none⟩))).run Try.prog w = .ok (.agg cs) w := by
  simp only [Instr.loadAt, Instr.sureAddr, Sem.run_bind, Sem.run_pure, Result.andThen]
  exact run_loadVar_row w b t _ cs (0, 0) _ h und32 rfl (by rw [hs]; exact info32)
theorem loadVar32 {w : World} {b : Nat} {t : TypeId} {cs : Array Value} (h : Whole w b t cs) (hs : cs.size = 32) : (loadVar 26 ⟨b, 0, none⟩).run Try.prog w = .ok (.agg cs) w :=
  run_loadVar_row w b t _ cs (0, 0) _ h und32 rfl (by rw [hs]; exact info32)
theorem store32 {w : World} {b : Nat} {t : TypeId} {old cs : Array Value} (h : Whole w b t old) (ho : old.size = 32) (hs : cs.size = 32) (h1 : cs.all (·.oneCell') = true) :
    (Instr.storeAt 26 (.pointer (some ⟨b, 0, none⟩)) (.agg cs)).run Try.prog w = .ok () (w.setRow b cs) := by
  simp only [Instr.storeAt, Instr.sureAddr, Sem.run_bind, Sem.run_pure, Result.andThen]
  exact run_storeVar_row w b t _ old cs h (by rw [hs]; exact info32) (by omega) h1
theorem all_nums (l : List Int) : (nums l).toArray.all (·.oneCell') = true := Array.all_eq_true_iff_forall_mem.2 (fun v hv => nums_one l v (by simpa using hv))

/-- copy of 32 bytes over a whole array, as one step of a region that draws. -/
theorem step_copy32 {w : World} {ops : Array Oper} {o : Oper} {a : Act} {K : Act → World → Prop} {Q : Exit → Act → World → Prop} {E : Prop} (hgd : o.guard = none) (d s : Operand)
    (ho : o.op = .call { callee := .builtin .copy, args := #[d, s], argTypes := #[25, 25] }) (g dCap : Nat) (A : Option Addr) (c : Nat) (S : Nat → Prop) (l : List Int)
    (hd : a.eval d = .slice (some ⟨g, 0, none⟩) 32 dCap) (hs : a.eval s = .slice A 32 c) (hr : Txt w S A 32 c l) (t : TypeId) (cur : Array Value) (hg : Whole w g t cur) (hcur : cur.size = 32)
    (h : K (a.put o.dst (goInt 32)) (w.setRow g (nums l).toArray)) :
    if Region.wanted o (yielded ops a.tmps) = true then Oper.wp Try.prog o a w K Q else E := by
  have hw : Region.wanted o (yielded ops a.tmps) = true := by simp [Region.wanted, hgd]
  rw [if_pos hw]
  have hl : l.length = 32 := hr.1
  obtain ⟨b, off, rfl, _⟩ := hr.cell (k := 0) (by omega)
  have hrun := run_copy_row (P := Try.prog) w 25 25 o.type 5 g 0 32 dCap ⟨b, off, none⟩ 32 c cur t (nums l) Try.underlying25 infou8 hg (by rw [nums_len, hl]; rfl)
    (fun j v hv => by
      have hj : j < l.length := by
        have := (List.getElem?_eq_some_iff.1 hv).1
        rwa [nums_len] at this
      obtain ⟨b', off', he, _, _, hc⟩ := hr.cell (k := j) (by omega)
      injection he with he
      rw [he, Addr.add_lit, hc, ← nums_get l j hj, hv]) (by rw [nums_len]; omega) (nums_one l)
  rw [nums_len, hl, Nat.zero_add, List.take_zero, List.nil_append, List.drop_eq_nil_of_le (by simp; omega), List.append_nil] at hrun
  unfold Oper.wp
  simp [execOp, ho, resolve, invoke, builtin, hd, hs, hrun, Result.andThen]
  exact h

/-- As Rd; the rest lies below block C. -/
def RdB (w : World) (C g : Nat) (l : List Int) (gave : Bool) : Prop := ∃ a n c, Whole w g 69 #[.slice a n c, .bool gave] ∧ Txt w (fun b => b < g ∧ b < C) a n c l
theorem RdB.rd {w : World} {C g : Nat} {l : List Int} {gave : Bool} (h : RdB w C g l gave) : Rd w g l gave := by
  obtain ⟨a, n, c, hw, ht⟩ := h
  exact ⟨a, n, c, hw, ht.weak (fun _ _ h => h.1)⟩
theorem Rd.rdb {w : World} {g : Nat} {l : List Int} {gave : Bool} (h : Rd w g l gave) : RdB w w.heap.size g l gave := by
  obtain ⟨a, n, c, hw, ht⟩ := h
  exact ⟨a, n, c, hw, ht.weak (fun _ hb h => ⟨h, hb⟩)⟩
theorem RdB.below {w w' : World} {C B g : Nat} {l : List Int} {gave : Bool} (h : RdB w C g l gave) (hb : Below B w w') (hC : C ≤ B) (hg : g < B) : RdB w' C g l gave := by
  obtain ⟨a, n, c, hw, ht⟩ := h
  exact ⟨a, n, c, hw.below hb hg, ht.below hb (fun b _ h => by have := h.2; omega)⟩
/-- 32 bytes were read, or given up. -/
def Hsd (w : World) (C g : Nat) (gave : Bool) (l : List Int) (e : Ending) (w' : World) : Prop :=
  (32 ≤ l.length ∧ e = .returned (.agg (nums (l.take 32)).toArray) ∧ RdB w' C g (l.drop 32) gave ∧ w.grownBy w' (some g)) ∨
  (l.length < 32 ∧ e = .panicked lost ∧ (∃ r, Rd w' g r gave) ∧ w.grownBy w' (some g))

theorem results_one_cell {fn : Func} {p : Tmp} {ty : TypeId} (h : fn.results = #[.cell p ty]) (tmps : Array Value) (P : Program) (w : World) (a : Addr) {v : Value} (ht : tmps.getD p undef = .pointer (some a)) (hv : (loadVar ty a).run P w = .ok v w) :
    (results fn tmps).run P w = .ok v w := by
  simp only [results, h]
  simp only [Array.getD_eq_getD_getElem?] at ht
  simp [ht, hv, asAddr]
set_option maxHeartbeats 1000000 in
theorem hashf_ok {w : World} {C g : Nat} {l : List Int} {gave : Bool} (p : Nat) (h : RdB w C g l gave) (hC : C ≤ w.heap.size) (hl : 32 ≤ l.length) (hpg : p ≠ g)
    (h0 : w.cell? ⟨p, 0, none⟩ = some (.pointer (some ⟨g, 0, none⟩))) :
    Calls Try.prog 46 #[.pointer (some ⟨p, 0, none⟩)] w (Hsd w C g gave l) := by
  have hp := World.block_lt_of_cell? w _ h0
  obtain ⟨a, n, c, hw, ht⟩ := h
  have hgl := hw.lt
  have HW := Lib.hid hw
  have HT := Lib.hid ht
  have H0 := Lib.hid h0
  clear hw ht h0
  go_enter Try.func46, Try.ntmps46
  go_wp2
  generalize hz : #[Value.int IntKind.u8 0, Value.int IntKind.u8 0, Value.int IntKind.u8 0, Value.int IntKind.u8 0, Value.int IntKind.u8 0, Value.int IntKind.u8 0, Value.int IntKind.u8 0, Value.int IntKind.u8 0, Value.int IntKind.u8 0, Value.int IntKind.u8 0, Value.int IntKind.u8 0, Value.int IntKind.u8 0, Value.int IntKind.u8 0, Value.int IntKind.u8 0, Value.int IntKind.u8 0, Value.int IntKind.u8 0, Value.int IntKind.u8 0, Value.int IntKind.u8 0, Value.int IntKind.u8 0, Value.int IntKind.u8 0, Value.int IntKind.u8 0, Value.int IntKind.u8 0, Value.int IntKind.u8 0, Value.int IntKind.u8 0, Value.int IntKind.u8 0, Value.int IntKind.u8 0, Value.int IntKind.u8 0, Value.int IntKind.u8 0, Value.int IntKind.u8 0, Value.int IntKind.u8 0, Value.int IntKind.u8 0, Value.int IntKind.u8 0] = z
  have hzs : z.size = 32 := by rw [← hz]; rfl
  clear hz
  have hb2 : Below w.heap.size w ((w.alloc (.cells z 26)).alloc (.cells z 26)) := (below_alloc w _).alloc (by simp) _
  have k1 := (Whole.new w 26 z).alloc (.cells z 26)
  have k2 := Whole.new (w.alloc (.cells z 26)) 26 z
  rw [size_alloc] at k2
  have hw2 := HW.out.below hb2 hgl
  have ht2 := HT.out.below hb2 (fun b _ h => by have := h.2; omega)
  have h02 := (hb2.cell (p := ⟨p, 0, none⟩) hp).trans H0.out
  generalize (w.alloc (.cells z 26)).alloc (.cells z 26) = w2 at *
  have HB2 := Lib.hid hb2
  have K1 := Lib.hid k1
  have K2 := Lib.hid k2
  have HW2 := Lib.hid hw2
  have HT2 := Lib.hid ht2
  clear hb2 k1 k2 hw2 ht2 HW HT H0
  obtain ⟨B, hB⟩ : ∃ B, w.heap.size = B := ⟨_, rfl⟩
  have HBB := Lib.hid hB
  rw [hB] at hp hgl hC HB2 K1 K2
  rw [hB]
  clear hB
  go_region_held3 (fun w' => w'.cell? ⟨p, 0, none⟩ = some (.pointer (some ⟨g, 0, none⟩)))
    (first
      | go_keep
      | exact h03
      | exact h04)
    (first
      | (go_at_call 42
         refine (take_okS (S := fun b => b < g ∧ b < C) 32 (fun _ h => Nat.ne_of_lt h.1) (by exact HW2.out) (by exact HT2.out) hl).mono ?_
         rintro e w3 ⟨a3, c3, a4, n4, c4, rfl, htx, hwh, htr, hgr⟩
         have HTX := Lib.hid htx
         have HWH := Lib.hid hwh
         have HTR := Lib.hid htr
         have HGR := Lib.hid hgr
         have h03 : w3.cell? ⟨p, 0, none⟩ = some (.pointer (some ⟨g, 0, none⟩)) := HGR.out.cell h02 (by simpa using hpg)
         have K23 := Lib.hid (Whole.grown (by exact K2.out) HGR.out (by simp; omega))
         clear htx hwh htr hgr)
      | (refine step_copy32 (by rfl) _ _ (by rfl) (B + 1) _ a3 c3 (fun b => b < g ∧ b < C) (l.take 32) (by rfl) (by rfl) (by exact HTX.out) 26 z (by exact K23.out) hzs ?_
         have h04 : (w3.setRow (B + 1) (nums (l.take 32)).toArray).cell? ⟨p, 0, none⟩ = some (.pointer (some ⟨g, 0, none⟩)) := (cell_setRow_other w3 _ _ _ (by show p ≠ B + 1; omega)).trans h03))
  have hNs : (nums (l.take 32)).toArray.size = 32 := by simp [nums]; omega
  have hNa := all_nums (l.take 32)
  have K4 := Lib.hid (Whole.row K23.out (nums (l.take 32)).toArray)
  have K14 : Hid (Whole (w3.setRow (B + 1) (nums (l.take 32)).toArray) B 26 z) := Lib.hid ((Whole.grown (by exact K1.out) HGR.out (by simp; omega)).rowFar (by omega) _)
  have HW4 : Hid (Whole (w3.setRow (B + 1) (nums (l.take 32)).toArray) g 69 #[.slice a4 n4 c4, .bool gave]) := Lib.hid (HWH.out.rowFar (by omega) _)
  have HB3 : Hid (Below B w3 (w3.setRow (B + 1) (nums (l.take 32)).toArray)) := Lib.hid (below_row (Below.refl _ _) (by omega) _)
  have HT4 := Lib.hid (HTR.out.below HB3.out (fun b _ h => by have := h.2; omega))
  clear h04 h03 h02
  generalize hN : (nums (l.take 32)).toArray = N at *
  have HN := Lib.hid hN
  clear hN
  have KR := Lib.hid (Whole.row K14.out N)
  have HW5 := Lib.hid (HW4.out.rowFar (g := B) (by omega) N)
  have HB4 := Lib.hid (below_row HB3.out (Nat.le_refl B) N)
  have HT5 := Lib.hid (HT4.out.below (below_row (B := B) (Below.refl _ _) (Nat.le_refl B) N) (fun b _ h => by have := h.2; omega))
  generalize w3.setRow (B + 1) N = w4 at *
  go_wp2_with (first
    | ((with_reducible show wpList _ _ _ ((⟨_, Op.load 26 _, _, _, _, _⟩ : Oper) :: _) _ _); refine wpList_load_row rfl _ (.tmp 2) rfl (B + 1) rfl 26 N (0, 0) _ K4.out und32 rfl (by rw [hNs]; exact info32) ?_)
    | ((with_reducible show wpList _ _ _ ((⟨_, Op.store 26 _ _, _, _, _, _⟩ : Oper) :: _) _ _); refine wpList_store_row rfl _ (.tmp 1) (.tmp 7) rfl B N rfl rfl 26 z K14.out (by rw [hNs]; exact info32) (by omega) hNa ?_))
  refine bodyPost_ret (results_one_cell rfl _ _ _ _ rfl (loadVar32 KR.out hNs)) rfl ?_
  · refine Or.inl ⟨hl, by rw [HN.out], ⟨a4, n4, c4, HW5.out, HT5.out⟩, ?_⟩
    have hg := grown_of (by rw [HBB.out]; exact HB2.out.drew) HGR.out
    exact ⟨HB4.out.os.trans hg.os, HB4.out.tape.trans hg.tape, HB4.out.output.trans hg.output, Nat.le_trans hg.size HB4.out.size, fun k hk hne => (HB4.out.block k (by have := HBB.out; omega)).trans (hg.block k hk hne)⟩

set_option maxHeartbeats 1000000 in
theorem hashf_no {w : World} {C g : Nat} {l : List Int} {gave : Bool} (p : Nat) (h : Rd w g l gave) (hl : l.length < 32)
    (h0 : w.cell? ⟨p, 0, none⟩ = some (.pointer (some ⟨g, 0, none⟩))) :
    Calls Try.prog 46 #[.pointer (some ⟨p, 0, none⟩)] w (Hsd w C g gave l) := by
  have hp := World.block_lt_of_cell? w _ h0
  have H := Lib.hid h
  have H0 := Lib.hid h0
  clear h h0
  go_enter Try.func46, Try.ntmps46
  go_wp2
  generalize hz : #[Value.int IntKind.u8 0, Value.int IntKind.u8 0, Value.int IntKind.u8 0, Value.int IntKind.u8 0, Value.int IntKind.u8 0, Value.int IntKind.u8 0, Value.int IntKind.u8 0, Value.int IntKind.u8 0, Value.int IntKind.u8 0, Value.int IntKind.u8 0, Value.int IntKind.u8 0, Value.int IntKind.u8 0, Value.int IntKind.u8 0, Value.int IntKind.u8 0, Value.int IntKind.u8 0, Value.int IntKind.u8 0, Value.int IntKind.u8 0, Value.int IntKind.u8 0, Value.int IntKind.u8 0, Value.int IntKind.u8 0, Value.int IntKind.u8 0, Value.int IntKind.u8 0, Value.int IntKind.u8 0, Value.int IntKind.u8 0, Value.int IntKind.u8 0, Value.int IntKind.u8 0, Value.int IntKind.u8 0, Value.int IntKind.u8 0, Value.int IntKind.u8 0, Value.int IntKind.u8 0, Value.int IntKind.u8 0, Value.int IntKind.u8 0] = z
  clear hz
  have hb2 : Below w.heap.size w ((w.alloc (.cells z 26)).alloc (.cells z 26)) := (below_alloc w _).alloc (by simp) _
  have h2 := H.out.below hb2
  have h02 := (hb2.cell (p := ⟨p, 0, none⟩) hp).trans H0.out
  generalize (w.alloc (.cells z 26)).alloc (.cells z 26) = w2 at *
  have HB2 := Lib.hid hb2
  have HR := Lib.hid h2
  clear hb2 h2
  go_region_dies
  refine (take_no (w := w2.drew) 32 (by exact HR.out) (by omega)).mono ?_
  rintro e w3 ⟨rfl, rfl⟩
  exact ⟨rfl, Or.inr ⟨hl, rfl, ⟨_, by exact HR.out⟩, grown_of HB2.out ⟨rfl, rfl, rfl, Nat.le_refl _, fun _ _ _ => rfl⟩⟩⟩
theorem hashf_any {w : World} {C g : Nat} {l : List Int} {gave : Bool} (p : Nat) (h : RdB w C g l gave) (hC : C ≤ w.heap.size) (hpg : p ≠ g) (h0 : w.cell? ⟨p, 0, none⟩ = some (.pointer (some ⟨g, 0, none⟩))) :
    Calls Try.prog 46 #[.pointer (some ⟨p, 0, none⟩)] w (Hsd w C g gave l) := by
  by_cases hl : 32 ≤ l.length
  · exact hashf_ok p h hC hl hpg h0
  · exact hashf_no p h.rd (by omega) h0

/-- 32 bytes were read, or the reader gave up. -/
def ReadH (w : World) (C g : Nat) (gave : Bool) (l : List Int) (e : Ending) (w' : World) : Prop :=
  (32 ≤ l.length ∧ e = .returned (.agg (nums (l.take 32)).toArray) ∧ RdB w' C g (l.drop 32) gave ∧ w.grownBy w' (some g)) ∨
  (l.length < 32 ∧ e = .returned (.agg (nums zero32).toArray) ∧ RdB w' C g [] true ∧ w.grownBy w' (some g))
theorem Rd.lostB {w : World} {g : Nat} {l : List Int} {gave : Bool} (C : Nat) (h : Rd w g l gave) : RdB ((w.setCell ⟨g, 0, none⟩ (.slice none 0 0)).setCell ⟨g, 1, none⟩ (.bool true)) C g [] true := by
  obtain ⟨a, n, c, hw, ht⟩ := h
  exact ⟨none, 0, 0, (hw.set 0 _).set 1 _, Txt.nil _ _ _ _⟩
theorem RdB.lt {w : World} {C g : Nat} {l : List Int} {gave : Bool} (h : RdB w C g l gave) : g < w.heap.size := h.rd.lt
theorem zero_size : (nums zero32).toArray.size = 32 := by simp [nums, zero32]
theorem take_size {l : List Int} (h : 32 ≤ l.length) : (nums (l.take 32)).toArray.size = 32 := by simp [nums]; omega

set_option maxHeartbeats 1000000 in
theorem askH {w : World} {C g : Nat} {l : List Int} {gave : Bool} (p : Nat) (h : RdB w C g l gave) (hC : C ≤ w.heap.size) (hpg : p ≠ g) (h0 : w.cell? ⟨p, 0, none⟩ = some (.pointer (some ⟨g, 0, none⟩))) :
    Calls Try.prog 45 #[.pointer (some ⟨g, 0, none⟩), .func (.func 46) #[] #[.pointer (some ⟨p, 0, none⟩)]] w (ReadH w C g gave l) := by
  have hmf : ∀ (fn : Fn) (first cap : Array Value) (w : World), (Instr.makeFunc fn first cap).run Try.prog w = .ok (.func fn first cap) w := fun _ _ _ _ => rfl
  have hp := World.block_lt_of_cell? w _ h0
  have hgl := h.lt
  have H := Lib.hid h
  have H0 := Lib.hid h0
  clear h h0
  go_enter_defers Try.func45, Try.ntmps45
  go_wp2_with fail
  generalize hz : #[Value.int IntKind.u8 0, Value.int IntKind.u8 0, Value.int IntKind.u8 0, Value.int IntKind.u8 0, Value.int IntKind.u8 0, Value.int IntKind.u8 0, Value.int IntKind.u8 0, Value.int IntKind.u8 0, Value.int IntKind.u8 0, Value.int IntKind.u8 0, Value.int IntKind.u8 0, Value.int IntKind.u8 0, Value.int IntKind.u8 0, Value.int IntKind.u8 0, Value.int IntKind.u8 0, Value.int IntKind.u8 0, Value.int IntKind.u8 0, Value.int IntKind.u8 0, Value.int IntKind.u8 0, Value.int IntKind.u8 0, Value.int IntKind.u8 0, Value.int IntKind.u8 0, Value.int IntKind.u8 0, Value.int IntKind.u8 0, Value.int IntKind.u8 0, Value.int IntKind.u8 0, Value.int IntKind.u8 0, Value.int IntKind.u8 0, Value.int IntKind.u8 0, Value.int IntKind.u8 0, Value.int IntKind.u8 0, Value.int IntKind.u8 0] = z at *
  have hzz : z = (nums zero32).toArray := by rw [← hz]; rfl
  have hzs : z.size = 32 := by rw [hzz]; exact zero_size
  have HZZ := Lib.hid hzz
  clear hz hzz
  have hb2 : Below w.heap.size w ((w.alloc (.cells #[.pointer (some ⟨g, 0, none⟩)] 47)).alloc (.cells z 26)) := (below_alloc w _).alloc (by simp) _
  have k1 := (Whole.new w 47 #[.pointer (some ⟨g, 0, none⟩)]).alloc (.cells z 26)
  have k2 := Whole.new (w.alloc (.cells #[.pointer (some ⟨g, 0, none⟩)] 47)) 26 z
  rw [size_alloc] at k2
  have h2 := H.out.below hb2 hC hgl
  have h02 := (hb2.cell (p := ⟨p, 0, none⟩) hp).trans H0.out
  generalize (w.alloc (.cells #[.pointer (some ⟨g, 0, none⟩)] 47)).alloc (.cells z 26) = w2 at *
  have HB2 := Lib.hid hb2
  have K1 := Lib.hid k1
  have K2 := Lib.hid k2
  have HR := Lib.hid h2
  have H02 := Lib.hid h02
  clear hb2 k1 k2 h2 h02 H H0
  refine (hashf_any p HR.out (Nat.le_trans hC HB2.out.size) hpg H02.out).mono ?_
  rintro e w1 (⟨hl, rfl, hrd, hgr⟩ | ⟨hl, rfl, hrd, hgr⟩)
  · have K21 := Lib.hid (K2.out.grown hgr (by simp; omega))
    have K11 := Lib.hid (K1.out.grown hgr (by simp; omega))
    have HR1 := Lib.hid hrd
    have HG1 := Lib.hid (grown_of HB2.out hgr)
    have hNs := take_size hl
    have hNa := all_nums (l.take 32)
    clear hrd hgr
    generalize hN : (nums (l.take 32)).toArray = N at *
    have HN := Lib.hid hN
    clear hN
    go_wp2_with ((with_reducible show wpList _ _ _ ((⟨_, Op.store 26 _ _, _, _, _, _⟩ : Oper) :: _) _ _); refine wpList_store_row rfl _ (.tmp 4) (.tmp 10) rfl (w.heap.size + 1) N rfl rfl 26 z K21.out (by rw [hNs]; exact info32) (by omega) hNa ?_)
    have KR := Lib.hid (Whole.row K21.out N)
    have HB3 : Hid (Below (w.heap.size + 1) w1 (w1.setRow (w.heap.size + 1) N)) := Lib.hid (below_row (Below.refl _ _) (Nat.le_refl _) N)
    have HRL := Lib.hid (HR1.out.below HB3.out (by omega) (by omega))
    refine leaves_cons (f := 51) (args := #[.pointer (some ⟨w.heap.size, 0, none⟩)]) (by simp) (by simp [go_sem]) ?_
    refine (idleH w.heap.size _).mono ?_
    rintro e u' w'' ⟨rfl, rfl, rfl⟩
    refine ⟨.agg N, results_one_cell rfl _ _ _ _ rfl (loadVar32 KR.out hNs), Or.inl ⟨hl, by rw [HN.out], HRL.out, ?_⟩⟩
    exact ⟨HB3.out.os.trans HG1.out.os, HB3.out.tape.trans HG1.out.tape, HB3.out.output.trans HG1.out.output, Nat.le_trans HG1.out.size HB3.out.size, fun k hk hne => (HB3.out.block k (by omega)).trans (HG1.out.block k hk hne)⟩
  · obtain ⟨r', hrd⟩ := hrd
    have K21 := Lib.hid (K2.out.grown hgr (by simp; omega))
    have hbox := K1.out.grown hgr (by simp; omega)
    have HG1 := Lib.hid (grown_of HB2.out hgr)
    obtain ⟨a', n', c', hwh, htx⟩ := id hrd
    refine leaves_cons (f := 51) (args := #[.pointer (some ⟨w.heap.size, 0, none⟩)]) (by simp) (by simp [go_sem]) ?_
    refine (caughtH w.heap.size g a' n' c' gave [] (.int .i64 20) w1 (hbox.cell 0) hwh).mono ?_
    rintro e u' w'' ⟨rfl, rfl, rfl⟩
    have KR := (K21.out.far (p := ⟨g, 0, none⟩) (by show w.heap.size + 1 ≠ g; omega) (.slice none 0 0)).far (p := ⟨g, 1, none⟩) (by show w.heap.size + 1 ≠ g; omega) (.bool true)
    exact ⟨.agg z, results_one_cell rfl _ _ _ _ rfl (loadVar32 KR hzs), Or.inr ⟨hl, by rw [HZZ.out], hrd.lostB C, grown_lost HG1.out _ _⟩⟩
end Go.Proofs.Ytkmkccdihoaefaa
