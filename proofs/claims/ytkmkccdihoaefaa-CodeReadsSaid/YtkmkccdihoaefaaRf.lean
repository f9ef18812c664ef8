/-
  The walks of package code's Reader: Hash, of none and of one.
-/
import Derived.Test.YtkmkccdihoaefaaRe
namespace Go.Proofs.Ytkmkccdihoaefaa
open Go.RowKit

theorem zero_lit : #[Value.int IntKind.u8 0, Value.int IntKind.u8 0, Value.int IntKind.u8 0, Value.int IntKind.u8 0, Value.int IntKind.u8 0, Value.int IntKind.u8 0, Value.int IntKind.u8 0, Value.int IntKind.u8 0, Value.int IntKind.u8 0, Value.int IntKind.u8 0, Value.int IntKind.u8 0, Value.int IntKind.u8 0, Value.int IntKind.u8 0, Value.int IntKind.u8 0, Value.int IntKind.u8 0, Value.int IntKind.u8 0, Value.int IntKind.u8 0, Value.int IntKind.u8 0, Value.int IntKind.u8 0, Value.int IntKind.u8 0, Value.int IntKind.u8 0, Value.int IntKind.u8 0, Value.int IntKind.u8 0, Value.int IntKind.u8 0, Value.int IntKind.u8 0, Value.int IntKind.u8 0, Value.int IntKind.u8 0, Value.int IntKind.u8 0, Value.int IntKind.u8 0, Value.int IntKind.u8 0, Value.int IntKind.u8 0, Value.int IntKind.u8 0] = (nums zero32).toArray := rfl

set_option maxHeartbeats 1000000 in
theorem ask_nilH (v : Value) (w : World) :
    Calls Try.prog 45 #[.pointer none, v] w fun e w' => e = .returned (.agg (nums zero32).toArray) ∧ Below w.heap.size w w' := by
  have HK : Hid (∀ z, Whole ((w.alloc (.cells #[.pointer none] 47)).alloc (.cells z 26)) (w.heap.size + 1) 26 z) := Lib.hid (fun z => by
    have k2 := Whole.new (w.alloc (.cells #[.pointer none] 47)) 26 z
    rw [size_alloc] at k2
    exact k2)
  have HB : Hid (∀ z, Below w.heap.size w ((w.alloc (.cells #[.pointer none] 47)).alloc (.cells z 26))) := Lib.hid (fun z => (below_alloc w _).alloc (by simp) _)
  go_enter_defers Try.func45, Try.ntmps45
  go_wp2_with (first
    | ((with_reducible show wpList _ _ _ ((⟨_, Op.load 26 _, _, _, _, _⟩ : Oper) :: _) _ _); rw [zero_lit]; refine wpList_load_row rfl _ (.tmp 4) rfl (w.heap.size + 1) rfl 26 _ (0, 0) _ (HK.out _) und32 rfl (by rw [zero_size]; exact info32) ?_)
    | ((with_reducible show wpList _ _ _ ((⟨_, Op.store 26 _ _, _, _, _, _⟩ : Oper) :: _) _ _); refine wpList_store_row rfl _ (.tmp 4) (.tmp 7) rfl (w.heap.size + 1) (nums zero32).toArray rfl rfl 26 (nums zero32).toArray (HK.out _) (by rw [zero_size]; exact info32) rfl (all_nums _) ?_))
  exact ⟨_, results_one_cell rfl _ _ _ _ rfl (loadVar32 (Whole.row (HK.out _) _) zero_size), rfl, below_row (HB.out _) (by omega) _⟩

/-- 32 bytes were read, or the reader gave up. -/
def ReadHR (w : World) (g : Nat) (gave : Bool) (l : List Int) (e : Ending) (w' : World) : Prop :=
  (32 ≤ l.length ∧ e = .returned (.agg (nums (l.take 32)).toArray) ∧ Rd w' g (l.drop 32) gave ∧ w.grownBy w' (some g)) ∨
  (l.length < 32 ∧ e = .returned (.agg (nums zero32).toArray) ∧ Rd w' g [] true ∧ w.grownBy w' (some g))
theorem grown_row {w w1 : World} {g B : Nat} (h : w.grownBy w1 (some g)) (hB : w.heap.size ≤ B) (N : Array Value) : w.grownBy (w1.setRow B N) (some g) := by
  have hb := below_row (Below.refl w.heap.size w1) hB N
  exact ⟨hb.os.trans h.os, hb.tape.trans h.tape, hb.output.trans h.output, Nat.le_trans h.size hb.size, fun k hk hne => (hb.block k hk).trans (h.block k hk hne)⟩

set_option maxHeartbeats 1000000 in
theorem rhash_any {w : World} {g : Nat} {l : List Int} {gave : Bool} (h : Rd w g l gave) :
    Calls Try.prog 28 #[.pointer (some ⟨g, 0, none⟩)] w (ReadHR w g gave l) := by
  have hmf : ∀ (fn : Fn) (first cap : Array Value) (w : World), (Instr.makeFunc fn first cap).run Try.prog w = .ok (.func fn first cap) w := fun _ _ _ _ => rfl
  have hgl := h.lt
  have H := Lib.hid h
  clear h
  go_enter Try.func28, Try.ntmps28
  go_wp2_with fail
  rw [zero_lit]
  have hzs := zero_size
  generalize hz : (nums zero32).toArray = z at *
  have HZ := Lib.hid hz
  clear hz
  have hb2 : Below w.heap.size w ((w.alloc (.cells #[.pointer (some ⟨g, 0, none⟩)] 47)).alloc (.cells z 26)) := (below_alloc w _).alloc (by simp) _
  have k1 := (Whole.new w 47 #[.pointer (some ⟨g, 0, none⟩)]).alloc (.cells z 26)
  have k2 := Whole.new (w.alloc (.cells #[.pointer (some ⟨g, 0, none⟩)] 47)) 26 z
  rw [size_alloc] at k2
  have h2 := H.out.rdb.below hb2 (Nat.le_refl _) hgl
  generalize (w.alloc (.cells #[.pointer (some ⟨g, 0, none⟩)] 47)).alloc (.cells z 26) = w2 at *
  have HB2 := Lib.hid hb2
  have K1 := Lib.hid k1
  have K2 := Lib.hid k2
  have HR := Lib.hid h2
  clear hb2 k1 k2 h2 H
  refine (askH w.heap.size HR.out HB2.out.size (by omega) (K1.out.cell 0)).mono ?_
  rintro e w1 (⟨hl, rfl, hrd, hgr⟩ | ⟨hl, rfl, hrd, hgr⟩)
  · have K21 := Lib.hid (K2.out.grown hgr (by simp; omega))
    have HR1 := Lib.hid hrd
    have HG1 := Lib.hid (grown_of HB2.out hgr)
    have hNs := take_size hl
    have hNa := all_nums (l.take 32)
    clear hrd hgr
    generalize hN : (nums (l.take 32)).toArray = N at *
    have HN := Lib.hid hN
    clear hN
    go_wp2_with ((with_reducible show wpList _ _ _ ((⟨_, Op.store 26 _ _, _, _, _, _⟩ : Oper) :: _) _ _); refine wpList_store_row rfl _ (.tmp 2) (.tmp 5) rfl (w.heap.size + 1) N rfl rfl 26 z K21.out (by rw [hNs]; exact info32) (by omega) hNa ?_)
    refine bodyPost_ret (results_one_cell rfl _ _ _ _ rfl (loadVar32 (Whole.row K21.out N) hNs)) rfl ?_
    exact Or.inl ⟨hl, by rw [HN.out], (HR1.out.below (below_row (Below.refl (w.heap.size + 1) _) (Nat.le_refl _) N) (by omega) (by omega)).rd, grown_row HG1.out (by omega) N⟩
  · have K21 := Lib.hid (K2.out.grown hgr (by simp; omega))
    have HR1 := Lib.hid hrd
    have HG1 := Lib.hid (grown_of HB2.out hgr)
    have hNs := zero_size
    have hNa := all_nums zero32
    clear hrd hgr
    generalize hN : (nums zero32).toArray = N at *
    have HN := Lib.hid hN
    clear hN
    go_wp2_with ((with_reducible show wpList _ _ _ ((⟨_, Op.store 26 _ _, _, _, _, _⟩ : Oper) :: _) _ _); refine wpList_store_row rfl _ (.tmp 2) (.tmp 5) rfl (w.heap.size + 1) N rfl rfl 26 z K21.out (by rw [hNs]; exact info32) (by omega) hNa ?_)
    refine bodyPost_ret (results_one_cell rfl _ _ _ _ rfl (loadVar32 (Whole.row K21.out N) hNs)) rfl ?_
    exact Or.inr ⟨hl, by rw [HN.out], (HR1.out.below (below_row (Below.refl (w.heap.size + 1) _) (Nat.le_refl _) N) (by omega) (by omega)).rd, grown_row HG1.out (by omega) N⟩

set_option maxHeartbeats 1000000 in
theorem rhash_nil (w : World) :
    Calls Try.prog 28 #[.pointer none] w fun e w' => e = .returned (.agg (nums zero32).toArray) ∧ Below w.heap.size w w' := by
  have hmf : ∀ (fn : Fn) (first cap : Array Value) (w : World), (Instr.makeFunc fn first cap).run Try.prog w = .ok (.func fn first cap) w := fun _ _ _ _ => rfl
  go_enter Try.func28, Try.ntmps28
  go_wp2_with fail
  rw [zero_lit]
  have hb2 : Below w.heap.size w ((w.alloc (.cells #[.pointer none] 47)).alloc (.cells (nums zero32).toArray 26)) := (below_alloc w _).alloc (by simp) _
  have k2 := Whole.new (w.alloc (.cells #[.pointer none] 47)) 26 (nums zero32).toArray
  rw [size_alloc] at k2
  have hN := zero_size
  have hA := all_nums zero32
  generalize (w.alloc (.cells #[.pointer none] 47)).alloc (.cells (nums zero32).toArray 26) = w2 at *
  have HB2 := Lib.hid hb2
  have K2 := Lib.hid k2
  clear hb2 k2
  refine (ask_nilH _ _).mono ?_
  rintro e w1 ⟨rfl, hb1⟩
  have K21 := Lib.hid (K2.out.below hb1 K2.out.lt)
  have HB1 := Lib.hid (HB2.out.trans (hb1.mono HB2.out.size))
  clear hb1
  generalize hNN : (nums zero32).toArray = N at *
  have HNN := Lib.hid hNN
  clear hNN
  go_wp2_with ((with_reducible show wpList _ _ _ ((⟨_, Op.store 26 _ _, _, _, _, _⟩ : Oper) :: _) _ _); refine wpList_store_row rfl _ (.tmp 2) (.tmp 5) rfl (w.heap.size + 1) N rfl rfl 26 N K21.out (by rw [hN]; exact info32) rfl hA ?_)
  refine bodyPost_ret (results_one_cell rfl _ _ _ _ rfl (loadVar32 (Whole.row K21.out N) hN)) rfl ?_
  exact ⟨by rw [HNN.out], below_row HB1.out (by omega) N⟩
end Go.Proofs.Ytkmkccdihoaefaa
