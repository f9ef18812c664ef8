/-
  More walks of package code's Writer: the first bytes, numbers, texts, hashes.
-/
import Derived.Test.YtkmkccdihoaefaaWr
namespace Go.Proofs.Ytkmkccdihoaefaa
open Go.RowKit

/-- What stands behind the making of the first page. -/
theorem first_page {w : World} {B g : Nat} {t : List Int} {S : Nat → Prop} {a : Option Addr} {n c : Nat} (k : Nat) (hB : B ≤ w.heap.size) (hg : B ≤ g)
    (hw : Whole w g 44 #[.pointer none, .int .i64 0]) (ht : Txt w S a n c t) (hs : ∀ b, S b → b ≠ g) :
    B ≤ w.heap.size ∧ B ≤ (((w.drewN k).alloc (Obj.cells #[.slice none 0 0] 71)).setCell ⟨g, 0, none⟩ (.pointer (some ⟨w.heap.size, 0, none⟩))).heap.size ∧
    Whole (((w.drewN k).alloc (Obj.cells #[.slice none 0 0] 71)).setCell ⟨g, 0, none⟩ (.pointer (some ⟨w.heap.size, 0, none⟩))) g 44 #[.pointer (some ⟨w.heap.size, 0, none⟩), .int .i64 0] ∧
    Whole (((w.drewN k).alloc (Obj.cells #[.slice none 0 0] 71)).setCell ⟨g, 0, none⟩ (.pointer (some ⟨w.heap.size, 0, none⟩))) w.heap.size 71 #[.slice none 0 0] ∧
    Txt (((w.drewN k).alloc (Obj.cells #[.slice none 0 0] 71)).setCell ⟨g, 0, none⟩ (.pointer (some ⟨w.heap.size, 0, none⟩))) S a n c t ∧
    Below B w (((w.drewN k).alloc (Obj.cells #[.slice none 0 0] 71)).setCell ⟨g, 0, none⟩ (.pointer (some ⟨w.heap.size, 0, none⟩))) := by
  have hlt := hw.lt
  have hw' : Whole (w.drewN k) g 44 #[.pointer none, .int .i64 0] := hw
  have hn := Whole.new (w.drewN k) 71 #[.slice none 0 0]
  have hbl : Below B w (((w.drewN k).alloc (Obj.cells #[.slice none 0 0] 71)).setCell ⟨g, 0, none⟩ (.pointer (some ⟨w.heap.size, 0, none⟩))) :=
    ((below_drewN (Below.refl _ _) k).alloc (by exact hB) _).setCell hg _
  refine ⟨hB, Nat.le_trans hB hbl.size, (hw'.alloc _).set 0 _, hn.far (p := ⟨g, 0, none⟩) (by show w.heap.size ≠ g; omega) _, ?_, hbl⟩
  refine Txt.keep (w := w) ht hbl.size fun b hb hS => ?_
  rw [Below.heap_setCell _ _ _ _ (by exact hs b hS), Below.heap_alloc _ _ _ (by exact hb)]
  rfl

theorem add_end0 {w w1 : World} {B g h n : Nat} {old v' : Value} {t : List Int} (hg : B ≤ g) (hh : B ≤ h) (ht : t.length = n)
    (hw : Whole w1 g 44 #[.pointer (some ⟨h, 0, none⟩), .int .i64 0]) (hp : Whole w1 h 71 #[old]) (hown : w1.ownsRow B 5 1 v' n (nums t)) (hb : Below B w w1) :
    Wr ((w1.setCell ⟨h, 0, none⟩ v').setCell ⟨g, 1, none⟩ (.int .i64 (n : Int))) B g t ∧ Below B w ((w1.setCell ⟨h, 0, none⟩ v').setCell ⟨g, 1, none⟩ (.int .i64 (n : Int))) := by
  have h := add_end (l := []) (t := t) (m := 0) (n := n) (v' := v') hg hh rfl ht hw hp (by rw [Nat.zero_add]; exact hown) hb
  rw [List.nil_append, show ((0 : Nat) : Int) + (n : Int) = (n : Int) by omega] at h
  exact h

set_option maxHeartbeats 1000000 in
theorem add_none (B g : Nat) (t : List Int) (S : Nat → Prop) (a : Option Addr) (n c : Nat) (w : World) (hB : B ≤ w.heap.size) (hg : B ≤ g)
    (hw : Whole w g 44 #[.pointer none, .int .i64 0]) (ht : Txt w S a n c t) (hs : ∀ b, S b → b ≠ g) (hn : n ≤ 1099511627776) :
    Calls Try.prog 33 #[.pointer (some ⟨g, 0, none⟩), .slice a n c] w fun e w' => e = .returned (.tuple #[]) ∧ Wr w' B g t ∧ Below B w w' := by
  obtain ⟨i0, hi0, hz0, hz1, hz2⟩ := info_parts u8_info
  have HI := Lib.hid (And.intro hi0 (And.intro hz0 (And.intro hz1 hz2)))
  clear hi0 hz0 hz1 hz2
  have c0 := hw.cell 0
  have f0 := hw.frozen 0
  have hgs := hw.lt
  simp only [List.getElem?_toArray, List.getElem?_cons_zero] at c0
  have HW := Lib.hid hw
  have HT := Lib.hid ht
  have HF := Lib.hid (fun k => first_page k hB hg hw ht hs)
  have a0 : ∀ k o, ((w.drewN k).alloc o).cell? ⟨g, 0, none⟩ = some (.pointer none) := fun k o => (Whole.alloc (w := w.drewN k) (by exact hw) o).cell 0
  have z0 : ∀ k o, ((w.drewN k).alloc o).frozen? ⟨g, 0, none⟩ = false := fun k o => (Whole.alloc (w := w.drewN k) (by exact hw) o).frozen 0
  clear hw ht hs
  go_enter Try.func33, Try.ntmps33
  go_wp2
  go_quiet (fail)
  go_wp2_with (go_at_call 22; refine (bytes_none _ _ (by exact c0)).mono ?_; rintro e w' ⟨rfl, rfl⟩)
  obtain ⟨hh, hB2, hw2, hp2, ht2, hb2⟩ := HF.out nq
  clear HF a0 z0 HW HT c0 f0
  generalize ((w.drewN nq).alloc (Obj.cells #[.slice none 0 0] 71)).setCell ⟨g, 0, none⟩ (.pointer (some ⟨w.heap.size, 0, none⟩)) = w2 at *
  clear hB hgs
  generalize w.heap.size = h at *
  have hgh : g ≠ h := hw2.ne hp2 (by decide)
  have hown : w2.ownsRow B 5 1 (.slice none 0 0) 0 [] := World.ownsRow_nil _ _ _ _
  have c0 := hw2.cell 0
  have c1 := hw2.cell 1
  have c2 := hp2.cell 0
  have f1 := hw2.frozen 1
  have f2 := hp2.frozen 0
  simp only [List.getElem?_toArray, List.getElem?_cons_zero, List.getElem?_cons_succ] at c0 c1 c2
  have HW := Lib.hid hw2
  have HP := Lib.hid hp2
  have HO := Lib.hid hown
  have HT := Lib.hid ht2
  have HB2 := Lib.hid hb2
  clear hw2 hp2 hown ht2 hb2
  go_region_law
    ((refine step_append_txt _ (by rfl) _ _ _ (by rfl) B 5 i0 (.int .u8 0) 1 Try.underlying25 HI.out.1 HI.out.2.1 HI.out.2.2.1 HI.out.2.2.2 rfl (.slice none 0 0) 0 [] (by rfl) (by exact HO.out) S a n c t (by rfl) (by exact HT.out) (by unfold maxLen; omega) (by omega) (by exact hB2) ?_
      intro v' w1 hown1 hgrow _
      obtain ⟨q', cap', rfl⟩ := own_form hown1
      have k0 := Whole.grown (by exact HW.out) hgrow (by simp [Value.ownBlock])
      have k2 := Whole.grown (by exact HP.out) hgrow (by simp [Value.ownBlock])
      have d0 := k0.cell 0
      have d1 := k0.cell 1
      have d2 := k2.cell 0
      have e1 := k0.frozen 1
      have e2 := k2.frozen 0
      simp only [List.getElem?_toArray, List.getElem?_cons_zero, List.getElem?_cons_succ] at d0 d1 d2
      have K0 := Lib.hid k0
      have K2 := Lib.hid k2
      have HO1 := Lib.hid hown1
      have HG1 := Lib.hid hgrow
      clear k0 k2 hown1 hgrow))
  all_goals
    go_wp2
    go_end0
    exact ⟨rfl, add_end0 hg hh HT.out.1 K0.out K2.out (by have := HO1.out; rw [Nat.zero_add, List.nil_append] at this; exact this) (HB2.out.trans ((Below.refl _ _).drew.grown HG1.out (by exact hB2) (own_ge HO.out)))⟩

theorem add_any {B g : Nat} {l t : List Int} {S : Nat → Prop} {a : Option Addr} {n c : Nat} {w : World} (hB : B ≤ w.heap.size) (hw : Wr w B g l) (ht : Txt w S a n c t) (hs : ∀ b, S b → b ≠ g) (hl : l.length ≤ 1099511627776) (hn : n ≤ 1099511627776) :
    Calls Try.prog 33 #[.pointer (some ⟨g, 0, none⟩), .slice a n c] w fun e w' => e = .returned (.tuple #[]) ∧ Wr w' B g (l ++ t) ∧ Below B w w' := by
  rcases hw.2 with ⟨rfl, h⟩ | ⟨k, v, hk, h, hp, hown⟩
  · exact add_none B g t S a n c w hB hw.1 h ht hs hn
  · exact add_some B g k v l t S a n c w hB hw.1 hk h hp hown ht hl hn
theorem add_nil (v : Value) (w : World) : Calls Try.prog 33 #[.pointer none, v] w fun e w' => e = .returned (.tuple #[]) ∧ w = w' := by
  go_enter Try.func33, Try.ntmps33
  go_wp2
  first | go_end0 | refine bodyPost_ret (results_none rfl _ _ _) rfl ?_
  exact ⟨rfl, rfl⟩
end Go.Proofs.Ytkmkccdihoaefaa
