/-
  The walks of package code's Reader, from the outside: Int, Need, Text, Hash, Done, New: a panic is recovered, and the reader gave up.
-/
import Derived.Test.YtkmkccdihoaefaaRb
namespace Go.Proofs.Ytkmkccdihoaefaa
open Go.RowKit

/-- A cell of its own that holds a value. -/
def Box (w : World) (p : Nat) (v : Value) : Prop := w.cell? ⟨p, 0, none⟩ = some v

set_option maxHeartbeats 400000 in
theorem intf_any {w : World} {g : Nat} {l : List Int} {gave : Bool} (p q r : Nat) (least most : Int) (h : Rd w g l gave)
    (h0 : w.cell? ⟨p, 0, none⟩ = some (.pointer (some ⟨g, 0, none⟩))) (h1 : w.cell? ⟨q, 0, none⟩ = some (.int .i64 least)) (h2 : w.cell? ⟨r, 0, none⟩ = some (.int .i64 most)) :
    Calls Try.prog 44 #[.pointer (some ⟨p, 0, none⟩), .pointer (some ⟨q, 0, none⟩), .pointer (some ⟨r, 0, none⟩)] w (Num w g gave (Cd.get least most l)) := by
  have H := Lib.hid h
  clear h
  go_enter Try.func44, Try.ntmps44
  go_wp2_with fail
  refine (number_any least most H.out).mono ?_
  rintro e w1 (⟨v, r, ho, rfl, hrd, hgr⟩ | ⟨ho, rfl, hrd, hgr⟩)
  · have HX : Hid (Num w g gave (Cd.get least most l) (.returned (.int .i64 v)) w1) := Lib.hid (Or.inl ⟨v, r, ho, rfl, hrd, hgr⟩)
    clear ho hrd hgr
    go_wp2
    go_ret
    exact HX.out
  · exact ⟨rfl, Or.inr ⟨ho, rfl, hrd, hgr⟩⟩

/-- The deferred function, behind a panic: the reader gave up. -/
theorem caughtI (p g : Nat) (a : Option Addr) (n c : Nat) (gave : Bool) (older : List PanicEntry) (pv : Value) (w : World) (h0 : w.cell? ⟨p, 0, none⟩ = some (.pointer (some ⟨g, 0, none⟩)))
    (hw : Whole w g 69 #[.slice a n c, .bool gave]) :
    CallsD Try.prog 50 #[.pointer (some ⟨p, 0, none⟩)] (.panicking ({ v := .iface 32 pv, recovered := false } :: older)) w fun e u' w' =>
      e = .returned (.tuple #[]) ∧ u' = .panicking ({ v := .iface 32 pv, recovered := true } :: older) ∧ w' = (w.setCell ⟨g, 0, none⟩ (.slice none 0 0)).setCell ⟨g, 1, none⟩ (.bool true) := by
  have c0 := hw.cell 0
  have f0 := hw.frozen 0
  have hw1 := hw.set 0 (.slice none 0 0)
  have c1 := hw1.cell 1
  have f1 := hw1.frozen 1
  simp at c0 c1
  refine callsD_of_wpS Try.func50 rfl fun c₀ cs hu => ?_
  apply wpS_seq
  apply wpS_region
  simp [wpOpsS, go_sem, recoverD, hu, Try.ntmps50, Exit.thenS]
  refine wpS_cond (t := true) (by simp [Act.eval, Array.replicate]) ?_
  simp only [if_true]
  refine wpS_of_wp ?_
  go_wp2
  exact ⟨rfl, _, rfl, .tuple #[], by simp [results, Try.results50], rfl, rfl, rfl⟩
theorem idleI (p : Nat) (w : World) :
    CallsD Try.prog 50 #[.pointer (some ⟨p, 0, none⟩)] .returning w fun e u' w' => e = .returned (.tuple #[]) ∧ u' = .returning ∧ w' = w := by
  refine callsD_of_wpS Try.func50 rfl fun c₀ cs hu => ?_
  apply wpS_seq
  apply wpS_region
  simp [wpOpsS, go_sem, recoverD, hu, Try.ntmps50, Exit.thenS]
  refine wpS_cond (t := false) (by simp [Act.eval, Array.replicate]) ?_
  simp only [Bool.false_eq_true, if_false]
  refine wpS_of_wp (wp_skip ?_)
  cases c₀
  simp_all [bodyPostS, results, Try.results50]
/-- The deferred function, behind a panic: the reader gave up. -/
theorem caughtN (p g : Nat) (a : Option Addr) (n c : Nat) (gave : Bool) (older : List PanicEntry) (pv : Value) (w : World) (h0 : w.cell? ⟨p, 0, none⟩ = some (.pointer (some ⟨g, 0, none⟩)))
    (hw : Whole w g 69 #[.slice a n c, .bool gave]) :
    CallsD Try.prog 47 #[.pointer (some ⟨p, 0, none⟩)] (.panicking ({ v := .iface 32 pv, recovered := false } :: older)) w fun e u' w' =>
      e = .returned (.tuple #[]) ∧ u' = .panicking ({ v := .iface 32 pv, recovered := true } :: older) ∧ w' = (w.setCell ⟨g, 0, none⟩ (.slice none 0 0)).setCell ⟨g, 1, none⟩ (.bool true) := by
  have c0 := hw.cell 0
  have f0 := hw.frozen 0
  have hw1 := hw.set 0 (.slice none 0 0)
  have c1 := hw1.cell 1
  have f1 := hw1.frozen 1
  simp at c0 c1
  refine callsD_of_wpS Try.func47 rfl fun c₀ cs hu => ?_
  apply wpS_seq
  apply wpS_region
  simp [wpOpsS, go_sem, recoverD, hu, Try.ntmps47, Exit.thenS]
  refine wpS_cond (t := true) (by simp [Act.eval, Array.replicate]) ?_
  simp only [if_true]
  refine wpS_of_wp ?_
  go_wp2
  exact ⟨rfl, _, rfl, .tuple #[], by simp [results, Try.results47], rfl, rfl, rfl⟩
theorem idleN (p : Nat) (w : World) :
    CallsD Try.prog 47 #[.pointer (some ⟨p, 0, none⟩)] .returning w fun e u' w' => e = .returned (.tuple #[]) ∧ u' = .returning ∧ w' = w := by
  refine callsD_of_wpS Try.func47 rfl fun c₀ cs hu => ?_
  apply wpS_seq
  apply wpS_region
  simp [wpOpsS, go_sem, recoverD, hu, Try.ntmps47, Exit.thenS]
  refine wpS_cond (t := false) (by simp [Act.eval, Array.replicate]) ?_
  simp only [Bool.false_eq_true, if_false]
  refine wpS_of_wp (wp_skip ?_)
  cases c₀
  simp_all [bodyPostS, results, Try.results47]
/-- The deferred function, behind a panic: the reader gave up. -/
theorem caughtT (p g : Nat) (a : Option Addr) (n c : Nat) (gave : Bool) (older : List PanicEntry) (pv : Value) (w : World) (h0 : w.cell? ⟨p, 0, none⟩ = some (.pointer (some ⟨g, 0, none⟩)))
    (hw : Whole w g 69 #[.slice a n c, .bool gave]) :
    CallsD Try.prog 48 #[.pointer (some ⟨p, 0, none⟩)] (.panicking ({ v := .iface 32 pv, recovered := false } :: older)) w fun e u' w' =>
      e = .returned (.tuple #[]) ∧ u' = .panicking ({ v := .iface 32 pv, recovered := true } :: older) ∧ w' = (w.setCell ⟨g, 0, none⟩ (.slice none 0 0)).setCell ⟨g, 1, none⟩ (.bool true) := by
  have c0 := hw.cell 0
  have f0 := hw.frozen 0
  have hw1 := hw.set 0 (.slice none 0 0)
  have c1 := hw1.cell 1
  have f1 := hw1.frozen 1
  simp at c0 c1
  refine callsD_of_wpS Try.func48 rfl fun c₀ cs hu => ?_
  apply wpS_seq
  apply wpS_region
  simp [wpOpsS, go_sem, recoverD, hu, Try.ntmps48, Exit.thenS]
  refine wpS_cond (t := true) (by simp [Act.eval, Array.replicate]) ?_
  simp only [if_true]
  refine wpS_of_wp ?_
  go_wp2
  exact ⟨rfl, _, rfl, .tuple #[], by simp [results, Try.results48], rfl, rfl, rfl⟩
theorem idleT (p : Nat) (w : World) :
    CallsD Try.prog 48 #[.pointer (some ⟨p, 0, none⟩)] .returning w fun e u' w' => e = .returned (.tuple #[]) ∧ u' = .returning ∧ w' = w := by
  refine callsD_of_wpS Try.func48 rfl fun c₀ cs hu => ?_
  apply wpS_seq
  apply wpS_region
  simp [wpOpsS, go_sem, recoverD, hu, Try.ntmps48, Exit.thenS]
  refine wpS_cond (t := false) (by simp [Act.eval, Array.replicate]) ?_
  simp only [Bool.false_eq_true, if_false]
  refine wpS_of_wp (wp_skip ?_)
  cases c₀
  simp_all [bodyPostS, results, Try.results48]
/-- The deferred function, behind a panic: the reader gave up. -/
theorem caughtH (p g : Nat) (a : Option Addr) (n c : Nat) (gave : Bool) (older : List PanicEntry) (pv : Value) (w : World) (h0 : w.cell? ⟨p, 0, none⟩ = some (.pointer (some ⟨g, 0, none⟩)))
    (hw : Whole w g 69 #[.slice a n c, .bool gave]) :
    CallsD Try.prog 51 #[.pointer (some ⟨p, 0, none⟩)] (.panicking ({ v := .iface 32 pv, recovered := false } :: older)) w fun e u' w' =>
      e = .returned (.tuple #[]) ∧ u' = .panicking ({ v := .iface 32 pv, recovered := true } :: older) ∧ w' = (w.setCell ⟨g, 0, none⟩ (.slice none 0 0)).setCell ⟨g, 1, none⟩ (.bool true) := by
  have c0 := hw.cell 0
  have f0 := hw.frozen 0
  have hw1 := hw.set 0 (.slice none 0 0)
  have c1 := hw1.cell 1
  have f1 := hw1.frozen 1
  simp at c0 c1
  refine callsD_of_wpS Try.func51 rfl fun c₀ cs hu => ?_
  apply wpS_seq
  apply wpS_region
  simp [wpOpsS, go_sem, recoverD, hu, Try.ntmps51, Exit.thenS]
  refine wpS_cond (t := true) (by simp [Act.eval, Array.replicate]) ?_
  simp only [if_true]
  refine wpS_of_wp ?_
  go_wp2
  exact ⟨rfl, _, rfl, .tuple #[], by simp [results, Try.results51], rfl, rfl, rfl⟩
theorem idleH (p : Nat) (w : World) :
    CallsD Try.prog 51 #[.pointer (some ⟨p, 0, none⟩)] .returning w fun e u' w' => e = .returned (.tuple #[]) ∧ u' = .returning ∧ w' = w := by
  refine callsD_of_wpS Try.func51 rfl fun c₀ cs hu => ?_
  apply wpS_seq
  apply wpS_region
  simp [wpOpsS, go_sem, recoverD, hu, Try.ntmps51, Exit.thenS]
  refine wpS_cond (t := false) (by simp [Act.eval, Array.replicate]) ?_
  simp only [Bool.false_eq_true, if_false]
  refine wpS_of_wp (wp_skip ?_)
  cases c₀
  simp_all [bodyPostS, results, Try.results51]

theorem Rd.below {w w' : World} {g : Nat} {l : List Int} {gave : Bool} (h : Rd w g l gave) (hb : Below w.heap.size w w') : Rd w' g l gave := by
  obtain ⟨a, n, c, hw, ht⟩ := h
  exact ⟨a, n, c, hw.below hb hw.lt, ht.below hb (fun _ hlt _ => hlt)⟩
theorem Rd.lt {w : World} {g : Nat} {l : List Int} {gave : Bool} (h : Rd w g l gave) : g < w.heap.size := by
  obtain ⟨a, n, c, hw, ht⟩ := h
  exact hw.lt
theorem grown_of {w w1 w' : World} {g : Nat} (hb : Below w.heap.size w w1) (hg : w1.grownBy w' (some g)) : w.grownBy w' (some g) :=
  ⟨hg.os.trans hb.os, hg.tape.trans hb.tape, hg.output.trans hb.output, Nat.le_trans hb.size hg.size, fun k hk hne => (hg.block k (Nat.lt_of_lt_of_le hk hb.size) hne).trans (hb.block k hk)⟩
theorem size_alloc (w : World) (o : Obj) : (w.alloc o).heap.size = w.heap.size + 1 := by simp
theorem below_alloc (w : World) (o : Obj) : Below w.heap.size w (w.alloc o) := (Below.refl _ _).alloc (Nat.le_refl _) _
/-- A reader that gave up. -/
theorem Rd.lost {w : World} {g : Nat} {l : List Int} {gave : Bool} (h : Rd w g l gave) : Rd ((w.setCell ⟨g, 0, none⟩ (.slice none 0 0)).setCell ⟨g, 1, none⟩ (.bool true)) g [] true := by
  obtain ⟨a, n, c, hw, ht⟩ := h
  exact ⟨none, 0, 0, (hw.set 0 _).set 1 _, Txt.nil _ _ _ _⟩
theorem grown_lost {w w1 : World} {g : Nat} (h : w.grownBy w1 (some g)) (u v : Value) : w.grownBy ((w1.setCell ⟨g, 0, none⟩ u).setCell ⟨g, 1, none⟩ v) (some g) :=
  grown_trans (grown_trans h (grown_set _ _ _ _)) (grown_set _ _ _ _)

/-- A number was read, or the reader gave up. -/
def ReadI (w : World) (g : Nat) (gave : Bool) (o : Option (Int × List Int)) (e : Ending) (w' : World) : Prop :=
  (∃ v r, o = some (v, r) ∧ e = .returned (.int .i64 v) ∧ Rd w' g r gave ∧ w.grownBy w' (some g)) ∨
  (o = none ∧ e = .returned (.int .i64 0) ∧ Rd w' g [] true ∧ w.grownBy w' (some g))

set_option maxHeartbeats 1000000 in
theorem askI {w : World} {g : Nat} {l : List Int} {gave : Bool} (p q r : Nat) (least most : Int) (h : Rd w g l gave)
    (h0 : w.cell? ⟨p, 0, none⟩ = some (.pointer (some ⟨g, 0, none⟩))) (h1 : w.cell? ⟨q, 0, none⟩ = some (.int .i64 least)) (h2 : w.cell? ⟨r, 0, none⟩ = some (.int .i64 most)) :
    Calls Try.prog 43 #[.pointer (some ⟨g, 0, none⟩), .func (.func 44) #[] #[.pointer (some ⟨p, 0, none⟩), .pointer (some ⟨q, 0, none⟩), .pointer (some ⟨r, 0, none⟩)]] w (ReadI w g gave (Cd.get least most l)) := by
  have hmf : ∀ (fn : Fn) (first cap : Array Value) (w : World), (Instr.makeFunc fn first cap).run Try.prog w = .ok (.func fn first cap) w := fun _ _ _ _ => rfl
  have hb := below_alloc w (.cells #[.pointer (some ⟨g, 0, none⟩)] 47)
  have H0 := Lib.hid ((hb.cell (p := ⟨p, 0, none⟩) (World.block_lt_of_cell? w _ h0)).trans h0)
  have H1 := Lib.hid ((hb.cell (p := ⟨q, 0, none⟩) (World.block_lt_of_cell? w _ h1)).trans h1)
  have H2 := Lib.hid ((hb.cell (p := ⟨r, 0, none⟩) (World.block_lt_of_cell? w _ h2)).trans h2)
  have HR := Lib.hid (h.below hb)
  have HB := Lib.hid hb
  have HL := Lib.hid h.lt
  have HN := Lib.hid (Whole.new w 47 #[.pointer (some ⟨g, 0, none⟩)])
  clear h h0 h1 h2 hb
  go_enter_defers Try.func43, Try.ntmps43
  go_wp2_with fail
  refine (intf_any p q r least most HR.out H0.out H1.out H2.out).mono ?_
  rintro e w1 (⟨v, r', ho, rfl, hrd, hgr⟩ | ⟨ho, rfl, hrd, hgr⟩)
  · have HX : Hid (ReadI w g gave (Cd.get least most l) (.returned (.int .i64 v)) w1) := Lib.hid (Or.inl ⟨v, r', ho, rfl, hrd, grown_of HB.out hgr⟩)
    clear ho hrd hgr
    go_wp2
    refine leaves_cons (f := 50) (args := #[.pointer (some ⟨w.heap.size, 0, none⟩)]) (by simp) (by simp [go_sem]) ?_
    refine (idleI w.heap.size _).mono ?_
    rintro e u' w'' ⟨rfl, rfl, rfl⟩
    exact ⟨.int .i64 v, by simp [results, Try.results43], HX.out⟩
  · obtain ⟨r', hrd⟩ := hrd
    have hbox := HN.out.grown hgr (by have := HL.out; simp; omega)
    obtain ⟨a', n', c', hwh, htx⟩ := id hrd
    refine leaves_cons (f := 50) (args := #[.pointer (some ⟨w.heap.size, 0, none⟩)]) (by simp) (by simp [go_sem]) ?_
    refine (caughtI w.heap.size g a' n' c' gave [] (.int .i64 20) w1 (hbox.cell 0) hwh).mono ?_
    rintro e u' w'' ⟨rfl, rfl, rfl⟩
    exact ⟨_, results_tmp rfl _ _ _, Or.inr ⟨ho, rfl, hrd.lost, grown_lost (grown_of HB.out hgr) _ _⟩⟩

theorem ask_nilI (v : Value) (w : World) :
    Calls Try.prog 43 #[.pointer none, v] w fun e w' => e = .returned (.int .i64 0) ∧ Below w.heap.size w w' := by
  go_enter_defers Try.func43, Try.ntmps43
  go_wp2
  exact ⟨.int .i64 0, by simp [results, Try.results43], rfl, below_alloc _ _⟩

set_option maxHeartbeats 400000 in
theorem rint_any {w : World} {g : Nat} {l : List Int} {gave : Bool} (least most : Int) (h : Rd w g l gave) :
    Calls Try.prog 25 #[.pointer (some ⟨g, 0, none⟩), .int .i64 least, .int .i64 most] w (ReadI w g gave (Cd.get least most l)) := by
  have hmf : ∀ (fn : Fn) (first cap : Array Value) (w : World), (Instr.makeFunc fn first cap).run Try.prog w = .ok (.func fn first cap) w := fun _ _ _ _ => rfl
  have H := Lib.hid h
  clear h
  go_enter Try.func25, Try.ntmps25
  go_wp2_with fail
  have hb3 := ((below_alloc w (Obj.cells #[.pointer (some ⟨g, 0, none⟩)] 47)).alloc (by simp) (Obj.cells #[.int .i64 least] 2)).alloc (by simp; omega) (Obj.cells #[.int .i64 most] 2)
  have HB := Lib.hid hb3
  clear hb3
  have k0 := ((Whole.new w 47 #[.pointer (some ⟨g, 0, none⟩)]).alloc (Obj.cells #[.int .i64 least] 2)).alloc (Obj.cells #[.int .i64 most] 2)
  have k1 := (Whole.new (w.alloc (Obj.cells #[.pointer (some ⟨g, 0, none⟩)] 47)) 2 #[.int .i64 least]).alloc (Obj.cells #[.int .i64 most] 2)
  have k2 := Whole.new ((w.alloc (Obj.cells #[.pointer (some ⟨g, 0, none⟩)] 47)).alloc (Obj.cells #[.int .i64 least] 2)) 2 #[.int .i64 most]
  rw [size_alloc] at k1
  rw [size_alloc, size_alloc] at k2
  refine (askI w.heap.size (w.heap.size + 1) (w.heap.size + 1 + 1) least most (H.out.below HB.out) ?_ ?_ ?_).mono ?_
  · exact k0.cell 0
  · exact k1.cell 0
  · exact k2.cell 0
  rintro e w1 (⟨v, r', ho, rfl, hrd, hgr⟩ | ⟨ho, rfl, hrd, hgr⟩)
  · have HX : Hid (ReadI w g gave (Cd.get least most l) (.returned (.int .i64 v)) w1) := Lib.hid (Or.inl ⟨v, r', ho, rfl, hrd, grown_of HB.out hgr⟩)
    clear ho hrd hgr
    go_wp2
    go_ret
    exact HX.out
  · have HX : Hid (ReadI w g gave (Cd.get least most l) (.returned (.int .i64 0)) w1) := Lib.hid (Or.inr ⟨ho, rfl, hrd, grown_of HB.out hgr⟩)
    clear ho hrd hgr
    go_wp2
    go_ret
    exact HX.out
theorem rint_nil (least most : Int) (w : World) :
    Calls Try.prog 25 #[.pointer none, .int .i64 least, .int .i64 most] w fun e w' => e = .returned (.int .i64 0) ∧ Below w.heap.size w w' := by
  have hmf : ∀ (fn : Fn) (first cap : Array Value) (w : World), (Instr.makeFunc fn first cap).run Try.prog w = .ok (.func fn first cap) w := fun _ _ _ _ => rfl
  go_enter Try.func25, Try.ntmps25
  go_wp2_with fail
  refine (ask_nilI _ _).mono ?_; rintro e w1 ⟨rfl, hb⟩
  have HB := Lib.hid hb
  clear hb
  go_wp2
  go_ret
  refine ⟨rfl, Below.trans ?_ (HB.out.mono (by simp; omega))⟩
  exact ((below_alloc w _).alloc (by simp) _).alloc (by simp; omega) _
end Go.Proofs.Ytkmkccdihoaefaa
