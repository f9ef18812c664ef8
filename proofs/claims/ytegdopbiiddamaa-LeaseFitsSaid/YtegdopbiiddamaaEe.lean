/-
  The walks of slowest and fastest, and of what a plan needs, one by one.
-/
import Derived.Test.YtegdopbiiddamaaEd
namespace Go.Proofs.Ytegdopbiiddamaa
set_option linter.unusedVariables false
set_option linter.unusedSimpArgs false
set_option maxRecDepth 20000
open Go.RowKit
theorem Cc.get {w : World} {S : Nat → Prop} {C : Array Value} {p : Dr.P} (h : Cc w S C p) : ∃ a n c a' n' c', C[0]? = some (.int .i64 p.nodes) ∧ C[1]? = some (.int .i64 p.slots) ∧ C[2]? = some (.int .i64 p.rho) ∧ C[3]? = some (.int .i64 p.hold) ∧ C[4]? = some (.int .i64 p.grant) ∧ C[5]? = some (.int .i64 p.guard) ∧ C[6]? = some (.int .i64 p.work) ∧ C[7]? = some (.slice a n c) ∧ C[8]? = some (.slice a' n' c') ∧ C[9]? = some (.int .i64 p.soak) ∧ C[10]? = some (.int .i64 p.pass) ∧ n ≤ c ∧ n' ≤ c' ∧ c' ≤ maxLen ∧ Ns w S a n p.stages ∧ Ns w S a' n' p.needs ∧ Pin p := by
  obtain ⟨a, n, c, a', n', c', rfl, h⟩ := h
  exact ⟨a, n, c, a', n', c', rfl, rfl, rfl, rfl, rfl, rfl, rfl, rfl, rfl, rfl, rfl, h⟩
theorem Cc.rho {w : World} {S : Nat → Prop} {C : Array Value} {p : Dr.P} (h : Cc w S C p) : C[2]? = some (.int .i64 p.rho) := by
  obtain ⟨a, n, c, a', n', c', rfl, _⟩ := h
  rfl
theorem slow_any {w : World} {S : Nat → Prop} {C : Array Value} {p : Dr.P} (h : Cc w S C p) (h2 : p.g2) :
    Calls Try.prog 43 #[.agg C] w fun e w' => e = .returned (.int .i64 p.slow) ∧ Below w.heap.size w w' := by
  have c2 := h.rho
  obtain ⟨r0, r1⟩ := h2
  obtain ⟨z, hz⟩ : ∃ z, p.slow = z := ⟨_, rfl⟩
  rw [hz]
  have HZ := Lib.hid hz
  unfold Dr.P.slow at hz
  have HZ2 := Lib.hid hz
  clear h hz
  go_enter Try.func43, Try.ntmps43
  go_wp2
  go_ret
  exact ⟨ret_i64 HZ2.out, below_alloc _ _⟩
theorem fast_any {w : World} {S : Nat → Prop} {C : Array Value} {p : Dr.P} (h : Cc w S C p) (h2 : p.g2) :
    Calls Try.prog 44 #[.agg C] w fun e w' => e = .returned (.int .i64 p.fast) ∧ Below w.heap.size w w' := by
  have c2 := h.rho
  obtain ⟨r0, r1⟩ := h2
  obtain ⟨z, hz⟩ : ∃ z, p.fast = z := ⟨_, rfl⟩
  rw [hz]
  have HZ := Lib.hid hz
  unfold Dr.P.fast at hz
  have HZ2 := Lib.hid hz
  clear h hz
  go_enter Try.func44, Try.ntmps44
  go_wp2
  go_ret
  exact ⟨ret_i64 HZ2.out, below_alloc _ _⟩
/-- The load of a plan that S holds, in a region that draws. -/
theorem yields_plan {ops : Array Oper} {S : World → Prop} {op : Oper} {a : Act} (hw : Region.wanted op (yielded ops a.tmps) = true) (x : Operand) (ho : op.op = .load 24 x)
    (b : Nat) (hx : a.eval x = .pointer (some ⟨b, 0, none⟩)) (C : Array Value) (hS : ∀ w, S w → Whole w b 24 C) (h11 : C.size = 11) : YieldsIf Try.prog ops S op (.agg C) a :=
  .inl ⟨hw, fun w hw' => by
    unfold execOp
    simp only [ho, hx, Instr.loadAt, Instr.sureAddr, Sem.run_bind, Sem.run_pure, Result.andThen_ok, run_loadVar_row w b 24 24 C (0, 0) _ (hS w hw') Try.underlying24 rfl (by rw [h11]; exact info11)]⟩
theorem decG {P Q : Prop} [Decidable P] [Decidable Q] {z : Bool} (h : P ↔ Q) (hz : decide Q = z) : decide P = z := (decide_eq_decide.2 h).trans hz
theorem decG4 {A B D E Q : Prop} [Decidable A] [Decidable B] [Decidable D] [Decidable E] [Decidable Q] {z : Bool} (h : A ∧ B ∧ D ∧ E ↔ Q) (hz : decide Q = z) : (decide A && (decide B && (decide D && decide E))) = z := by
  rw [← Bool.decide_and, ← Bool.decide_and, ← Bool.decide_and]
  exact decG h hz
theorem decG2 {A B Q : Prop} [Decidable A] [Decidable B] [Decidable Q] {z : Bool} (h : A ∧ B ↔ Q) (hz : decide Q = z) : (decide A && decide B) = z := (Bool.decide_and A B).symm.trans (decG h hz)
theorem need1_any {w : World} {S : Nat → Prop} {B : Nat} {C : Array Value} {p : Dr.P} (h : Box w S B C p) :
    Calls Try.prog 56 #[.pointer (some ⟨B, 0, none⟩)] w fun e w' => e = .returned (.bool (decide p.g0)) ∧ w = w' := by
  obtain ⟨hW, hC⟩ := h
  obtain ⟨a, n, c, a', n', c', q0, q1, q2, q3, q4, q5, q6, q7, q8, q9, q10, hnc, hnc', hm', hs, hd, hp⟩ := hC.get
  have k0 : w.cell? ⟨B, 0, none⟩ = some (.int .i64 p.nodes) := (hW.cell 0).trans q0
  have k1 : w.cell? ⟨B, 1, none⟩ = some (.int .i64 p.slots) := (hW.cell 1).trans q1
  have k2 : w.cell? ⟨B, 2, none⟩ = some (.int .i64 p.rho) := (hW.cell 2).trans q2
  have k3 : w.cell? ⟨B, 3, none⟩ = some (.int .i64 p.hold) := (hW.cell 3).trans q3
  have k4 : w.cell? ⟨B, 4, none⟩ = some (.int .i64 p.grant) := (hW.cell 4).trans q4
  have k5 : w.cell? ⟨B, 5, none⟩ = some (.int .i64 p.guard) := (hW.cell 5).trans q5
  have k6 : w.cell? ⟨B, 6, none⟩ = some (.int .i64 p.work) := (hW.cell 6).trans q6
  have k7 : w.cell? ⟨B, 7, none⟩ = some (.slice a n c) := (hW.cell 7).trans q7
  have k8 : w.cell? ⟨B, 8, none⟩ = some (.slice a' n' c') := (hW.cell 8).trans q8
  have k9 : w.cell? ⟨B, 9, none⟩ = some (.int .i64 p.soak) := (hW.cell 9).trans q9
  have k10 : w.cell? ⟨B, 10, none⟩ = some (.int .i64 p.pass) := (hW.cell 10).trans q10
  obtain ⟨z, hz⟩ : ∃ z, decide p.g0 = z := ⟨_, rfl⟩
  rw [hz]
  have HZ := Lib.hid hz
  clear q0 q1 q2 q3 q4 q5 q6 q7 q8 q9 q10 hW hC hs hd hp hz
  go_enter Try.func56, Try.ntmps56
  go_wp2_with (go_at_call 57; refine (within_any _ _ _ _).mono ?_; rintro e w' ⟨rfl, rfl⟩)
  go_ret
  exact ⟨ret_bool (decG2 Iff.rfl HZ.out), rfl⟩
theorem need3_any {w : World} {S : Nat → Prop} {B : Nat} {C : Array Value} {p : Dr.P} (h : Box w S B C p) :
    Calls Try.prog 59 #[.pointer (some ⟨B, 0, none⟩)] w fun e w' => e = .returned (.bool (decide p.g2)) ∧ w = w' := by
  obtain ⟨hW, hC⟩ := h
  obtain ⟨a, n, c, a', n', c', q0, q1, q2, q3, q4, q5, q6, q7, q8, q9, q10, hnc, hnc', hm', hs, hd, hp⟩ := hC.get
  have k0 : w.cell? ⟨B, 0, none⟩ = some (.int .i64 p.nodes) := (hW.cell 0).trans q0
  have k1 : w.cell? ⟨B, 1, none⟩ = some (.int .i64 p.slots) := (hW.cell 1).trans q1
  have k2 : w.cell? ⟨B, 2, none⟩ = some (.int .i64 p.rho) := (hW.cell 2).trans q2
  have k3 : w.cell? ⟨B, 3, none⟩ = some (.int .i64 p.hold) := (hW.cell 3).trans q3
  have k4 : w.cell? ⟨B, 4, none⟩ = some (.int .i64 p.grant) := (hW.cell 4).trans q4
  have k5 : w.cell? ⟨B, 5, none⟩ = some (.int .i64 p.guard) := (hW.cell 5).trans q5
  have k6 : w.cell? ⟨B, 6, none⟩ = some (.int .i64 p.work) := (hW.cell 6).trans q6
  have k7 : w.cell? ⟨B, 7, none⟩ = some (.slice a n c) := (hW.cell 7).trans q7
  have k8 : w.cell? ⟨B, 8, none⟩ = some (.slice a' n' c') := (hW.cell 8).trans q8
  have k9 : w.cell? ⟨B, 9, none⟩ = some (.int .i64 p.soak) := (hW.cell 9).trans q9
  have k10 : w.cell? ⟨B, 10, none⟩ = some (.int .i64 p.pass) := (hW.cell 10).trans q10
  obtain ⟨z, hz⟩ : ∃ z, decide p.g2 = z := ⟨_, rfl⟩
  rw [hz]
  have HZ := Lib.hid hz
  clear q0 q1 q2 q3 q4 q5 q6 q7 q8 q9 q10 hW hC hs hd hp hz
  go_enter Try.func59, Try.ntmps59
  go_wp2_with (go_at_call 57; refine (within_any _ _ _ _).mono ?_; rintro e w' ⟨rfl, rfl⟩)
  go_ret
  exact ⟨ret_bool (decG2 Iff.rfl HZ.out), rfl⟩
theorem need9_any {w : World} {S : Nat → Prop} {B : Nat} {C : Array Value} {p : Dr.P} (h : Box w S B C p) :
    Calls Try.prog 69 #[.pointer (some ⟨B, 0, none⟩)] w fun e w' => e = .returned (.bool (decide p.g8)) ∧ w = w' := by
  obtain ⟨hW, hC⟩ := h
  obtain ⟨a, n, c, a', n', c', q0, q1, q2, q3, q4, q5, q6, q7, q8, q9, q10, hnc, hnc', hm', hs, hd, hp⟩ := hC.get
  have k0 : w.cell? ⟨B, 0, none⟩ = some (.int .i64 p.nodes) := (hW.cell 0).trans q0
  have k1 : w.cell? ⟨B, 1, none⟩ = some (.int .i64 p.slots) := (hW.cell 1).trans q1
  have k2 : w.cell? ⟨B, 2, none⟩ = some (.int .i64 p.rho) := (hW.cell 2).trans q2
  have k3 : w.cell? ⟨B, 3, none⟩ = some (.int .i64 p.hold) := (hW.cell 3).trans q3
  have k4 : w.cell? ⟨B, 4, none⟩ = some (.int .i64 p.grant) := (hW.cell 4).trans q4
  have k5 : w.cell? ⟨B, 5, none⟩ = some (.int .i64 p.guard) := (hW.cell 5).trans q5
  have k6 : w.cell? ⟨B, 6, none⟩ = some (.int .i64 p.work) := (hW.cell 6).trans q6
  have k7 : w.cell? ⟨B, 7, none⟩ = some (.slice a n c) := (hW.cell 7).trans q7
  have k8 : w.cell? ⟨B, 8, none⟩ = some (.slice a' n' c') := (hW.cell 8).trans q8
  have k9 : w.cell? ⟨B, 9, none⟩ = some (.int .i64 p.soak) := (hW.cell 9).trans q9
  have k10 : w.cell? ⟨B, 10, none⟩ = some (.int .i64 p.pass) := (hW.cell 10).trans q10
  obtain ⟨z, hz⟩ : ∃ z, decide p.g8 = z := ⟨_, rfl⟩
  rw [hz]
  have HZ := Lib.hid hz
  clear q0 q1 q2 q3 q4 q5 q6 q7 q8 q9 q10 hW hC hs hd hp hz
  go_enter Try.func69, Try.ntmps69
  go_wp2_with (go_at_call 57; refine (within_any _ _ _ _).mono ?_; rintro e w' ⟨rfl, rfl⟩)
  go_ret
  exact ⟨ret_bool (decG2 Iff.rfl HZ.out), rfl⟩
theorem need10_any {w : World} {S : Nat → Prop} {B : Nat} {C : Array Value} {p : Dr.P} (h : Box w S B C p) :
    Calls Try.prog 70 #[.pointer (some ⟨B, 0, none⟩)] w fun e w' => e = .returned (.bool (decide p.g9)) ∧ w = w' := by
  obtain ⟨hW, hC⟩ := h
  obtain ⟨a, n, c, a', n', c', q0, q1, q2, q3, q4, q5, q6, q7, q8, q9, q10, hnc, hnc', hm', hs, hd, hp⟩ := hC.get
  have k0 : w.cell? ⟨B, 0, none⟩ = some (.int .i64 p.nodes) := (hW.cell 0).trans q0
  have k1 : w.cell? ⟨B, 1, none⟩ = some (.int .i64 p.slots) := (hW.cell 1).trans q1
  have k2 : w.cell? ⟨B, 2, none⟩ = some (.int .i64 p.rho) := (hW.cell 2).trans q2
  have k3 : w.cell? ⟨B, 3, none⟩ = some (.int .i64 p.hold) := (hW.cell 3).trans q3
  have k4 : w.cell? ⟨B, 4, none⟩ = some (.int .i64 p.grant) := (hW.cell 4).trans q4
  have k5 : w.cell? ⟨B, 5, none⟩ = some (.int .i64 p.guard) := (hW.cell 5).trans q5
  have k6 : w.cell? ⟨B, 6, none⟩ = some (.int .i64 p.work) := (hW.cell 6).trans q6
  have k7 : w.cell? ⟨B, 7, none⟩ = some (.slice a n c) := (hW.cell 7).trans q7
  have k8 : w.cell? ⟨B, 8, none⟩ = some (.slice a' n' c') := (hW.cell 8).trans q8
  have k9 : w.cell? ⟨B, 9, none⟩ = some (.int .i64 p.soak) := (hW.cell 9).trans q9
  have k10 : w.cell? ⟨B, 10, none⟩ = some (.int .i64 p.pass) := (hW.cell 10).trans q10
  obtain ⟨z, hz⟩ : ∃ z, decide p.g9 = z := ⟨_, rfl⟩
  rw [hz]
  have HZ := Lib.hid hz
  clear q0 q1 q2 q3 q4 q5 q6 q7 q8 q9 q10 hW hC hs hd hp hz
  go_enter Try.func70, Try.ntmps70
  go_wp2_with (go_at_call 57; refine (within_any _ _ _ _).mono ?_; rintro e w' ⟨rfl, rfl⟩)
  go_ret
  exact ⟨ret_bool (decG2 Iff.rfl HZ.out), rfl⟩
theorem need2_any {w : World} {S : Nat → Prop} {B : Nat} {C : Array Value} {p : Dr.P} (h : Box w S B C p) :
    Calls Try.prog 58 #[.pointer (some ⟨B, 0, none⟩)] w fun e w' => e = .returned (.bool (decide p.g1)) ∧ w = w' := by
  obtain ⟨hW, hC⟩ := h
  obtain ⟨a, n, c, a', n', c', q0, q1, q2, q3, q4, q5, q6, q7, q8, q9, q10, hnc, hnc', hm', hs, hd, hp⟩ := hC.get
  have k0 : w.cell? ⟨B, 0, none⟩ = some (.int .i64 p.nodes) := (hW.cell 0).trans q0
  have k1 : w.cell? ⟨B, 1, none⟩ = some (.int .i64 p.slots) := (hW.cell 1).trans q1
  have k2 : w.cell? ⟨B, 2, none⟩ = some (.int .i64 p.rho) := (hW.cell 2).trans q2
  have k3 : w.cell? ⟨B, 3, none⟩ = some (.int .i64 p.hold) := (hW.cell 3).trans q3
  have k4 : w.cell? ⟨B, 4, none⟩ = some (.int .i64 p.grant) := (hW.cell 4).trans q4
  have k5 : w.cell? ⟨B, 5, none⟩ = some (.int .i64 p.guard) := (hW.cell 5).trans q5
  have k6 : w.cell? ⟨B, 6, none⟩ = some (.int .i64 p.work) := (hW.cell 6).trans q6
  have k7 : w.cell? ⟨B, 7, none⟩ = some (.slice a n c) := (hW.cell 7).trans q7
  have k8 : w.cell? ⟨B, 8, none⟩ = some (.slice a' n' c') := (hW.cell 8).trans q8
  have k9 : w.cell? ⟨B, 9, none⟩ = some (.int .i64 p.soak) := (hW.cell 9).trans q9
  have k10 : w.cell? ⟨B, 10, none⟩ = some (.int .i64 p.pass) := (hW.cell 10).trans q10
  obtain ⟨z, hz⟩ : ∃ z, decide p.g1 = z := ⟨_, rfl⟩
  rw [hz]
  have HZ := Lib.hid hz
  clear q0 q1 q2 q3 q4 q5 q6 q7 q8 q9 q10 hW hC hs hd hp hz
  go_enter Try.func58, Try.ntmps58
  go_wp2_with (go_at_call 57; refine (within_any _ _ _ _).mono ?_; rintro e w' ⟨rfl, rfl⟩)
  go_ret
  exact ⟨ret_bool (decG2 Iff.rfl HZ.out), rfl⟩
theorem need4_any {w : World} {S : Nat → Prop} {B : Nat} {C : Array Value} {p : Dr.P} (h : Box w S B C p) :
    Calls Try.prog 60 #[.pointer (some ⟨B, 0, none⟩)] w fun e w' => e = .returned (.bool (decide p.g3)) ∧ Below w.heap.size w w' := by
  obtain ⟨hW, hC⟩ := h
  obtain ⟨a, n, c, a', n', c', q0, q1, q2, q3, q4, q5, q6, q7, q8, q9, q10, hnc, hnc', hm', hs, hd, hp⟩ := hC.get
  have k0 : w.cell? ⟨B, 0, none⟩ = some (.int .i64 p.nodes) := (hW.cell 0).trans q0
  have k1 : w.cell? ⟨B, 1, none⟩ = some (.int .i64 p.slots) := (hW.cell 1).trans q1
  have k2 : w.cell? ⟨B, 2, none⟩ = some (.int .i64 p.rho) := (hW.cell 2).trans q2
  have k3 : w.cell? ⟨B, 3, none⟩ = some (.int .i64 p.hold) := (hW.cell 3).trans q3
  have k4 : w.cell? ⟨B, 4, none⟩ = some (.int .i64 p.grant) := (hW.cell 4).trans q4
  have k5 : w.cell? ⟨B, 5, none⟩ = some (.int .i64 p.guard) := (hW.cell 5).trans q5
  have k6 : w.cell? ⟨B, 6, none⟩ = some (.int .i64 p.work) := (hW.cell 6).trans q6
  have k7 : w.cell? ⟨B, 7, none⟩ = some (.slice a n c) := (hW.cell 7).trans q7
  have k8 : w.cell? ⟨B, 8, none⟩ = some (.slice a' n' c') := (hW.cell 8).trans q8
  have k9 : w.cell? ⟨B, 9, none⟩ = some (.int .i64 p.soak) := (hW.cell 9).trans q9
  have k10 : w.cell? ⟨B, 10, none⟩ = some (.int .i64 p.pass) := (hW.cell 10).trans q10
  obtain ⟨z, hz⟩ : ∃ z, decide p.g3 = z := ⟨_, rfl⟩
  rw [hz]
  have HZ := Lib.hid hz
  clear q0 q1 q2 q3 q4 q5 q6 q7 q8 q9 q10 hW hC hs hd hz
  have hin : ∀ x ∈ [p.hold, p.grant, p.guard, p.work], In64 x := by
    obtain ⟨_, _, _, p3, p4, p5, p6, _⟩ := hp
    intro x hx
    simp only [List.mem_cons, List.not_mem_nil, or_false] at hx
    rcases hx with rfl | rfl | rfl | rfl <;> assumption
  have hns : Ns (w.alloc (.cells (ints [p.hold, p.grant, p.guard, p.work]).toArray 2)) (fun _ => True) (some ⟨w.heap.size, 0, none⟩) 4 [p.hold, p.grant, p.guard, p.work] := ns_whole (Whole.new w _ _) trivial hin
  have hb := below_alloc w (.cells (ints [p.hold, p.grant, p.guard, p.work]).toArray 2)
  have HN := Lib.hid (And.intro hns hb)
  clear hp hin hns hb
  go_enter Try.func60, Try.ntmps60
  go_wp2_with (go_at_call 61; refine (times_any HN.out.1).mono ?_; rintro e w' ⟨rfl, rfl⟩)
  go_ret
  exact ⟨ret_bool (decG4 Iff.rfl HZ.out), HN.out.2⟩
set_option maxHeartbeats 1000000 in
theorem need6_any {w : World} {S : Nat → Prop} {B : Nat} {C : Array Value} {p : Dr.P} (h : Box w S B C p) (h2 : p.g2) :
    Calls Try.prog 63 #[.pointer (some ⟨B, 0, none⟩)] w fun e w' => e = .returned (.bool (decide p.g5)) ∧ Below w.heap.size w w' := by
  obtain ⟨hW, hC⟩ := h
  obtain ⟨a, n, c, a', n', c', q0, q1, q2, q3, q4, q5, q6, q7, q8, q9, q10, hnc, hnc', hm', hs, hd, hp⟩ := hC.get
  have k0 : w.cell? ⟨B, 0, none⟩ = some (.int .i64 p.nodes) := (hW.cell 0).trans q0
  have k1 : w.cell? ⟨B, 1, none⟩ = some (.int .i64 p.slots) := (hW.cell 1).trans q1
  have k2 : w.cell? ⟨B, 2, none⟩ = some (.int .i64 p.rho) := (hW.cell 2).trans q2
  have k3 : w.cell? ⟨B, 3, none⟩ = some (.int .i64 p.hold) := (hW.cell 3).trans q3
  have k4 : w.cell? ⟨B, 4, none⟩ = some (.int .i64 p.grant) := (hW.cell 4).trans q4
  have k5 : w.cell? ⟨B, 5, none⟩ = some (.int .i64 p.guard) := (hW.cell 5).trans q5
  have k6 : w.cell? ⟨B, 6, none⟩ = some (.int .i64 p.work) := (hW.cell 6).trans q6
  have k7 : w.cell? ⟨B, 7, none⟩ = some (.slice a n c) := (hW.cell 7).trans q7
  have k8 : w.cell? ⟨B, 8, none⟩ = some (.slice a' n' c') := (hW.cell 8).trans q8
  have k9 : w.cell? ⟨B, 9, none⟩ = some (.int .i64 p.soak) := (hW.cell 9).trans q9
  have k10 : w.cell? ⟨B, 10, none⟩ = some (.int .i64 p.pass) := (hW.cell 10).trans q10
  obtain ⟨z, hz⟩ : ∃ z, decide p.g5 = z := ⟨_, rfl⟩
  rw [hz]
  have HZ := Lib.hid hz
  have h11 := hC.size
  have HW : Hid (Whole w.drew B 24 C ∧ Cc w.drew (fun b => b < w.heap.size) C p ∧ Below w.heap.size w w.drew) := Lib.hid ⟨hW.keep rfl, hC.old.keep (Nat.le_refl _) (fun _ _ _ => rfl), (Below.refl _ _).drew⟩
  have H2 := Lib.hid h2
  clear hW hC hs hd hz hp k0 k1 k2 k3 k4 k5 k6 k7 k8 k9 k10 h2
  go_enter Try.func63, Try.ntmps63
  go_upto_region 1 with fail
  refine wp_region_held_drew (S := fun z => Whole z B 24 C) (by kernel_rfl) HW.out.1 (fun hHeld => ?_)
  have hz0 : w.drew.heap.size = w.heap.size := rfl
  generalize w.drew = w0 at *
  refine wpAnyH_take (i := 0) (v := .pointer (some ⟨B, 5, none⟩)) rfl (by kernel_rfl) (by kernel_rfl) (by kernel_rfl) (fun _ _ _ h => h) (Or.inl ⟨by rfl, (by intro w hSw; (try dsimp only at hSw); go_simp)⟩) (by assumption) ?_
  try simp only [Act.put, List.getElem_toArray, List.getElem_cons_zero, List.getElem_cons_succ, List.setIfInBounds_toArray, List.set_cons_zero, List.set_cons_succ]
  refine wpAnyH_take (i := 1) (v := .int .i64 p.guard) rfl (by kernel_rfl) (by kernel_rfl) (by kernel_rfl) (fun _ _ _ h => h) (Or.inl ⟨by rfl, (by intro w hSw; have hq : w.cell? ⟨B, 5, none⟩ = some (.int .i64 p.guard) := (hSw.cell 5).trans q5; clear hSw; go_simp)⟩) (by assumption) ?_
  try simp only [Act.put, List.getElem_toArray, List.getElem_cons_zero, List.getElem_cons_succ, List.setIfInBounds_toArray, List.set_cons_zero, List.set_cons_succ]
  refine wpAnyH_take (i := 2) (v := .agg C) rfl (by kernel_rfl) (by kernel_rfl) (by kernel_rfl) (fun _ _ _ h => h) (yields_plan (by rfl) _ rfl _ rfl _ (fun w h => h) h11) (by assumption) ?_
  try simp only [Act.put, List.getElem_toArray, List.getElem_cons_zero, List.getElem_cons_succ, List.setIfInBounds_toArray, List.set_cons_zero, List.set_cons_succ]
  refine wpAnyH_ready (rs := [3]) (by kernel_rfl) (by simp) (AllReadyH.cons rfl (fun K hK => ?_) AllReadyH.nil)
  try simp only [List.getElem_toArray, List.getElem_cons_zero, List.getElem_cons_succ]
  go_simp
  go_at_call 44
  refine (fast_any HW.out.2.1 H2.out).mono ?_
  rintro e w1 ⟨rfl, hb1⟩
  refine hK.out _ _ (HW.out.1.below hb1 HW.out.1.lt) (fun hHeld => ?_)
  clear hK K
  try simp only [Act.put, List.getElem_toArray, List.getElem_cons_zero, List.getElem_cons_succ, List.setIfInBounds_toArray, List.set_cons_zero, List.set_cons_succ]
  have HB := Lib.hid (HW.out.2.2.trans (hb1.mono (Nat.le_of_eq hz0.symm)))
  clear hb1
  refine wpAnyH_take (i := 4) (v := .bool (decide (p.fast ≤ p.guard))) rfl (by kernel_rfl) (by kernel_rfl) (by kernel_rfl) (fun _ _ _ h => h) (Or.inl ⟨by rfl, (by intro w hSw; (try dsimp only at hSw); go_simp)⟩) (by assumption) ?_
  try simp only [Act.put, List.getElem_toArray, List.getElem_cons_zero, List.getElem_cons_succ, List.setIfInBounds_toArray, List.set_cons_zero, List.set_cons_succ]
  refine wpAnyH_take (i := 5) (v := .bool (decide (p.fast ≤ p.guard))) rfl (by kernel_rfl) (by kernel_rfl) (by kernel_rfl) (fun _ _ _ h => h) (Or.inl ⟨by rfl, (by intro w hSw; (try dsimp only at hSw); go_simp)⟩) (by assumption) ?_
  try simp only [Act.put, List.getElem_toArray, List.getElem_cons_zero, List.getElem_cons_succ, List.setIfInBounds_toArray, List.set_cons_zero, List.set_cons_succ]
  refine wpAnyH_done (by kernel_rfl) ?_ _
  go_wp2
  go_ret
  exact ⟨ret_bool (decG Iff.rfl HZ.out), HB.out⟩
theorem mul_small {x y a b : Int} (h1 : 1 ≤ x) (h2 : x ≤ 1073741824) (h3 : 500 ≤ y) (h4 : y ≤ 1500) : 0 ≤ x * y ∧ x * y ≤ 1610612736000 := by
  refine ⟨Int.mul_nonneg (by omega) (by omega), ?_⟩
  have := Int.mul_le_mul h2 h4 (by omega) (by omega)
  omega
set_option maxHeartbeats 2000000 in
theorem need5_any {w : World} {S : Nat → Prop} {B : Nat} {C : Array Value} {p : Dr.P} (h : Box w S B C p) (h2 : p.g2) (h3 : p.g3) :
    Calls Try.prog 62 #[.pointer (some ⟨B, 0, none⟩)] w fun e w' => e = .returned (.bool (decide p.g4)) ∧ Below w.heap.size w w' := by
  obtain ⟨hW, hC⟩ := h
  obtain ⟨a, n, c, a', n', c', q0, q1, q2, q3, q4, q5, q6, q7, q8, q9, q10, hnc, hnc', hm', hs, hd, hp⟩ := hC.get
  have k0 : w.cell? ⟨B, 0, none⟩ = some (.int .i64 p.nodes) := (hW.cell 0).trans q0
  have k1 : w.cell? ⟨B, 1, none⟩ = some (.int .i64 p.slots) := (hW.cell 1).trans q1
  have k2 : w.cell? ⟨B, 2, none⟩ = some (.int .i64 p.rho) := (hW.cell 2).trans q2
  have k3 : w.cell? ⟨B, 3, none⟩ = some (.int .i64 p.hold) := (hW.cell 3).trans q3
  have k4 : w.cell? ⟨B, 4, none⟩ = some (.int .i64 p.grant) := (hW.cell 4).trans q4
  have k5 : w.cell? ⟨B, 5, none⟩ = some (.int .i64 p.guard) := (hW.cell 5).trans q5
  have k6 : w.cell? ⟨B, 6, none⟩ = some (.int .i64 p.work) := (hW.cell 6).trans q6
  have k7 : w.cell? ⟨B, 7, none⟩ = some (.slice a n c) := (hW.cell 7).trans q7
  have k8 : w.cell? ⟨B, 8, none⟩ = some (.slice a' n' c') := (hW.cell 8).trans q8
  have k9 : w.cell? ⟨B, 9, none⟩ = some (.int .i64 p.soak) := (hW.cell 9).trans q9
  have k10 : w.cell? ⟨B, 10, none⟩ = some (.int .i64 p.pass) := (hW.cell 10).trans q10
  obtain ⟨z, hz⟩ : ∃ z, decide p.g4 = z := ⟨_, rfl⟩
  rw [hz]
  have HZ := Lib.hid hz
  have h11 := hC.size
  have HW : Hid (Whole w.drew B 24 C ∧ Cc w.drew (fun b => b < w.heap.size) C p ∧ Below w.heap.size w w.drew) := Lib.hid ⟨hW.keep rfl, hC.old.keep (Nat.le_refl _) (fun _ _ _ => rfl), (Below.refl _ _).drew⟩
  have H2 := Lib.hid h2
  obtain ⟨F, hF⟩ : ∃ F, p.fast = F := ⟨_, rfl⟩
  obtain ⟨L, hL⟩ : ∃ L, p.slow = L := ⟨_, rfl⟩
  obtain ⟨x, hx⟩ : ∃ x, p.hold * F = x := ⟨_, rfl⟩
  obtain ⟨y, hy⟩ : ∃ y, p.grant * L = y := ⟨_, rfl⟩
  have hFL : 500 ≤ F ∧ F ≤ 1500 ∧ 500 ≤ L ∧ L ≤ 1500 := by
    unfold Dr.P.fast at hF
    unfold Dr.P.slow at hL
    obtain ⟨r0, r1⟩ := h2
    omega
  have hx1 := mul_small (a := 0) (b := 0) h3.1.1 h3.1.2 hFL.1 hFL.2.1
  have hy1 := mul_small (a := 0) (b := 0) h3.2.1.1 h3.2.1.2 hFL.2.2.1 hFL.2.2.2
  rw [hx] at hx1
  rw [hy] at hy1
  have ex : IntKind.i64.wrap (p.hold * F) = x := by rw [hx]; exact IntWalk.i64_in _ (by omega)
  have ey : IntKind.i64.wrap (p.grant * L) = y := by rw [hy]; exact IntWalk.i64_in _ (by omega)
  have HE : Hid (p.g4 ↔ x < y) := Lib.hid (by unfold Dr.P.g4; rw [← hx, ← hy, ← hF, ← hL]; exact Iff.rfl)
  have HF := Lib.hid hF
  have HL := Lib.hid hL
  have EX := Lib.hid ex
  have EY := Lib.hid ey
  clear hW hC hs hd hz hp k0 k1 k2 k3 k4 k5 k6 k7 k8 k9 k10 h2 h3 hF hL hx hy hx1 hy1 ex ey hFL
  go_enter Try.func62, Try.ntmps62
  go_upto_region 1 with fail
  refine wp_region_held_drew (S := fun z => Whole z B 24 C) (by kernel_rfl) HW.out.1 (fun hHeld => ?_)
  have hz0 : w.drew.heap.size = w.heap.size := rfl
  generalize w.drew = w0 at *
  refine wpAnyH_take (i := 0) (v := .pointer (some ⟨B, 3, none⟩)) rfl (by kernel_rfl) (by kernel_rfl) (by kernel_rfl) (fun _ _ _ h => h) (Or.inl ⟨by rfl, (by intro w hSw; (try dsimp only at hSw); go_simp)⟩) (by assumption) ?_
  try simp only [Act.put, List.getElem_toArray, List.getElem_cons_zero, List.getElem_cons_succ, List.setIfInBounds_toArray, List.set_cons_zero, List.set_cons_succ]
  refine wpAnyH_take (i := 1) (v := .int .i64 p.hold) rfl (by kernel_rfl) (by kernel_rfl) (by kernel_rfl) (fun _ _ _ h => h) (Or.inl ⟨by rfl, (by intro w hSw; have hq : w.cell? ⟨B, 3, none⟩ = some (.int .i64 p.hold) := (hSw.cell 3).trans q3; clear hSw; go_simp)⟩) (by assumption) ?_
  try simp only [Act.put, List.getElem_toArray, List.getElem_cons_zero, List.getElem_cons_succ, List.setIfInBounds_toArray, List.set_cons_zero, List.set_cons_succ]
  refine wpAnyH_take (i := 2) (v := .agg C) rfl (by kernel_rfl) (by kernel_rfl) (by kernel_rfl) (fun _ _ _ h => h) (yields_plan (by rfl) _ rfl _ rfl _ (fun w h => h) h11) (by assumption) ?_
  try simp only [Act.put, List.getElem_toArray, List.getElem_cons_zero, List.getElem_cons_succ, List.setIfInBounds_toArray, List.set_cons_zero, List.set_cons_succ]
  refine wpAnyH_take (i := 5) (v := .pointer (some ⟨B, 4, none⟩)) rfl (by kernel_rfl) (by kernel_rfl) (by kernel_rfl) (fun _ _ _ h => h) (Or.inl ⟨by rfl, (by intro w hSw; (try dsimp only at hSw); go_simp)⟩) (by assumption) ?_
  try simp only [Act.put, List.getElem_toArray, List.getElem_cons_zero, List.getElem_cons_succ, List.setIfInBounds_toArray, List.set_cons_zero, List.set_cons_succ]
  refine wpAnyH_take (i := 6) (v := .int .i64 p.grant) rfl (by kernel_rfl) (by kernel_rfl) (by kernel_rfl) (fun _ _ _ h => h) (Or.inl ⟨by rfl, (by intro w hSw; have hq : w.cell? ⟨B, 4, none⟩ = some (.int .i64 p.grant) := (hSw.cell 4).trans q4; clear hSw; go_simp)⟩) (by assumption) ?_
  try simp only [Act.put, List.getElem_toArray, List.getElem_cons_zero, List.getElem_cons_succ, List.setIfInBounds_toArray, List.set_cons_zero, List.set_cons_succ]
  refine wpAnyH_take (i := 7) (v := .agg C) rfl (by kernel_rfl) (by kernel_rfl) (by kernel_rfl) (fun _ _ _ h => h) (yields_plan (by rfl) _ rfl _ rfl _ (fun w h => h) h11) (by assumption) ?_
  try simp only [Act.put, List.getElem_toArray, List.getElem_cons_zero, List.getElem_cons_succ, List.setIfInBounds_toArray, List.set_cons_zero, List.set_cons_succ]
  refine wpAnyH_ready (rs := [3]) (by kernel_rfl) (by simp) (AllReadyH.cons rfl (fun K hK => ?_) AllReadyH.nil)
  try simp only [List.getElem_toArray, List.getElem_cons_zero, List.getElem_cons_succ]
  go_simp
  go_at_call 44
  refine (fast_any HW.out.2.1 H2.out).mono ?_
  rintro e w1 ⟨rfl, hb1⟩
  rw [HF.out]
  refine hK.out _ _ (HW.out.1.below hb1 HW.out.1.lt) (fun hHeld => ?_)
  clear hK K
  try simp only [Act.put, List.getElem_toArray, List.getElem_cons_zero, List.getElem_cons_succ, List.setIfInBounds_toArray, List.set_cons_zero, List.set_cons_succ]
  have HB := Lib.hid (And.intro (HW.out.2.2.trans (hb1.mono (Nat.le_of_eq hz0.symm))) (And.intro (HW.out.2.1.on hb1) (And.intro (HW.out.1.below hb1 HW.out.1.lt) hb1.size)))
  clear hb1
  refine wpAnyH_take (i := 4) (v := .int .i64 x) rfl (by kernel_rfl) (by kernel_rfl) (by kernel_rfl) (fun _ _ _ h => h) (Or.inl ⟨by rfl, (by intro w hSw; clear hSw; go_simp; exact EX.out)⟩) (by assumption) ?_
  try simp only [Act.put, List.getElem_toArray, List.getElem_cons_zero, List.getElem_cons_succ, List.setIfInBounds_toArray, List.set_cons_zero, List.set_cons_succ]
  refine wpAnyH_ready (rs := [8]) (by kernel_rfl) (by simp) (AllReadyH.cons rfl (fun K hK => ?_) AllReadyH.nil)
  try simp only [List.getElem_toArray, List.getElem_cons_zero, List.getElem_cons_succ]
  go_simp
  go_at_call 43
  refine (slow_any HB.out.2.1 H2.out).mono ?_
  rintro e w2 ⟨rfl, hb2⟩
  rw [HL.out]
  refine hK.out _ _ (HB.out.2.2.1.below hb2 HB.out.2.2.1.lt) (fun hHeld => ?_)
  clear hK K
  try simp only [Act.put, List.getElem_toArray, List.getElem_cons_zero, List.getElem_cons_succ, List.setIfInBounds_toArray, List.set_cons_zero, List.set_cons_succ]
  have HB2 := Lib.hid (HB.out.1.trans (hb2.mono HB.out.1.size))
  clear hb2
  refine wpAnyH_take (i := 9) (v := .int .i64 y) rfl (by kernel_rfl) (by kernel_rfl) (by kernel_rfl) (fun _ _ _ h => h) (Or.inl ⟨by rfl, (by intro w hSw; clear hSw; go_simp; exact EY.out)⟩) (by assumption) ?_
  try simp only [Act.put, List.getElem_toArray, List.getElem_cons_zero, List.getElem_cons_succ, List.setIfInBounds_toArray, List.set_cons_zero, List.set_cons_succ]
  refine wpAnyH_take (i := 10) (v := .bool (decide (x < y))) rfl (by kernel_rfl) (by kernel_rfl) (by kernel_rfl) (fun _ _ _ h => h) (Or.inl ⟨by rfl, (by intro w hSw; (try dsimp only at hSw); go_simp)⟩) (by assumption) ?_
  try simp only [Act.put, List.getElem_toArray, List.getElem_cons_zero, List.getElem_cons_succ, List.setIfInBounds_toArray, List.set_cons_zero, List.set_cons_succ]
  refine wpAnyH_take (i := 11) (v := .bool (decide (x < y))) rfl (by kernel_rfl) (by kernel_rfl) (by kernel_rfl) (fun _ _ _ h => h) (Or.inl ⟨by rfl, (by intro w hSw; (try dsimp only at hSw); go_simp)⟩) (by assumption) ?_
  try simp only [Act.put, List.getElem_toArray, List.getElem_cons_zero, List.getElem_cons_succ, List.setIfInBounds_toArray, List.set_cons_zero, List.set_cons_succ]
  refine wpAnyH_done (by kernel_rfl) ?_ _
  go_wp2
  go_ret
  exact ⟨ret_bool (decG HE.out.symm HZ.out), HB2.out⟩
theorem need7_any {w : World} {S : Nat → Prop} {B : Nat} {C : Array Value} {p : Dr.P} (h : Box w S B C p) (h0 : p.g0) :
    Calls Try.prog 64 #[.pointer (some ⟨B, 0, none⟩)] w fun e w' => e = .returned (.bool (decide p.g6)) ∧ w = w' := by
  obtain ⟨hW, hC⟩ := h
  obtain ⟨a, n, c, a', n', c', q0, q1, q2, q3, q4, q5, q6, q7, q8, q9, q10, hnc, hnc', hm', hs, hd, hp⟩ := hC.get
  have k0 : w.cell? ⟨B, 0, none⟩ = some (.int .i64 p.nodes) := (hW.cell 0).trans q0
  have k1 : w.cell? ⟨B, 1, none⟩ = some (.int .i64 p.slots) := (hW.cell 1).trans q1
  have k2 : w.cell? ⟨B, 2, none⟩ = some (.int .i64 p.rho) := (hW.cell 2).trans q2
  have k3 : w.cell? ⟨B, 3, none⟩ = some (.int .i64 p.hold) := (hW.cell 3).trans q3
  have k4 : w.cell? ⟨B, 4, none⟩ = some (.int .i64 p.grant) := (hW.cell 4).trans q4
  have k5 : w.cell? ⟨B, 5, none⟩ = some (.int .i64 p.guard) := (hW.cell 5).trans q5
  have k6 : w.cell? ⟨B, 6, none⟩ = some (.int .i64 p.work) := (hW.cell 6).trans q6
  have k7 : w.cell? ⟨B, 7, none⟩ = some (.slice a n c) := (hW.cell 7).trans q7
  have k8 : w.cell? ⟨B, 8, none⟩ = some (.slice a' n' c') := (hW.cell 8).trans q8
  have k9 : w.cell? ⟨B, 9, none⟩ = some (.int .i64 p.soak) := (hW.cell 9).trans q9
  have k10 : w.cell? ⟨B, 10, none⟩ = some (.int .i64 p.pass) := (hW.cell 10).trans q10
  obtain ⟨z, hz⟩ : ∃ z, decide p.g6 = z := ⟨_, rfl⟩
  rw [hz]
  have HZ := Lib.hid hz
  have HS := Lib.hid hs
  have hl := hs.1
  obtain ⟨g0, g1⟩ := h0
  by_cases hn : (n : Int) = p.nodes
  · have d1 : ((n : Int) == p.nodes) = true := by simp [hn]
    have hn0 : 0 < n := by omega
    have hN : n ≤ 1000 := by omega
    have HE : Hid (decide (∀ k, k < p.stages.length → 0 ≤ p.stages.getD k 0 ∧ p.stages.getD k 0 < 4) = z) := Lib.hid (decG (by unfold Dr.P.g6; rw [hl]; exact ⟨fun h => ⟨hn, h⟩, fun h => h.2⟩) hz)
    clear q0 q1 q2 q3 q4 q5 q6 q7 q8 q9 q10 hW hC hs hd hz hp hn hl
    go_enter Try.func64, Try.ntmps64
    go_wp2_with (go_at_call 65; refine (stages_any HS.out hn0 hN).mono ?_; rintro e w' ⟨rfl, rfl⟩; rw [HE.out])
    go_ret
    exact ⟨rfl, rfl⟩
  · have d1 : ((n : Int) == p.nodes) = false := by simp [hn]
    have HE : Hid (z = false) := Lib.hid (hz.symm.trans (decide_eq_false (by unfold Dr.P.g6; rw [hl]; exact fun h => hn h.1)))
    clear q0 q1 q2 q3 q4 q5 q6 q7 q8 q9 q10 hW hC hs hd hz hp hn hl
    go_enter Try.func64, Try.ntmps64
    go_wp2_with fail
    go_ret
    exact ⟨ret_bool HE.out.symm, rfl⟩
set_option maxHeartbeats 2000000 in
theorem need8_any {w : World} {S : Nat → Prop} {B : Nat} {C : Array Value} {p : Dr.P} (h : Box w S B C p) (h0 : p.g0) (h6 : p.g6) :
    Calls Try.prog 66 #[.pointer (some ⟨B, 0, none⟩)] w fun e w' => e = .returned (.bool (decide p.g7)) ∧ Below w.heap.size w w' := by
  obtain ⟨hW, hC⟩ := h
  obtain ⟨a, n, c, a', n', c', q0, q1, q2, q3, q4, q5, q6, q7, q8, q9, q10, hnc, hnc', hm', hs, hd, hp⟩ := hC.get
  have k0 : w.cell? ⟨B, 0, none⟩ = some (.int .i64 p.nodes) := (hW.cell 0).trans q0
  have k1 : w.cell? ⟨B, 1, none⟩ = some (.int .i64 p.slots) := (hW.cell 1).trans q1
  have k2 : w.cell? ⟨B, 2, none⟩ = some (.int .i64 p.rho) := (hW.cell 2).trans q2
  have k3 : w.cell? ⟨B, 3, none⟩ = some (.int .i64 p.hold) := (hW.cell 3).trans q3
  have k4 : w.cell? ⟨B, 4, none⟩ = some (.int .i64 p.grant) := (hW.cell 4).trans q4
  have k5 : w.cell? ⟨B, 5, none⟩ = some (.int .i64 p.guard) := (hW.cell 5).trans q5
  have k6 : w.cell? ⟨B, 6, none⟩ = some (.int .i64 p.work) := (hW.cell 6).trans q6
  have k7 : w.cell? ⟨B, 7, none⟩ = some (.slice a n c) := (hW.cell 7).trans q7
  have k8 : w.cell? ⟨B, 8, none⟩ = some (.slice a' n' c') := (hW.cell 8).trans q8
  have k9 : w.cell? ⟨B, 9, none⟩ = some (.int .i64 p.soak) := (hW.cell 9).trans q9
  have k10 : w.cell? ⟨B, 10, none⟩ = some (.int .i64 p.pass) := (hW.cell 10).trans q10
  obtain ⟨z, hz⟩ : ∃ z, decide p.g7 = z := ⟨_, rfl⟩
  rw [hz]
  have HZ := Lib.hid hz
  have hl := hs.1
  have hl' := hd.1
  have ht := Dr.P.top_lo h6 h0
  have hn0 : 0 < n := by have := h6.1; have := h0.1; omega
  have hN : n ≤ 1000 := by have := h6.1; have := h0.2; omega
  obtain ⟨m, hm⟩ : ∃ m, p.top = m := ⟨_, rfl⟩
  rw [hm] at ht
  obtain ⟨t0, t1⟩ := ht
  have HM : Hid (Dr.mx p.stages (n - 1) = m) := Lib.hid (by rw [← hm, ← hl]; rfl)
  have HW : Hid (Whole w.drew B 24 C ∧ Ns w.drew (fun b => b < w.heap.size) a n p.stages ∧ Ns w.drew (fun b => b < w.heap.size) a' n' p.needs ∧ Below w.heap.size w w.drew) := Lib.hid ⟨hW.keep rfl, hs.old.keep (Nat.le_refl _) (fun _ _ _ => rfl), hd.old.keep (Nat.le_refl _) (fun _ _ _ => rfl), (Below.refl _ _).drew⟩
  have H6 := Lib.hid h6
  have em : IntKind.i64.wrap (m + 1) = m + 1 := IntWalk.i64_in _ (by omega)
  by_cases hn : (n' : Int) = m + 1
  · have d1 : ((n' : Int) == m + 1) = true := by simp [hn]
    have h4 : n' ≤ 4 := by omega
    have HE : Hid (decide (∀ k, k < p.needs.length → 0 ≤ p.needs.getD k 0 ∧ p.needs.getD k 0 ≤ Dr.cn p.stages (k : Int) p.stages.length) = z) := Lib.hid (decG (by unfold Dr.P.g7; rw [hl', hm]; unfold Dr.P.met; rw [hl']; exact ⟨fun h => ⟨hn, h⟩, fun h => h.2⟩) hz)
    clear hW hC hs hd hz hp hn hl hl' hm h0 h6 k0 k1 k2 k3 k4 k5 k6 k7 k8 k9 k10
    go_enter Try.func66, Try.ntmps66
    go_upto_region 1 with fail
    refine wp_region_held_drew (S := fun z => Whole z B 24 C) (by kernel_rfl) HW.out.1 (fun hHeld => ?_)
    have hz0 : w.drew.heap.size = w.heap.size := rfl
    generalize w.drew = w0 at *
    refine wpAnyH_take (i := 0) (v := .pointer (some ⟨B, 8, none⟩)) rfl (by kernel_rfl) (by kernel_rfl) (by kernel_rfl) (fun _ _ _ h => h) (Or.inl ⟨by rfl, (by intro w hSw; (try dsimp only at hSw); go_simp)⟩) (by assumption) ?_
    try simp only [Act.put, List.getElem_toArray, List.getElem_cons_zero, List.getElem_cons_succ, List.setIfInBounds_toArray, List.set_cons_zero, List.set_cons_succ]
    refine wpAnyH_take (i := 1) (v := .slice a' n' c') rfl (by kernel_rfl) (by kernel_rfl) (by kernel_rfl) (fun _ _ _ h => h) (Or.inl ⟨by rfl, (by intro w hSw; have hq : w.cell? ⟨B, 8, none⟩ = some (.slice a' n' c') := (hSw.cell 8).trans q8; clear hSw; go_simp)⟩) (by assumption) ?_
    try simp only [Act.put, List.getElem_toArray, List.getElem_cons_zero, List.getElem_cons_succ, List.setIfInBounds_toArray, List.set_cons_zero, List.set_cons_succ]
    refine wpAnyH_take (i := 2) (v := .int .i64 n') rfl (by kernel_rfl) (by kernel_rfl) (by kernel_rfl) (fun _ _ _ h => h) (Or.inl ⟨by rfl, (by intro w hSw; (try dsimp only at hSw); go_simp)⟩) (by assumption) ?_
    try simp only [Act.put, List.getElem_toArray, List.getElem_cons_zero, List.getElem_cons_succ, List.setIfInBounds_toArray, List.set_cons_zero, List.set_cons_succ]
    refine wpAnyH_take (i := 3) (v := .pointer (some ⟨B, 7, none⟩)) rfl (by kernel_rfl) (by kernel_rfl) (by kernel_rfl) (fun _ _ _ h => h) (Or.inl ⟨by rfl, (by intro w hSw; (try dsimp only at hSw); go_simp)⟩) (by assumption) ?_
    try simp only [Act.put, List.getElem_toArray, List.getElem_cons_zero, List.getElem_cons_succ, List.setIfInBounds_toArray, List.set_cons_zero, List.set_cons_succ]
    refine wpAnyH_take (i := 4) (v := .slice a n c) rfl (by kernel_rfl) (by kernel_rfl) (by kernel_rfl) (fun _ _ _ h => h) (Or.inl ⟨by rfl, (by intro w hSw; have hq : w.cell? ⟨B, 7, none⟩ = some (.slice a n c) := (hSw.cell 7).trans q7; clear hSw; go_simp)⟩) (by assumption) ?_
    try simp only [Act.put, List.getElem_toArray, List.getElem_cons_zero, List.getElem_cons_succ, List.setIfInBounds_toArray, List.set_cons_zero, List.set_cons_succ]
    refine wpAnyH_ready (rs := [5]) (by kernel_rfl) (by simp) (AllReadyH.cons rfl (fun K hK => ?_) AllReadyH.nil)
    try simp only [List.getElem_toArray, List.getElem_cons_zero, List.getElem_cons_succ]
    go_simp
    go_at_call 67
    refine (tell_67 HW.out.2.1 hn0 hN).mono ?_
    rintro e w1 ⟨rfl, rfl⟩
    rw [HM.out]
    refine hK.out _ _ HW.out.1 (fun hHeld => ?_)
    clear hK K
    try simp only [Act.put, List.getElem_toArray, List.getElem_cons_zero, List.getElem_cons_succ, List.setIfInBounds_toArray, List.set_cons_zero, List.set_cons_succ]
    refine wpAnyH_take (i := 6) (v := .int .i64 (m + 1)) rfl (by kernel_rfl) (by kernel_rfl) (by kernel_rfl) (fun _ _ _ h => h) (Or.inl ⟨by rfl, (by intro w hSw; (try dsimp only at hSw); go_simp)⟩) (by assumption) ?_
    try simp only [Act.put, List.getElem_toArray, List.getElem_cons_zero, List.getElem_cons_succ, List.setIfInBounds_toArray, List.set_cons_zero, List.set_cons_succ]
    refine wpAnyH_take (i := 7) (v := .bool true) rfl (by kernel_rfl) (by kernel_rfl) (by kernel_rfl) (fun _ _ _ h => h) (Or.inl ⟨by rfl, (by intro w hSw; (try dsimp only at hSw); go_simp)⟩) (by assumption) ?_
    try simp only [Act.put, List.getElem_toArray, List.getElem_cons_zero, List.getElem_cons_succ, List.setIfInBounds_toArray, List.set_cons_zero, List.set_cons_succ]
    refine wpAnyH_take (i := 8) (v := .bool true) rfl (by kernel_rfl) (by kernel_rfl) (by kernel_rfl) (fun _ _ _ h => h) (Or.inl ⟨by rfl, (by intro w hSw; (try dsimp only at hSw); go_simp)⟩) (by assumption) ?_
    try simp only [Act.put, List.getElem_toArray, List.getElem_cons_zero, List.getElem_cons_succ, List.setIfInBounds_toArray, List.set_cons_zero, List.set_cons_succ]
    refine wpAnyH_take (i := 9) (v := .pointer (some ⟨B, 8, none⟩)) rfl (by kernel_rfl) (by kernel_rfl) (by kernel_rfl) (fun _ _ _ h => h) (Or.inl ⟨by rfl, (by intro w hSw; (try dsimp only at hSw); go_simp)⟩) (by assumption) ?_
    try simp only [Act.put, List.getElem_toArray, List.getElem_cons_zero, List.getElem_cons_succ, List.setIfInBounds_toArray, List.set_cons_zero, List.set_cons_succ]
    refine wpAnyH_take (i := 10) (v := .slice a' n' c') rfl (by kernel_rfl) (by kernel_rfl) (by kernel_rfl) (fun _ _ _ h => h) (Or.inl ⟨by rfl, (by intro w hSw; have hq : w.cell? ⟨B, 8, none⟩ = some (.slice a' n' c') := (hSw.cell 8).trans q8; clear hSw; go_simp)⟩) (by assumption) ?_
    try simp only [Act.put, List.getElem_toArray, List.getElem_cons_zero, List.getElem_cons_succ, List.setIfInBounds_toArray, List.set_cons_zero, List.set_cons_succ]
    refine wpAnyH_take (i := 11) (v := .pointer (some ⟨B, 7, none⟩)) rfl (by kernel_rfl) (by kernel_rfl) (by kernel_rfl) (fun _ _ _ h => h) (Or.inl ⟨by rfl, (by intro w hSw; (try dsimp only at hSw); go_simp)⟩) (by assumption) ?_
    try simp only [Act.put, List.getElem_toArray, List.getElem_cons_zero, List.getElem_cons_succ, List.setIfInBounds_toArray, List.set_cons_zero, List.set_cons_succ]
    refine wpAnyH_take (i := 12) (v := .slice a n c) rfl (by kernel_rfl) (by kernel_rfl) (by kernel_rfl) (fun _ _ _ h => h) (Or.inl ⟨by rfl, (by intro w hSw; have hq : w.cell? ⟨B, 7, none⟩ = some (.slice a n c) := (hSw.cell 7).trans q7; clear hSw; go_simp)⟩) (by assumption) ?_
    try simp only [Act.put, List.getElem_toArray, List.getElem_cons_zero, List.getElem_cons_succ, List.setIfInBounds_toArray, List.set_cons_zero, List.set_cons_succ]
    refine wpAnyH_ready (rs := [13]) (by kernel_rfl) (by simp) (AllReadyH.cons rfl (fun K hK => ?_) AllReadyH.nil)
    try simp only [List.getElem_toArray, List.getElem_cons_zero, List.getElem_cons_succ]
    go_simp
    go_at_call 68
    refine (met_any HW.out.2.1 HW.out.2.2.1 hN h4 H6.out.2).mono ?_
    rintro e w1 ⟨rfl, hb1⟩
    rw [HE.out]
    refine hK.out _ _ (HW.out.1.below hb1 HW.out.1.lt) (fun hHeld => ?_)
    clear hK K
    try simp only [Act.put, List.getElem_toArray, List.getElem_cons_zero, List.getElem_cons_succ, List.setIfInBounds_toArray, List.set_cons_zero, List.set_cons_succ]
    have HB := Lib.hid (HW.out.2.2.2.trans (hb1.mono (Nat.le_of_eq hz0.symm)))
    clear hb1
    refine wpAnyH_take (i := 14) (v := .bool z) rfl (by kernel_rfl) (by kernel_rfl) (by kernel_rfl) (fun _ _ _ h => h) (Or.inl ⟨by rfl, (by intro w hSw; (try dsimp only at hSw); go_simp)⟩) (by assumption) ?_
    try simp only [Act.put, List.getElem_toArray, List.getElem_cons_zero, List.getElem_cons_succ, List.setIfInBounds_toArray, List.set_cons_zero, List.set_cons_succ]
    refine wpAnyH_take (i := 15) (v := .bool z) rfl (by kernel_rfl) (by kernel_rfl) (by kernel_rfl) (fun _ _ _ h => h) (Or.inl ⟨by rfl, (by intro w hSw; (try dsimp only at hSw); go_simp)⟩) (by assumption) ?_
    try simp only [Act.put, List.getElem_toArray, List.getElem_cons_zero, List.getElem_cons_succ, List.setIfInBounds_toArray, List.set_cons_zero, List.set_cons_succ]
    refine wpAnyH_done (by kernel_rfl) ?_ _
    go_wp2
    go_ret
    exact ⟨rfl, HB.out⟩
  · have d1 : ((n' : Int) == m + 1) = false := by simp [hn]
    have HE : Hid (z = false) := Lib.hid (hz.symm.trans (decide_eq_false (by unfold Dr.P.g7; rw [hl', hm]; exact fun h => hn h.1)))
    clear hW hC hs hd hz hp hn hl hl' hm h0 h6 k0 k1 k2 k3 k4 k5 k6 k7 k8 k9 k10
    go_enter Try.func66, Try.ntmps66
    go_upto_region 1 with fail
    refine wp_region_held_drew (S := fun z => Whole z B 24 C) (by kernel_rfl) HW.out.1 (fun hHeld => ?_)
    generalize w.drew = w0 at *
    refine wpAnyH_take (i := 0) (v := .pointer (some ⟨B, 8, none⟩)) rfl (by kernel_rfl) (by kernel_rfl) (by kernel_rfl) (fun _ _ _ h => h) (Or.inl ⟨by rfl, (by intro w hSw; (try dsimp only at hSw); go_simp)⟩) (by assumption) ?_
    try simp only [Act.put, List.getElem_toArray, List.getElem_cons_zero, List.getElem_cons_succ, List.setIfInBounds_toArray, List.set_cons_zero, List.set_cons_succ]
    refine wpAnyH_take (i := 1) (v := .slice a' n' c') rfl (by kernel_rfl) (by kernel_rfl) (by kernel_rfl) (fun _ _ _ h => h) (Or.inl ⟨by rfl, (by intro w hSw; have hq : w.cell? ⟨B, 8, none⟩ = some (.slice a' n' c') := (hSw.cell 8).trans q8; clear hSw; go_simp)⟩) (by assumption) ?_
    try simp only [Act.put, List.getElem_toArray, List.getElem_cons_zero, List.getElem_cons_succ, List.setIfInBounds_toArray, List.set_cons_zero, List.set_cons_succ]
    refine wpAnyH_take (i := 2) (v := .int .i64 n') rfl (by kernel_rfl) (by kernel_rfl) (by kernel_rfl) (fun _ _ _ h => h) (Or.inl ⟨by rfl, (by intro w hSw; (try dsimp only at hSw); go_simp)⟩) (by assumption) ?_
    try simp only [Act.put, List.getElem_toArray, List.getElem_cons_zero, List.getElem_cons_succ, List.setIfInBounds_toArray, List.set_cons_zero, List.set_cons_succ]
    refine wpAnyH_take (i := 3) (v := .pointer (some ⟨B, 7, none⟩)) rfl (by kernel_rfl) (by kernel_rfl) (by kernel_rfl) (fun _ _ _ h => h) (Or.inl ⟨by rfl, (by intro w hSw; (try dsimp only at hSw); go_simp)⟩) (by assumption) ?_
    try simp only [Act.put, List.getElem_toArray, List.getElem_cons_zero, List.getElem_cons_succ, List.setIfInBounds_toArray, List.set_cons_zero, List.set_cons_succ]
    refine wpAnyH_take (i := 4) (v := .slice a n c) rfl (by kernel_rfl) (by kernel_rfl) (by kernel_rfl) (fun _ _ _ h => h) (Or.inl ⟨by rfl, (by intro w hSw; have hq : w.cell? ⟨B, 7, none⟩ = some (.slice a n c) := (hSw.cell 7).trans q7; clear hSw; go_simp)⟩) (by assumption) ?_
    try simp only [Act.put, List.getElem_toArray, List.getElem_cons_zero, List.getElem_cons_succ, List.setIfInBounds_toArray, List.set_cons_zero, List.set_cons_succ]
    refine wpAnyH_ready (rs := [5]) (by kernel_rfl) (by simp) (AllReadyH.cons rfl (fun K hK => ?_) AllReadyH.nil)
    try simp only [List.getElem_toArray, List.getElem_cons_zero, List.getElem_cons_succ]
    go_simp
    go_at_call 67
    refine (tell_67 HW.out.2.1 hn0 hN).mono ?_
    rintro e w1 ⟨rfl, rfl⟩
    rw [HM.out]
    refine hK.out _ _ HW.out.1 (fun hHeld => ?_)
    clear hK K
    try simp only [Act.put, List.getElem_toArray, List.getElem_cons_zero, List.getElem_cons_succ, List.setIfInBounds_toArray, List.set_cons_zero, List.set_cons_succ]
    refine wpAnyH_take (i := 6) (v := .int .i64 (m + 1)) rfl (by kernel_rfl) (by kernel_rfl) (by kernel_rfl) (fun _ _ _ h => h) (Or.inl ⟨by rfl, (by intro w hSw; (try dsimp only at hSw); go_simp)⟩) (by assumption) ?_
    try simp only [Act.put, List.getElem_toArray, List.getElem_cons_zero, List.getElem_cons_succ, List.setIfInBounds_toArray, List.set_cons_zero, List.set_cons_succ]
    refine wpAnyH_take (i := 7) (v := .bool false) rfl (by kernel_rfl) (by kernel_rfl) (by kernel_rfl) (fun _ _ _ h => h) (Or.inl ⟨by rfl, (by intro w hSw; (try dsimp only at hSw); go_simp)⟩) (by assumption) ?_
    try simp only [Act.put, List.getElem_toArray, List.getElem_cons_zero, List.getElem_cons_succ, List.setIfInBounds_toArray, List.set_cons_zero, List.set_cons_succ]
    refine wpAnyH_take (i := 8) (v := .bool false) rfl (by kernel_rfl) (by kernel_rfl) (by kernel_rfl) (fun _ _ _ h => h) (Or.inl ⟨by rfl, (by intro w hSw; (try dsimp only at hSw); go_simp)⟩) (by assumption) ?_
    try simp only [Act.put, List.getElem_toArray, List.getElem_cons_zero, List.getElem_cons_succ, List.setIfInBounds_toArray, List.set_cons_zero, List.set_cons_succ]
    refine wpAnyH_take (i := 9) (v := undef) rfl (by kernel_rfl) (by kernel_rfl) (by kernel_rfl) (fun _ _ _ h => h) (Or.inr ⟨by rfl, rfl⟩) (by assumption) ?_
    try simp only [Act.put, List.getElem_toArray, List.getElem_cons_zero, List.getElem_cons_succ, List.setIfInBounds_toArray, List.set_cons_zero, List.set_cons_succ]
    refine wpAnyH_take (i := 10) (v := undef) rfl (by kernel_rfl) (by kernel_rfl) (by kernel_rfl) (fun _ _ _ h => h) (Or.inr ⟨by rfl, rfl⟩) (by assumption) ?_
    try simp only [Act.put, List.getElem_toArray, List.getElem_cons_zero, List.getElem_cons_succ, List.setIfInBounds_toArray, List.set_cons_zero, List.set_cons_succ]
    refine wpAnyH_take (i := 11) (v := undef) rfl (by kernel_rfl) (by kernel_rfl) (by kernel_rfl) (fun _ _ _ h => h) (Or.inr ⟨by rfl, rfl⟩) (by assumption) ?_
    try simp only [Act.put, List.getElem_toArray, List.getElem_cons_zero, List.getElem_cons_succ, List.setIfInBounds_toArray, List.set_cons_zero, List.set_cons_succ]
    refine wpAnyH_take (i := 12) (v := undef) rfl (by kernel_rfl) (by kernel_rfl) (by kernel_rfl) (fun _ _ _ h => h) (Or.inr ⟨by rfl, rfl⟩) (by assumption) ?_
    try simp only [Act.put, List.getElem_toArray, List.getElem_cons_zero, List.getElem_cons_succ, List.setIfInBounds_toArray, List.set_cons_zero, List.set_cons_succ]
    refine wpAnyH_take (i := 13) (v := undef) rfl (by kernel_rfl) (by kernel_rfl) (by kernel_rfl) (fun _ _ _ h => h) (Or.inr ⟨by rfl, rfl⟩) (by assumption) ?_
    try simp only [Act.put, List.getElem_toArray, List.getElem_cons_zero, List.getElem_cons_succ, List.setIfInBounds_toArray, List.set_cons_zero, List.set_cons_succ]
    refine wpAnyH_take (i := 14) (v := .bool false) rfl (by kernel_rfl) (by kernel_rfl) (by kernel_rfl) (fun _ _ _ h => h) (Or.inl ⟨by rfl, (by intro w hSw; (try dsimp only at hSw); go_simp)⟩) (by assumption) ?_
    try simp only [Act.put, List.getElem_toArray, List.getElem_cons_zero, List.getElem_cons_succ, List.setIfInBounds_toArray, List.set_cons_zero, List.set_cons_succ]
    refine wpAnyH_take (i := 15) (v := .bool false) rfl (by kernel_rfl) (by kernel_rfl) (by kernel_rfl) (fun _ _ _ h => h) (Or.inl ⟨by rfl, (by intro w hSw; (try dsimp only at hSw); go_simp)⟩) (by assumption) ?_
    try simp only [Act.put, List.getElem_toArray, List.getElem_cons_zero, List.getElem_cons_succ, List.setIfInBounds_toArray, List.set_cons_zero, List.set_cons_succ]
    refine wpAnyH_done (by kernel_rfl) ?_ _
    go_wp2
    go_ret
    exact ⟨ret_bool HE.out.symm, HW.out.2.2.2⟩
end Go.Proofs.Ytegdopbiiddamaa
