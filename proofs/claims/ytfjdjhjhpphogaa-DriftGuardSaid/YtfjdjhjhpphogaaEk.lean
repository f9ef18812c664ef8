/-
  The walk of awake: calls whose answers the document fixes; names and limits.
-/
import Derived.Test.YtfjdjhjhpphogaaEj
namespace Go.Proofs.Ytfjdjhjhpphogaa
set_option linter.unusedVariables false
set_option linter.unusedSimpArgs false
set_option maxRecDepth 20000
open Go.RowKit
theorem wpList_load_rowG {P : Program} {ops : Array Oper} {rest : List Oper} {o : Oper} {a : Act} {w : World} {Q : Exit → Act → World → Prop} (hgd : Region.wanted o (yielded ops a.tmps) = true) (ty : TypeId) (x : Operand) (ho : o.op = .load ty x)
    (g : Nat) (hx : a.eval x = .pointer (some ⟨g, 0, none⟩)) (t : TypeId) (cs : Array Value) (fr : Nat × Nat) (d : TypeDesc) (hg : w.heap[g]? = some (.cells cs t fr))
    (hu : P.underlying ty = some d) (hd : (match d with | .struct _ | .array _ _ => true | _ => false) = true) (hi : (P.info? ty).map (·.size) = some cs.size)
    (h : wpList P ops Q rest (a.put o.dst (.agg cs)) w) : wpList P ops Q (o :: rest) a w :=
  wpList_step fun _ hK => by rw [if_pos hgd]; exact wp_load_row ty x ho g hx t cs fr d hg hu hd hi (hK _ _ h)
theorem v_maj : Dr.P0.maj = 2 := (if_pos Dr.ok_p0).trans rfl
theorem v_g1 : Dr.P0.gain 2000 = 1100 := (if_pos Dr.ok_p0).trans rfl
theorem v_g2 : Dr.P0.gain (-5) = 900 := (if_pos Dr.ok_p0).trans rfl
theorem v_h1 : Dr.P0.holds 5 10004 = true := decide_eq_true ⟨Dr.ok_p0, by decide, by decide⟩
theorem v_h2 : Dr.P0.holds 5 10005 = false := decide_eq_false fun h => absurd h.2.2 (by decide)
theorem v_l1 : Dr.P0.late 5 8905 = true := decide_eq_true ⟨Dr.ok_p0, Or.inr (by decide)⟩
theorem v_l2 : Dr.P0.late 5 8904 = false := decide_eq_false fun h => by
  rcases h.2 with h | h
  · exact h (by decide)
  · exact absurd h (by decide)
theorem v_f1 : Dr.P0.free 5 20005 = true := decide_eq_true ⟨Dr.ok_p0, by decide, by decide⟩
theorem v_f2 : Dr.P0.free 5 20004 = false := decide_eq_false fun h => absurd h.2.2 (by decide)
theorem in3 : ∀ x ∈ ([0, 0, 1] : List Int), In64 x := by
  intro x hx
  simp only [List.mem_cons, List.not_mem_nil, or_false] at hx
  rcases hx with rfl | rfl | rfl <;> (constructor <;> omega)
theorem in2 : ∀ x ∈ ([2, 1] : List Int), In64 x := by
  intro x hx
  simp only [List.mem_cons, List.not_mem_nil, or_false] at hx
  rcases hx with rfl | rfl <;> (constructor <;> omega)
/-- A plan in memory, with its rows behind it. -/
theorem made0 {w : World} {G1 G2 : Nat} (h1 : Whole w G1 3 (ints [0, 0, 1]).toArray) (h2 : Whole w G2 3 (ints [2, 1]).toArray) :
    Cc w (fun _ => True) (pc Dr.P0 (.slice (some ⟨G1, 0, none⟩) 3 3) (.slice (some ⟨G2, 0, none⟩) 2 2)).toArray Dr.P0 :=
  ⟨_, _, _, _, _, _, rfl, Nat.le_refl _, Nat.le_refl _, by decide, ns_whole h1 trivial in3, ns_whole h2 trivial in2, by unfold Pin In64 Dr.P0; decide⟩
theorem madeZ (w : World) : Cc w (fun _ => True) (pc Dr.PZ (.slice none 0 0) (.slice none 0 0)).toArray Dr.PZ :=
  ⟨_, _, _, _, _, _, rfl, Nat.le_refl _, Nat.le_refl _, by decide, Ns.nil _ _ _, Ns.nil _ _ _, by unfold Pin In64 Dr.PZ; decide⟩
set_option maxHeartbeats 4000000 in
theorem awake_any (w : World) : Calls Try.prog 10 #[] w fun e w' => e = .returned (.bool true) ∧ Below w.heap.size w w' := by
  have a1 := Whole.new w 3 (ints [0, 0, 1]).toArray
  have b1 := below_alloc w (.cells (ints [0, 0, 1]).toArray 3)
  have s1 := size_alloc w (.cells (ints [0, 0, 1]).toArray 3)
  obtain ⟨w1, h1⟩ : ∃ w1, w.alloc (.cells (ints [0, 0, 1]).toArray 3) = w1 := ⟨_, rfl⟩
  rw [h1] at a1 b1 s1
  have a2 := Whole.new w1 3 (ints [2, 1]).toArray
  have b2 := below_alloc w1 (.cells (ints [2, 1]).toArray 3)
  have s2 := size_alloc w1 (.cells (ints [2, 1]).toArray 3)
  have c1 := a1.alloc (.cells (ints [2, 1]).toArray 3)
  obtain ⟨w2, h2⟩ : ∃ w2, w1.alloc (.cells (ints [2, 1]).toArray 3) = w2 := ⟨_, rfl⟩
  rw [h2] at a2 b2 s2 c1
  rw [s1] at a2 s2
  have cc := made0 c1 a2
  obtain ⟨C, hC⟩ : ∃ C, (pc Dr.P0 (.slice (some ⟨w.heap.size, 0, none⟩) 3 3) (.slice (some ⟨w.heap.size + 1, 0, none⟩) 2 2)).toArray = C := ⟨_, rfl⟩
  rw [hC] at cc
  have h11 := cc.size
  have bx := Box.new cc
  have b3 := below_alloc w2 (.cells C 25)
  rw [s2] at bx
  obtain ⟨w3, h3⟩ : ∃ w3, w2.alloc (.cells C 25) = w3 := ⟨_, rfl⟩
  rw [h3] at bx b3
  have HE : Hid (((w.alloc (.cells #[.int .i64 0, .int .i64 0, .int .i64 1] 3)).alloc (.cells #[.int .i64 2, .int .i64 1] 3)).alloc (.cells #[.int .i64 3, .int .i64 1, .int .i64 100, .int .i64 10000, .int .i64 20000, .int .i64 1100, .int .i64 1, .slice (some ⟨w.heap.size, 0, none⟩) 3 3, .slice (some ⟨w.heap.size + 1, 0, none⟩) 2 2, .int .i64 1, .int .i64 0] 25) = w3) := Lib.hid (by
    rw [← h3, ← h2, ← h1, ← hC]
    rfl)
  have HB : Hid (Box w3 (fun _ => True) (w.heap.size + 1 + 1) C Dr.P0 ∧ Below w.heap.size w w3) := Lib.hid ⟨bx.weak fun _ _ => trivial, (b1.trans (b2.mono b1.size)).trans (b3.mono (Nat.le_trans b1.size b2.size))⟩
  clear a1 b1 s1 h1 a2 b2 s2 c1 h2 cc hC bx b3 h3
  go_enter Try.func10, Try.ntmps10
  go_upto_region 2 with fail
  rw [HE.out]
  generalize w.heap.size + 1 + 1 = G at *
  generalize (Value.agg #[.int .i64 3, .int .i64 1, .int .i64 100, .int .i64 10000, .int .i64 20000, .int .i64 1100, .int .i64 1, .slice (some ⟨w.heap.size, 0, none⟩) 3 3, .slice (some ⟨w.heap.size + 1, 0, none⟩) 2 2, .int .i64 1, .int .i64 0]) = X at *
  go_wp2_with ((with_reducible show wpList _ _ _ ((⟨_, Op.load 25 _, _, _, _, _⟩ : Oper) :: _) _ _); first | refine wpList_load_row rfl _ (.tmp 1) rfl G rfl 25 C (0, 0) _ HB.out.1.1 Try.underlying25 rfl (by rw [h11]; exact info11) ?_ | refine wpList_load_rowG (by rfl) _ (.tmp 1) rfl G rfl 25 C (0, 0) _ HB.out.1.1 Try.underlying25 rfl (by rw [h11]; exact info11) ?_)
  refine (check_any HB.out.1.2).mono ?_
  rintro e wn0 ⟨rfl, hbn⟩
  rw [Dr.P.chk_ok Dr.ok_p0]
  have HB := Lib.hid (And.intro ((HB.out.1.on hbn).weak (fun _ _ => trivial)) (HB.out.2.trans (hbn.mono HB.out.2.size)))
  clear hbn
  go_wp2_with ((with_reducible show wpList _ _ _ ((⟨_, Op.load 25 _, _, _, _, _⟩ : Oper) :: _) _ _); first | refine wpList_load_row rfl _ (.tmp 1) rfl G rfl 25 C (0, 0) _ HB.out.1.1 Try.underlying25 rfl (by rw [h11]; exact info11) ?_ | refine wpList_load_rowG (by rfl) _ (.tmp 1) rfl G rfl 25 C (0, 0) _ HB.out.1.1 Try.underlying25 rfl (by rw [h11]; exact info11) ?_)
  refine (check_any (madeZ _)).mono ?_
  rintro e wn1 ⟨rfl, hbn⟩
  rw [Dr.P.chk_no Dr.no_pz]
  have HB := Lib.hid (And.intro ((HB.out.1.on hbn).weak (fun _ _ => trivial)) (HB.out.2.trans (hbn.mono HB.out.2.size)))
  clear hbn
  go_wp2_with ((with_reducible show wpList _ _ _ ((⟨_, Op.load 25 _, _, _, _, _⟩ : Oper) :: _) _ _); first | refine wpList_load_row rfl _ (.tmp 1) rfl G rfl 25 C (0, 0) _ HB.out.1.1 Try.underlying25 rfl (by rw [h11]; exact info11) ?_ | refine wpList_load_rowG (by rfl) _ (.tmp 1) rfl G rfl 25 C (0, 0) _ HB.out.1.1 Try.underlying25 rfl (by rw [h11]; exact info11) ?_)
  refine (majority_any HB.out.1.2).mono ?_
  rintro e wn2 ⟨rfl, hbn⟩
  rw [v_maj]
  have HB := Lib.hid (And.intro ((HB.out.1.on hbn).weak (fun _ _ => trivial)) (HB.out.2.trans (hbn.mono HB.out.2.size)))
  clear hbn
  go_wp2_with ((with_reducible show wpList _ _ _ ((⟨_, Op.load 25 _, _, _, _, _⟩ : Oper) :: _) _ _); first | refine wpList_load_row rfl _ (.tmp 1) rfl G rfl 25 C (0, 0) _ HB.out.1.1 Try.underlying25 rfl (by rw [h11]; exact info11) ?_ | refine wpList_load_rowG (by rfl) _ (.tmp 1) rfl G rfl 25 C (0, 0) _ HB.out.1.1 Try.underlying25 rfl (by rw [h11]; exact info11) ?_)
  refine (gain_any HB.out.1.2 _).mono ?_
  rintro e wn3 ⟨rfl, hbn⟩
  rw [v_g1]
  have HB := Lib.hid (And.intro ((HB.out.1.on hbn).weak (fun _ _ => trivial)) (HB.out.2.trans (hbn.mono HB.out.2.size)))
  clear hbn
  go_wp2_with ((with_reducible show wpList _ _ _ ((⟨_, Op.load 25 _, _, _, _, _⟩ : Oper) :: _) _ _); first | refine wpList_load_row rfl _ (.tmp 1) rfl G rfl 25 C (0, 0) _ HB.out.1.1 Try.underlying25 rfl (by rw [h11]; exact info11) ?_ | refine wpList_load_rowG (by rfl) _ (.tmp 1) rfl G rfl 25 C (0, 0) _ HB.out.1.1 Try.underlying25 rfl (by rw [h11]; exact info11) ?_)
  refine (gain_any HB.out.1.2 _).mono ?_
  rintro e wn4 ⟨rfl, hbn⟩
  rw [v_g2]
  have HB := Lib.hid (And.intro ((HB.out.1.on hbn).weak (fun _ _ => trivial)) (HB.out.2.trans (hbn.mono HB.out.2.size)))
  clear hbn
  go_wp2_with ((with_reducible show wpList _ _ _ ((⟨_, Op.load 25 _, _, _, _, _⟩ : Oper) :: _) _ _); first | refine wpList_load_row rfl _ (.tmp 1) rfl G rfl 25 C (0, 0) _ HB.out.1.1 Try.underlying25 rfl (by rw [h11]; exact info11) ?_ | refine wpList_load_rowG (by rfl) _ (.tmp 1) rfl G rfl 25 C (0, 0) _ HB.out.1.1 Try.underlying25 rfl (by rw [h11]; exact info11) ?_)
  refine (holds_any HB.out.1.2 _ _).mono ?_
  rintro e wn5 ⟨rfl, hbn⟩
  rw [v_h1]
  have HB := Lib.hid (And.intro ((HB.out.1.on hbn).weak (fun _ _ => trivial)) (HB.out.2.trans (hbn.mono HB.out.2.size)))
  clear hbn
  go_wp2_with ((with_reducible show wpList _ _ _ ((⟨_, Op.load 25 _, _, _, _, _⟩ : Oper) :: _) _ _); first | refine wpList_load_row rfl _ (.tmp 1) rfl G rfl 25 C (0, 0) _ HB.out.1.1 Try.underlying25 rfl (by rw [h11]; exact info11) ?_ | refine wpList_load_rowG (by rfl) _ (.tmp 1) rfl G rfl 25 C (0, 0) _ HB.out.1.1 Try.underlying25 rfl (by rw [h11]; exact info11) ?_)
  refine (holds_any HB.out.1.2 _ _).mono ?_
  rintro e wn6 ⟨rfl, hbn⟩
  rw [v_h2]
  have HB := Lib.hid (And.intro ((HB.out.1.on hbn).weak (fun _ _ => trivial)) (HB.out.2.trans (hbn.mono HB.out.2.size)))
  clear hbn
  go_wp2_with ((with_reducible show wpList _ _ _ ((⟨_, Op.load 25 _, _, _, _, _⟩ : Oper) :: _) _ _); first | refine wpList_load_row rfl _ (.tmp 1) rfl G rfl 25 C (0, 0) _ HB.out.1.1 Try.underlying25 rfl (by rw [h11]; exact info11) ?_ | refine wpList_load_rowG (by rfl) _ (.tmp 1) rfl G rfl 25 C (0, 0) _ HB.out.1.1 Try.underlying25 rfl (by rw [h11]; exact info11) ?_)
  refine (late_any HB.out.1.2 _ _).mono ?_
  rintro e wn7 ⟨rfl, hbn⟩
  rw [v_l1]
  have HB := Lib.hid (And.intro ((HB.out.1.on hbn).weak (fun _ _ => trivial)) (HB.out.2.trans (hbn.mono HB.out.2.size)))
  clear hbn
  go_wp2_with ((with_reducible show wpList _ _ _ ((⟨_, Op.load 25 _, _, _, _, _⟩ : Oper) :: _) _ _); first | refine wpList_load_row rfl _ (.tmp 1) rfl G rfl 25 C (0, 0) _ HB.out.1.1 Try.underlying25 rfl (by rw [h11]; exact info11) ?_ | refine wpList_load_rowG (by rfl) _ (.tmp 1) rfl G rfl 25 C (0, 0) _ HB.out.1.1 Try.underlying25 rfl (by rw [h11]; exact info11) ?_)
  refine (late_any HB.out.1.2 _ _).mono ?_
  rintro e wn8 ⟨rfl, hbn⟩
  rw [v_l2]
  have HB := Lib.hid (And.intro ((HB.out.1.on hbn).weak (fun _ _ => trivial)) (HB.out.2.trans (hbn.mono HB.out.2.size)))
  clear hbn
  go_wp2_with ((with_reducible show wpList _ _ _ ((⟨_, Op.load 25 _, _, _, _, _⟩ : Oper) :: _) _ _); first | refine wpList_load_row rfl _ (.tmp 1) rfl G rfl 25 C (0, 0) _ HB.out.1.1 Try.underlying25 rfl (by rw [h11]; exact info11) ?_ | refine wpList_load_rowG (by rfl) _ (.tmp 1) rfl G rfl 25 C (0, 0) _ HB.out.1.1 Try.underlying25 rfl (by rw [h11]; exact info11) ?_)
  refine (free_any HB.out.1.2 _ _).mono ?_
  rintro e wn9 ⟨rfl, hbn⟩
  rw [v_f1]
  have HB := Lib.hid (And.intro ((HB.out.1.on hbn).weak (fun _ _ => trivial)) (HB.out.2.trans (hbn.mono HB.out.2.size)))
  clear hbn
  go_wp2_with ((with_reducible show wpList _ _ _ ((⟨_, Op.load 25 _, _, _, _, _⟩ : Oper) :: _) _ _); first | refine wpList_load_row rfl _ (.tmp 1) rfl G rfl 25 C (0, 0) _ HB.out.1.1 Try.underlying25 rfl (by rw [h11]; exact info11) ?_ | refine wpList_load_rowG (by rfl) _ (.tmp 1) rfl G rfl 25 C (0, 0) _ HB.out.1.1 Try.underlying25 rfl (by rw [h11]; exact info11) ?_)
  refine (free_any HB.out.1.2 _ _).mono ?_
  rintro e wn10 ⟨rfl, hbn⟩
  rw [v_f2]
  have HB := Lib.hid (And.intro ((HB.out.1.on hbn).weak (fun _ _ => trivial)) (HB.out.2.trans (hbn.mono HB.out.2.size)))
  clear hbn
  go_wp2
  go_ret
  exact ⟨rfl, HB.out.2⟩
theorem names_walk (w : World) : Calls Try.prog 3 #[] w fun e w' => e = .returned (.bool true) ∧ Below w.heap.size w w' := by
  go_enter Try.func3, Try.ntmps3
  go_wp2_with (go_at_call 10; refine (awake_any _).mono ?_; rintro e w1 ⟨rfl, hb1⟩; have HB := Lib.hid hb1; clear hb1)
  go_ret
  exact ⟨rfl, HB.out⟩
end Go.Proofs.Ytfjdjhjhpphogaa
