/-
  The plan of the statements' heads; what the package's functions are to answer (Grn).
-/
import Derived.Test.YtegdopbiiddamaaMg
namespace Go.Proofs.Ytegdopbiiddamaa
open Go.RowKit Go.Great
set_option linter.unusedVariables false
set_option linter.unusedSimpArgs false
set_option maxRecDepth 20000
/-- The plan of the statements' heads. -/
def P15 : Dr.P := ⟨3, 1, 100, 10000, 20000, 1100, 1000, [0, 0, 1], [2, 1], 1, 500⟩
theorem ok_p15 : P15.ok := by decide
theorem in3 : ∀ x ∈ ([0, 0, 1] : List Int), In64 x := by
  intro x hx
  simp only [List.mem_cons, List.not_mem_nil, or_false] at hx
  rcases hx with rfl | rfl | rfl <;> (constructor <;> omega)
theorem in2 : ∀ x ∈ ([2, 1] : List Int), In64 x := by
  intro x hx
  simp only [List.mem_cons, List.not_mem_nil, or_false] at hx
  rcases hx with rfl | rfl <;> (constructor <;> omega)
theorem made15 {w : World} {G1 G2 : Nat} (h1 : Whole w G1 3 (ints [0, 0, 1]).toArray) (h2 : Whole w G2 3 (ints [2, 1]).toArray) :
    Cc w Any (pc P15 (.slice (some ⟨G1, 0, none⟩) 3 3) (.slice (some ⟨G2, 0, none⟩) 2 2)).toArray P15 :=
  ⟨_, _, _, _, _, _, rfl, Nat.le_refl _, Nat.le_refl _, by decide, ns_whole h1 trivial in3, ns_whole h2 trivial in2, by unfold Pin In64 P15; decide⟩
def pz : Array Value := (pc ⟨0, 0, 0, 0, 0, 0, 0, [], [], 0, 0⟩ (.slice none 0 0) (.slice none 0 0)).toArray
theorem pz_is : pz = #[.int .i64 0, .int .i64 0, .int .i64 0, .int .i64 0, .int .i64 0, .int .i64 0, .int .i64 0, .slice none 0 0, .slice none 0 0, .int .i64 0, .int .i64 0] := rfl
theorem built_plan (g1 g2 : Nat) : Try.prog.built 24 [(0, .int .i64 3), (1, .int .i64 1), (2, .int .i64 100), (3, .int .i64 10000), (4, .int .i64 20000), (5, .int .i64 1100), (6, .int .i64 1000), (7, .slice (some ⟨g1, 0, none⟩) 3 3), (8, .slice (some ⟨g2, 0, none⟩) 2 2), (9, .int .i64 1), (10, .int .i64 500)] = some (pc P15 (.slice (some ⟨g1, 0, none⟩) 3 3) (.slice (some ⟨g2, 0, none⟩) 2 2)).toArray := by kernel_rfl
/-- A plan is answered. -/
def PlanQ (w : World) (p : Dr.P) (e : Ending) (w' : World) : Prop := ∃ C, e = .returned (.agg C) ∧ Cc w' Any C p ∧ Below w.heap.size w w'
set_option maxHeartbeats 4000000 in
theorem plan_any (w : World) : Calls Try.prog 28 #[] w (PlanQ w P15) := by
  have hz := Whole.new w 24 pz
  obtain ⟨w1, h1⟩ : ∃ w1, w.alloc (.cells pz 24) = w1 := ⟨_, rfl⟩
  have hb1 := below_alloc w (.cells pz 24)
  rw [h1] at hz hb1
  obtain ⟨w2, h2⟩ : ∃ w2, w1.alloc (.cells (ints [0, 0, 1]).toArray 3) = w2 := ⟨_, rfl⟩
  have a2 := Whole.new w1 3 (ints [0, 0, 1]).toArray
  have hb2 := below_alloc w1 (.cells (ints [0, 0, 1]).toArray 3)
  rw [h2] at a2 hb2
  obtain ⟨w3, h3⟩ : ∃ w3, w2.alloc (.cells (ints [2, 1]).toArray 3) = w3 := ⟨_, rfl⟩
  have a3 := Whole.new w2 3 (ints [2, 1]).toArray
  have hb3 := below_alloc w2 (.cells (ints [2, 1]).toArray 3)
  rw [h3] at a3 hb3
  have H : Hid (Whole w3 w.heap.size 24 pz ∧ Whole w3 w1.heap.size 3 (ints [0, 0, 1]).toArray ∧ Whole w3 w2.heap.size 3 (ints [2, 1]).toArray ∧ Below w.heap.size w w3) := Lib.hid ⟨(hz.below hb2 hz.lt).below hb3 (Nat.lt_of_lt_of_le hz.lt hb2.size), a2.below hb3 a2.lt, a3, (hb1.trans (hb2.mono hb1.size)).trans (hb3.mono (Nat.le_trans hb1.size hb2.size))⟩
  have s2 : w2.heap.size = w1.heap.size + 1 := by rw [← h2, size_alloc]
  have HS := Lib.hid s2
  have hn1 : w1.heap.size ≠ w.heap.size := by have := hz.lt; omega
  have hn2 : w2.heap.size ≠ w.heap.size := by have := hz.lt; have := hb2.size; omega
  have H1 := Lib.hid h1
  have H2 : Hid (w1.alloc (.cells #[.int .i64 0, .int .i64 0, .int .i64 1] 3) = w2) := Lib.hid h2
  have H3 : Hid (w2.alloc (.cells #[.int .i64 2, .int .i64 1] 3) = w3) := Lib.hid h3
  clear hz h1 hb1 h2 a2 hb2 h3 a3 hb3 s2
  go_enter Try.func28, Try.ntmps28
  go_upto_region 1 with fail
  rw [← pz_is, H1.out]
  go_wp2_with (first
    | ((with_reducible show wpList _ _ _ ((⟨_, Op.store 24 (.tmp 0) _, _, _, _, _⟩ : Oper) :: _) _ _); rw [H2.out, H3.out]; refine wpList_store_row rfl 24 (.tmp 0) (.tmp 3) rfl w.heap.size (pc P15 (.slice (some ⟨w1.heap.size, 0, none⟩) 3 3) (.slice (some ⟨w1.heap.size + 1, 0, none⟩) 2 2)).toArray rfl rfl 24 pz H.out.1 info11 rfl (by simp [pc, Value.oneCell']) ?_)
    | fail)
  have hcc := made15 H.out.2.1 H.out.2.2.1
  rw [HS.out] at hcc
  obtain ⟨C, hC⟩ : ∃ C, (pc P15 (.slice (some ⟨w1.heap.size, 0, none⟩) 3 3) (.slice (some ⟨w1.heap.size + 1, 0, none⟩) 2 2)).toArray = C := ⟨_, rfl⟩
  rw [hC] at hcc ⊢
  have h11 := hcc.size
  have hfin : Cc (w3.setRow w.heap.size C) Any C P15 := by
    have h1 := H.out.2.1.rowFar hn1 C
    have h2 := H.out.2.2.1.rowFar hn2 C
    have := made15 h1 h2
    rw [HS.out, hC] at this
    exact this
  refine bodyPost_ret (results_one_cell rfl _ _ _ _ rfl (run_loadVar_row _ _ _ _ _ (0, 0) _ (H.out.1.row C) Try.underlying24 rfl (by rw [h11]; exact info11))) rfl ?_
  exact ⟨C, rfl, hfin, below_row H.out.2.2.2 (Nat.le_refl _) _⟩
end Go.Proofs.Ytegdopbiiddamaa
