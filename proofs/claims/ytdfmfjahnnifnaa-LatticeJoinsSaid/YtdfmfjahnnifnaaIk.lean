/-
  The walk of read: the fact that bytes are, or a panic.
-/
import Derived.Test.YtdfmfjahnnifnaaIi
namespace Go.Proofs.Ytdfmfjahnnifnaa
set_option maxRecDepth 20000
set_option linter.unusedSimpArgs false
set_option linter.unusedVariables false
open Go.RowKit
/-- What a panic of must bears. -/
def lostF : List PanicEntry := [{ v := .iface 31 (.int .i64 100), recovered := false }]
/-- The zero fact's cells. -/
def zf : Array Value := (fcs 0 0 0 zm.toList).toArray
theorem zeroF : #[Value.int IntKind.i64 0, Value.int IntKind.i64 0, Value.int IntKind.i64 0, Value.int IntKind.i64 0, Value.int IntKind.i64 0, Value.slice none 0 0, Value.int IntKind.u8 0, Value.int IntKind.u8 0, Value.int IntKind.u8 0, Value.int IntKind.u8 0, Value.int IntKind.u8 0, Value.int IntKind.u8 0, Value.int IntKind.u8 0, Value.int IntKind.u8 0, Value.int IntKind.u8 0, Value.int IntKind.u8 0, Value.int IntKind.u8 0, Value.int IntKind.u8 0, Value.int IntKind.u8 0, Value.int IntKind.u8 0, Value.int IntKind.u8 0, Value.int IntKind.u8 0, Value.int IntKind.u8 0, Value.int IntKind.u8 0, Value.int IntKind.u8 0, Value.int IntKind.u8 0, Value.int IntKind.u8 0, Value.int IntKind.u8 0, Value.int IntKind.u8 0, Value.int IntKind.u8 0, Value.int IntKind.u8 0, Value.int IntKind.u8 0, Value.int IntKind.u8 0, Value.int IntKind.u8 0, Value.int IntKind.u8 0, Value.int IntKind.u8 0, Value.int IntKind.u8 0, Value.int IntKind.u8 0] = zf := rfl
theorem zf_size : zf.size = 38 := rfl
theorem built_f (k e n : Int) : Try.prog.built 30 [(0, .int .i64 k), (1, .int .i64 e), (2, .int .i64 n)] = some (fcs k e n zm.toList).toArray := by kernel_rfl
theorem built_f0 : Try.prog.built 30 [] = some (fcs 0 0 0 zm.toList).toArray := by kernel_rfl
theorem zm_list (w : World) (S : Nat → Prop) : Mv w S (.agg zm.toList.toArray) Mf.zero := zm_mv w S
theorem loadVar38 {w : World} {b : Nat} {t : TypeId} {cs : Array Value} (h : Whole w b t cs) (hs : cs.size = 38) : (loadVar 30 ⟨b, 0, none⟩).run Try.prog w = .ok (.agg cs) w :=
  run_loadVar_row w b t _ cs (0, 0) _ h Try.underlying30 rfl (by rw [hs]; exact info38)
theorem fcs_size {k e n : Int} {M : List Value} (h : M.length = 35) : (fcs k e n M).toArray.size = 38 := by simp [fcs, h]
theorem splice_fcs {k e n : Int} {M M' : List Value} (h : M.length = 35) (h' : M'.length = 35) : splice (fcs k e n M) 3 M' = fcs k e n M' := by
  unfold splice fcs
  rw [h']
  simp [h]
theorem fcs_one {k e n : Int} {M : List Value} (h : ∀ u ∈ M, u.oneCell' = true) : (fcs k e n M).toArray.all (·.oneCell') = true := by
  refine all_oneCell_toArray ?_
  intro u hu
  simp only [fcs, List.mem_cons] at hu
  rcases hu with rfl | rfl | rfl | hu
  · rfl
  · rfl
  · rfl
  · exact h u hu
theorem zm_one : ∀ u ∈ zm.toList, u.oneCell' = true := by
  have h := mcs_one (s := 0) (c := 0) (v := .slice none 0 0) (h := zs 32) rfl
  intro u hu
  exact Array.all_eq_true_iff_forall_mem.1 h u (by simpa [zm] using hu)
end Go.Proofs.Ytdfmfjahnnifnaa
