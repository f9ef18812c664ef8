/-
  Plain facts on the state behind a text: it hangs on whole blocks alone; a text that is told part by part.
-/
import Derived.Test.YtjpgepodkeccmaaDoorHm
namespace Go.Proofs.YtjpgepodkeccmaaDoor
namespace Sm
theorem stTo_append (l m : List Int) (k : Nat) (h : 64 * k ≤ l.length) : stTo (l ++ m) k = stTo l k := by
  induction k with
  | zero => rfl
  | succ k ih =>
    simp only [stTo]
    rw [ih (by omega), List.drop_append_of_le_length (by omega), List.take_append_of_le_length (by rw [List.length_drop]; omega)]
theorem st_same (l x : List Int) (h : l.length % 64 + x.length < 64) : st (l ++ x) = st l := by
  unfold st
  have e : (l ++ x).length / 64 = l.length / 64 := by rw [List.length_append]; omega
  rw [e, stTo_append _ _ _ (by omega)]
theorem st_full (l x : List Int) (h : l.length % 64 + x.length = 64) : st (l ++ x) = mix (st l) (l.drop (64 * (l.length / 64)) ++ x) := by
  unfold st
  have e : (l ++ x).length / 64 = l.length / 64 + 1 := by rw [List.length_append]; omega
  rw [e]
  simp only [stTo]
  rw [stTo_append _ _ _ (by omega), List.drop_append_of_le_length (by omega), List.take_of_length_le (by rw [List.length_append, List.length_drop]; omega)]
/-- The block that a text is in: bf begins with what stands behind the whole blocks. -/
def InBlock (bf l : List Int) : Prop := bf.length = 64 ∧ bf.take (l.length % 64) = l.drop (64 * (l.length / 64))
def laid (bf : List Int) (r : Nat) (x : List Int) : List Int := bf.take r ++ (x ++ bf.drop (r + x.length))
theorem laid_len {bf x : List Int} {r : Nat} (h : bf.length = 64) (hr : r + x.length ≤ 64) : (laid bf r x).length = 64 := by
  simp [laid]; omega
theorem laid_take {bf x : List Int} {r : Nat} (h : bf.length = 64) (hr : r + x.length ≤ 64) : (laid bf r x).take (r + x.length) = bf.take r ++ x := by
  unfold laid
  have e : (bf.take r).length = r := by simp; omega
  rw [← List.append_assoc, List.take_append_of_le_length (by simp; omega), List.take_of_length_le (by simp; omega)]
theorem inBlock_same {bf l x : List Int} (h : InBlock bf l) (hx : l.length % 64 + x.length < 64) : InBlock (laid bf (l.length % 64) x) (l ++ x) := by
  refine ⟨laid_len h.1 (by omega), ?_⟩
  have e : (l ++ x).length / 64 = l.length / 64 := by rw [List.length_append]; omega
  have e2 : (l ++ x).length % 64 = l.length % 64 + x.length := by rw [List.length_append]; omega
  rw [e, e2, laid_take h.1 (by omega), h.2, List.drop_append_of_le_length (by omega)]
theorem inBlock_full {bf l x : List Int} (h : InBlock bf l) (hx : l.length % 64 + x.length = 64) : InBlock (laid bf (l.length % 64) x) (l ++ x) ∧ st (l ++ x) = mix (st l) (laid bf (l.length % 64) x) := by
  have hl := laid_len (x := x) h.1 (r := l.length % 64) (by omega)
  have e2 : (l ++ x).length % 64 = 0 := by rw [List.length_append]; omega
  refine ⟨⟨hl, ?_⟩, ?_⟩
  · rw [e2, List.take_zero, List.drop_eq_nil_of_le (by omega)]
  · rw [st_full _ _ hx, ← h.2]
    congr 1
    have := laid_take (x := x) h.1 (r := l.length % 64) (by omega)
    rw [hx, List.take_of_length_le (by omega)] at this
    exact this.symm
theorem inBlock_nil {bf : List Int} (h : bf.length = 64) : InBlock bf [] := ⟨h, by simp⟩
theorem st_nil : st [] = h0 := rfl
end Sm
end Go.Proofs.YtjpgepodkeccmaaDoor
