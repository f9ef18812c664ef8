/-
  Rows of any kind: make with a length, copy onto a row of one's own.
-/
import Derived.Test.YtegdopbiiddamaaMa
import Derived.Laws.CopyRow
import Derived.Laws.MakeOwn
import Derived.Deep.MidRow
namespace Go.Proofs.Ytegdopbiiddamaa
open Go.RowKit Go.Great
set_option linter.unusedVariables false
set_option linter.unusedSimpArgs false
set_option maxRecDepth 20000
theorem wpList_load_midE {P : Program} {ops : Array Oper} {rest : List Oper} {op : Oper} {a : Act} {w : World} {Q : Exit → Act → World → Prop} (hgd : Region.wanted op (yielded ops a.tmps) = true) (ty : TypeId) (x : Operand) (ho : op.op = .load ty x)
    (b o : Nat) (hx : a.eval x = .pointer (some ⟨b, o, none⟩)) (cs : List Value) (d : TypeDesc) (hc : w.rangeAt b o cs)
    (hu : P.underlying ty = some d) (hd : d.isRow = true) (hi : (P.info? ty).map (·.size) = some cs.length)
    (h : wpList P ops Q rest (a.put op.dst (.agg cs.toArray)) w) : wpList P ops Q (op :: rest) a w :=
  wpList_step fun _ hK => by rw [if_pos hgd]; exact wp_load_mid ty x ho b o hx cs d hc hu hd hi (hK _ _ h)
namespace Elem
variable {α : Type} (E : Elem α)
theorem parts : ∃ i, Try.prog.info? E.T = some i ∧ i.zero = some E.zero ∧ i.size = E.K ∧ i.bytes = E.bytes := info_parts E.info
theorem sz (w : World) : (sizeOf E.T).run Try.prog w = .ok E.K w := by
  obtain ⟨i, hi, hz, hsize, hby⟩ := E.parts
  simp [sizeOf, typeInfo, hi, hsize]
/-- What make lays is a row of zero values. -/
theorem made_flat (x : α) (hx : E.zero.cells = (E.enc x).toArray) (n : Nat) : madeCells E.zero.cells (n * E.K) = (E.flat (List.replicate n x)).toArray := by
  apply Array.ext
  · rw [size_madeCells, List.size_toArray, E.flat_len, List.length_replicate]
  · intro i h1 h2
    rw [size_madeCells] at h1
    have hk : i / E.K < n := (Nat.div_lt_iff_lt_mul E.hK).2 h1
    have hm := Nat.mod_lt i E.hK
    have e := E.flat_idx (List.replicate n x) (i / E.K) (i % E.K) (by rw [List.length_replicate]; exact hk) hm
    have he : i / E.K * E.K + i % E.K = i := by rw [Nat.mul_comm]; exact Nat.div_add_mod i E.K
    rw [he] at e
    have hg : (List.replicate n x).getD (i / E.K) E.z = x := by simp [hk]
    rw [hg] at e
    have e2 : (E.flat (List.replicate n x))[i]? = some ((E.flat (List.replicate n x)).toArray[i]) := by
      rw [List.size_toArray] at h2
      simp [h2]
    rw [e2] at e
    have hzs := E.zs
    have e3 : (madeCells E.zero.cells (n * E.K))[i] = E.zero.cells[i % E.zero.cells.size]! := by simp [madeCells]
    rw [e3, hzs, hx]
    have hl : i % E.K < (E.enc x).length := by rw [E.len]; exact hm
    rw [List.getElem?_eq_getElem hl] at e
    injection e with e
    rw [e]
    simp [hl]
theorem run_makeE (n : Nat) (hn : n ≤ 1000000) (w : World) : (Instr.makeSlice E.TS (.int .i64 (n : Int)) (.int .i64 (n : Int))).run Try.prog w = .ok (.slice (some ⟨w.heap.size, 0, none⟩) n n) (w.alloc (.cells (madeCells E.zero.cells (n * E.K)) E.T)) := by
  obtain ⟨i, hi, hz, hsize, hby⟩ := E.parts
  have hb := E.hb
  have h := run_make (P := Try.prog) w E.TS E.T i E.zero E.und hi hz .i64 .i64 n n (by omega) (Int.le_refl _) (by
    rw [hby]
    have : E.bytes * n ≤ 1000 * 1000000 := Nat.mul_le_mul hb hn
    have h2 : ((E.bytes * n : Nat) : Int) ≤ 1000000000 := by omega
    rw [Int.natCast_mul] at h2
    omega) (by omega)
  rw [hsize, Int.toNat_natCast] at h
  exact h
/-- A block that holds just the values of a row is a row of one's own. -/
theorem own_whole {w : World} {B g n : Nat} {l : List α} (h : Whole w g E.T (E.flat l).toArray) (hB : B ≤ g) (hl : l.length = n) (hm : ∀ x ∈ l, E.ok x) (hn : n ≤ 1000000) : E.Own w B (some ⟨g, 0, none⟩) n n l := by
  refine ⟨⟨by rw [E.flat_len, hl], Or.inr ⟨g, n, (E.flat l).toArray, rfl, hB, h, Nat.le_refl _, by unfold maxLen; omega, by rw [List.size_toArray, E.flat_len, hl], ?_⟩⟩, hm, hl⟩
  simp only [List.toList_toArray]
  exact List.take_of_length_le (by rw [E.flat_len, hl]; exact Nat.le_refl _)
theorem own_made {w : World} {n : Nat} (x : α) (hx : E.zero.cells = (E.enc x).toArray) (ho : E.ok x) (hn : n ≤ 1000000) : E.Own (w.alloc (.cells (madeCells E.zero.cells (n * E.K)) E.T)) w.heap.size (some ⟨w.heap.size, 0, none⟩) n n (List.replicate n x) := by
  rw [E.made_flat x hx]
  exact E.own_whole (Whole.new w _ _) (Nat.le_refl _) (by simp) (fun y hy => by rw [List.eq_of_mem_replicate hy]; exact ho) hn
/-- copy of a row onto a new one of its length. -/
theorem run_copyE {w : World} {S : Nat → Prop} {a : Option Addr} {n c g c' : Nat} {l : List α} {cur : List Value} (h : E.Row w S a n l) (hg : Whole w g E.T cur.toArray) (hc : cur.length = n * E.K) (ty : TypeId) :
    (Builtin.copy_ #[E.TS, E.TS] ty #[.slice (some ⟨g, 0, none⟩) n c', .slice a n c]).run Try.prog w = .ok (.int .i64 (n : Int)) (w.setRow g (E.flat l).toArray) := by
  have hfl : (E.flat l).length = n * E.K := by rw [E.flat_len, h.1]
  have hst := run_storeCells_at Try.prog g 0 E.T (E.flat l) 0 cur.toArray w hg (by rw [List.size_toArray, hfl, hc]; omega) (E.flat_one l)
  have e : (cur.toArray.toList.take (0 + 0) ++ E.flat l ++ cur.toArray.toList.drop (0 + 0 + (E.flat l).length)) = E.flat l := by
    rw [hfl]
    simp only [List.toList_toArray]
    rw [List.drop_of_length_le (by rw [hc]; omega)]
    simp
  rw [e] at hst
  cases a with
  | none =>
    have h0 : l = [] := by
      rcases h.2.2 with h | ⟨b, off, e, _⟩
      · exact h
      · cases e
    subst h0
    have hn0 : n = 0 := h.1.symm
    subst hn0
    simp only [flat, List.map_nil, List.flatten_nil] at hst ⊢
    simp only [Builtin.copy_, List.getElem?_toArray, List.getElem?_cons_zero, List.getElem?_cons_succ, run_underlying E.und, Builtin.lenOf, Builtin.firstCells, E.sz, Sem.run_bind, Sem.run_pure, Result.andThen_ok, hst]
    rfl
  | some ad =>
    have hl := run_loadCells_list (P := Try.prog) w ad (E.flat l) h.cells
    rw [hfl] at hl
    simp only [Builtin.copy_, List.getElem?_toArray, List.getElem?_cons_zero, List.getElem?_cons_succ, run_underlying E.und, Builtin.lenOf, Builtin.firstCells, E.sz, Sem.run_bind, Sem.run_pure, Result.andThen_ok, Nat.min_self, hl, hst]
    rfl
theorem wpList_copyE {w : World} {ops : Array Oper} {rest : List Oper} {o : Oper} {act : Act} {Q : Exit → Act → World → Prop} (hgd : Region.wanted o (yielded ops act.tmps) = true) (d s : Operand)
    (ho : o.op = .call { callee := .builtin .copy, args := #[d, s], argTypes := #[E.TS, E.TS] }) {S : Nat → Prop} {a : Option Addr} {n c g c' : Nat} {l : List α} {cur : List Value} (hd : act.eval d = .slice (some ⟨g, 0, none⟩) n c') (hs : act.eval s = .slice a n c)
    (h : E.Row w S a n l) (hg : Whole w g E.T cur.toArray) (hc : cur.length = n * E.K)
    (hk : wpList Try.prog ops Q rest (act.put o.dst (.int .i64 (n : Int))) (w.setRow g (E.flat l).toArray)) : wpList Try.prog ops Q (o :: rest) act w := by
  refine wpList_step fun _ hK => ?_
  rw [if_pos hgd]
  have hrun := E.run_copyE (c := c) (c' := c') h hg hc o.type
  unfold Oper.wp execOp
  simp only [ho, resolve, invoke, builtin, Sem.run_bind, Sem.run_pure, Result.andThen_ok, List.map_toArray, List.map_cons, List.map_nil, hd, hs, hrun]
  exact hK _ _ hk
end Elem
/-- A row that is filled from its beginning. -/
def filled {α : Type} (x z : α) (i n : Nat) : List α := List.replicate i x ++ List.replicate (n - i) z
theorem filled_len {α : Type} (x z : α) {i n : Nat} (h : i ≤ n) : (filled x z i n).length = n := by simp [filled]; omega
theorem filled_zero {α : Type} (x z : α) (n : Nat) : filled x z 0 n = List.replicate n z := by simp [filled]
theorem filled_all {α : Type} (x z : α) (n : Nat) : filled x z n n = List.replicate n x := by simp [filled]
theorem filled_set {α : Type} (x z : α) {i n : Nat} (h : i < n) : (filled x z i n).set i x = filled x z (i + 1) n := by
  unfold filled
  rw [List.set_append_right _ _ (by simp), List.length_replicate, Nat.sub_self, show n - i = (n - (i + 1)) + 1 by omega, List.replicate_succ, List.set_cons_zero, List.replicate_succ', List.append_assoc]
  rfl
end Go.Proofs.Ytegdopbiiddamaa
