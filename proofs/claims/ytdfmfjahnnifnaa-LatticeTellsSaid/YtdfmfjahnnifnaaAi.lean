/-
  Memory laws that slices.Insert wants over facts: copy onto a row that is known whole, append of zeros, slices that do not overlap.
-/
import Derived.Test.YtdfmfjahnnifnaaAh
import Derived.Lib.AppendZerosOnto
import Derived.Lib.Overlaps
import Derived.Laws.CopyOwn
namespace Go.Proofs.Ytdfmfjahnnifnaa
set_option maxRecDepth 20000
set_option linter.unusedSimpArgs false
set_option linter.unusedVariables false
open Go.RowKit Go.Great Go.Shelf
theorem run_copyF {T : TypeId} (hT : Try.prog.underlying T = some (.slice 30)) (w : World) (ty : TypeId) (g o dLen dCap : Nat) (a : Addr) (sLen sCap : Nat) (cur : List Value) (t : TypeId) (cs : List Value)
    (hg : Whole w g t cur.toArray) (hn : cs.length = Nat.min sLen dLen * 38) (hsrc : ∀ j v, cs[j]? = some v → w.cell? (a.add j) = some v) (hfit : o + cs.length ≤ cur.length) (h1 : ∀ v ∈ cs, v.oneCell' = true) :
    (Builtin.copy_ #[T, T] ty #[.slice (some ⟨g, o, none⟩) dLen dCap, .slice (some a) sLen sCap]).run Try.prog w = .ok (goInt (Nat.min sLen dLen)) (w.setRow g (splice cur o cs).toArray) := by
  have hl := run_loadCells_list (P := Try.prog) w a cs hsrc
  have hst := run_storeCells_at Try.prog g o t cs 0 cur.toArray w hg (by simpa using hfit) h1
  rw [Nat.add_zero] at hst
  rw [hn] at hl
  simp only [Builtin.copy_, List.getElem?_toArray, List.getElem?_cons_zero, List.getElem?_cons_succ, run_underlying hT, Builtin.lenOf, Builtin.firstCells, sz_fact, Sem.run_bind, Sem.run_pure, Result.andThen_ok, hl, hst]
  simp only [splice, List.append_assoc]
theorem wp_copyF {T : TypeId} (hT : Try.prog.underlying T = some (.slice 30)) (w : World) {o : Oper} {a : Act} {K : Act → World → Prop} {Q : Exit → Act → World → Prop} (d s : Operand)
    (ho : o.op = .call { callee := .builtin .copy, args := #[d, s], argTypes := #[T, T] }) (g off dLen dCap : Nat) (ad : Addr) (sLen sCap : Nat) (hd : a.eval d = .slice (some ⟨g, off, none⟩) dLen dCap) (hs : a.eval s = .slice (some ad) sLen sCap)
    (cur : List Value) (t : TypeId) (cs : List Value) (hg : Whole w g t cur.toArray) (hn : cs.length = Nat.min sLen dLen * 38) (hsrc : ∀ j v, cs[j]? = some v → w.cell? (ad.add j) = some v) (hfit : off + cs.length ≤ cur.length) (h1 : ∀ v ∈ cs, v.oneCell' = true)
    (h : ∀ w', Whole w' g t (splice cur off cs).toArray → Below g w w' → (∀ b, b ≠ g → w'.heap[b]? = w.heap[b]?) → K (a.put o.dst (goInt (Nat.min sLen dLen))) w') : o.wp Try.prog a w K Q := by
  have hrun := run_copyF hT w o.type g off dLen dCap ad sLen sCap cur t cs hg hn hsrc hfit h1
  unfold Oper.wp execOp
  simp only [ho, resolve, invoke, builtin, Sem.run_bind, Sem.run_pure, Result.andThen_ok, List.map_toArray, List.map_cons, List.map_nil, hd, hs, hrun]
  exact h _ (hg.row _) (below_row (Below.refl _ _) (Nat.le_refl _) _) (fun b hb => setRow_other w g b _ hb)
theorem wpList_copyF {T : TypeId} (hT : Try.prog.underlying T = some (.slice 30)) (w : World) {ops : Array Oper} {rest : List Oper} {o : Oper} {a : Act} {Q : Exit → Act → World → Prop} (hgd : Region.wanted o (yielded ops a.tmps) = true) (d s : Operand)
    (ho : o.op = .call { callee := .builtin .copy, args := #[d, s], argTypes := #[T, T] }) (g off dLen dCap : Nat) (ad : Addr) (sLen sCap : Nat) (hd : a.eval d = .slice (some ⟨g, off, none⟩) dLen dCap) (hs : a.eval s = .slice (some ad) sLen sCap)
    (cur : List Value) (t : TypeId) (cs : List Value) (hg : Whole w g t cur.toArray) (hn : cs.length = Nat.min sLen dLen * 38) (hsrc : ∀ j v, cs[j]? = some v → w.cell? (ad.add j) = some v) (hfit : off + cs.length ≤ cur.length) (h1 : ∀ v ∈ cs, v.oneCell' = true)
    (h : ∀ w', Whole w' g t (splice cur off cs).toArray → Below g w w' → (∀ b, b ≠ g → w'.heap[b]? = w.heap[b]?) → wpList Try.prog ops Q rest (a.put o.dst (goInt (Nat.min sLen dLen))) w') : wpList Try.prog ops Q (o :: rest) a w :=
  wpList_step fun _ hK => by rw [if_pos hgd]; exact wp_copyF hT w d s ho g off dLen dCap ad sLen sCap hd hs cur t cs hg hn hsrc hfit h1 fun w' h2 h3 h4 => hK _ _ (h w' h2 h3 h4)
/-- append(s, make(..)...) that finds no room: a new row. -/
theorem wpList_append_zerosF {T I : TypeId} (hT : Try.prog.underlying T = some (.slice 30)) (hI : Try.prog.underlying I = some (.int .i64)) (w : World) {ops : Array Oper} {rest : List Oper} {o : Oper} {a : Act} {Q : Exit → Act → World → Prop} (hgd : Region.wanted o (yielded ops a.tmps) = true) (s x : Operand)
    (ho : o.op = .call { callee := .builtin .append, args := #[s, x], argTypes := #[T, I] }) (A : Addr) (i c k m : Nat) (hs : a.eval s = .slice (some A) i c) (hx : a.eval x = .int .i64 (k : Int)) (S D : Nat → Prop) (R : List Fm) (hr : Fts w S D (some A) i R)
    (h0 : 0 < k) (hroom : c < i + k) (hm : i + k = m) (hbig : m ≤ 100000)
    (h : ∀ (cap : Nat) (C : List Value) (w' : World), m ≤ cap → cap ≤ maxLen → C.length = cap * 38 → C.take (i * 38) = flatF R → Whole w' w.heap.size 30 C.toArray → Below w.heap.size w w' → wpList Try.prog ops Q rest (a.put o.dst (.slice (some ⟨w.heap.size, 0, none⟩) m cap)) w') : wpList Try.prog ops Q (o :: rest) a w := by
  obtain ⟨i0, hi, hz, hsize, hby⟩ := info_parts fact_info
  have hfl : (flatF R).length = i * 38 := by rw [flatF_len hr.2.1, hr.1, Nat.mul_comm]
  have hold : (Builtin.firstCells i0.size i (.slice (some A) i c)).run Try.prog w.drew = .ok (flatF R).toArray w.drew := by
    rw [hsize]
    exact run_firstCells_some w.drew 38 i A i c (flatF R) hfl (flatF_cells hr)
  have hrun := Lib.run_append_grow_zeros w T I o.type 30 i0 _ .i64 .i64 hT hI hi hz (some A) i c (flatF R) hold k h0 (by omega) hroom (by omega) (by rw [hby]; omega) (by rw [hby]; exact growslice_fits hroom (by omega))
  rw [hm] at hrun
  have hz38 : (Value.agg zf).cells.size = 38 := by simp [Value.cells, zf_size]
  have hge := grownCap_ge w m c 30
  have hmax := grownCap_le_maxLen w m c 30 (by unfold maxLen; omega)
  refine wpList_step fun _ hK => ?_
  rw [if_pos hgd]
  unfold Oper.wp execOp
  simp only [ho, resolve, invoke, builtin, Sem.run_bind, Sem.run_pure, Result.andThen_ok, List.map_toArray, List.map_cons, List.map_nil, hs, hx, hrun]
  refine hK _ _ (h _ (((flatF R).toArray ++ Builtin.zeroCells (Value.agg zf).cells k ++ Builtin.zeroCells (Value.agg zf).cells (grownCap w m c 30 - m)).toList) _ hge hmax ?_ ?_ ?_ ?_)
  · rw [Array.length_toList, Array.size_append, Array.size_append, size_zeroCells, size_zeroCells, hz38, List.size_toArray, hfl, ← Nat.add_mul, ← Nat.add_mul]
    congr 1
    omega
  · rw [Array.toList_append, Array.toList_append, List.append_assoc]
    simp only [List.toList_toArray]
    rw [← hfl, List.take_left]
  · rw [Array.toArray_toList]
    exact Whole.new w.drew _ _
  · exact below_drew (below_alloc w.drew _)
theorem splice_in {L cs : List Value} {o : Nat} (h : o + cs.length ≤ L.length) : (splice L o cs).take (o + cs.length) = L.take o ++ cs := by
  unfold splice
  rw [← List.append_assoc]
  have : (L.take o ++ cs).length = o + cs.length := by simp; omega
  rw [← this, List.take_left]
/-- Two parts laid behind a beginning. -/
theorem splice_two {C X Y P : List Value} {o : Nat} (hP : C.take o = P) (ho : o ≤ C.length) (h : o + X.length + Y.length ≤ C.length) :
    (splice (splice C o X) (o + X.length) Y).take (o + X.length + Y.length) = P ++ X ++ Y := by
  have hl := length_splice C o X (by omega)
  rw [splice_in (by omega), splice_in (by omega), hP]
/-- The same, the second part first. -/
theorem splice_back {C X Y P : List Value} {o : Nat} (hP : C.take o = P) (ho : o ≤ C.length) (h : o + X.length + Y.length ≤ C.length) :
    (splice (splice C (o + X.length) Y) o X).take (o + X.length + Y.length) = P ++ X ++ Y := by
  unfold splice
  have h1 : (C.take (o + X.length) ++ (Y ++ C.drop (o + X.length + Y.length))).take o = P := by
    rw [List.take_append_of_le_length (by rw [List.length_take]; omega), List.take_take, Nat.min_eq_left (by omega), hP]
  have h2 : (C.take (o + X.length) ++ (Y ++ C.drop (o + X.length + Y.length))).drop (o + X.length) = Y ++ C.drop (o + X.length + Y.length) := by
    have : (C.take (o + X.length)).length = o + X.length := by rw [List.length_take]; omega
    exact List.drop_left' this
  rw [h1, h2]
  have hPl : P.length = o := by rw [← hP, List.length_take]; omega
  have e : P ++ (X ++ (Y ++ C.drop (o + X.length + Y.length))) = (P ++ X ++ Y) ++ C.drop (o + X.length + Y.length) := by simp only [List.append_assoc]
  rw [e]
  have : (P ++ X ++ Y).length = o + X.length + Y.length := by simp [hPl]; omega
  rw [← this, List.take_left]
theorem flatF_parts {R : List Fm} {x : Fm} {i : Nat} : flatF (R.take i ++ x :: R.drop i) = flatF (R.take i) ++ fc x ++ flatF (R.drop i) := by
  rw [show R.take i ++ x :: R.drop i = R.take i ++ ([x] ++ R.drop i) from rfl, flatF_append, flatF_append, flatF_one, List.append_assoc]
theorem slice_loF' {b off n c k : Nat} (h1 : k < n) (hc : n ≤ c) (w : World) : (Instr.slice 23 (.slice (some ⟨b, off, none⟩) n c) (some (.int .i64 (k : Int))) none none).run Try.prog w = .ok (.slice (some ⟨b, off + k * 38, none⟩) (n - k) (c - k)) w := by
  rw [slice_loF (by omega), if_neg (by omega)]
  simp [Addr.add_lit]
theorem overlaps_no {b vb off voff la ca lb cb kA kB : Nat} {tA tB : TypeId} {X Y : Array Value} {w : World} (hA : Whole w vb tA X) (hB : Whole w b tB Y) (hne : vb ≠ b) (h0 : Y.size ≠ 0) (hv : voff < X.size) :
    (callFunc 68 #[.slice (some ⟨vb, voff, none⟩) la ca, .slice (some ⟨b, off, none⟩) lb cb]).run Try.prog w = .ok (.value (.bool false)) w := by
  rw [run_callFunc_extern Try.func68 (by kernel_rfl) (by kernel_rfl) (by kernel_rfl) (e := Extern.SlicesOverlaps.overlaps #[23, 23] #[4]) (by kernel_rfl),
    Lib.run_overlaps_apart w 23 4 30 factsU 38 sz_fact ⟨vb, voff, none⟩ ⟨b, off, none⟩ la ca lb cb hne tA tB X.size Y.size (by unfold World.shape?; rw [show w.heap[vb]? = _ from hA]) (by unfold World.shape?; rw [show w.heap[b]? = _ from hB]) h0 (hA.frozen _) (hA.frozen _)]
  rfl
end Go.Proofs.Ytdfmfjahnnifnaa
