/-
  Rows of values of one kind in memory, whatever the kind is: each takes as many cells, none of which is an address (structs of numbers). Rows that came in, rows of the call's own, appends, literals, stores.
-/
import Derived.Test.YtiogfkhmigbgpaaDoorZq
import Derived.Great.BuildSlice
import Derived.Deep.RegionHeld
import Derived.Deep.QuietTactic
import Derived.BigQuiet
import Derived.Deep.Cut
import Derived.OrdersHeld
namespace Go.Proofs.YtiogfkhmigbgpaaDoor
open Go.RowKit Go.Great
set_option linter.unusedVariables false
set_option linter.unusedSimpArgs false
set_option maxRecDepth 20000
theorem wpList_store_part {P : Program} {ops : Array Oper} {rest : List Oper} {op : Oper} {a : Act} {w : World} {Q : Exit → Act → World → Prop} (hgd : op.guard = none) {n : TypeId} {cur : List Value} (ty : TypeId) (x y : Operand) (ho : op.op = .store ty x y)
    (g o : Nat) (cells : List Value) (hx : a.eval x = .pointer (some ⟨g, o, none⟩)) (hy : a.eval y = .agg cells.toArray)
    (hg : Whole w g n cur.toArray) (hi : (P.info? ty).map (·.size) = some cells.length) (h1 : ∀ v ∈ cells, v.oneCell' = true) (hf : o + cells.length ≤ cur.length)
    (h : wpList P ops Q rest (a.put op.dst undef) (w.setRow g (splice cur o cells).toArray)) : wpList P ops Q (op :: rest) a w :=
  wpList_plain hgd fun _ hK => wp_store_part ty x y ho g o cells hx hy hg hi h1 hf (hK _ _ h)
theorem wpList_load_rowG {P : Program} {ops : Array Oper} {rest : List Oper} {o : Oper} {a : Act} {w : World} {Q : Exit → Act → World → Prop} (hgd : Region.wanted o (yielded ops a.tmps) = true) (ty : TypeId) (x : Operand) (ho : o.op = .load ty x)
    (g : Nat) (hx : a.eval x = .pointer (some ⟨g, 0, none⟩)) (t : TypeId) (cs : Array Value) (fr : Nat × Nat) (d : TypeDesc) (hg : w.heap[g]? = some (.cells cs t fr))
    (hu : P.underlying ty = some d) (hd : (match d with | .struct _ | .array _ _ => true | _ => false) = true) (hi : (P.info? ty).map (·.size) = some cs.size)
    (h : wpList P ops Q rest (a.put o.dst (.agg cs)) w) : wpList P ops Q (o :: rest) a w :=
  wpList_step fun _ hK => by rw [if_pos hgd]; exact wp_load_row ty x ho g hx t cs fr d hg hu hd hi (hK _ _ h)
/-- A kind of values: its cells, and what the program's table of types says of it. -/
structure Elem (α : Type) where
  K : Nat
  T : TypeId
  TS : TypeId
  enc : α → List Value
  z : α
  ok : α → Prop
  bytes : Nat
  zero : Value
  hK : 0 < K
  len : ∀ x, (enc x).length = K
  one : ∀ x, ∀ v ∈ enc x, v.oneCell' = true
  und : Tryd.prog.underlying TS = some (.slice T)
  info : (Tryd.prog.info? T).map (fun i => (i.zero, i.size, i.bytes)) = some (some zero, K, bytes)
  zs : zero.cells.size = K
  hb : bytes ≤ 1000
  hKs : K ≤ 1000
abbrev Any : Nat → Prop := fun _ => True
namespace Elem
variable {α : Type} (E : Elem α)
def flat (l : List α) : List Value := (l.map E.enc).flatten
theorem flat_cons (x : α) (l : List α) : E.flat (x :: l) = E.enc x ++ E.flat l := by simp [flat]
theorem flat_append (a b : List α) : E.flat (a ++ b) = E.flat a ++ E.flat b := by simp [flat]
theorem flat_len (l : List α) : (E.flat l).length = l.length * E.K := by
  induction l with
  | nil => simp [flat]
  | cons x l ih => rw [flat_cons, List.length_append, E.len, ih, List.length_cons, Nat.add_mul, Nat.one_mul, Nat.add_comm]
theorem flat_one (l : List α) : ∀ u ∈ E.flat l, u.oneCell' = true := by
  intro u hu
  obtain ⟨c, hc, hu⟩ := List.mem_flatten.1 hu
  obtain ⟨m, hm, rfl⟩ := List.mem_map.1 hc
  exact E.one m u hu
theorem flat_idx : ∀ (l : List α) (k j : Nat), k < l.length → j < E.K → (E.flat l)[k * E.K + j]? = (E.enc (l.getD k E.z))[j]?
  | [], k, j, h, _ => by simp at h
  | x :: l, 0, j, _, hj => by
    rw [flat_cons, Nat.zero_mul, Nat.zero_add, List.getElem?_append_left (by rw [E.len]; exact hj)]
    rfl
  | x :: l, k + 1, j, h, hj => by
    rw [flat_cons, List.getElem?_append_right (by rw [E.len, Nat.add_mul, Nat.one_mul]; omega), E.len, show (k + 1) * E.K + j - E.K = k * E.K + j by rw [Nat.add_mul, Nat.one_mul]; omega]
    exact flat_idx l k j (by simpa using h) hj
/-- The slice a, n holds the values l; where it has any its block is one of S. -/
def Row (w : World) (S : Nat → Prop) (a : Option Addr) (n : Nat) (l : List α) : Prop :=
  l.length = n ∧ (∀ x ∈ l, E.ok x) ∧ (l = [] ∨ ∃ b off, a = some ⟨b, off, none⟩ ∧ S b ∧ b < w.heap.size ∧ ∀ k, k < n → w.rangeAt b (off + k * E.K) (E.enc (l.getD k E.z)))
section
variable {E} {w w' : World} {S S' : Nat → Prop} {a : Option Addr} {n : Nat} {l : List α}
theorem Row.keep (h : E.Row w S a n l) (hz : w.heap.size ≤ w'.heap.size) (hk : ∀ b, b < w.heap.size → S b → w'.heap[b]? = w.heap[b]?) : E.Row w' S a n l := by
  obtain ⟨h1, h2, h3⟩ := h
  refine ⟨h1, h2, ?_⟩
  rcases h3 with h | ⟨b, off, rfl, hs, hb, hc⟩
  · exact Or.inl h
  · refine Or.inr ⟨b, off, rfl, hs, by omega, fun k hk' j v hv => ?_⟩
    exact (World.cell?_of_block (w := w) (hk b hb hs)).trans (hc k hk' j v hv)
theorem Row.weak (h : E.Row w S a n l) (hs : ∀ b, b < w.heap.size → S b → S' b) : E.Row w S' a n l := by
  obtain ⟨h1, h2, h3⟩ := h
  refine ⟨h1, h2, ?_⟩
  rcases h3 with h | ⟨b, off, rfl, hs', hb, hc⟩
  · exact Or.inl h
  · exact Or.inr ⟨b, off, rfl, hs b hb hs', hb, hc⟩
theorem Row.any (h : E.Row w S a n l) : E.Row w Any a n l := h.weak fun _ _ _ => trivial
theorem Row.old (h : E.Row w S a n l) : E.Row w (fun b => b < w.heap.size) a n l := h.weak fun _ hb _ => hb
theorem Row.below {B : Nat} (h : E.Row w S a n l) (hb : Below B w w') (hs : ∀ b, b < w.heap.size → S b → b < B) : E.Row w' S a n l :=
  h.keep hb.size fun b hlt hS => hb.block b (hs b hlt hS)
theorem Row.on (h : E.Row w Any a n l) (hb : Below w.heap.size w w') : E.Row w' Any a n l := h.below hb (fun _ h _ => h)
theorem Row.nil (w : World) (S : Nat → Prop) (a : Option Addr) : E.Row w S a 0 [] := ⟨rfl, (fun m hm => by cases hm), Or.inl rfl⟩
theorem Row.at_ (h : E.Row w S a n l) {k : Nat} (hk : k < n) : ∃ b off, a = some ⟨b, off, none⟩ ∧ S b ∧ b < w.heap.size ∧ w.rangeAt b (off + k * E.K) (E.enc (l.getD k E.z)) := by
  obtain ⟨h1, h2, h3⟩ := h
  rcases h3 with h | ⟨b, off, rfl, hs, hb, hc⟩
  · subst h; simp at h1; omega
  · exact ⟨b, off, rfl, hs, hb, hc k hk⟩
theorem Row.rows (h : E.Row w S a n l) (hn : 0 < n) : ∃ b off, a = some ⟨b, off, none⟩ ∧ S b ∧ b < w.heap.size ∧ ∀ k, k < n → w.rangeAt b (off + k * E.K) (E.enc (l.getD k E.z)) := by
  obtain ⟨h1, h2, h3⟩ := h
  rcases h3 with h | ⟨b, off, rfl, hs, hb, hc⟩
  · subst h; simp at h1; omega
  · exact ⟨b, off, rfl, hs, hb, hc⟩
theorem Row.in_ (h : E.Row w S a n l) {k : Nat} (hk : k < n) : E.ok (l.getD k E.z) := by
  have hl : k < l.length := by have := h.1; omega
  have : l.getD k E.z = l[k] := by simp [hl]
  rw [this]
  exact h.2.1 _ (List.getElem_mem hl)
theorem Row.cells {ad : Addr} (h : E.Row w S (some ad) n l) : ∀ j u, (E.flat l)[j]? = some u → w.cell? (ad.add j) = some u := by
  intro j u hu
  have hj : j < l.length * E.K := by
    have := (List.getElem?_eq_some_iff.1 hu).1
    rw [flat_len] at this; exact this
  have hk : j / E.K < n := by rw [← h.1]; exact (Nat.div_lt_iff_lt_mul E.hK).2 hj
  obtain ⟨b, off, e, _, _, hc⟩ := h.at_ hk
  injection e with e
  subst e
  have hm := Nat.mod_lt j E.hK
  have he : j / E.K * E.K + j % E.K = j := by rw [Nat.mul_comm]; exact Nat.div_add_mod j E.K
  have e2 := E.flat_idx l (j / E.K) (j % E.K) (by rw [h.1]; exact hk) hm
  rw [he] at e2
  have h4 := hc (j % E.K) u (by rw [← e2]; exact hu)
  rw [Addr.add_lit, ← h4, Nat.add_assoc, he]
end
/-- A row of the call's own. -/
structure Own (w : World) (B : Nat) (a : Option Addr) (n c : Nat) (l : List α) : Prop where
  own : w.ownsRow B E.T E.K (.slice a n c) n (E.flat l)
  mem : ∀ x ∈ l, E.ok x
  len : l.length = n
theorem own_keep {w w' : World} {B n : Nat} {xs : List Value} {v : Value} {e s : Nat} (h : w.ownsRow B e s v n xs) (hk : ∀ b, v.ownBlock = some b → w'.heap[b]? = w.heap[b]?) : w'.ownsRow B e s v n xs := by
  refine ⟨h.1, ?_⟩
  rcases h.2 with h2 | ⟨g, cap, cur, rfl, hb, hh, rest⟩
  · exact Or.inl h2
  · exact Or.inr ⟨g, cap, cur, rfl, hb, (hk g rfl).trans hh, rest⟩
theorem own_ge {w : World} {B : Nat} {v : Value} {e s n : Nat} {xs : List Value} (h : w.ownsRow B e s v n xs) (b : Nat) (hb : v.ownBlock = some b) : B ≤ b := (h.lt b hb).1
section
variable {E} {w w' : World} {B B' : Nat} {a : Option Addr} {n c : Nat} {l : List α}
theorem Own.below (h : E.Own w B a n c l) (hb : Below w.heap.size w w') : E.Own w' B a n c l := ⟨own_keep h.own (fun b hq => hb.block b (h.own.lt b hq).2), h.mem, h.len⟩
theorem Own.mono (h : E.Own w B a n c l) (hB : B' ≤ B) : E.Own w B' a n c l := ⟨⟨h.own.1, h.own.2.imp id (fun ⟨g, cap, cur, h1, h2, h3⟩ => ⟨g, cap, cur, h1, Nat.le_trans hB h2, h3⟩)⟩, h.mem, h.len⟩
theorem Own.nil (w : World) (B : Nat) : E.Own w B none 0 0 [] := ⟨World.ownsRow_nil _ _ _ _, (fun m hm => by cases hm), rfl⟩
/-- A row that has any value. -/
theorem Own.form (h : E.Own w B a n c l) (h0 : 0 < n) : ∃ (g : Nat) (cur : List Value), a = some ⟨g, 0, none⟩ ∧ B ≤ g ∧ g < w.heap.size ∧ n ≤ c ∧ Whole w g E.T cur.toArray ∧ n * E.K ≤ cur.length ∧ cur.take (n * E.K) = E.flat l := by
  rcases h.own.2 with ⟨h1, h2⟩ | ⟨g, cap, cur, hv, hb, hg, hnc, hcm, hcs, ht⟩
  · simp at h1; omega
  · injection hv with e1 e2 e3
    subst e1 e3
    refine ⟨g, cur.toList, rfl, hb, (Array.getElem?_eq_some_iff.1 hg).1, hnc, by rw [Array.toArray_toList]; exact hg, ?_, ht⟩
    rw [Array.length_toList, hcs]
    exact Nat.mul_le_mul_right _ hnc
theorem Own.row (h : E.Own w B a n c l) : E.Row w (B ≤ ·) a n l := by
  refine ⟨h.len, h.mem, ?_⟩
  by_cases h0 : n = 0
  · exact Or.inl (List.eq_nil_of_length_eq_zero (by rw [h.len]; exact h0))
  · obtain ⟨g, cur, rfl, h1, h2, _, h3, h4, h5⟩ := h.form (by omega)
    refine Or.inr ⟨g, 0, rfl, h1, h2, fun k hk j v hv => ?_⟩
    have hj : j < E.K := by
      have := (List.getElem?_eq_some_iff.1 hv).1
      rw [E.len] at this; exact this
    rw [Nat.zero_add, h3.cell, List.getElem?_toArray]
    have hlt : k * E.K + j < n * E.K := by
      have : (k + 1) * E.K ≤ n * E.K := Nat.mul_le_mul_right _ hk
      rw [Nat.add_mul, Nat.one_mul] at this
      omega
    have e := E.flat_idx l k j (by rw [h.len]; exact hk) hj
    rw [← h5, List.getElem?_take_of_lt hlt] at e
    rw [e]; exact hv
theorem Own.cap (h : E.Own w B a n c l) : n ≤ c := by
  by_cases h0 : n = 0
  · omega
  · obtain ⟨g, cur, _, _, _, h1, _⟩ := h.form (by omega)
    exact h1
theorem Own.any (h : E.Own w B a n c l) : E.Row w Any a n l := h.row.any
/-- From an append. -/
theorem own_of {v : Value} {k : Nat} {l : List α} (hown : w.ownsRow B E.T E.K v k (E.flat l)) (hm : ∀ x ∈ l, E.ok x) (hl : l.length = k) : ∃ a c, v = .slice a k c ∧ E.Own w B a k c l := by
  rcases hown.2 with ⟨rfl, h2⟩ | ⟨g, cap, cur, rfl, r⟩
  · have hl0 : k = 0 := h2
    subst hl0
    exact ⟨_, _, rfl, hown, hm, hl⟩
  · exact ⟨_, _, rfl, hown, hm, hl⟩
end
theorem run_append (w : World) (ty : TypeId) (base : Nat) (v : Value) (n : Nat) (xs : List Value) (hown : w.ownsRow base E.T E.K v n xs) (S : Nat → Prop) (A : Option Addr) (m c : Nat) (l : List α) (hr : E.Row w S A m l) (hn : n ≤ 100000) (hm : m ≤ 100000) (hbase : base ≤ w.heap.size) :
    ∃ v' w', (Builtin.append_ #[E.TS, E.TS] ty #[v, .slice A m c]).run Tryd.prog w = .ok v' w' ∧ w'.ownsRow base E.T E.K v' (n + m) (xs ++ E.flat l) ∧ w.grownBy w' v.ownBlock ∧ (v'.ownBlock = v.ownBlock ∨ v'.ownBlock = some w.heap.size) := by
  obtain ⟨i, hi, hz, hsize, hby⟩ := info_parts E.info
  cases A with
  | none =>
    have hl : l = [] := by
      rcases hr.2.2 with h | ⟨b, off, h, _⟩
      · exact h
      · cases h
    subst hl
    have hm0 : m = 0 := hr.1.symm
    subst hm0
    refine ⟨v, w, ?_, by simpa [flat] using hown, World.grownBy.refl w _, .inl rfl⟩
    rcases hown.2 with ⟨rfl, rfl⟩ | ⟨g, cap, cur, rfl, _, _, hnc, _⟩
    · simp [Builtin.append_, run_underlying E.und, sizeOf, typeInfo, hi, Builtin.lenOf, Builtin.firstCells]
    · simp [Builtin.append_, run_underlying E.und, sizeOf, typeInfo, hi, Builtin.lenOf, Builtin.firstCells, hnc, storeCells]
  | some ad =>
    have hb := E.hb
    have hbb : (n + m) * E.bytes ≤ 140737488355328 := Nat.le_trans (Nat.mul_le_mul (show n + m ≤ 200000 by omega) hb) (by decide)
    obtain ⟨v', w', hrun, h2, h3, _, h5⟩ := run_append_own_at (P := Tryd.prog) w base E.TS ty E.T i E.zero E.K E.bytes E.und hi hz hsize hby E.zs E.hK v n xs hown ad m c (E.flat l) (by rw [flat_len, hr.1]) hr.cells (E.flat_one l) (by unfold maxLen; omega) hbb hbase
    exact ⟨v', w', hrun, h2, h3, h5⟩
/-- append of values onto a row of the call's own. -/
theorem wp_append (w : World) {o : Oper} {a : Act} {K : Act → World → Prop} {Q : Exit → Act → World → Prop} (s x : Operand)
    (ho : o.op = .call { callee := .builtin .append, args := #[s, x], argTypes := #[E.TS, E.TS] })
    (base : Nat) (v : Value) (n : Nat) (xs : List Value) (hs : a.eval s = v) (hown : w.ownsRow base E.T E.K v n xs)
    (S : Nat → Prop) (A : Option Addr) (m c : Nat) (l : List α) (hx : a.eval x = .slice A m c) (hr : E.Row w S A m l)
    (hn : n ≤ 100000) (hm : m ≤ 100000) (hbase : base ≤ w.heap.size)
    (h : ∀ v' w', w'.ownsRow base E.T E.K v' (n + m) (xs ++ E.flat l) → w.grownBy w' v.ownBlock → (v'.ownBlock = v.ownBlock ∨ v'.ownBlock = some w.heap.size) → K (a.put o.dst v') w') : o.wp Tryd.prog a w K Q := by
  obtain ⟨v', w', hrun, h2, h3, h4⟩ := E.run_append w o.type base v n xs hown S A m c l hr hn hm hbase
  unfold Oper.wp execOp
  simp only [ho, resolve, invoke, builtin, Sem.run_bind, Sem.run_pure, Result.andThen_ok, List.map_toArray, List.map_cons, List.map_nil, hs, hx, hrun]
  exact h v' w' h2 h3 h4
theorem wpList_append (w : World) {ops : Array Oper} {rest : List Oper} {o : Oper} {a : Act} {Q : Exit → Act → World → Prop} (hgd : Region.wanted o (yielded ops a.tmps) = true) (s x : Operand)
    (ho : o.op = .call { callee := .builtin .append, args := #[s, x], argTypes := #[E.TS, E.TS] })
    (base : Nat) (v : Value) (n : Nat) (xs : List Value) (hs : a.eval s = v) (hown : w.ownsRow base E.T E.K v n xs)
    (S : Nat → Prop) (A : Option Addr) (m c : Nat) (l : List α) (hx : a.eval x = .slice A m c) (hr : E.Row w S A m l)
    (hn : n ≤ 100000) (hm : m ≤ 100000) (hbase : base ≤ w.heap.size)
    (h : ∀ v' w', w'.ownsRow base E.T E.K v' (n + m) (xs ++ E.flat l) → w.grownBy w' v.ownBlock → (v'.ownBlock = v.ownBlock ∨ v'.ownBlock = some w.heap.size) → wpList Tryd.prog ops Q rest (a.put o.dst v') w') : wpList Tryd.prog ops Q (o :: rest) a w :=
  wpList_step fun _ hK => by rw [if_pos hgd]; exact E.wp_append w s x ho base v n xs hs hown S A m c l hx hr hn hm hbase fun v' w' h2 h3 h4 => hK _ _ (h v' w' h2 h3 h4)
/-- A literal without elements. -/
theorem run_build0 (w : World) : (Instr.buildSlice E.TS 0 #[]).run Tryd.prog w = .ok (.slice (some ⟨w.heap.size, 0, none⟩) 0 0) (w.alloc (.cells #[] E.T)) := by
  obtain ⟨i, hi, hz, hsize, hby⟩ := info_parts E.info
  have e : Array.map (fun _ => (default : Value)) (Array.range 0) = #[] := by simp
  simp [Instr.buildSlice, run_underlying E.und, sizeOf, typeInfo, hi, hsize, Instr.fill, newRow, e]
theorem wpList_build0 {ops : Array Oper} {rest : List Oper} {o : Oper} {a : Act} {w : World} {Q : Exit → Act → World → Prop} (hg : Region.wanted o (yielded ops a.tmps) = true) (ho : o.op = .buildSlice E.TS 0 #[])
    (h : wpList Tryd.prog ops Q rest (a.put o.dst (.slice (some ⟨w.heap.size, 0, none⟩) 0 0)) (w.alloc (.cells #[] E.T))) : wpList Tryd.prog ops Q (o :: rest) a w :=
  wpList_step fun _ hK => by
    rw [if_pos hg]
    unfold Oper.wp execOp
    simp only [ho, Sem.run_bind, List.map_toArray, List.map_nil, Array.map_empty, E.run_build0, Result.andThen_ok]
    exact hK _ _ h
theorem empty_own (w : World) : (w.alloc (.cells #[] E.T)).ownsRow w.heap.size E.T E.K (.slice (some ⟨w.heap.size, 0, none⟩) 0 0) 0 [] :=
  World.ownsRow_lit (base := w.heap.size) (size := E.K) (e := E.T) w #[] 0 (Nat.le_refl _) (Nat.zero_le _) (by simp)
/-- A literal of one struct. -/
theorem wp_build1 {o : Oper} {a : Act} {w : World} {K : Act → World → Prop} {Q : Exit → Act → World → Prop} (ix : Nat) (ho : o.op = .buildSlice E.TS 1 #[(0, .tmp ix)]) (x : α)
    (hev : a.eval (.tmp ix) = .agg (E.enc x).toArray) (h : K (a.put o.dst (.slice (some ⟨w.heap.size, 0, none⟩) 1 1)) (w.alloc (.cells (E.enc x).toArray E.T))) : o.wp Tryd.prog a w K Q := by
  obtain ⟨i, hi, hz, hsize, hby⟩ := info_parts E.info
  have hk := E.hKs
  have hK := E.hK
  refine wp_buildSlice E.TS E.T 1 #[(0, .tmp ix)] ho (E.enc x).toArray i _ E.und hi hz (by rw [hsize, Nat.one_mul]; omega) (by rw [hsize, Nat.one_mul]; omega) ?_ h
  rw [hsize]
  have e1 : ((#[(0, Operand.tmp ix)] : Array (Nat × Operand)).map fun (i, x) => (i, a.eval x)).toList = (([Value.agg (E.enc x).toArray] : List Value).zipIdx 0).map fun x => (x.2, x.1) := by
    simp only [List.map_toArray, List.map_cons, List.map_nil, hev]
    rfl
  rw [e1]
  have h := Go.Great.fill_whole (s := E.K) E.hK [Value.agg (E.enc x).toArray] ((Array.range (1 * E.K)).map (E.zero.cells[· % E.zero.cells.size]!)) (by intro v hv; simp at hv; subst hv; simp [Value.cells, E.len]) (by simp)
  refine h.trans ?_
  simp [Value.cells]
theorem wpList_build1 {ops : Array Oper} {rest : List Oper} {o : Oper} {a : Act} {w : World} {Q : Exit → Act → World → Prop} (hg : Region.wanted o (yielded ops a.tmps) = true) (ix : Nat) (ho : o.op = .buildSlice E.TS 1 #[(0, .tmp ix)]) (x : α)
    (hev : a.eval (.tmp ix) = .agg (E.enc x).toArray) (h : wpList Tryd.prog ops Q rest (a.put o.dst (.slice (some ⟨w.heap.size, 0, none⟩) 1 1)) (w.alloc (.cells (E.enc x).toArray E.T))) : wpList Tryd.prog ops Q (o :: rest) a w :=
  wpList_step fun _ hK => by rw [if_pos hg]; exact E.wp_build1 ix ho x hev (hK _ _ h)
/-- A block that is one value is a row of one. -/
theorem row_one {w : World} {S : Nat → Prop} {g : Nat} {x : α} (h : Whole w g E.T (E.enc x).toArray) (hS : S g) (hx : E.ok x) : E.Row w S (some ⟨g, 0, none⟩) 1 [x] := by
  refine ⟨rfl, fun y hy => by rw [List.mem_singleton.1 hy]; exact hx, Or.inr ⟨g, 0, rfl, hS, h.lt, fun k hk j v hv => ?_⟩⟩
  have : k = 0 := by omega
  subst this
  rw [Nat.zero_mul, Nat.zero_add, h.cell, List.getElem?_toArray]
  exact hv
theorem flat_singleton (x : α) : E.flat [x] = E.enc x := by simp [flat]
/-- A row that grew by one. -/
theorem own_add {w w' : World} {B : Nat} {a : Option Addr} {n c : Nat} {l : List α} {v' : Value} {x : α} (h : E.Own w B a n c l) (hx : E.ok x) (hown : w'.ownsRow B E.T E.K v' (n + 1) (E.flat l ++ E.flat [x])) : ∃ a' c', v' = .slice a' (n + 1) c' ∧ E.Own w' B a' (n + 1) c' (l ++ [x]) := by
  rw [← flat_append] at hown
  refine own_of hown (fun y hy => ?_) (by simp [h.len])
  rcases List.mem_append.1 hy with hy | hy
  · exact h.mem y hy
  · rw [List.mem_singleton.1 hy]; exact hx
/-- What a copy of a row is. -/
theorem copied {w w' : World} {v' : Value} {n : Nat} {l : List α} (hl : l.length = n) (hm : ∀ m ∈ l, E.ok m) (hown : w'.ownsRow w.heap.size E.T E.K v' n (E.flat l))
    (hg : (w.alloc (.cells #[] E.T)).grownBy w' (Value.slice (some ⟨w.heap.size, 0, none⟩) 0 0).ownBlock) : ∃ a c, v' = .slice a n c ∧ E.Own w' w.heap.size a n c l ∧ Below w.heap.size w w' := by
  obtain ⟨a, c, rfl, h⟩ := own_of hown hm hl
  refine ⟨a, c, rfl, h, (below_alloc w (.cells #[] E.T)).grown hg (below_alloc w _).size fun k hk => ?_⟩
  simp [Value.ownBlock] at hk
  omega
theorem flat_set (l : List α) (k : Nat) (x : α) (hk : k < l.length) : splice (E.flat l) (k * E.K) (E.enc x) = E.flat (l.set k x) := by
  induction l generalizing k with
  | nil => simp at hk
  | cons y l ih =>
    cases k with
    | zero =>
      unfold splice
      rw [Nat.zero_mul, List.take_zero, List.nil_append, Nat.zero_add, E.len, flat_cons, List.drop_left' (E.len y), List.set_cons_zero, flat_cons]
    | succ k =>
      have ih := ih k (by simpa using hk)
      unfold splice at ih ⊢
      have e : (k + 1) * E.K = E.K + k * E.K := by rw [Nat.add_mul, Nat.one_mul, Nat.add_comm]
      have hly : (E.enc y).length = E.K := E.len y
      rw [List.set_cons_succ, flat_cons, flat_cons, ← ih, e, ← hly, List.take_length_add_append, List.append_assoc, Nat.add_assoc, List.drop_length_add_append, hly]
/-- A value set in a row of one's own. -/
theorem own_set {w : World} {B g n c k : Nat} {l : List α} {cur : List Value} {x : α} (h : E.Own w B (some ⟨g, 0, none⟩) n c l) (hw : Whole w g E.T cur.toArray) (hk : k < n) (hx : E.ok x) :
    E.Own (w.setRow g (splice cur (k * E.K) (E.enc x)).toArray) B (some ⟨g, 0, none⟩) n c (l.set k x) := by
  have hlen : k * E.K + E.K ≤ n * E.K := by
    have : (k + 1) * E.K ≤ n * E.K := Nat.mul_le_mul_right _ hk
    rw [Nat.add_mul, Nat.one_mul] at this
    exact this
  refine ⟨?_, fun y hy => ?_, by rw [List.length_set]; exact h.len⟩
  · rcases h.own.2 with ⟨h', _⟩ | ⟨g', cap', cur', hv, hb, hh, hnc, hcm, hsz, htk⟩
    · simp at h'
    · injection hv with e1 e2 e3
      injection e1 with e1
      injection e1 with e1
      subst e1 e3
      have ec : cur.toArray = cur' := by
        have h1 : some (Obj.cells cur.toArray E.T (0, 0)) = some (Obj.cells cur' E.T (0, 0)) := hw.symm.trans hh
        injection h1 with h1
        injection h1 with h1
      subst ec
      rw [List.size_toArray] at hsz
      have hcl : n * E.K ≤ cur.length := by rw [hsz]; exact Nat.mul_le_mul_right _ hnc
      refine ⟨by rw [flat_len, List.length_set, h.len], Or.inr ⟨g, c, (splice cur (k * E.K) (E.enc x)).toArray, rfl, hb, (Whole.row hw _), hnc, hcm, ?_, ?_⟩⟩
      · rw [List.size_toArray, length_splice _ _ _ (by rw [E.len]; omega)]
        exact hsz
      · rw [← E.flat_set l k x (by rw [h.len]; exact hk), ← htk]
        simp only [splice, E.len]
        rw [List.take_append, List.take_append, List.take_take, List.length_take, Nat.min_eq_left (by omega : k * E.K ≤ cur.length), E.len, Nat.min_eq_right (by omega : k * E.K ≤ n * E.K), List.take_of_length_le (l := E.enc x) (by rw [E.len]; omega), List.take_drop]
        have e1 : k * E.K + E.K + (n * E.K - k * E.K - E.K) = n * E.K := by omega
        rw [e1, List.take_take, Nat.min_eq_left (by omega : k * E.K ≤ n * E.K)]
  · rcases List.mem_or_eq_of_mem_set hy with h1 | rfl
    · exact h.mem y h1
    · exact hx
end Elem
end Go.Proofs.YtiogfkhmigbgpaaDoor
