/-
  Plain mathematics of members; members in memory, alone and in rows; their equality.
-/
import Derived.Test.YtlcpiompmpccoaaHb
import Derived.Laws.StructEq
import Derived.Great.BuildSlice
import Derived.Deep.RegionHeld
namespace Mb
/-- A member: its Inc and its State. -/
abbrev M := Int × Int
def less (a b : M) : Prop := a.1 < b.1 ∨ (a.1 = b.1 ∧ a.2 < b.2)
instance (a b : M) : Decidable (less a b) := inferInstanceAs (Decidable (_ ∨ _))
def join (a b : M) : M := if less a b then b else a
def all : List M → List M → List M
  | [], b => b
  | x :: a, [] => x :: a
  | x :: a, y :: b => join x y :: all a b
def chk (m : M) : Int := if m.1 < 0 ∨ 1099511627776 < m.1 ∨ m.2 < 0 ∨ 2 < m.2 then 1 else 0
def suspect (m : M) : M := if m.2 = 0 then (m.1, 1) else m
def bury (m : M) : M := if m.2 = 1 then (m.1, 2) else m
def speak (own heard : M) : M := if heard.1 < own.1 ∨ heard.2 = 0 then own else if 1099511627776 ≤ heard.1 then (heard.1, 0) else (heard.1 + 1, 0)
theorem join_comm (a b : M) : join a b = join b a := by
  obtain ⟨a1, a2⟩ := a
  obtain ⟨b1, b2⟩ := b
  unfold join
  by_cases h1 : less (a1, a2) (b1, b2)
  · rw [if_pos h1, if_neg (show ¬ less (b1, b2) (a1, a2) by unfold less at *; simp only at *; omega)]
  · by_cases h2 : less (b1, b2) (a1, a2)
    · rw [if_neg h1, if_pos h2]
    · rw [if_neg h1, if_neg h2]
      unfold less at h1 h2
      simp only at h1 h2
      simp only [Prod.mk.injEq]
      omega
theorem join_self (a : M) : join a a = a := by
  unfold join
  split <;> rfl
theorem join_assoc (a b c : M) : join (join a b) c = join a (join b c) := by
  obtain ⟨a1, a2⟩ := a
  obtain ⟨b1, b2⟩ := b
  obtain ⟨c1, c2⟩ := c
  unfold join
  by_cases h1 : less (a1, a2) (b1, b2)
  · by_cases h2 : less (b1, b2) (c1, c2)
    · rw [if_pos h1, if_pos h2, if_pos (show less (a1, a2) (c1, c2) by unfold less at *; simp only at *; omega)]
    · rw [if_pos h1, if_neg h2, if_pos h1]
  · by_cases h2 : less (b1, b2) (c1, c2)
    · rw [if_neg h1, if_pos h2]
    · rw [if_neg h1, if_neg h2, if_neg h1, if_neg (show ¬ less (a1, a2) (c1, c2) by unfold less at *; simp only at *; omega)]
theorem join_left (a b : M) : join (join a b) a = join a b := by rw [join_comm, ← join_assoc, join_self]
theorem join_right (a b : M) : join (join a b) b = join a b := by rw [join_assoc, join_self]
theorem all_nil (a : List M) : all a [] = a := by cases a <;> rfl
theorem all_comm : ∀ (a b : List M), all a b = all b a
  | [], b => by rw [all_nil]; rfl
  | x :: a, [] => rfl
  | x :: a, y :: b => by simp only [all]; rw [join_comm, all_comm a b]
theorem all_assoc : ∀ (a b c : List M), all (all a b) c = all a (all b c)
  | [], b, c => rfl
  | x :: a, [], c => rfl
  | x :: a, y :: b, [] => rfl
  | x :: a, y :: b, z :: c => by simp only [all]; rw [join_assoc, all_assoc a b c]
theorem all_self : ∀ (a : List M), all a a = a
  | [] => rfl
  | x :: a => by simp only [all]; rw [join_self, all_self a]
theorem all_again (a b : List M) : all (all a b) b = all a b := by rw [all_assoc, all_self]
theorem all_len : ∀ (a b : List M), (all a b).length = max a.length b.length
  | [], b => by simp [all]
  | x :: a, [] => by simp [all]
  | x :: a, y :: b => by simp only [all, List.length_cons]; rw [all_len a b]; omega
def nought : M := (0, 0)
theorem all_get : ∀ (a b : List M) (i : Nat), (all a b)[i]? = match a[i]?, b[i]? with | some x, some y => some (join x y) | some x, none => some x | none, y => y
  | [], b, i => by simp [all]
  | x :: a, [], i => by
    simp only [all, List.getElem?_nil]
    cases (x :: a)[i]? <;> rfl
  | x :: a, y :: b, 0 => rfl
  | x :: a, y :: b, i + 1 => by simp only [all, List.getElem?_cons_succ]; exact all_get a b i
end Mb
namespace Go.Proofs.Ytlcpiompmpccoaa
open Go.RowKit Go.Great
set_option linter.unusedVariables false
set_option linter.unusedSimpArgs false
set_option maxRecDepth 20000
open Mb
/-- A member's cells. -/
def mc (m : M) : Array Value := #[.int .i64 m.1, .int .i64 m.2]
def I64 (n : Int) : Prop := -9223372036854775808 ≤ n ∧ n ≤ 9223372036854775807
def Min (m : M) : Prop := I64 m.1 ∧ I64 m.2
theorem ret_i64 {a b : Int} (h : a = b) : Ending.returned (.int .i64 a) = .returned (.int .i64 b) := by rw [h]
theorem ret_bool {a b : Bool} (h : a = b) : Ending.returned (.bool a) = .returned (.bool b) := by rw [h]
theorem ret_mc {a b : M} (h : a = b) : Ending.returned (.agg (mc a)) = .returned (.agg (mc b)) := by rw [h]
theorem info2 : (Try.prog.info? 24).map (·.size) = some 2 := by kernel_rfl
theorem mem_info : (Try.prog.info? 24).map (fun i => (i.zero, i.size, i.bytes)) = some (some (.agg #[.int .i64 0, .int .i64 0]), 2, 16) := by kernel_rfl
theorem mc_one (m : M) : (mc m).all (·.oneCell') = true := by simp [mc, Value.oneCell']
theorem members_und : Try.prog.underlying 30 = some (.slice 24) := Try.underlying30
/-- Two members compared. -/
def eqF (d : Nat) (xs ys : Array Value) : List (String × TypeId × Nat) → Sem Bool
  | [] => pure true
  | f :: fs =>
    if f.1 ≠ "_" then do
      let a ← part f.2.1 xs f.2.2
      let b ← part f.2.1 ys f.2.2
      let r ← Op.equalIn d f.2.1 a b
      if (!r) = true then pure false else eqF d xs ys fs
    else eqF d xs ys fs
theorem eqF_is (d : Nat) (xs ys : Array Value) (fs : List Field) : Op.eqFields d xs ys fs = eqF d xs ys (fs.map fun f => (f.name, f.type, f.offset)) := by
  induction fs with
  | nil => rfl
  | cons f fs ih =>
    simp only [Op.eqFields, eqF, List.map_cons]
    rw [ih]
theorem fields_m : ((Try.prog.fieldsOf 24).toList.map fun f => (f.name, f.type, f.offset)) = [("Inc", 2, 0), ("State", 3, 1)] := by kernel_rfl
theorem und_fm : Try.prog.underlying 24 = some (.struct (Try.prog.fieldsOf 24)) := by kernel_rfl
theorem part_int {t : TypeId} {k : IntKind} (hu : Try.prog.underlying t = some (.int k)) (C : Array Value) (i : Nat) (v : Value) (h : C[i]? = some v) (w : World) : (part t C i).run Try.prog w = .ok v w := by
  have ha : (isAgg t).run Try.prog w = .ok false w := by
    unfold isAgg
    rw [Sem.run_bind, run_underlying hu w]
    rfl
  unfold part
  rw [Sem.run_bind, ha]
  simp only [Result.andThen_ok, Bool.false_eq_true, if_false, h]
  rfl
theorem equalM (a b : M) (w : World) : (Op.equalIn 10000 24 (.agg (mc a)) (.agg (mc b))).run Try.prog w = .ok (decide (a = b)) w := by
  rw [run_equalIn_struct w 9999 _ _ _ und_fm (by kernel_rfl), eqF_is, fields_m]
  have p0 : ∀ (b : M) (w : World), (part 2 (mc b) 0).run Try.prog w = .ok (.int .i64 b.1) w := fun b w => part_int Try.underlying2 _ _ _ rfl w
  have p1 : ∀ (b : M) (w : World), (part 3 (mc b) 1).run Try.prog w = .ok (.int .i64 b.2) w := fun b w => part_int Try.underlying3 _ _ _ rfl w
  have i0 := fun (x y : Int) (w : World) => run_equalIn_int (P := Try.prog) w 9998 3 .i64 .i64 x y Try.underlying3
  have i1 := fun (x y : Int) (w : World) => run_equalIn_int (P := Try.prog) w 9998 2 .i64 .i64 x y Try.underlying2
  simp only [eqF, Sem.run_bind, p0, p1, i0, i1, Result.andThen_ok, Sem.run_ite, Sem.run_pure]
  obtain ⟨a1, a2⟩ := a
  obtain ⟨b1, b2⟩ := b
  simp only [Prod.mk.injEq]
  by_cases h0 : a1 = b1
  · by_cases h1 : a2 = b2
    · simp [h0, h1]
    · simp [h0, h1]
  · simp [h0]
theorem eqM (a b : M) (w : World) : (binOp .eql 24 (.agg (mc a)) (.agg (mc b))).run Try.prog w = .ok (.bool (decide (a = b))) w := by
  rw [run_eql_struct w, equalM a b w]
  rfl
theorem neM (a b : M) (w : World) : (binOp .neq 24 (.agg (mc a)) (.agg (mc b))).run Try.prog w = .ok (.bool (!decide (a = b))) w := by
  rw [run_neq_struct w, equalM a b w]
  rfl
theorem guard_m (op : BinOp) (x y : Operand) (xs ys : Array Value) (w : World) : (eqGuard op 24 x y (.agg xs) (.agg ys)).run Try.prog w = .ok () w := run_eqGuard_agg w op _ x y xs ys (by kernel_rfl)
/-- Rows of members. -/
def flatM (l : List M) : List Value := (l.map fun m => (mc m).toList).flatten
def Ms (w : World) (S : Nat → Prop) (a : Option Addr) (n : Nat) (l : List M) : Prop :=
  l.length = n ∧ (∀ m ∈ l, Min m) ∧ (l = [] ∨ ∃ b off, a = some ⟨b, off, none⟩ ∧ S b ∧ b < w.heap.size ∧ ∀ k, k < n → w.cell? ⟨b, off + k * 2, none⟩ = some (.int .i64 (l.getD k nought).1) ∧ w.cell? ⟨b, off + k * 2 + 1, none⟩ = some (.int .i64 (l.getD k nought).2))
section
variable {w w' : World} {S S' : Nat → Prop} {a : Option Addr} {n : Nat} {l : List M}
theorem Ms.keep (h : Ms w S a n l) (hz : w.heap.size ≤ w'.heap.size) (hk : ∀ b, b < w.heap.size → S b → w'.heap[b]? = w.heap[b]?) : Ms w' S a n l := by
  obtain ⟨h1, h2, h3⟩ := h
  refine ⟨h1, h2, ?_⟩
  rcases h3 with h | ⟨b, off, rfl, hs, hb, hc⟩
  · exact Or.inl h
  · refine Or.inr ⟨b, off, rfl, hs, by omega, fun k hk' => ?_⟩
    have e := hc k hk'
    exact ⟨(World.cell?_of_block (w := w) (hk b hb hs)).trans e.1, (World.cell?_of_block (w := w) (hk b hb hs)).trans e.2⟩
theorem Ms.weak (h : Ms w S a n l) (hs : ∀ b, b < w.heap.size → S b → S' b) : Ms w S' a n l := by
  obtain ⟨h1, h2, h3⟩ := h
  refine ⟨h1, h2, ?_⟩
  rcases h3 with h | ⟨b, off, rfl, hs', hb, hc⟩
  · exact Or.inl h
  · exact Or.inr ⟨b, off, rfl, hs b hb hs', hb, hc⟩
theorem Ms.old (h : Ms w S a n l) : Ms w (fun b => b < w.heap.size) a n l := h.weak fun _ hb _ => hb
theorem Ms.below {B : Nat} (h : Ms w S a n l) (hb : Below B w w') (hs : ∀ b, b < w.heap.size → S b → b < B) : Ms w' S a n l :=
  h.keep hb.size fun b hlt hS => hb.block b (hs b hlt hS)
theorem Ms.nil (w : World) (S : Nat → Prop) (a : Option Addr) : Ms w S a 0 [] := ⟨rfl, (fun m hm => by cases hm), Or.inl rfl⟩
theorem Ms.at_ (h : Ms w S a n l) {k : Nat} (hk : k < n) : ∃ b off, a = some ⟨b, off, none⟩ ∧ S b ∧ b < w.heap.size ∧ w.cell? ⟨b, off + k * 2, none⟩ = some (.int .i64 (l.getD k nought).1) ∧ w.cell? ⟨b, off + k * 2 + 1, none⟩ = some (.int .i64 (l.getD k nought).2) := by
  obtain ⟨h1, h2, h3⟩ := h
  rcases h3 with h | ⟨b, off, rfl, hs, hb, hc⟩
  · subst h; simp at h1; omega
  · exact ⟨b, off, rfl, hs, hb, hc k hk⟩
theorem Ms.in_ (h : Ms w S a n l) {k : Nat} (hk : k < n) : Min (l.getD k nought) := by
  have hl : k < l.length := by have := h.1; omega
  have : l.getD k nought = l[k] := by simp [hl]
  rw [this]
  exact h.2.1 _ (List.getElem_mem hl)
end
theorem flatM_len (l : List M) : (flatM l).length = l.length * 2 := by
  induction l with
  | nil => rfl
  | cons x l ih =>
    unfold flatM at *
    rw [List.map_cons, List.flatten_cons, List.length_append, ih, List.length_cons]
    simp [mc]
    omega
theorem flatM_append (a b : List M) : flatM (a ++ b) = flatM a ++ flatM b := by simp [flatM]
theorem flatM_one (l : List M) : ∀ u ∈ flatM l, u.oneCell' = true := by
  intro u hu
  obtain ⟨c, hc, hu⟩ := List.mem_flatten.1 hu
  obtain ⟨m, hm, rfl⟩ := List.mem_map.1 hc
  simp [mc] at hu
  rcases hu with rfl | rfl <;> rfl
theorem flatM_idx : ∀ {l : List M} (k : Nat), k < l.length → (flatM l)[k * 2]? = some (.int .i64 (l.getD k nought).1) ∧ (flatM l)[k * 2 + 1]? = some (.int .i64 (l.getD k nought).2)
  | [], k, h => by simp at h
  | x :: l, 0, _ => ⟨rfl, rfl⟩
  | x :: l, k + 1, h => by
    have e : flatM (x :: l) = Value.int .i64 x.1 :: Value.int .i64 x.2 :: flatM l := by simp [flatM, mc]
    have ih := flatM_idx (l := l) k (by simpa using h)
    rw [e, show (k + 1) * 2 = k * 2 + 1 + 1 by omega]
    simpa using ih
/-- A row of members of the call's own, as a slice. -/
theorem own_ms {w : World} {base : Nat} {v : Value} {n : Nat} {l : List M} (h : w.ownsRow base 24 2 v n (flatM l)) (hm : ∀ m ∈ l, Min m) (hl : l.length = n) : ∃ a c, v = .slice a n c ∧ n ≤ c ∧ Ms w (base ≤ ·) a n l := by
  by_cases h0 : n = 0
  · have hnil : l = [] := List.eq_nil_of_length_eq_zero (by omega)
    subst h0 hnil
    rcases h.2 with ⟨rfl, _⟩ | ⟨g, cap, cur, rfl, _, _, _, _⟩
    · exact ⟨_, _, rfl, Nat.zero_le _, Ms.nil _ _ _⟩
    · exact ⟨_, _, rfl, Nat.zero_le _, Ms.nil _ _ _⟩
  · obtain ⟨g, cap, rfl, hb', hlt⟩ := h.form (by omega)
    have hcap : n ≤ cap := by
      rcases h.2 with ⟨h', _⟩ | ⟨g', cap', cur, h', _, _, hnc, _⟩
      · simp at h'
      · simp only [Value.slice.injEq] at h'
        omega
    refine ⟨_, _, rfl, hcap, hl, hm, Or.inr ⟨g, 0, rfl, hb', hlt, fun k hk => ?_⟩⟩
    have e := flatM_idx (l := l) k (by omega)
    rw [Nat.zero_add, h.cellAt _ (by omega), h.cellAt _ (by omega)]
    exact e
theorem ms_cells {w : World} {S : Nat → Prop} {ad : Addr} {n : Nat} {l : List M} (h : Ms w S (some ad) n l) : ∀ j u, (flatM l)[j]? = some u → w.cell? (ad.add j) = some u := by
  intro j u hu
  have hj : j < l.length * 2 := by
    have := (List.getElem?_eq_some_iff.1 hu).1
    rw [flatM_len] at this; exact this
  have hk : j / 2 < n := by have := h.1; omega
  obtain ⟨b, off, e, _, _, c1, c2⟩ := h.at_ hk
  injection e with e
  subst e
  have e2 := flatM_idx (l := l) (j / 2) (by have := h.1; omega)
  rw [Addr.add_lit]
  by_cases hp : j % 2 = 0
  · have hje : j = j / 2 * 2 := by omega
    rw [hje] at hu ⊢
    rw [c1, ← hu, e2.1]
  · have hje : j = j / 2 * 2 + 1 := by omega
    rw [hje] at hu ⊢
    rw [← Nat.add_assoc, c2, ← hu, e2.2]
/-- append of members onto a row of the call's own. -/
theorem wp_append_ms (w : World) {o : Oper} {a : Act} {K : Act → World → Prop} {Q : Exit → Act → World → Prop} (s x : Operand)
    (ho : o.op = .call { callee := .builtin .append, args := #[s, x], argTypes := #[30, 30] })
    (base : Nat) (v : Value) (n : Nat) (xs : List Value) (hs : a.eval s = v) (hown : w.ownsRow base 24 2 v n xs)
    (S : Nat → Prop) (A : Option Addr) (m c : Nat) (l : List M) (hx : a.eval x = .slice A m c) (hr : Ms w S A m l)
    (hn : n ≤ 100000) (hm : m ≤ 100000) (hbase : base ≤ w.heap.size)
    (h : ∀ v' w', w'.ownsRow base 24 2 v' (n + m) (xs ++ flatM l) → w.grownBy w' v.ownBlock → (v'.ownBlock = v.ownBlock ∨ v'.ownBlock = some w.heap.size) → K (a.put o.dst v') w') : o.wp Try.prog a w K Q := by
  have hrun : ∃ v' w', (Builtin.append_ #[30, 30] o.type #[v, .slice A m c]).run Try.prog w = .ok v' w' ∧ w'.ownsRow base 24 2 v' (n + m) (xs ++ flatM l) ∧ w.grownBy w' v.ownBlock ∧ (v'.ownBlock = v.ownBlock ∨ v'.ownBlock = some w.heap.size) := by
    obtain ⟨i, hi, hz, hsize, hby⟩ := info_parts mem_info
    cases A with
    | none =>
      have hl : l = [] := by
        rcases hr.2.2 with h | ⟨b, off, h, _⟩
        · exact h
        · cases h
      subst hl
      have hm0 : m = 0 := hr.1.symm
      subst hm0
      refine ⟨v, w, ?_, by simpa [flatM] using hown, World.grownBy.refl w _, .inl rfl⟩
      rcases hown.2 with ⟨rfl, rfl⟩ | ⟨g, cap, cur, rfl, _, _, hnc, _⟩
      · simp [Builtin.append_, run_underlying members_und, sizeOf, typeInfo, hi, Builtin.lenOf, Builtin.firstCells]
      · simp [Builtin.append_, run_underlying members_und, sizeOf, typeInfo, hi, Builtin.lenOf, Builtin.firstCells, hnc, storeCells]
    | some ad =>
      obtain ⟨v', w', hrun, h2, h3, _, h5⟩ := run_append_own_at (P := Try.prog) w base 30 o.type 24 i _ 2 16 members_und hi hz hsize hby (by simp [Value.cells]) (by omega) v n xs hown ad m c (flatM l) (by rw [flatM_len, hr.1]) (ms_cells hr) (flatM_one l) (by unfold maxLen; omega) (by omega) hbase
      exact ⟨v', w', hrun, h2, h3, h5⟩
  obtain ⟨v', w', hrun, h2, h3, h4⟩ := hrun
  unfold Oper.wp execOp
  simp only [ho, resolve, invoke, builtin, Sem.run_bind, Sem.run_pure, Result.andThen_ok, List.map_toArray, List.map_cons, List.map_nil, hs, hx, hrun]
  exact h v' w' h2 h3 h4
theorem wpList_append_ms (w : World) {ops : Array Oper} {rest : List Oper} {o : Oper} {a : Act} {Q : Exit → Act → World → Prop} (hgd : Region.wanted o (yielded ops a.tmps) = true) (s x : Operand)
    (ho : o.op = .call { callee := .builtin .append, args := #[s, x], argTypes := #[30, 30] })
    (base : Nat) (v : Value) (n : Nat) (xs : List Value) (hs : a.eval s = v) (hown : w.ownsRow base 24 2 v n xs)
    (S : Nat → Prop) (A : Option Addr) (m c : Nat) (l : List M) (hx : a.eval x = .slice A m c) (hr : Ms w S A m l)
    (hn : n ≤ 100000) (hm : m ≤ 100000) (hbase : base ≤ w.heap.size)
    (h : ∀ v' w', w'.ownsRow base 24 2 v' (n + m) (xs ++ flatM l) → w.grownBy w' v.ownBlock → (v'.ownBlock = v.ownBlock ∨ v'.ownBlock = some w.heap.size) → wpList Try.prog ops Q rest (a.put o.dst v') w') : wpList Try.prog ops Q (o :: rest) a w :=
  wpList_step fun _ hK => by rw [if_pos hgd]; exact wp_append_ms w s x ho base v n xs hs hown S A m c l hx hr hn hm hbase fun v' w' h2 h3 h4 => hK _ _ (h v' w' h2 h3 h4)
theorem if_wanted {P Q : Prop} {b : Bool} (h : b = true) (hP : P) : if b = true then P else Q := by rw [if_pos h]; exact hP
end Go.Proofs.Ytlcpiompmpccoaa
