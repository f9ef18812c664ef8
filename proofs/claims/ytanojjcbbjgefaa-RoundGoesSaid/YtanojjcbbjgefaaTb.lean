/-
  Rows of whole numbers in memory: those that came in, and those of the call's own.
-/
import Derived.Test.YtanojjcbbjgefaaHb
import Derived.Test.YtanojjcbbjgefaaTa
import Derived.Deep.QuietTactic
import Derived.BigQuiet
import Derived.Deep.Cut
import Derived.OrdersHeld
import Derived.Great.BuildSlice
import Derived.Deep.RegionHeld
namespace Go.Proofs.Ytanojjcbbjgefaa
set_option maxRecDepth 20000
set_option linter.unusedVariables false
set_option linter.unusedSimpArgs false
open Go.RowKit
def In64 (x : Int) : Prop := -9223372036854775808 ≤ x ∧ x ≤ 9223372036854775807
def ints (l : List Int) : List Value := l.map (Value.int .i64)
theorem ints_len (l : List Int) : (ints l).length = l.length := by simp [ints]
theorem ints_get (l : List Int) (k : Nat) (h : k < l.length) : (ints l)[k]? = some (.int .i64 (l.getD k 0)) := by simp [ints, h]
theorem ints_append (a b : List Int) : ints (a ++ b) = ints a ++ ints b := by simp [ints]
theorem ints_one (l : List Int) : ∀ u ∈ ints l, u.oneCell' = true := ints_oneCell .i64 l
theorem all_ints (l : List Int) : (ints l).toArray.all (·.oneCell') = true := Array.all_eq_true_iff_forall_mem.2 (fun v hv => ints_one l v (by simpa using hv))
/-- The slice a, n holds the numbers l; where it has any its block is one of S. -/
def Ns (w : World) (S : Nat → Prop) (a : Option Addr) (n : Nat) (l : List Int) : Prop :=
  l.length = n ∧ (∀ x ∈ l, In64 x) ∧ (l = [] ∨ ∃ b off, a = some ⟨b, off, none⟩ ∧ S b ∧ b < w.heap.size ∧ ∀ k, k < n → w.cell? ⟨b, off + k, none⟩ = some (.int .i64 (l.getD k 0)))
section
variable {w w' : World} {S S' : Nat → Prop} {a : Option Addr} {n : Nat} {l : List Int}
theorem Ns.keep (h : Ns w S a n l) (hz : w.heap.size ≤ w'.heap.size) (hk : ∀ b, b < w.heap.size → S b → w'.heap[b]? = w.heap[b]?) : Ns w' S a n l := by
  obtain ⟨h1, h2, h3⟩ := h
  refine ⟨h1, h2, ?_⟩
  rcases h3 with h | ⟨b, off, rfl, hs, hb, hc⟩
  · exact Or.inl h
  · refine Or.inr ⟨b, off, rfl, hs, by omega, fun k hk' => ?_⟩
    rw [← hc k hk']
    exact World.cell?_of_block (w := w) (hk b hb hs)
theorem Ns.weak (h : Ns w S a n l) (hs : ∀ b, b < w.heap.size → S b → S' b) : Ns w S' a n l := by
  obtain ⟨h1, h2, h3⟩ := h
  refine ⟨h1, h2, ?_⟩
  rcases h3 with h | ⟨b, off, rfl, hs', hb, hc⟩
  · exact Or.inl h
  · exact Or.inr ⟨b, off, rfl, hs b hb hs', hb, hc⟩
theorem Ns.old (h : Ns w S a n l) : Ns w (fun b => b < w.heap.size) a n l := h.weak fun _ hb _ => hb
theorem Ns.below {B : Nat} (h : Ns w S a n l) (hb : Below B w w') (hs : ∀ b, b < w.heap.size → S b → b < B) : Ns w' S a n l :=
  h.keep hb.size fun b hlt hS => hb.block b (hs b hlt hS)
theorem Ns.cell (h : Ns w S a n l) {k : Nat} (hk : k < n) : ∃ b off, a = some ⟨b, off, none⟩ ∧ S b ∧ b < w.heap.size ∧ w.cell? ⟨b, off + k, none⟩ = some (.int .i64 (l.getD k 0)) := by
  obtain ⟨h1, h2, h3⟩ := h
  rcases h3 with h | ⟨b, off, rfl, hs, hb, hc⟩
  · subst h; simp at h1; omega
  · exact ⟨b, off, rfl, hs, hb, hc k hk⟩
theorem Ns.cells (h : Ns w S a n l) (hn : 0 < n) : ∃ b off, a = some ⟨b, off, none⟩ ∧ S b ∧ b < w.heap.size ∧ ∀ k, k < n → w.cell? ⟨b, off + k, none⟩ = some (.int .i64 (l.getD k 0)) := by
  obtain ⟨h1, h2, h3⟩ := h
  rcases h3 with h | ⟨b, off, rfl, hs, hb, hc⟩
  · subst h; simp at h1; omega
  · exact ⟨b, off, rfl, hs, hb, hc⟩
theorem in_getD (h : ∀ x ∈ l, In64 x) (k : Nat) : In64 (l.getD k 0) := by
  by_cases hl : k < l.length
  · have : l.getD k 0 = l[k] := by simp [hl]
    rw [this]
    exact h _ (List.getElem_mem hl)
  · have : l.getD k 0 = 0 := by simp [Nat.le_of_not_lt hl]
    rw [this]; constructor <;> omega
theorem Ns.in64 (h : Ns w S a n l) (k : Nat) : In64 (l.getD k 0) := in_getD h.2.1 k
theorem Ns.nil (w : World) (S : Nat → Prop) (a : Option Addr) : Ns w S a 0 [] := ⟨rfl, (fun x hx => by cases hx), Or.inl rfl⟩
end
theorem ns_whole {w : World} {g : Nat} {t : TypeId} {l : List Int} {S : Nat → Prop} (h : Whole w g t (ints l).toArray) (hS : S g) (hl : ∀ x ∈ l, In64 x) : Ns w S (some ⟨g, 0, none⟩) l.length l := by
  refine ⟨rfl, hl, Or.inr ⟨g, 0, rfl, hS, h.lt, fun k hk => ?_⟩⟩
  rw [Nat.zero_add, h.cell, List.getElem?_toArray, ints_get _ _ hk]
theorem ret_i64 {a b : Int} (h : a = b) : Ending.returned (.int .i64 a) = .returned (.int .i64 b) := by rw [h]
theorem ret_u64 {a b : Int} (h : a = b) : Ending.returned (.int .u64 a) = .returned (.int .u64 b) := by rw [h]
theorem ret_bool {a b : Bool} (h : a = b) : Ending.returned (.bool a) = .returned (.bool b) := by rw [h]
/-- append of one value of one cell, that lies in a new block. -/
theorem wpList_append_one {w : World} {ops : Array Oper} {rest : List Oper} {o : Oper} {a : Act} {Q : Exit → Act → World → Prop} (hgd : o.guard = none) (s x : Operand) (T e : TypeId) (z : Value) (by8 : Nat)
    (ho : o.op = .call { callee := .builtin .append, args := #[s, x], argTypes := #[T, T] }) (hT : Try.prog.underlying T = some (.slice e)) (hinfo : (Try.prog.info? e).map (fun i => (i.zero, i.size, i.bytes)) = some (some z, 1, by8)) (hzs : z.cells.size = 1) (h8 : by8 ≤ 24)
    (base : Nat) (v : Value) (n : Nat) (xs : List Value) (hs : a.eval s = v) (hown : w.ownsRow base e 1 v n xs)
    (g : Nat) (T' : TypeId) (u : Value) (hx : a.eval x = .slice (some ⟨g, 0, none⟩) 1 1) (hg : Whole w g T' #[u]) (h1 : u.oneCell' = true)
    (hn : n ≤ 1000000) (hbase : base ≤ w.heap.size)
    (h : ∀ v' w', w'.ownsRow base e 1 v' (n + 1) (xs ++ [u]) → w.grownBy w' v.ownBlock → (v'.ownBlock = v.ownBlock ∨ v'.ownBlock = some w.heap.size) → wpList Try.prog ops Q rest (a.put o.dst v') w') : wpList Try.prog ops Q (o :: rest) a w := by
  obtain ⟨i0, hi0, hz0, hz1, hz2⟩ := info_parts hinfo
  refine wpList_plain hgd fun _ hK => ?_
  have hb : (n + 1) * by8 ≤ 140737488355328 := Nat.le_trans (Nat.mul_le_mul (show n + 1 ≤ 1000001 by omega) h8) (by decide)
  obtain ⟨v', w', hrun, h2, h3, _, h5⟩ := run_append_own_at (P := Try.prog) w base T o.type e i0 z 1 by8 hT hi0 hz0 hz1 hz2 hzs (by omega) v n xs hown ⟨g, 0, none⟩ 1 1 [u] (by simp) (fun j t hu => by rw [Addr.add_lit, Nat.zero_add, hg.cell, List.getElem?_toArray]; exact hu) (by intro t ht; simp at ht; rw [ht]; exact h1) (by unfold maxLen; omega) hb hbase
  unfold Oper.wp execOp
  simp only [ho, resolve, invoke, builtin, Sem.run_bind, Sem.run_pure, Result.andThen_ok, List.map_toArray, List.map_cons, List.map_nil, hs, hx, hrun]
  exact hK _ _ (h v' w' h2 h3 h5)
theorem own_set {w : World} {B e size n cap g k : Nat} {xs : List Value} {u : Value} (h : w.ownsRow B e size (.slice (some ⟨g, 0, none⟩) n cap) n xs) (hk : k < xs.length) :
    (w.setCell ⟨g, k, none⟩ u).ownsRow B e size (.slice (some ⟨g, 0, none⟩) n cap) n (xs.set k u) := by
  rcases h.2 with ⟨h', _⟩ | ⟨g', cap', cur, hv, hb, hh, hnc, hcm, hsz, htk⟩
  · simp at h'
  · injection hv with e1 e2 e3
    injection e1 with e1
    injection e1 with e1
    subst e1 e3
    refine ⟨by rw [List.length_set]; exact h.1, Or.inr ⟨g, cap, cur.setIfInBounds k u, rfl, hb, heap_setCell_same w g k cur e u hh, hnc, hcm, by simp [hsz], ?_⟩⟩
    rw [Array.toList_setIfInBounds, List.take_set, htk]
theorem int_info : (Try.prog.info? 3).map (fun i => (i.zero, i.size, i.bytes)) = some (some (.int .i64 0), 1, 8) := by kernel_rfl
/-- A row of numbers of the call's own. -/
structure Nw (w : World) (B : Nat) (a : Option Addr) (n c : Nat) (l : List Int) : Prop where
  own : w.ownsRow B 3 1 (.slice a n c) n (ints l)
  mem : ∀ x ∈ l, In64 x
  len : l.length = n
theorem own_geN {w : World} {B : Nat} {v : Value} {e s n : Nat} {xs : List Value} (h : w.ownsRow B e s v n xs) (b : Nat) (hb : v.ownBlock = some b) : B ≤ b := (h.lt b hb).1
theorem own_keepN {w w' : World} {B n : Nat} {xs : List Value} {v : Value} {e s : Nat} (h : w.ownsRow B e s v n xs) (hk : ∀ b, v.ownBlock = some b → w'.heap[b]? = w.heap[b]?) : w'.ownsRow B e s v n xs := by
  refine ⟨h.1, ?_⟩
  rcases h.2 with h2 | ⟨g, cap, cur, rfl, hb, hh, rest⟩
  · exact Or.inl h2
  · exact Or.inr ⟨g, cap, cur, rfl, hb, (hk g rfl).trans hh, rest⟩
section
variable {w w' : World} {B B' : Nat} {a : Option Addr} {n c : Nat} {l : List Int}
theorem Nw.below (h : Nw w B a n c l) (hb : Below w.heap.size w w') : Nw w' B a n c l := ⟨own_keepN h.own (fun b hq => hb.block b (h.own.lt b hq).2), h.mem, h.len⟩
theorem Nw.mono (h : Nw w B a n c l) (hB : B' ≤ B) : Nw w B' a n c l := ⟨⟨h.own.1, h.own.2.imp id (fun ⟨g, cap, cur, h1, h2, h3⟩ => ⟨g, cap, cur, h1, Nat.le_trans hB h2, h3⟩)⟩, h.mem, h.len⟩
theorem Nw.nil (w : World) (B : Nat) : Nw w B none 0 0 [] := ⟨World.ownsRow_nil _ _ _ _, (fun m hm => by cases hm), rfl⟩
/-- A row that has any number. -/
theorem Nw.form (h : Nw w B a n c l) (h0 : 0 < n) : ∃ g, a = some ⟨g, 0, none⟩ ∧ B ≤ g ∧ g < w.heap.size ∧ n ≤ c ∧ ∀ k, k < n → w.cell? ⟨g, k, none⟩ = some (.int .i64 (l.getD k 0)) ∧ w.frozen? ⟨g, k, none⟩ = false := by
  rcases h.own.2 with ⟨h1, h2⟩ | ⟨g, cap, cur, hv, hb, hg, hnc, hcm, hcs, ht⟩
  · simp at h1; omega
  · injection hv with e1 e2 e3
    subst e1 e3
    refine ⟨g, rfl, hb, (Array.getElem?_eq_some_iff.1 hg).1, hnc, fun k hk => ⟨?_, frozen_of_row w g k cur _ hg⟩⟩
    rw [cell_of_row w g k cur _ (0, 0) hg]
    have h1 : (cur.toList.take (n * 1))[k]? = (ints l)[k]? := by rw [ht]
    rw [List.getElem?_take_of_lt (by omega), ints_get _ _ (by rw [h.len]; exact hk)] at h1
    simpa using h1
theorem Nw.ns (h : Nw w B a n c l) : Ns w (B ≤ ·) a n l := by
  refine ⟨h.len, h.mem, ?_⟩
  by_cases h0 : n = 0
  · exact Or.inl (List.eq_nil_of_length_eq_zero (by rw [h.len]; exact h0))
  · obtain ⟨g, rfl, h1, h2, _, h3⟩ := h.form (by omega)
    exact Or.inr ⟨g, 0, rfl, h1, h2, fun k hk => by rw [Nat.zero_add]; exact (h3 k hk).1⟩
theorem Nw.cap (h : Nw w B a n c l) : n ≤ c := by
  by_cases h0 : n = 0
  · omega
  · obtain ⟨g, _, _, _, h1, _⟩ := h.form (by omega)
    exact h1
theorem Nw.set {g k : Nat} {x : Int} (h : Nw w B (some ⟨g, 0, none⟩) n c l) (hk : k < n) (hx : In64 x) : Nw (w.setCell ⟨g, k, none⟩ (.int .i64 x)) B (some ⟨g, 0, none⟩) n c (l.set k x) := by
  have := own_set (u := .int .i64 x) h.own (k := k) (by rw [ints_len, h.len]; exact hk)
  refine ⟨?_, fun y hy => ?_, by rw [List.length_set]; exact h.len⟩
  · have e : ints (l.set k x) = (ints l).set k (.int .i64 x) := by unfold ints; rw [List.map_set]
    rw [e]; exact this
  · rcases List.mem_or_eq_of_mem_set hy with h1 | rfl
    · exact h.mem y h1
    · exact hx
theorem Nw.add {v' : Value} {x : Int} (h : Nw w B a n c l) (hx : In64 x) (hown : w'.ownsRow B 3 1 v' (n + 1) (ints l ++ [.int .i64 x])) : ∃ a' c', v' = .slice a' (n + 1) c' ∧ Nw w' B a' (n + 1) c' (l ++ [x]) := by
  have e : ints (l ++ [x]) = ints l ++ [.int .i64 x] := by rw [ints_append]; rfl
  rw [← e] at hown
  have hm : ∀ y ∈ l ++ [x], In64 y := fun y hy => by
    rcases List.mem_append.1 hy with hy | hy
    · exact h.mem y hy
    · rw [List.mem_singleton.1 hy]; exact hx
  rcases hown.2 with ⟨rfl, h2⟩ | ⟨g, cap, cur, rfl, r⟩
  · simp at h2
  · exact ⟨_, _, rfl, hown, hm, by simp [h.len]⟩
end
/-- A row of one's own is answered, beside a draw. -/
def OrdQ (w : World) (l : List Int) (d : Int) (e : Ending) (w' : World) : Prop := ∃ a n c, e = .returned (.tuple #[.slice a n c, .int .u64 d]) ∧ Nw w' w.heap.size a n c l ∧ Below w.heap.size w w'
end Go.Proofs.Ytanojjcbbjgefaa
