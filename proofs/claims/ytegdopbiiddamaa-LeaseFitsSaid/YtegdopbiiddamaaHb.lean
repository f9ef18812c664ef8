/-
  Words for memory: bytes that lie in a slice, blocks that are known whole, what stays of them, and appends.
-/
import Derived.Test.YtegdopbiiddamaaChecked
import Derived.WalkKit
import Derived.WalkSpells
import Derived.WalkLawsBesides
import Derived.Below
import Derived.Maps.AppendAt
import Derived.OwnWalk
import Derived.Deep.AppendLies
import Derived.Laws.Cover3
import Derived.Laws.BytesArg
import Derived.Lib.Hide
import Derived.Laws.Pointers
import Derived.Laws.Rows
import Derived.Laws.CopyRow
import Derived.Laws.CopyOwn
import Derived.Laws.Tables
import Derived.Deep.MidRow
namespace Go.Proofs.Ytegdopbiiddamaa
set_option maxRecDepth 20000
open Go.RowKit

def Byt (l : List Int) : Prop := ∀ x ∈ l, 0 ≤ x ∧ x < 256
theorem byt_append {a b : List Int} (ha : Byt a) (hb : Byt b) : Byt (a ++ b) := by
  intro x hx
  rcases List.mem_append.1 hx with h | h
  · exact ha x h
  · exact hb x h
theorem byt_left {a b : List Int} (h : Byt (a ++ b)) : Byt a := fun x hx => h x (List.mem_append_left _ hx)
theorem byt_right {a b : List Int} (h : Byt (a ++ b)) : Byt b := fun x hx => h x (List.mem_append_right _ hx)
theorem byt_drop {a : List Int} (h : Byt a) (k : Nat) : Byt (a.drop k) := fun x hx => h x (List.mem_of_mem_drop hx)
theorem byt_take {a : List Int} (h : Byt a) (k : Nat) : Byt (a.take k) := fun x hx => h x (List.mem_of_mem_take hx)
theorem byt_nil : Byt [] := fun x hx => by cases hx
theorem byt_cons {x : Int} {l : List Int} (h0 : 0 ≤ x) (h1 : x < 256) (h : Byt l) : Byt (x :: l) := by
  intro y hy
  rcases List.mem_cons.1 hy with h' | h'
  · subst h'; exact ⟨h0, h1⟩
  · exact h y h'
theorem byt_getD {l : List Int} (h : Byt l) (k : Nat) : 0 ≤ l.getD k 0 ∧ l.getD k 0 < 256 := by
  by_cases hl : k < l.length
  · have : l.getD k 0 = l[k] := by simp [hl]
    rw [this]
    exact h _ (List.getElem_mem hl)
  · have : l.getD k 0 = 0 := by simp [Nat.le_of_not_lt hl]
    rw [this]; omega
theorem byt_zeros (n : Nat) : Byt (List.replicate n 0) := by
  intro x hx
  have := (List.mem_replicate.1 hx).2
  omega

def nums (l : List Int) : List Value := l.map (Value.int .u8)
theorem nums_len (l : List Int) : (nums l).length = l.length := by simp [nums]
theorem nums_get (l : List Int) (k : Nat) (h : k < l.length) : (nums l)[k]? = some (.int .u8 (l.getD k 0)) := by simp [nums, h]
theorem nums_append (a b : List Int) : nums (a ++ b) = nums a ++ nums b := by simp [nums]
theorem nums_take (a : List Int) (n : Nat) : nums (a.take n) = (nums a).take n := by simp [nums]
theorem nums_drop (a : List Int) (n : Nat) : nums (a.drop n) = (nums a).drop n := by simp [nums]
theorem nums_one (l : List Int) : ∀ u ∈ nums l, u.oneCell' = true := ints_oneCell .u8 l
theorem all_nums (l : List Int) : (nums l).toArray.all (·.oneCell') = true := Array.all_eq_true_iff_forall_mem.2 (fun v hv => nums_one l v (by simpa using hv))

/-- The slice a, n, c holds the bytes l; where it has any its block is one of S. -/
def Txt (w : World) (S : Nat → Prop) (a : Option Addr) (n c : Nat) (l : List Int) : Prop :=
  l.length = n ∧ n ≤ c ∧ Byt l ∧ (l = [] ∨ ∃ b off, a = some ⟨b, off, none⟩ ∧ S b ∧ b < w.heap.size ∧ ∀ k, k < n → w.cell? ⟨b, off + k, none⟩ = some (.int .u8 (l.getD k 0)))

section
variable {w w' : World} {S S' : Nat → Prop} {a : Option Addr} {n c : Nat} {l : List Int}
theorem Txt.keep (h : Txt w S a n c l) (hz : w.heap.size ≤ w'.heap.size) (hk : ∀ b, b < w.heap.size → S b → w'.heap[b]? = w.heap[b]?) : Txt w' S a n c l := by
  obtain ⟨h1, h2, h3, h4⟩ := h
  refine ⟨h1, h2, h3, ?_⟩
  rcases h4 with h | ⟨b, off, rfl, hs, hb, hc⟩
  · exact Or.inl h
  · refine Or.inr ⟨b, off, rfl, hs, by omega, fun k hk' => ?_⟩
    rw [← hc k hk']
    exact World.cell?_of_block (w := w) (hk b hb hs)
theorem Txt.weak (h : Txt w S a n c l) (hs : ∀ b, b < w.heap.size → S b → S' b) : Txt w S' a n c l := by
  obtain ⟨h1, h2, h3, h4⟩ := h
  refine ⟨h1, h2, h3, ?_⟩
  rcases h4 with h | ⟨b, off, rfl, hs', hb, hc⟩
  · exact Or.inl h
  · exact Or.inr ⟨b, off, rfl, hs b hb hs', hb, hc⟩
theorem Txt.old (h : Txt w S a n c l) : Txt w (fun b => b < w.heap.size) a n c l := h.weak fun _ hb _ => hb
theorem Txt.below {B : Nat} (h : Txt w S a n c l) (hb : Below B w w') (hs : ∀ b, b < w.heap.size → S b → b < B) : Txt w' S a n c l :=
  h.keep hb.size fun b hlt hS => hb.block b (hs b hlt hS)
theorem Txt.grown {row : Option Nat} (h : Txt w S a n c l) (hg : w.grownBy w' row) (hs : ∀ b, b < w.heap.size → S b → some b ≠ row) : Txt w' S a n c l :=
  h.keep hg.size fun b hlt hS => hg.block b hlt (hs b hlt hS)
theorem Txt.nil (w : World) (S : Nat → Prop) (a : Option Addr) (c : Nat) : Txt w S a 0 c [] := ⟨rfl, Nat.zero_le _, byt_nil, Or.inl rfl⟩
theorem Txt.cell (h : Txt w S a n c l) {k : Nat} (hk : k < n) : ∃ b off, a = some ⟨b, off, none⟩ ∧ S b ∧ b < w.heap.size ∧ w.cell? ⟨b, off + k, none⟩ = some (.int .u8 (l.getD k 0)) := by
  obtain ⟨h1, h2, h3, h4⟩ := h
  rcases h4 with h | ⟨b, off, rfl, hs, hb, hc⟩
  · subst h; simp at h1; omega
  · exact ⟨b, off, rfl, hs, hb, hc k hk⟩
theorem Txt.cells (h : Txt w S a n c l) (hn : 0 < n) : ∃ b off, a = some ⟨b, off, none⟩ ∧ S b ∧ b < w.heap.size ∧ w.rangeAt b off (nums l) := by
  obtain ⟨h1, h2, h3, h4⟩ := h
  rcases h4 with h | ⟨b, off, rfl, hs, hb, hc⟩
  · subst h; simp at h1; omega
  · refine ⟨b, off, rfl, hs, hb, fun j v hv => ?_⟩
    have hj : j < l.length := by have := (List.getElem?_eq_some_iff.1 hv).1; rwa [nums_len] at this
    rw [nums_get _ _ hj] at hv
    rw [hc j (by omega)]; exact hv
theorem Txt.byte (h : Txt w S a n c l) (k : Nat) : 0 ≤ l.getD k 0 ∧ l.getD k 0 < 256 := byt_getD h.2.2.1 k
theorem Txt.take (h : Txt w S a n c l) (k : Nat) (hk : k ≤ n) : Txt w S a k c (l.take k) := by
  obtain ⟨h1, h2, h3, h4⟩ := h
  refine ⟨by simp; omega, by omega, byt_take h3 k, ?_⟩
  rcases h4 with h | ⟨b, off, rfl, hs, hb, hc⟩
  · subst h; exact Or.inl (by simp)
  · refine Or.inr ⟨b, off, rfl, hs, hb, fun j hj => ?_⟩
    rw [hc j (by omega)]
    have : j < l.length := by omega
    simp [this, hj]
theorem Txt.drop (h : Txt w S a n c l) (k : Nat) (hk : k ≤ n) : Txt w S (if c = k then a else a.map (·.add k)) (n - k) (c - k) (l.drop k) := by
  obtain ⟨h1, h2, h3, h4⟩ := h
  refine ⟨by simp; omega, by omega, byt_drop h3 k, ?_⟩
  by_cases he : l.drop k = []
  · exact Or.inl he
  rcases h4 with h | ⟨b, off, rfl, hs, hb, hc⟩
  · subst h; exact Or.inl (by simp)
  · have hl : k < l.length := by
      apply Decidable.byContradiction
      intro hh
      exact he (List.drop_eq_nil_of_le (by omega))
    refine Or.inr ⟨b, off + k, ?_, hs, hb, fun j hj => ?_⟩
    · rw [if_neg (by omega)]
      simp [Addr.add_lit]
    · rw [Nat.add_assoc, hc (k + j) (by omega)]
      have : k + j < l.length := by omega
      simp [this]
theorem Txt.own {base : Nat} {v : Value} (h : w.ownsRow base 5 1 v n (nums l)) (hb : Byt l) : ∃ a c, v = .slice a n c ∧ Txt w (base ≤ ·) a n c l := by
  have hn : l.length = n := by have := h.1; rw [nums_len] at this; omega
  by_cases h0 : n = 0
  · have hl : l = [] := List.eq_nil_of_length_eq_zero (by omega)
    subst h0
    rcases h.2 with ⟨rfl, _⟩ | ⟨g, cap, cur, rfl, _, _, _, _⟩
    · exact ⟨_, _, rfl, hn, Nat.zero_le _, hb, Or.inl hl⟩
    · exact ⟨_, _, rfl, hn, Nat.zero_le _, hb, Or.inl hl⟩
  · obtain ⟨g, cap, rfl, hb', hlt⟩ := h.form (by omega)
    have hcap : n ≤ cap := by
      rcases h.2 with ⟨h', _⟩ | ⟨g', cap', cur, h', _, _, hnc, _⟩
      · simp at h'
      · simp only [Value.slice.injEq] at h'
        omega
    refine ⟨_, _, rfl, hn, hcap, hb, Or.inr ⟨g, 0, rfl, hb', hlt, fun k hk => ?_⟩⟩
    rw [Nat.zero_add, h.cellAt k (by omega), nums_get _ _ (by omega)]
end

/-- append onto a row of the call's own, from whatever slice. -/
theorem run_append_txt {P : Program} (w : World) (base : Nat) (t ty e : TypeId) (i : TypeInfo) (z : Value) (bytes : Nat) (ht : P.underlying t = some (.slice e)) (hi : P.info? e = some i) (hz : i.zero = some z)
    (hsize : i.size = 1) (hby : i.bytes = bytes) (hzs : z.cells.size = 1)
    (v : Value) (n : Nat) (xs : List Value) (hown : w.ownsRow base e 1 v n xs) (S : Nat → Prop) (A : Option Addr) (m c : Nat) (l : List Int) (hr : Txt w S A m c l)
    (h63 : n + m ≤ maxLen) (hbytes : (n + m) * bytes ≤ 140737488355328) (hbase : base ≤ w.heap.size) :
    ∃ v' w', (Builtin.append_ #[t, t] ty #[v, .slice A m c]).run P w = .ok v' w' ∧ w'.ownsRow base e 1 v' (n + m) (xs ++ nums l) ∧ w.grownBy w' v.ownBlock ∧
      (v'.ownBlock = v.ownBlock ∨ v'.ownBlock = some w.heap.size) := by
  cases A with
  | none =>
    have hl : l = [] := by
      rcases hr.2.2.2 with h | ⟨b, off, h, _⟩
      · exact h
      · cases h
    subst hl
    have hm : m = 0 := hr.1.symm
    subst hm
    refine ⟨v, w, ?_, by simpa [nums] using hown, World.grownBy.refl w _, .inl rfl⟩
    rcases hown.2 with ⟨rfl, rfl⟩ | ⟨g, cap, cur, rfl, _, _, hnc, _⟩
    · simp [Builtin.append_, run_underlying ht, sizeOf, typeInfo, hi, Builtin.lenOf, Builtin.firstCells]
    · simp [Builtin.append_, run_underlying ht, sizeOf, typeInfo, hi, Builtin.lenOf, Builtin.firstCells, hnc, storeCells]
  | some ad =>
    have hcells : ∀ j u, (nums l)[j]? = some u → w.cell? (ad.add j) = some u := by
      intro j u hu
      have hj : j < l.length := by
        have := (List.getElem?_eq_some_iff.1 hu).1
        rwa [nums_len] at this
      rw [nums_get _ _ hj] at hu
      obtain ⟨b, off, h, _, _, hc⟩ := hr.cell (k := j) (by rw [← hr.1]; exact hj)
      injection h with h
      subst h
      rw [Addr.add_lit, hc, hu]
    obtain ⟨v', w', hrun, h2, h3, _, h5⟩ := run_append_own_at (P := P) w base t ty e i z 1 bytes ht hi hz hsize hby hzs (by omega) v n xs hown ad m c (nums l) (by rw [nums_len, hr.1]; omega) hcells (nums_one l) h63 hbytes hbase
    exact ⟨v', w', hrun, h2, h3, h5⟩

theorem wp_append_txt {P : Program} (w : World) {o : Oper} {a : Act} {K : Act → World → Prop} {Q : Exit → Act → World → Prop} (s x : Operand) (t : TypeId)
    (ho : o.op = .call { callee := .builtin .append, args := #[s, x], argTypes := #[t, t] })
    (base : Nat) (e : TypeId) (i : TypeInfo) (z : Value) (bytes : Nat) (ht : P.underlying t = some (.slice e)) (hi : P.info? e = some i) (hz : i.zero = some z)
    (hsize : i.size = 1) (hby : i.bytes = bytes) (hzs : z.cells.size = 1)
    (v : Value) (n : Nat) (xs : List Value) (hs : a.eval s = v) (hown : w.ownsRow base e 1 v n xs)
    (S : Nat → Prop) (A : Option Addr) (m c : Nat) (l : List Int) (hx : a.eval x = .slice A m c) (hr : Txt w S A m c l)
    (h63 : n + m ≤ maxLen) (hbytes : (n + m) * bytes ≤ 140737488355328) (hbase : base ≤ w.heap.size)
    (h : ∀ v' w', w'.ownsRow base e 1 v' (n + m) (xs ++ nums l) → w.grownBy w' v.ownBlock → (v'.ownBlock = v.ownBlock ∨ v'.ownBlock = some w.heap.size) → K (a.put o.dst v') w') : o.wp P a w K Q := by
  obtain ⟨v', w', hrun, h2, h3, h4⟩ := run_append_txt (P := P) w base t o.type e i z bytes ht hi hz hsize hby hzs v n xs hown S A m c l hr h63 hbytes hbase
  unfold Oper.wp execOp
  simp only [ho, resolve, invoke, builtin, Sem.run_bind, Sem.run_pure, Result.andThen_ok, List.map_toArray, List.map_cons, List.map_nil, hs, hx, hrun]
  exact h v' w' h2 h3 h4
theorem wpList_append_txt {P : Program} (w : World) {ops : Array Oper} {rest : List Oper} {o : Oper} {a : Act} {Q : Exit → Act → World → Prop} (hgd : o.guard = none) (s x : Operand) (t : TypeId)
    (ho : o.op = .call { callee := .builtin .append, args := #[s, x], argTypes := #[t, t] })
    (base : Nat) (e : TypeId) (i : TypeInfo) (z : Value) (bytes : Nat) (ht : P.underlying t = some (.slice e)) (hi : P.info? e = some i) (hz : i.zero = some z)
    (hsize : i.size = 1) (hby : i.bytes = bytes) (hzs : z.cells.size = 1)
    (v : Value) (n : Nat) (xs : List Value) (hs : a.eval s = v) (hown : w.ownsRow base e 1 v n xs)
    (S : Nat → Prop) (A : Option Addr) (m c : Nat) (l : List Int) (hx : a.eval x = .slice A m c) (hr : Txt w S A m c l)
    (h63 : n + m ≤ maxLen) (hbytes : (n + m) * bytes ≤ 140737488355328) (hbase : base ≤ w.heap.size)
    (h : ∀ v' w', w'.ownsRow base e 1 v' (n + m) (xs ++ nums l) → w.grownBy w' v.ownBlock → (v'.ownBlock = v.ownBlock ∨ v'.ownBlock = some w.heap.size) → wpList P ops Q rest (a.put o.dst v') w') : wpList P ops Q (o :: rest) a w :=
  wpList_plain hgd fun _ hK => wp_append_txt w s x t ho base e i z bytes ht hi hz hsize hby hzs v n xs hs hown S A m c l hx hr h63 hbytes hbase fun v' w' h2 h3 h4 => hK _ _ (h v' w' h2 h3 h4)
theorem u8_info : (Try.prog.info? 5).map (fun i => (i.zero, i.size, i.bytes)) = some (some (.int .u8 0), 1, 1) := by kernel_rfl

/-- Block g is just the cells cs, of type t. -/
def Whole (w : World) (g : Nat) (t : TypeId) (cs : Array Value) : Prop := w.heap[g]? = some (.cells cs t (0, 0))
section
variable {w w' : World} {g : Nat} {t : TypeId} {cs : Array Value}
theorem Whole.lt (h : Whole w g t cs) : g < w.heap.size := (Array.getElem?_eq_some_iff.1 h).1
theorem Whole.cell (h : Whole w g t cs) (i : Nat) : w.cell? ⟨g, i, none⟩ = cs[i]? := cell_of_row w g i cs t (0, 0) h
theorem Whole.frozen (h : Whole w g t cs) (i : Nat) : w.frozen? ⟨g, i, none⟩ = false := frozen_of_row w g i cs t h
theorem Whole.keep (h : Whole w g t cs) (hk : w'.heap[g]? = w.heap[g]?) : Whole w' g t cs := hk.trans h
theorem Whole.new (w : World) (t : TypeId) (cs : Array Value) : Whole (w.alloc (.cells cs t)) w.heap.size t cs := heap_alloc_new w _
theorem Whole.alloc (h : Whole w g t cs) (o : Obj) : Whole (w.alloc o) g t cs := h.keep (Below.heap_alloc w o g h.lt)
theorem Whole.set (h : Whole w g t cs) (i : Nat) (u : Value) : Whole (w.setCell ⟨g, i, none⟩ u) g t (cs.setIfInBounds i u) := heap_setCell_same w g i cs t u h
theorem Whole.far (h : Whole w g t cs) {p : Addr} (hp : g ≠ p.block) (u : Value) : Whole (w.setCell p u) g t cs := h.keep (Below.heap_setCell w p u g hp)
theorem Whole.below {B : Nat} (h : Whole w g t cs) (hb : Below B w w') (hg : g < B) : Whole w' g t cs := h.keep (hb.block g hg)
theorem Whole.grown {row : Option Nat} (h : Whole w g t cs) (hb : w.grownBy w' row) (hg : some g ≠ row) : Whole w' g t cs := h.keep (hb.block g h.lt hg)
theorem Whole.row (h : Whole w g t cs) (cs' : Array Value) : Whole (w.setRow g cs') g t cs' := setRow_heap w g cs cs' t (0, 0) h
theorem Whole.rowFar {b : Nat} (h : Whole w g t cs) (hg : g ≠ b) (cs' : Array Value) : Whole (w.setRow b cs') g t cs := (setRow_other w b g cs' hg).trans h
theorem Whole.range (h : Whole w g t cs) (o n : Nat) : w.rangeAt g o (cs.extract o (o + n)).toList := World.rangeAt_of_block h o n
end
theorem below_row {B g : Nat} {a w : World} (h : Below B a w) (hg : B ≤ g) (cs : Array Value) : Below B a (w.setRow g cs) :=
  h.trans ⟨rfl, rfl, rfl, by simp [World.setRow], fun k hk => setRow_other w g k cs (by omega)⟩
theorem below_alloc (w : World) (o : Obj) : Below w.heap.size w (w.alloc o) := (Below.refl _ _).alloc (Nat.le_refl _) _
theorem size_alloc (w : World) (o : Obj) : (w.alloc o).heap.size = w.heap.size + 1 := by simp
theorem below_drew {w w1 : World} (h : Below w.drew.heap.size w.drew w1) : Below w.heap.size w w1 := ⟨h.os, h.tape, h.output, h.size, h.block⟩
theorem below_drewN {B : Nat} {a w : World} (h : Below B a w) (n : Nat) : Below B a (w.drewN n) := ⟨h.os, h.tape, h.output, h.size, h.block⟩
theorem results_one_cell {fn : Func} {p : Tmp} {ty : TypeId} (h : fn.results = #[.cell p ty]) (tmps : Array Value) (P : Program) (w : World) (a : Addr) {v : Value} (ht : tmps.getD p undef = .pointer (some a)) (hv : (loadVar ty a).run P w = .ok v w) :
    (results fn tmps).run P w = .ok v w := by
  simp only [results, h]
  simp only [Array.getD_eq_getD_getElem?] at ht
  simp [ht, hv, asAddr]
/-- Bytes in the middle of a block that is known. -/
theorem txt_of_whole {w : World} {g : Nat} {t : TypeId} {l : List Int} (S : Nat → Prop) (hS : S g) (h : Whole w g t (nums l).toArray) (hb : Byt l) (k c : Nat) (hk : k ≤ l.length) (hc : k ≤ c) : Txt w S (some ⟨g, 0, none⟩) k c (l.take k) := by
  refine ⟨by simp; omega, hc, byt_take hb k, Or.inr ⟨g, 0, rfl, hS, h.lt, fun j hj => ?_⟩⟩
  rw [h.cell, Nat.zero_add, List.getElem?_toArray, nums_get _ _ (by omega)]
  have : j < l.length := by omega
  simp [this, hj]
end Go.Proofs.Ytegdopbiiddamaa
