/-
  Rows of whole numbers in memory, plans as values, and what of them stays.
-/
import Derived.Test.YtegdopbiiddamaaHb
import Derived.Test.YtegdopbiiddamaaEa
namespace Go.Proofs.Ytegdopbiiddamaa
set_option maxRecDepth 20000
open Go.RowKit
def In64 (x : Int) : Prop := -9223372036854775808 ≤ x ∧ x ≤ 9223372036854775807
def ints (l : List Int) : List Value := l.map (Value.int .i64)
theorem ints_len (l : List Int) : (ints l).length = l.length := by simp [ints]
theorem ints_get (l : List Int) (k : Nat) (h : k < l.length) : (ints l)[k]? = some (.int .i64 (l.getD k 0)) := by simp [ints, h]
theorem ints_append (a b : List Int) : ints (a ++ b) = ints a ++ ints b := by simp [ints]
theorem ints_one (l : List Int) : ∀ u ∈ ints l, u.oneCell' = true := ints_oneCell .i64 l
theorem all_ints (l : List Int) : (ints l).toArray.all (·.oneCell') = true := Array.all_eq_true_iff_forall_mem.2 (fun v hv => ints_one l v (by simpa using hv))
/-- The slice a, n holds the numbers l; where it has any its block is one of S. -/
def Ns (w : World) (S : Nat → Prop) (a : Option Addr) (n : Nat) (l : List Int) : Prop :=
  l.length = n ∧ (∀ x ∈ l, In64 x) ∧ (l = [] ∨ ∃ b off, a = some ⟨b, off, none⟩ ∧ S b ∧ b < w.heap.size ∧ ∀ k, k < n → w.cell? ⟨b, off + k, none⟩ = some (.int .i64 (l.getD k 0)))
section
variable {w w' : World} {S S' : Nat → Prop} {a : Option Addr} {n : Nat} {l : List Int}
theorem Ns.keep (h : Ns w S a n l) (hz : w.heap.size ≤ w'.heap.size) (hk : ∀ b, b < w.heap.size → S b → w'.heap[b]? = w.heap[b]?) : Ns w' S a n l := by
  obtain ⟨h1, h2, h3⟩ := h
  refine ⟨h1, h2, ?_⟩
  rcases h3 with h | ⟨b, off, rfl, hs, hb, hc⟩
  · exact Or.inl h
  · refine Or.inr ⟨b, off, rfl, hs, by omega, fun k hk' => ?_⟩
    rw [← hc k hk']
    exact World.cell?_of_block (w := w) (hk b hb hs)
theorem Ns.weak (h : Ns w S a n l) (hs : ∀ b, b < w.heap.size → S b → S' b) : Ns w S' a n l := by
  obtain ⟨h1, h2, h3⟩ := h
  refine ⟨h1, h2, ?_⟩
  rcases h3 with h | ⟨b, off, rfl, hs', hb, hc⟩
  · exact Or.inl h
  · exact Or.inr ⟨b, off, rfl, hs b hb hs', hb, hc⟩
theorem Ns.old (h : Ns w S a n l) : Ns w (fun b => b < w.heap.size) a n l := h.weak fun _ hb _ => hb
theorem Ns.below {B : Nat} (h : Ns w S a n l) (hb : Below B w w') (hs : ∀ b, b < w.heap.size → S b → b < B) : Ns w' S a n l :=
  h.keep hb.size fun b hlt hS => hb.block b (hs b hlt hS)
theorem Ns.cell (h : Ns w S a n l) {k : Nat} (hk : k < n) : ∃ b off, a = some ⟨b, off, none⟩ ∧ S b ∧ b < w.heap.size ∧ w.cell? ⟨b, off + k, none⟩ = some (.int .i64 (l.getD k 0)) := by
  obtain ⟨h1, h2, h3⟩ := h
  rcases h3 with h | ⟨b, off, rfl, hs, hb, hc⟩
  · subst h; simp at h1; omega
  · exact ⟨b, off, rfl, hs, hb, hc k hk⟩
theorem Ns.cells (h : Ns w S a n l) (hn : 0 < n) : ∃ b off, a = some ⟨b, off, none⟩ ∧ S b ∧ b < w.heap.size ∧ ∀ k, k < n → w.cell? ⟨b, off + k, none⟩ = some (.int .i64 (l.getD k 0)) := by
  obtain ⟨h1, h2, h3⟩ := h
  rcases h3 with h | ⟨b, off, rfl, hs, hb, hc⟩
  · subst h; simp at h1; omega
  · exact ⟨b, off, rfl, hs, hb, hc⟩
theorem in_getD (h : ∀ x ∈ l, In64 x) (k : Nat) : In64 (l.getD k 0) := by
  by_cases hl : k < l.length
  · have : l.getD k 0 = l[k] := by simp [hl]
    rw [this]
    exact h _ (List.getElem_mem hl)
  · have : l.getD k 0 = 0 := by simp [Nat.le_of_not_lt hl]
    rw [this]; constructor <;> omega
theorem Ns.in64 (h : Ns w S a n l) (k : Nat) : In64 (l.getD k 0) := in_getD h.2.1 k
theorem Ns.nil (w : World) (S : Nat → Prop) (a : Option Addr) : Ns w S a 0 [] := ⟨rfl, (fun x hx => by cases hx), Or.inl rfl⟩
end
theorem ns_whole {w : World} {g : Nat} {t : TypeId} {l : List Int} {S : Nat → Prop} (h : Whole w g t (ints l).toArray) (hS : S g) (hl : ∀ x ∈ l, In64 x) : Ns w S (some ⟨g, 0, none⟩) l.length l := by
  refine ⟨rfl, hl, Or.inr ⟨g, 0, rfl, hS, h.lt, fun k hk => ?_⟩⟩
  rw [Nat.zero_add, h.cell, List.getElem?_toArray, ints_get _ _ hk]
/-- The eleven cells of a plan. -/
def pc (p : Dr.P) (s n : Value) : List Value := [.int .i64 p.nodes, .int .i64 p.slots, .int .i64 p.rho, .int .i64 p.hold, .int .i64 p.grant, .int .i64 p.guard, .int .i64 p.work, s, n, .int .i64 p.soak, .int .i64 p.pass]
/-- The numbers of a plan are numbers. -/
def Pin (p : Dr.P) : Prop := In64 p.nodes ∧ In64 p.slots ∧ In64 p.rho ∧ In64 p.hold ∧ In64 p.grant ∧ In64 p.guard ∧ In64 p.work ∧ In64 p.soak ∧ In64 p.pass
/-- The cells C are those of the plan p; its rows lie in blocks of S. -/
def Cc (w : World) (S : Nat → Prop) (C : Array Value) (p : Dr.P) : Prop :=
  ∃ a n c a' n' c', C = (pc p (.slice a n c) (.slice a' n' c')).toArray ∧ n ≤ c ∧ n' ≤ c' ∧ c' ≤ maxLen ∧ Ns w S a n p.stages ∧ Ns w S a' n' p.needs ∧ Pin p
section
variable {w w' : World} {S S' : Nat → Prop} {C : Array Value} {p : Dr.P}
theorem Cc.keep (h : Cc w S C p) (hz : w.heap.size ≤ w'.heap.size) (hk : ∀ b, b < w.heap.size → S b → w'.heap[b]? = w.heap[b]?) : Cc w' S C p := by
  obtain ⟨a, n, c, a', n', c', e, h1, h2, h3, h4, h5, h6⟩ := h
  exact ⟨a, n, c, a', n', c', e, h1, h2, h3, h4.keep hz hk, h5.keep hz hk, h6⟩
theorem Cc.weak (h : Cc w S C p) (hs : ∀ b, b < w.heap.size → S b → S' b) : Cc w S' C p := by
  obtain ⟨a, n, c, a', n', c', e, h1, h2, h3, h4, h5, h6⟩ := h
  exact ⟨a, n, c, a', n', c', e, h1, h2, h3, h4.weak hs, h5.weak hs, h6⟩
theorem Cc.old (h : Cc w S C p) : Cc w (fun b => b < w.heap.size) C p := h.weak fun _ hb _ => hb
theorem Cc.below {B : Nat} (h : Cc w S C p) (hb : Below B w w') (hs : ∀ b, b < w.heap.size → S b → b < B) : Cc w' S C p :=
  h.keep hb.size fun b hlt hS => hb.block b (hs b hlt hS)
/-- Into a later world that changed nothing of the earlier one. -/
theorem Cc.on (h : Cc w S C p) (hb : Below w.heap.size w w') : Cc w' (fun b => b < w.heap.size) C p :=
  h.old.below hb fun _ _ h => h
theorem Cc.size (h : Cc w S C p) : C.size = 11 := by obtain ⟨a, n, c, a', n', c', rfl, _⟩ := h; rfl
theorem Cc.pin (h : Cc w S C p) : Pin p := by obtain ⟨a, n, c, a', n', c', _, _, _, _, _, _, h⟩ := h; exact h
theorem Cc.all (h : Cc w S C p) : C.all (·.oneCell') = true := by
  obtain ⟨a, n, c, a', n', c', rfl, _⟩ := h
  refine all_oneCell_toArray ?_
  intro u hu
  simp only [pc, List.mem_cons, List.not_mem_nil, or_false] at hu
  rcases hu with rfl | rfl | rfl | rfl | rfl | rfl | rfl | rfl | rfl | rfl | rfl <;> rfl
end
theorem info11 : (Try.prog.info? 24).map (·.size) = some 11 := by kernel_rfl
theorem Cc.info {w : World} {S : Nat → Prop} {C : Array Value} {p : Dr.P} (h : Cc w S C p) : (Try.prog.info? 24).map (·.size) = some C.size := by rw [h.size]; exact info11
/-- A plan in a block of its own. -/
def Box (w : World) (S : Nat → Prop) (B : Nat) (C : Array Value) (p : Dr.P) : Prop := Whole w B 24 C ∧ Cc w S C p
theorem below_box {w w1 : World} {o : Obj} (h : Below (w.alloc o).heap.size (w.alloc o) w1) : Below w.heap.size w w1 := (below_alloc w o).trans (h.mono (by simp))
section
variable {w w' : World} {S : Nat → Prop} {B : Nat} {C : Array Value} {p : Dr.P}
theorem Box.new (h : Cc w S C p) : Box (w.alloc (.cells C 24)) (fun b => b < w.heap.size) w.heap.size C p :=
  ⟨Whole.new w _ _, h.old.keep (by simp) fun b hb _ => Below.heap_alloc w _ b hb⟩
theorem Box.on (h : Box w S B C p) (hb : Below w.heap.size w w') : Box w' (fun b => b < w.heap.size) B C p :=
  ⟨h.1.below hb h.1.lt, h.2.on hb⟩
end
theorem Box.weak {w : World} {S S' : Nat → Prop} {B : Nat} {C : Array Value} {p : Dr.P} (h : Box w S B C p) (hs : ∀ b, S b → S' b) : Box w S' B C p := ⟨h.1, h.2.weak fun b _ => hs b⟩
theorem ret_i64 {a b : Int} (h : a = b) : Ending.returned (.int .i64 a) = .returned (.int .i64 b) := by rw [h]
theorem ret_bool {a b : Bool} (h : a = b) : Ending.returned (.bool a) = .returned (.bool b) := by rw [h]
end Go.Proofs.Ytegdopbiiddamaa
