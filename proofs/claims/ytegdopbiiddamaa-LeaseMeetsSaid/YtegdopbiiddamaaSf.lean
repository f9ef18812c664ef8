/-
  What LeaseMeets keeps in memory: a plan, nine clocks, a row of acceptors, two leases.
-/
import Derived.Test.YtegdopbiiddamaaSe
namespace Go.Proofs.Ytegdopbiiddamaa
open Go.RowKit Go.Great
set_option linter.unusedVariables false
set_option linter.unusedSimpArgs false
set_option maxRecDepth 20000
/-- Nine numbers, told by their places. -/
def nin (f : Nat → Int) : List Value := (List.range 9).map fun x => .int .i64 (f x)
theorem nin_get (f : Nat → Int) {x : Nat} (h : x < 9) : (nin f)[x]? = some (.int .i64 (f x)) := by simp [nin, h]
theorem nin_set (f : Nat → Int) (x : Nat) (v : Int) : (nin f).toArray.setIfInBounds x (.int .i64 v) = (nin (Gt.upd f x v)).toArray := by
  rw [List.setIfInBounds_toArray]
  congr 1
  unfold nin
  refine List.ext_getElem (by simp) fun i h1 h2 => ?_
  rw [List.getElem_set]
  simp only [List.getElem_map, List.getElem_range]
  split
  · rename_i e; rw [e, Gt.upd_same]
  · rename_i e
    rw [Gt.upd_ne _ _ (fun e' => e e'.symm)]
theorem built_c9 : Try.prog.built 41 [] = some (nin fun _ => 0).toArray := by kernel_rfl
theorem zero_c9 : (nin fun _ => 0).toArray = #[.int .i64 0, .int .i64 0, .int .i64 0, .int .i64 0, .int .i64 0, .int .i64 0, .int .i64 0, .int .i64 0, .int .i64 0] := by kernel_rfl
theorem info_c9 : (Try.prog.info? 41).map (·.size) = some 9 := by kernel_rfl
/-- The cells of a row of acceptors. -/
def accRow (VS : Nat → Array Value) (N : Nat) : List Value := ((List.range N).map fun i => (VS i).toList).flatten
def updV (VS : Nat → Array Value) (i : Nat) (V : Array Value) : Nat → Array Value := fun k => if k = i then V else VS k
theorem accRow_succ (VS : Nat → Array Value) (N : Nat) : accRow VS (N + 1) = accRow VS N ++ (VS N).toList := by
  unfold accRow
  rw [List.range_succ]
  simp
theorem accRow_len {VS : Nat → Array Value} : ∀ {N : Nat}, (∀ i, i < N → (VS i).size = 2) → (accRow VS N).length = N * 2
  | 0, _ => rfl
  | N + 1, h => by
    rw [accRow_succ, List.length_append, accRow_len (fun i hi => h i (by omega)), Array.length_toList, h N (by omega)]
    omega
theorem accRow_get {VS : Nat → Array Value} : ∀ {N : Nat}, (∀ i, i < N → (VS i).size = 2) → ∀ i, i < N → ∀ j, j < 2 → (accRow VS N)[i * 2 + j]? = (VS i).toList[j]?
  | 0, _, i, hi, _, _ => by omega
  | N + 1, h, i, hi, j, hj => by
    have hl := accRow_len (VS := VS) (N := N) (fun i hi => h i (by omega))
    rw [accRow_succ]
    by_cases e : i < N
    · rw [List.getElem?_append_left (by omega), accRow_get (fun i hi => h i (by omega)) i e j hj]
    · obtain rfl : i = N := by omega
      rw [List.getElem?_append_right (by omega), hl, show i * 2 + j - i * 2 = j by omega]
theorem accRow_set {VS : Nat → Array Value} {N i : Nat} {V : Array Value} (h : ∀ i, i < N → (VS i).size = 2) (hi : i < N) (hV : V.size = 2) : splice (accRow VS N) (i * 2) V.toList = accRow (updV VS i V) N := by
  have hl := accRow_len (VS := VS) h
  have h' : ∀ k, k < N → (updV VS i V k).size = 2 := fun k hk => by
    unfold updV
    split
    · exact hV
    · exact h k hk
  have hl' := accRow_len (VS := updV VS i V) h'
  have hVl : V.toList.length = 2 := by rw [Array.length_toList, hV]
  refine List.ext_getElem? fun q => ?_
  by_cases hq : q < N * 2
  · obtain ⟨k, j, hj, rfl⟩ : ∃ k j, j < 2 ∧ q = k * 2 + j := ⟨q / 2, q % 2, by omega, by omega⟩
    have hk : k < N := by omega
    rw [accRow_get h' k hk j hj]
    unfold splice
    by_cases e : k = i
    · subst e
      unfold updV
      rw [if_pos rfl, List.getElem?_append_right (by rw [List.length_take]; omega), List.length_take, Nat.min_eq_left (by omega), List.getElem?_append_left (by omega)]
      congr 1
      omega
    · unfold updV
      rw [if_neg e]
      by_cases hlt : k < i
      · rw [List.getElem?_append_left (by rw [List.length_take]; omega), List.getElem?_take, if_pos (by omega), accRow_get h k hk j hj]
      · rw [List.getElem?_append_right (by rw [List.length_take]; omega), List.length_take, Nat.min_eq_left (by omega), List.getElem?_append_right (by omega), List.getElem?_drop, hVl, show i * 2 + 2 + (k * 2 + j - i * 2 - 2) = k * 2 + j by omega, accRow_get h k hk j hj]
  · rw [List.getElem?_eq_none (by rw [length_splice _ _ _ (by omega)]; omega), List.getElem?_eq_none (by omega)]
/-- What is kept ahead of the leases. gs: the walk's own blocks. -/
structure Sto (B : Nat) (w0 w : World) (gs : List Nat) (g gC gR : Nat) (C : Array Value) (p : Dr.P) (cl : Nat → Int) (N : Nat) (VS : Nat → Array Value) (ac : Nat → Gt.A) : Prop where
  below : Below B w0 w
  plan : Whole w g 24 C
  cc : Cc w (fun b => b < B) C p
  clock : Whole w gC 41 (nin cl).toArray
  row : Whole w gR 45 (accRow VS N).toArray
  acc : ∀ i, i < N → AccS w (fun b => b ∉ gs) (VS i) (ac i)
  inC : gC ∈ gs
  inR : gR ∈ gs
  far : B ≤ g ∧ g < gC ∧ gC < gR
section
variable {B : Nat} {w0 w w' : World} {gs : List Nat} {g gC gR : Nat} {C : Array Value} {p : Dr.P} {cl : Nat → Int} {N : Nat} {VS : Nat → Array Value} {ac : Nat → Gt.A}
theorem Sto.vs (h : Sto B w0 w gs g gC gR C p cl N VS ac) : ∀ i, i < N → (VS i).size = 2 := fun i hi => (h.acc i hi).acc.size
theorem Sto.size (h : Sto B w0 w gs g gC gR C p cl N VS ac) : B ≤ w.heap.size := by have := h.plan.lt; have := h.far.1; omega
theorem Sto.on (h : Sto B w0 w gs g gC gR C p cl N VS ac) (hb : Below w.heap.size w w') : Sto B w0 w' gs g gC gR C p cl N VS ac :=
  ⟨h.below.trans (hb.mono h.size), h.plan.below hb h.plan.lt, h.cc.below (hb.mono h.size) (fun _ _ h => h), h.clock.below hb h.clock.lt, h.row.below hb h.row.lt, fun i hi => (h.acc i hi).on hb, h.inC, h.inR, h.far⟩
theorem Sto.more (h : Sto B w0 w gs g gC gR C p cl N VS ac) {gs' : List Nat} (hg : ∀ b, b ∈ gs → b ∈ gs') (hn : ∀ b, b ∈ gs' → b ∈ gs ∨ w.heap.size ≤ b) : Sto B w0 w gs' g gC gR C p cl N VS ac :=
  ⟨h.below, h.plan, h.cc, h.clock, h.row, fun i hi => (h.acc i hi).weak (fun b hb hx hx' => (hn b hx').elim hx (fun e => by omega)), hg _ h.inC, hg _ h.inR, h.far⟩
/-- A block of the walk's own, other than these, is written. -/
theorem Sto.beside (h : Sto B w0 w gs g gC gR C p cl N VS ac) {q : Nat} (hq : q ∈ gs) (h1 : gR < q) (hz : w'.heap.size = w.heap.size) (ho : ∀ b, b ≠ q → w'.heap[b]? = w.heap[b]?) (hb : Below B w w') : Sto B w0 w' gs g gC gR C p cl N VS ac := by
  have hf := h.far
  refine ⟨h.below.trans hb, (ho g (by omega)).trans h.plan, h.cc.below hb (fun _ _ h => h), (ho gC (by omega)).trans h.clock, (ho gR (by omega)).trans h.row, fun i hi => (h.acc i hi).keep (by omega) (fun b _ hx => ho b (fun e => hx (e ▸ hq))), h.inC, h.inR, h.far⟩
/-- A clock is set. -/
theorem Sto.setC (h : Sto B w0 w gs g gC gR C p cl N VS ac) (n : Nat) (v : Int) : Sto B w0 (w.setCell ⟨gC, n, none⟩ (.int .i64 v)) gs g gC gR C p (Gt.upd cl n v) N VS ac := by
  have hf := h.far
  have hz : (w.setCell ⟨gC, n, none⟩ (.int .i64 v)).heap.size = w.heap.size := by simp [World.setCell]
  have ho : ∀ b, b ≠ gC → (w.setCell ⟨gC, n, none⟩ (.int .i64 v)).heap[b]? = w.heap[b]? := fun b hb => heap_setCell_other _ _ _ _ hb
  have hb : Below B w (w.setCell ⟨gC, n, none⟩ (.int .i64 v)) := (Below.refl B w).setCell (p := ⟨gC, n, none⟩) (by show B ≤ gC; omega) _
  refine ⟨h.below.trans hb, (ho g (by omega)).trans h.plan, h.cc.below hb (fun _ _ h => h), ?_, (ho gR (by omega)).trans h.row, fun i hi => (h.acc i hi).keep (by omega) (fun b _ hx => ho b (fun e => hx (e ▸ h.inC))), h.inC, h.inR, h.far⟩
  rw [← nin_set]
  exact h.clock.set n _
/-- An acceptor is set. -/
theorem Sto.setR (h : Sto B w0 w gs g gC gR C p cl N VS ac) {n : Nat} (hn : n < N) {V : Array Value} {a : Gt.A} (hV : AccS w (fun b => b ∉ gs) V a) : Sto B w0 (w.setRow gR (splice (accRow VS N) (n * 2) V.toList).toArray) gs g gC gR C p cl N (updV VS n V) (fun k => if k = n then a else ac k) := by
  have hf := h.far
  have hz : (w.setRow gR (splice (accRow VS N) (n * 2) V.toList).toArray).heap.size = w.heap.size := by simp [World.setRow]
  have ho : ∀ b, b ≠ gR → (w.setRow gR (splice (accRow VS N) (n * 2) V.toList).toArray).heap[b]? = w.heap[b]? := fun b hb => setRow_other _ _ _ _ hb
  have hb : Below B w (w.setRow gR (splice (accRow VS N) (n * 2) V.toList).toArray) := below_row (Below.refl B w) (by omega) _
  refine ⟨h.below.trans hb, (ho g (by omega)).trans h.plan, h.cc.below hb (fun _ _ h => h), (ho gC (by omega)).trans h.clock, ?_, fun i hi => ?_, h.inC, h.inR, h.far⟩
  · rw [← accRow_set h.vs hn hV.acc.size]
    exact h.row.row _
  · have hk : AccS w (fun b => b ∉ gs) (updV VS n V i) (if i = n then a else ac i) := by
      unfold updV
      split
      · exact hV
      · exact h.acc i hi
    exact hk.keep (by omega) (fun b _ hx => ho b (fun e => hx (e ▸ h.inR)))
theorem Sto.cell (h : Sto B w0 w gs g gC gR C p cl N VS ac) {n : Nat} (hn : n < 9) : w.cell? ⟨gC, n, none⟩ = some (.int .i64 (cl n)) := by
  have := h.clock.cell n
  rw [List.getElem?_toArray, nin_get _ hn] at this
  exact this
theorem Sto.range (h : Sto B w0 w gs g gC gR C p cl N VS ac) {n : Nat} (hn : n < N) : w.rangeAt gR (n * 2) (VS n).toList := by
  intro j v hv
  have hj : j < 2 := by
    have := (List.getElem?_eq_some_iff.1 hv).1
    rw [Array.length_toList, h.vs n hn] at this
    exact this
  have := h.row.cell (n * 2 + j)
  rw [List.getElem?_toArray, accRow_get h.vs n hn j hj] at this
  exact this.trans hv
end
/-- All that is kept. -/
structure Stm (B : Nat) (w0 w : World) (gs : List Nat) (g gC gR gA gB : Nat) (C : Array Value) (p : Dr.P) (cl : Nat → Int) (N : Nat) (VS : Nat → Array Value) (ac : Nat → Gt.A) (VA VB : Array Value) (a b : Ln.L) : Prop where
  sto : Sto B w0 w gs g gC gR C p cl N VS ac
  ba : Whole w gA 26 VA
  bb : Whole w gB 26 VB
  la : LseS w (fun b => b ∉ gs) VA a
  lb : LseS w (fun b => b ∉ gs) VB b
  inA : gA ∈ gs
  inB : gB ∈ gs
  far : gR < gA ∧ gA < gB
section
variable {B : Nat} {w0 w w' : World} {gs : List Nat} {g gC gR gA gB : Nat} {C : Array Value} {p : Dr.P} {cl : Nat → Int} {N : Nat} {VS : Nat → Array Value} {ac : Nat → Gt.A} {VA VB : Array Value} {a b : Ln.L}
theorem Stm.on (h : Stm B w0 w gs g gC gR gA gB C p cl N VS ac VA VB a b) (hb : Below w.heap.size w w') : Stm B w0 w' gs g gC gR gA gB C p cl N VS ac VA VB a b :=
  ⟨h.sto.on hb, h.ba.below hb h.ba.lt, h.bb.below hb h.bb.lt, h.la.on hb, h.lb.on hb, h.inA, h.inB, h.far⟩
theorem Stm.setC (h : Stm B w0 w gs g gC gR gA gB C p cl N VS ac VA VB a b) (n : Nat) (v : Int) : Stm B w0 (w.setCell ⟨gC, n, none⟩ (.int .i64 v)) gs g gC gR gA gB C p (Gt.upd cl n v) N VS ac VA VB a b := by
  have hf := h.far
  have hf2 := h.sto.far
  have ho : ∀ b, b ≠ gC → (w.setCell ⟨gC, n, none⟩ (.int .i64 v)).heap[b]? = w.heap[b]? := fun b hb => heap_setCell_other _ _ _ _ hb
  have hz : (w.setCell ⟨gC, n, none⟩ (.int .i64 v)).heap.size = w.heap.size := by simp [World.setCell]
  exact ⟨h.sto.setC n v, (ho gA (by omega)).trans h.ba, (ho gB (by omega)).trans h.bb, h.la.keep (by omega) (fun b _ hx => ho b (fun e => hx (e ▸ h.sto.inC))), h.lb.keep (by omega) (fun b _ hx => ho b (fun e => hx (e ▸ h.sto.inC))), h.inA, h.inB, h.far⟩
theorem Stm.setR (h : Stm B w0 w gs g gC gR gA gB C p cl N VS ac VA VB a b) {n : Nat} (hn : n < N) {V : Array Value} {x : Gt.A} (hV : AccS w (fun b => b ∉ gs) V x) : Stm B w0 (w.setRow gR (splice (accRow VS N) (n * 2) V.toList).toArray) gs g gC gR gA gB C p cl N (updV VS n V) (fun k => if k = n then x else ac k) VA VB a b := by
  have hf := h.far
  have hz : (w.setRow gR (splice (accRow VS N) (n * 2) V.toList).toArray).heap.size = w.heap.size := by simp [World.setRow]
  have ho : ∀ b, b ≠ gR → (w.setRow gR (splice (accRow VS N) (n * 2) V.toList).toArray).heap[b]? = w.heap[b]? := fun b hb => setRow_other _ _ _ _ hb
  exact ⟨h.sto.setR hn hV, (ho gA (by omega)).trans h.ba, (ho gB (by omega)).trans h.bb, h.la.keep (by omega) (fun b _ hx => ho b (fun e => hx (e ▸ h.sto.inR))), h.lb.keep (by omega) (fun b _ hx => ho b (fun e => hx (e ▸ h.sto.inR))), h.inA, h.inB, h.far⟩
theorem Stm.setA (h : Stm B w0 w gs g gC gR gA gB C p cl N VS ac VA VB a b) {V : Array Value} {x : Ln.L} (hV : LseS w (fun b => b ∉ gs) V x) : Stm B w0 (w.setRow gA V) gs g gC gR gA gB C p cl N VS ac V VB x b := by
  have hf := h.far
  have hf2 := h.sto.far
  have hz : (w.setRow gA V).heap.size = w.heap.size := by simp [World.setRow]
  have ho : ∀ b, b ≠ gA → (w.setRow gA V).heap[b]? = w.heap[b]? := fun b hb => setRow_other _ _ _ _ hb
  exact ⟨h.sto.beside h.inA hf.1 hz ho (below_row (Below.refl B w) (by omega) _), h.ba.row V, (ho gB (by omega)).trans h.bb, hV.keep (by omega) (fun b _ hx => ho b (fun e => hx (e ▸ h.inA))), h.lb.keep (by omega) (fun b _ hx => ho b (fun e => hx (e ▸ h.inA))), h.inA, h.inB, h.far⟩
theorem Stm.setB (h : Stm B w0 w gs g gC gR gA gB C p cl N VS ac VA VB a b) {V : Array Value} {x : Ln.L} (hV : LseS w (fun b => b ∉ gs) V x) : Stm B w0 (w.setRow gB V) gs g gC gR gA gB C p cl N VS ac VA V a x := by
  have hf := h.far
  have hf2 := h.sto.far
  have hz : (w.setRow gB V).heap.size = w.heap.size := by simp [World.setRow]
  have ho : ∀ b, b ≠ gB → (w.setRow gB V).heap[b]? = w.heap[b]? := fun b hb => setRow_other _ _ _ _ hb
  exact ⟨h.sto.beside h.inB (by omega) hz ho (below_row (Below.refl B w) (by omega) _), (ho gA (by omega)).trans h.ba, h.bb.row V, h.la.keep (by omega) (fun b _ hx => ho b (fun e => hx (e ▸ h.inB))), hV.keep (by omega) (fun b _ hx => ho b (fun e => hx (e ▸ h.inB))), h.inA, h.inB, h.far⟩
/-- What a call's answer may be: a row of what was there, or a new one. -/
theorem Stm.ans (h : Stm B w0 w gs g gC gR gA gB C p cl N VS ac VA VB a b) (hgs : ∀ q ∈ gs, q < w.heap.size) {w' : World} {V : Array Value} {x : Gt.A} (hV : AccS w' (fun b => b ∉ gs ∨ w.heap.size ≤ b) V x) : AccS w' (fun b => b ∉ gs) V x :=
  hV.weak fun b _ hb => hb.elim id (fun e hx => by have := hgs b hx; omega)
theorem Stm.ansL (h : Stm B w0 w gs g gC gR gA gB C p cl N VS ac VA VB a b) (hgs : ∀ q ∈ gs, q < w.heap.size) {w' : World} {V : Array Value} {x : Ln.L} (hV : LseS w' (fun b => b ∉ gs ∨ w.heap.size ≤ b) V x) : LseS w' (fun b => b ∉ gs) V x :=
  hV.weak fun b _ hb => hb.elim id (fun e hx => by have := hgs b hx; omega)
end
end Go.Proofs.Ytegdopbiiddamaa
