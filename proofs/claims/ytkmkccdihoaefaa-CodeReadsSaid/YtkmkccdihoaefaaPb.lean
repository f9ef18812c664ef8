/-
  Parts by value, rows of parts that a call makes, and the walk of the statements' take.
-/
import Derived.Test.YtkmkccdihoaefaaPa
import Derived.Great.CaseRows
import Derived.Laws.ResultCell
namespace Go.Proofs.Ytkmkccdihoaefaa
open Go.RowKit

/-- The 37 cells of a part. -/
def pcells (k n l m : Int) (x : Value) (h : List Int) : List Value := .int .i64 k :: .int .i64 n :: .int .i64 l :: .int .i64 m :: x :: nums h
def nilv : Value := .slice none 0 0
def cellsOf (p : Prt) (x : Value) : List Value := pcells p.k p.n p.least p.most x p.h
theorem pcells_len {k n l m : Int} {x : Value} {h : List Int} (hh : h.length = 32) : (pcells k n l m x h).length = 37 := by simp [pcells, nums_len, hh]
theorem cellsOf_len {p : Prt} (h : p.Ok) (x : Value) : (cellsOf p x).length = 37 := pcells_len h.h
theorem zeroP_lit : #[Value.int IntKind.i64 0, Value.int IntKind.i64 0, Value.int IntKind.i64 0, Value.int IntKind.i64 0, Value.slice none 0 0, Value.int IntKind.u8 0, Value.int IntKind.u8 0, Value.int IntKind.u8 0, Value.int IntKind.u8 0, Value.int IntKind.u8 0, Value.int IntKind.u8 0, Value.int IntKind.u8 0, Value.int IntKind.u8 0, Value.int IntKind.u8 0, Value.int IntKind.u8 0, Value.int IntKind.u8 0, Value.int IntKind.u8 0, Value.int IntKind.u8 0, Value.int IntKind.u8 0, Value.int IntKind.u8 0, Value.int IntKind.u8 0, Value.int IntKind.u8 0, Value.int IntKind.u8 0, Value.int IntKind.u8 0, Value.int IntKind.u8 0, Value.int IntKind.u8 0, Value.int IntKind.u8 0, Value.int IntKind.u8 0, Value.int IntKind.u8 0, Value.int IntKind.u8 0, Value.int IntKind.u8 0, Value.int IntKind.u8 0, Value.int IntKind.u8 0, Value.int IntKind.u8 0, Value.int IntKind.u8 0, Value.int IntKind.u8 0, Value.int IntKind.u8 0] = (pcells 0 0 0 0 nilv zero32).toArray := rfl

theorem info37 : (Try.prog.info? 28).map (·.size) = some 37 := by kernel_rfl
theorem part_info : (Try.prog.info? 28).map (fun i => (i.zero, i.size, i.bytes)) = some (some (.agg (pcells 0 0 0 0 nilv zero32).toArray), 37, 88) := by kernel_rfl

/-! Parts that are built -/
theorem built_k (k : Int) : Try.prog.built 28 [(0, .int .i64 k)] = some (pcells k 0 0 0 nilv zero32).toArray := by kernel_rfl
theorem built_kn (k n : Int) : Try.prog.built 28 [(0, .int .i64 k), (1, .int .i64 n)] = some (pcells k n 0 0 nilv zero32).toArray := by kernel_rfl
theorem built_km (k m : Int) : Try.prog.built 28 [(0, .int .i64 k), (3, .int .i64 m)] = some (pcells k 0 0 m nilv zero32).toArray := by kernel_rfl
theorem built_klm (k l m : Int) : Try.prog.built 28 [(0, .int .i64 k), (2, .int .i64 l), (3, .int .i64 m)] = some (pcells k 0 l m nilv zero32).toArray := by kernel_rfl
theorem built_kb (k : Int) (a : Option Addr) (n c : Nat) : Try.prog.built 28 [(0, .int .i64 k), (4, .slice a n c)] = some (pcells k 0 0 0 (.slice a n c) zero32).toArray := by kernel_rfl
theorem built_none : Try.prog.built 28 [] = some (pcells 0 0 0 0 nilv zero32).toArray := by kernel_rfl
theorem built_kh32 (k h0 h1 h2 h3 h4 h5 h6 h7 h8 h9 h10 h11 h12 h13 h14 h15 h16 h17 h18 h19 h20 h21 h22 h23 h24 h25 h26 h27 h28 h29 h30 h31 : Int) : Try.prog.built 28 [(0, .int .i64 k), (5, .agg (nums [h0, h1, h2, h3, h4, h5, h6, h7, h8, h9, h10, h11, h12, h13, h14, h15, h16, h17, h18, h19, h20, h21, h22, h23, h24, h25, h26, h27, h28, h29, h30, h31]).toArray)] = some (pcells k 0 0 0 nilv [h0, h1, h2, h3, h4, h5, h6, h7, h8, h9, h10, h11, h12, h13, h14, h15, h16, h17, h18, h19, h20, h21, h22, h23, h24, h25, h26, h27, h28, h29, h30, h31]).toArray := by kernel_rfl
theorem built_kh (k : Int) (h : List Int) (hh : h.length = 32) : Try.prog.built 28 [(0, .int .i64 k), (5, .agg (nums h).toArray)] = some (pcells k 0 0 0 nilv h).toArray := by
  match h, hh with
  | [h0, h1, h2, h3, h4, h5, h6, h7, h8, h9, h10, h11, h12, h13, h14, h15, h16, h17, h18, h19, h20, h21, h22, h23, h24, h25, h26, h27, h28, h29, h30, h31], _ => exact built_kh32 k h0 h1 h2 h3 h4 h5 h6 h7 h8 h9 h10 h11 h12 h13 h14 h15 h16 h17 h18 h19 h20 h21 h22 h23 h24 h25 h26 h27 h28 h29 h30 h31

theorem wpList_part {ops : Array Oper} {rest : List Oper} {o : Oper} {a : Act} {w : World} {Q : Exit → Act → World → Prop} (hg : o.guard = none) (parts : List (Nat × Operand)) (ho : o.op = .build 28 parts.toArray)
    (vs : List (Nat × Value)) (hv : parts.map (fun q => (q.1, a.eval q.2)) = vs) (cells : List Value) (hc : Try.prog.built 28 vs = some cells.toArray)
    (h : wpList Try.prog ops Q rest (a.put o.dst (.agg cells.toArray)) w) : wpList Try.prog ops Q (o :: rest) a w := by
  have e : (parts.toArray.map fun (i, x) => (i, a.eval x)).toList = vs := by rw [← hv]; simp
  refine wpList_build hg _ parts.toArray ho ?_ ?_
  · rw [e, hc]; rfl
  · rw [e, hc]; exact h

/-! Rows of parts -/
def flat (qs : List (Prt × Value)) : List Value := qs.flatMap fun q => cellsOf q.1 q.2
theorem flat_len {qs : List (Prt × Value)} (h : ∀ q ∈ qs, q.1.Ok) : (flat qs).length = qs.length * 37 := by
  unfold flat
  induction qs with
  | nil => rfl
  | cons q qs ih =>
    simp only [List.flatMap_cons, List.length_append, List.length_cons]
    rw [ih (fun q hq => h q (by simp [hq])), cellsOf_len (h q (by simp))]
    omega
theorem flat_get {qs : List (Prt × Value)} (h : ∀ q ∈ qs, q.1.Ok) : ∀ (i j : Nat) (q : Prt × Value), qs[i]? = some q → j < 37 → (flat qs)[i * 37 + j]? = (cellsOf q.1 q.2)[j]? := by
  induction qs with
  | nil => intro i j q hq; simp at hq
  | cons r qs ih =>
    intro i j q hq hj
    have hl := cellsOf_len (h r (by simp)) r.2
    show (cellsOf r.1 r.2 ++ flat qs)[i * 37 + j]? = _
    cases i with
    | zero =>
      simp at hq
      subst hq
      rw [List.getElem?_append_left (by omega)]
      congr 1; omega
    | succ i =>
      rw [List.getElem?_append_right (by omega), hl]
      rw [show (i + 1) * 37 + j - 37 = i * 37 + j by omega]
      exact ih (fun q hq => h q (by simp [hq])) i j q (by simpa using hq) hj
/-- The row v of parts, made from block B on; their bytes lie in blocks of T. -/
def Out (w : World) (B : Nat) (T : Nat → Prop) (v : Value) (qs : List (Prt × Value)) : Prop :=
  w.ownsRow B 28 37 v qs.length (flat qs) ∧ ∀ q ∈ qs, q.1.Ok ∧ ∃ a n c, q.2 = .slice a n c ∧ Txt w (fun b => T b ∧ v.ownBlock ≠ some b) a n c q.1.b
theorem Out.nil (w : World) (B : Nat) (T : Nat → Prop) : Out w B T nilv [] := ⟨World.ownsRow_nil _ _ _ _, fun q hq => by cases hq⟩
theorem out_append {w w' : World} {B : Nat} {T : Nat → Prop} {v v' : Value} {qs : List (Prt × Value)} {p : Prt} {a : Option Addr} {n c : Nat} (h : Out w B T v qs) (hok : p.Ok) (ht : Txt w (fun b => T b ∧ v.ownBlock ≠ some b) a n c p.b)
    (hown : w'.ownsRow B 28 37 v' (qs.length + 1) (flat qs ++ cellsOf p (.slice a n c))) (hg : w.grownBy w' v.ownBlock) (hv : v'.ownBlock = v.ownBlock ∨ ∃ k, w.heap.size ≤ k ∧ v'.ownBlock = some k) :
    Out w' B T v' (qs ++ [(p, .slice a n c)]) := by
  have key : ∀ {a : Option Addr} {n c : Nat} {l : List Int}, Txt w (fun b => T b ∧ v.ownBlock ≠ some b) a n c l → Txt w' (fun b => T b ∧ v'.ownBlock ≠ some b) a n c l := by
    intro a n c l ht
    have h1 := ht.weak (S' := fun b => b < w.heap.size ∧ T b ∧ v.ownBlock ≠ some b) (fun b hb hS => ⟨hb, hS⟩)
    have h2 := h1.grown hg (fun b _ hS => Ne.symm hS.2.2)
    refine h2.weak (fun b _ hS => ⟨hS.2.1, ?_⟩)
    rcases hv with e | ⟨k, hk, e⟩
    · rw [e]; exact hS.2.2
    · rw [e]; intro hh; injection hh with hh; have := hS.1; omega
  refine ⟨?_, ?_⟩
  · rw [List.length_append]
    have : flat (qs ++ [(p, Value.slice a n c)]) = flat qs ++ cellsOf p (.slice a n c) := by simp [flat]
    rw [this]
    exact hown
  · intro q hq
    rcases List.mem_append.1 hq with hq | hq
    · obtain ⟨h1, a1, n1, c1, h2, h3⟩ := h.2 q hq
      exact ⟨h1, a1, n1, c1, h2, key h3⟩
    · simp at hq
      subst hq
      exact ⟨hok, a, n, c, rfl, key ht⟩
theorem out_prts {w : World} {B : Nat} {T : Nat → Prop} {v : Value} {qs : List (Prt × Value)} (h : Out w B T v qs) : ∃ a c, v = .slice a qs.length c ∧ Prts w (fun b => B ≤ b ∨ T b) a qs.length (qs.map (·.1)) := by
  obtain ⟨a, c, hv⟩ := own_form h.1
  refine ⟨a, c, hv, by simp, ?_, ?_⟩
  · intro p hp
    obtain ⟨q, hq, rfl⟩ := List.mem_map.1 hp
    exact (h.2 q hq).1
  · by_cases h0 : qs.length = 0
    · left; have : qs = [] := List.eq_nil_of_length_eq_zero h0
      subst this; rfl
    · right
      have hown := h.1
      obtain ⟨g, cap, hv', hB, hlt⟩ := hown.form (by omega)
      rw [hv] at hv'
      injection hv' with h1 _ h3
      subst h1 h3
      rw [hv] at hown
      refine ⟨g, 0, rfl, Or.inl hB, hlt, fun i p hp => ?_⟩
      obtain ⟨q, hq, rfl⟩ : ∃ q, qs[i]? = some q ∧ q.1 = p := by
        rw [List.getElem?_map] at hp
        cases hqi : qs[i]? with
        | none => rw [hqi] at hp; cases hp
        | some q => rw [hqi] at hp; injection hp with hp; exact ⟨q, rfl, hp⟩
      have hi : i < qs.length := (List.getElem?_eq_some_iff.1 hq).1
      have hmem : q ∈ qs := List.mem_of_getElem? hq
      obtain ⟨hok, a1, n1, c1, e1, t1⟩ := h.2 q hmem
      have hc : ∀ j, j < 37 → w.cell? ⟨g, 0 + i * 37 + j, none⟩ = (cellsOf q.1 q.2)[j]? := by
        intro j hj
        rw [Nat.zero_add, hown.cellAt _ (by omega), flat_get (fun q hq => (h.2 q hq).1) i j q hq hj]
      refine ⟨hc 0 (by omega), hc 1 (by omega), hc 2 (by omega), hc 3 (by omega), ⟨a1, n1, c1, (hc 4 (by omega)).trans (by rw [e1]; rfl), t1.weak (fun b _ hS => Or.inr hS.1)⟩, ?_⟩
      intro j u hu
      have hj : j < 32 := by
        have := (List.getElem?_eq_some_iff.1 hu).1
        rw [nums_len, hok.h] at this; exact this
      have := hc (5 + j) (by omega)
      rw [Nat.add_assoc, this, Nat.add_comm 5 j]
      simpa [cellsOf, pcells] using hu
end Go.Proofs.Ytkmkccdihoaefaa
