/-
  Plans that need less; rows of the call's own; blocks that a walk keeps.
-/
import Derived.Test.YtfjdjhjhpphogaaEm
namespace Go.Proofs.Ytfjdjhjhpphogaa
set_option linter.unusedVariables false
set_option linter.unusedSimpArgs false
set_option maxRecDepth 20000
open Go.RowKit
/-- The plan d. -/
def dp (p : Dr.P) (l : List Int) (g u : Int) : Dr.P := { p with needs := l, grant := g, guard := u }
/-- The plan bad. -/
def ep (p : Dr.P) (l : List Int) : Dr.P := { p with needs := l }
theorem less_ok {p : Dr.P} (h : p.ok) {k : Nat} (hk : k < p.needs.length) {x g u m : Int} (hm : 0 ≤ m) (hx : x = max (p.needs.getD k 0 - 1) 0) (hg : g = min (p.grant + m) 1073741824) (hu : u = min (p.guard + m) 1073741824) :
    (dp p (p.needs.set k x) g u).ok := by
  obtain ⟨h0, h1, h2, h3, h4, h5, h6, h7, h8, h9⟩ := h
  obtain ⟨t1, t2, t3, t4⟩ := h3
  obtain ⟨a1, a2⟩ := t2
  obtain ⟨b1, b2⟩ := t3
  have hg1 : p.grant ≤ g ∧ g ≤ 1073741824 := by omega
  have hu1 : p.guard ≤ u ∧ u ≤ 1073741824 := by omega
  refine ⟨h0, h1, h2, ⟨t1, ⟨by show 1 ≤ g; omega, hg1.2⟩, ⟨by show 1 ≤ u; omega, hu1.2⟩, t4⟩, ?_, ?_, h6, ⟨?_, ?_⟩, h8, h9⟩
  · have r := h2.2
    have r0 := h2.1
    have h4' : p.hold * (1000 + p.rho) < p.grant * (1000 - p.rho) := h4
    have h5' : p.grant * (1000 - p.rho) ≤ g * (1000 - p.rho) := Int.mul_le_mul_of_nonneg_right hg1.1 (by omega)
    show p.hold * (1000 + p.rho) < g * (1000 - p.rho)
    omega
  · show 1000 + p.rho ≤ u
    have h5' : 1000 + p.rho ≤ p.guard := h5
    omega
  · show ((p.needs.set k x).length : Int) = p.top + 1
    rw [List.length_set]
    exact h7.1
  · intro j hj
    have hj' : j < p.needs.length := by simpa [dp] using hj
    have hm := h7.2 j hj'
    show 0 ≤ (p.needs.set k x).getD j 0 ∧ (p.needs.set k x).getD j 0 ≤ Dr.cn p.stages (j : Int) p.stages.length
    by_cases e : j = k
    · subst e
      have : (p.needs.set j x).getD j 0 = x := by simp [hj']
      rw [this]
      omega
    · have : (p.needs.set k x).getD j 0 = p.needs.getD j 0 := by simp [List.getElem?_set, Ne.symm e]
      rw [this]
      exact hm
theorem more_no {p : Dr.P} (h : p.ok) : ¬ (ep p (p.needs ++ [0])).ok := by
  intro h'
  have h1 : ((p.needs ++ [0]).length : Int) = p.top + 1 := h'.2.2.2.2.2.2.2.1.1
  have h2 : (p.needs.length : Int) = p.top + 1 := h.2.2.2.2.2.2.2.1.1
  simp at h1
  omega
/-- Blocks beyond w that a walk keeps. -/
def Kp (w w' : World) (L : List (Nat × TypeId × Array Value)) : Prop :=
  Below w.heap.size w w' ∧ (L.map (·.1)).Nodup ∧ ∀ x ∈ L, w.heap.size ≤ x.1 ∧ Whole w' x.1 x.2.1 x.2.2
section
variable {w w' w'' : World} {L L1 L2 : List (Nat × TypeId × Array Value)} {b : Nat} {t : TypeId} {cs : Array Value}
theorem Kp.get (h : Kp w w' (L1 ++ (b, t, cs) :: L2)) : Whole w' b t cs := (h.2.2 (b, t, cs) (by simp)).2
theorem Kp.old (h : Kp w w' L) (hb : Below w'.heap.size w' w'') : Kp w w'' L :=
  ⟨h.1.trans (hb.mono h.1.size), h.2.1, fun x hx => ⟨(h.2.2 x hx).1, (h.2.2 x hx).2.below hb (h.2.2 x hx).2.lt⟩⟩
theorem Kp.drew (h : Kp w w' L) : Kp w w'.drew L := ⟨h.1.drew, h.2.1, fun x hx => ⟨(h.2.2 x hx).1, (h.2.2 x hx).2.keep rfl⟩⟩
theorem Kp.add (h : Kp w w' L) (hb : Below w'.heap.size w' w'') (hg : w'.heap.size ≤ b) (hw : Whole w'' b t cs) : Kp w w'' ((b, t, cs) :: L) := by
  have h' := h.old hb
  refine ⟨h'.1, ?_, ?_⟩
  · rw [List.map_cons, List.nodup_cons]
    refine ⟨fun hm => ?_, h.2.1⟩
    obtain ⟨x, hx, e⟩ := List.mem_map.1 hm
    have h1 := (h.2.2 x hx).2.lt
    have e' : x.1 = b := e
    omega
  · intro x hx
    rcases List.mem_cons.1 hx with rfl | hx
    · exact ⟨Nat.le_trans h.1.size hg, hw⟩
    · exact h'.2.2 x hx
theorem Kp.set (h : Kp w w' (L1 ++ (b, t, cs) :: L2)) (i : Nat) (v : Value) : Kp w (w'.setCell ⟨b, i, none⟩ v) (L1 ++ (b, t, cs.setIfInBounds i v) :: L2) := by
  have hn := h.2.1
  have hb := (h.2.2 (b, t, cs) (by simp)).1
  have e : (L1 ++ (b, t, cs.setIfInBounds i v) :: L2).map (·.1) = (L1 ++ (b, t, cs) :: L2).map (·.1) := by simp
  refine ⟨h.1.setCell hb v, by rw [e]; exact hn, fun x hx => ?_⟩
  have hne : ∀ y ∈ L1 ++ L2, y.1 ≠ b := by
    intro y hy e
    simp only [List.map_append, List.map_cons] at hn
    rw [List.nodup_append] at hn
    obtain ⟨_, h2, h3⟩ := hn
    rcases List.mem_append.1 hy with hy | hy
    · exact h3 y.1 (List.mem_map.2 ⟨y, hy, rfl⟩) b (by simp) e
    · exact (List.nodup_cons.1 h2).1 (List.mem_map.2 ⟨y, hy, e⟩)
  have hx' : x ∈ L1 ++ L2 ∨ x = (b, t, cs.setIfInBounds i v) := by
    simp only [List.mem_append, List.mem_cons] at hx ⊢
    rcases hx with h | h | h
    · exact Or.inl (Or.inl h)
    · exact Or.inr h
    · exact Or.inl (Or.inr h)
  rcases hx' with hx' | rfl
  · have hm : x ∈ L1 ++ (b, t, cs) :: L2 := by
      simp only [List.mem_append, List.mem_cons] at hx' ⊢
      rcases hx' with h | h
      · exact Or.inl h
      · exact Or.inr (Or.inr h)
    exact ⟨(h.2.2 x hm).1, (h.2.2 x hm).2.far (hne x hx') v⟩
  · exact ⟨hb, (h.2.2 (b, t, cs) (by simp)).2.set i v⟩
end
theorem int_info : (Try.prog.info? 3).map (fun i => (i.zero, i.size, i.bytes)) = some (some (.int .i64 0), 1, 8) := by kernel_rfl
theorem int_infos : ∃ i, Try.prog.info? 3 = some i ∧ i.zero = some (.int .i64 0) ∧ i.size = 1 ∧ i.bytes = 8 := by
  have := int_info
  cases hq : Try.prog.info? 3 with
  | none => rw [hq] at this; cases this
  | some i =>
    rw [hq] at this
    simp only [Option.map_some, Option.some.injEq, Prod.mk.injEq] at this
    exact ⟨i, rfl, this.1, this.2.1, this.2.2⟩
/-- append onto a row of the call's own. -/
theorem run_append_ns (w : World) (base : Nat) (ty : TypeId) (v : Value) (n : Nat) (xs : List Int) (hown : w.ownsRow base 3 1 v n (ints xs)) (S : Nat → Prop) (ad : Addr) (m c : Nat) (l : List Int) (hr : Ns w S (some ad) m l)
    (hsz : n + m ≤ 1000) (hbase : base ≤ w.heap.size) :
    ∃ v' w', (Builtin.append_ #[23, 23] ty #[v, .slice (some ad) m c]).run Try.prog w = .ok v' w' ∧ w'.ownsRow base 3 1 v' (n + m) (ints (xs ++ l)) ∧ w.grownBy w' v.ownBlock ∧
      (v'.ownBlock = v.ownBlock ∨ v'.ownBlock = some w.heap.size) := by
  obtain ⟨i, hi, hz, h1, hb⟩ := int_infos
  have hcells : ∀ j u, (ints l)[j]? = some u → w.cell? (ad.add j) = some u := by
    intro j u hu
    have hj : j < l.length := by
      have := (List.getElem?_eq_some_iff.1 hu).1
      rwa [ints_len] at this
    obtain ⟨b, off, e, _, _, hc⟩ := hr.cell (k := j) (by rw [← hr.1]; exact hj)
    injection e with e
    subst e
    rw [Addr.add_lit, hc, ← hu, ints_get _ _ hj]
  obtain ⟨v', w', hrun, h2, h3, _, h5⟩ := run_append_own_at (P := Try.prog) (w := w) base 23 ty 3 i (.int .i64 0) 1 8 Try.underlying23 hi hz h1 hb rfl (by omega) v n (ints xs) hown ad m c (ints l) (by rw [ints_len, hr.1]; omega) hcells (ints_one l) (by unfold maxLen; omega) (by omega) hbase
  exact ⟨v', w', hrun, by rw [ints_append]; exact h2, h3, h5⟩
theorem wpList_append_run {w : World} {ops : Array Oper} {rest : List Oper} {o : Oper} {a : Act} {Q : Exit → Act → World → Prop} (hgd : o.guard = none) (s x : Operand) (t ty : TypeId)
    (ho : o.op = .call { callee := .builtin .append, args := #[s, x], argTypes := #[t, t] }) (hty : o.type = ty) (v u v' : Value) (w' : World) (hs : a.eval s = v) (hx : a.eval x = u)
    (hrun : (Builtin.append_ #[t, t] ty #[v, u]).run Try.prog w = .ok v' w') (h : wpList Try.prog ops Q rest (a.put o.dst v') w') : wpList Try.prog ops Q (o :: rest) a w := by
  refine wpList_plain hgd fun _ hK => ?_
  subst hty
  unfold Oper.wp execOp
  simp only [ho, resolve, invoke, builtin, Sem.run_bind, Sem.run_pure, Result.andThen_ok, List.map_toArray, List.map_cons, List.map_nil, hs, hx, hrun]
  exact hK _ _ h
theorem below_grown {B : Nat} {a b c : World} {row : Option Nat} (h : Below B a b) (hg : b.grownBy c row) (hB : B ≤ b.heap.size) (hr : ∀ g, row = some g → B ≤ g) : Below B a c :=
  h.trans ⟨hg.os, hg.tape, hg.output, hg.size, fun k hk => hg.block k (by omega) (fun e => by have := hr k e.symm; omega)⟩
theorem own_below {w w' : World} {base n : Nat} {e : TypeId} {s : Nat} {v : Value} {xs : List Value} (h : w.ownsRow base e s v n xs) (hb : Below w.heap.size w w') : w'.ownsRow base e s v n xs := by
  refine ⟨h.1, ?_⟩
  rcases h.2 with h2 | ⟨g, cap, cur, rfl, h1, h2, h3⟩
  · exact .inl h2
  · exact .inr ⟨g, cap, cur, rfl, h1, (hb.block g (Array.getElem?_eq_some_iff.1 h2).1).trans h2, h3⟩
/-- A row of the call's own, laid open. -/
theorem own_open {w : World} {base n : Nat} {v : Value} {l : List Int} (h : w.ownsRow base 3 1 v n (ints l)) (h0 : 0 < n) :
    ∃ g cap cur, v = .slice (some ⟨g, 0, none⟩) n cap ∧ base ≤ g ∧ n ≤ cap ∧ cap ≤ maxLen ∧ Whole w g 3 cur ∧ l.length = n ∧ ∀ j, j < n → cur[j]? = some (.int .i64 (l.getD j 0)) := by
  have hl : l.length = n := by have := h.1; rw [ints_len] at this; omega
  rcases h.2 with ⟨_, h2⟩ | ⟨g, cap, cur, rfl, hb, hg, hnc, hcm, hcs, ht⟩
  · omega
  · refine ⟨g, cap, cur, rfl, hb, hnc, hcm, hg, hl, fun j hj => ?_⟩
    have h1 : (cur.toList.take (n * 1))[j]? = (ints l)[j]? := by rw [ht]
    rw [List.getElem?_take_of_lt (by omega), ints_get _ _ (by omega)] at h1
    simpa using h1
theorem ns_cur {w : World} {g n : Nat} {cur : Array Value} {l : List Int} (h : Whole w g 3 cur) (hl : l.length = n) (hi : ∀ x ∈ l, In64 x) (hc : ∀ j, j < n → cur[j]? = some (.int .i64 (l.getD j 0))) :
    Ns w (fun _ => True) (some ⟨g, 0, none⟩) n l :=
  ⟨hl, hi, Or.inr ⟨g, 0, rfl, trivial, h.lt, fun k hk => by rw [h.cell, Nat.zero_add]; exact hc k hk⟩⟩
/-- The cells of a plan with other needs, another grant, another guard. -/
theorem pc_needs (p : Dr.P) (s n v : Value) (l : List Int) : (pc p s n).toArray.setIfInBounds 8 v = (pc (ep p l) s v).toArray := rfl
theorem pc_grant (p : Dr.P) (s n : Value) (l : List Int) (g : Int) : (pc (ep p l) s n).toArray.setIfInBounds 4 (.int .i64 g) = (pc (dp p l g p.guard) s n).toArray := rfl
theorem pc_guard (p : Dr.P) (s n : Value) (l : List Int) (g u : Int) : (pc (dp p l g p.guard) s n).toArray.setIfInBounds 5 (.int .i64 u) = (pc (dp p l g u) s n).toArray := rfl
theorem pc_more (p : Dr.P) (s n : Value) (l l' : List Int) (g u : Int) : (pc (dp p l g u) s n).toArray = (pc (dp p l' g u) s n).toArray := rfl
end Go.Proofs.Ytfjdjhjhpphogaa
