/-
  The walk of Same, where two lists are one; numbers that are appended.
-/
import Derived.Test.YtfecobkpdmjaeaaZp
import Derived.Deep.Cut
import Derived.Deep.CutRange
import Derived.Deep.CutBlock
import Derived.Deep.QuietTactic
import Derived.BigQuiet
namespace Go.Proofs.Ytfecobkpdmjaeaa
open Go.RowKit
set_option linter.unusedVariables false
set_option maxRecDepth 20000
set_option linter.unusedSimpArgs false
set_option maxHeartbeats 4000000 in
theorem same_any {S S' : Nat → Prop} {a b : Option Addr} {n c d : Nat} {l : List Int} {w : World} (h : Its w S a n l) (h' : Its w S' b n l) (hn : n ≤ maxLen) :
    Calls Try.prog 28 #[.slice a n c, .slice b n d] w fun e w' => e = .returned (.bool true) ∧ ∃ q, w' = w.drewN q := by
  unfold maxLen at hn
  have H0 : Hid (Its w S a n l ∧ Its w S' b n l ∧ ∃ q, w = w.drewN q) := Lib.hid ⟨h, h', 0, rfl⟩
  clear h h'
  have q0 : (n != n) = false := by simp
  have q0' : ((n : Int) != (n : Int)) = false := by simp
  go_enter Try.func28, Try.ntmps28
  go_wp2
  go_loopw [5] (fun v wr => ∃ k : Nat, k ≤ n ∧ v = .int .i64 (k : Int) ∧ Hid (Its wr S a n l ∧ Its wr S' b n l ∧ ∃ q, wr = w.drewN q)) (fun v _ => n - (intOf v).toNat)
  case atStart => exact ⟨0, Nat.zero_le _, rfl, H0⟩
  case round =>
    clear H0
    obtain ⟨k, hk, rfl, HB⟩ := hrel
    by_cases hlt : k < n
    · obtain ⟨x, hx⟩ : ∃ x, l.getD k 0 = x := ⟨_, rfl⟩
      obtain ⟨ga, oa, ha, _, _, ca⟩ := HB.out.1.2.resolve_left (by omega)
      obtain ⟨gb, ob, hb, _, _, cb⟩ := HB.out.2.1.2.resolve_left (by omega)
      have ca' : wr.cell? ⟨ga, oa + k, none⟩ = some (.int .i64 x) := by rw [ca k hlt, hx]
      have cb' : wr.cell? ⟨gb, ob + k, none⟩ = some (.int .i64 x) := by rw [cb k hlt, hx]
      subst ha hb
      have q1 : (k : Int) < (n : Int) := by omega
      have q2 : (x != x) = false := by simp
      clear ca cb hx
      go_wp2
      go_quiet (fail)
      go_wp2
      go_roundw
      case rel => exact ⟨k + 1, by omega, by go_num, Lib.hid ⟨HB.out.1.keep (Nat.le_refl _) (fun _ _ _ => rfl), HB.out.2.1.keep (Nat.le_refl _) (fun _ _ _ => rfl), by obtain ⟨q, hq⟩ := HB.out.2.2; exact ⟨q + nq, by rw [hq]; simp [World.drewN, Nat.add_assoc]⟩⟩⟩
      case measure => simp [intOf]; omega
    · have q1 : ¬ ((k : Int) < (n : Int)) := by omega
      go_wp2
      go_ret
      exact ⟨rfl, HB.out.2.2⟩
/-- A row of numbers of the call's own, in the order of its block. -/
def toI (l : List Nat) : List Int := l.map Int.ofNat
theorem toI_len (l : List Nat) : (toI l).length = l.length := by simp [toI]
theorem toI_get {l : List Nat} {k x : Nat} (h : l[k]? = some x) : (toI l).getD k 0 = (x : Int) := by simp [toI, h]
theorem ints_len (l : List Nat) : (ints l).length = l.length := by simp [ints]
theorem ints_append (a b : List Nat) : ints (a ++ b) = ints a ++ ints b := by simp [ints]
theorem own_its {w : World} {base : Nat} {v : Value} {l : List Nat} (h : w.ownsRow base 3 1 v l.length (ints l)) : ∃ a c, v = .slice a l.length c ∧ Its w (fun b => base ≤ b) a l.length (toI l) := by
  rcases h.2 with ⟨rfl, h0⟩ | ⟨g, cap, cur, rfl, hb, hg, hnc, hcm, hcs, hct⟩
  · exact ⟨none, 0, by rw [h0], toI_len l, Or.inl h0⟩
  · refine ⟨_, _, rfl, toI_len l, Or.inr ⟨g, 0, rfl, hb, (Array.getElem?_eq_some_iff.1 hg).1, fun k hk => ?_⟩⟩
    rw [Nat.zero_add]
    have h1 := cell_of_row w g k cur 3 (0, 0) hg
    rw [h1]
    have h2 : cur.toList[k]? = (ints l)[k]? := by
      rw [← hct, List.getElem?_take, if_pos (by omega)]
    rw [Array.getElem?_toList] at h2
    rw [h2]
    rw [toI_get (List.getElem?_eq_getElem hk)]
    simp [ints, hk]
theorem int_infos : ∃ i, Try.prog.info? 3 = some i ∧ i.zero = some (.int .i64 0) ∧ i.size = 1 ∧ i.bytes = 8 := by
  have := int_info
  cases hq : Try.prog.info? 3 with
  | none => rw [hq] at this; cases this
  | some i =>
    rw [hq] at this
    simp only [Option.map_some, Option.some.injEq, Prod.mk.injEq] at this
    exact ⟨i, rfl, this.1, this.2.1, this.2.2⟩
theorem ints_one (l : List Nat) : ∀ u ∈ ints l, u.oneCell' = true := fun u hu => by
  obtain ⟨x, _, rfl⟩ := List.mem_map.1 hu
  rfl
/-- append of numbers, onto a row of the call's own, from whatever slice. -/
theorem run_append_ints (w : World) (base : Nat) (ty : TypeId) (v : Value) (l : List Nat) (hown : w.ownsRow base 3 1 v l.length (ints l)) (S : Nat → Prop) (A : Option Addr) (m c : Nat) (k : List Nat) (hr : Its w S A m (toI k)) (hA : A = none → m = 0)
    (hsz : l.length + m ≤ 1000000) (hbase : base ≤ w.heap.size) :
    ∃ v' w', (Builtin.append_ #[38, 38] ty #[v, .slice A m c]).run Try.prog w = .ok v' w' ∧ w'.ownsRow base 3 1 v' (l ++ k).length (ints (l ++ k)) ∧ w.grownBy w' v.ownBlock ∧
      (v'.ownBlock = v.ownBlock ∨ v'.ownBlock = some w.heap.size) := by
  obtain ⟨i, hi, hz, h1, hb⟩ := int_infos
  have hkm : k.length = m := by have := hr.1; rwa [toI_len] at this
  cases A with
  | none =>
    have hm : m = 0 := hA rfl
    subst hm
    have hk : k = [] := List.eq_nil_of_length_eq_zero hkm
    subst hk
    refine ⟨v, w, ?_, by simpa using hown, World.grownBy.refl w _, .inl rfl⟩
    rcases hown.2 with ⟨rfl, h0⟩ | ⟨g, cap, cur, rfl, _, _, hnc, _⟩
    · simp [Builtin.append_, run_underlying Try.underlying38, sizeOf, typeInfo, hi, Builtin.lenOf, Builtin.firstCells]
    · simp [Builtin.append_, run_underlying Try.underlying38, sizeOf, typeInfo, hi, Builtin.lenOf, Builtin.firstCells, hnc, storeCells]
  | some ad =>
    have hcells : ∀ j u, (ints k)[j]? = some u → w.cell? (ad.add j) = some u := by
      intro j u hu
      have hj : j < k.length := by
        have := (List.getElem?_eq_some_iff.1 hu).1
        rwa [ints_len] at this
      rcases hr.2 with h0 | ⟨b, off, h, _, _, hc⟩
      · omega
      · injection h with h
        subst h
        rw [Addr.add_lit, hc j (by omega), ← hu, toI_get (List.getElem?_eq_getElem hj)]
        simp [ints, hj]
    obtain ⟨v', w', hrun, h2, h3, _, h5⟩ := run_append_own_at (P := Try.prog) (w := w) base 38 ty 3 i (.int .i64 0) 1 8 Try.underlying38 hi hz h1 hb rfl (by omega) v l.length (ints l) hown ad m c (ints k) (by rw [ints_len]; omega) hcells (ints_one k) (by unfold maxLen; omega) (by omega) hbase
    refine ⟨v', w', hrun, ?_, h3, h5⟩
    rw [ints_append, List.length_append, hkm]
    exact h2
theorem wpList_append_run {w : World} {ops : Array Oper} {rest : List Oper} {o : Oper} {a : Act} {Q : Exit → Act → World → Prop} (hgd : o.guard = none) (s x : Operand) (t ty : TypeId)
    (ho : o.op = .call { callee := .builtin .append, args := #[s, x], argTypes := #[t, t] }) (hty : o.type = ty) (v u v' : Value) (w' : World) (hs : a.eval s = v) (hx : a.eval x = u)
    (hrun : (Builtin.append_ #[t, t] ty #[v, u]).run Try.prog w = .ok v' w') (h : wpList Try.prog ops Q rest (a.put o.dst v') w') : wpList Try.prog ops Q (o :: rest) a w := by
  refine wpList_plain hgd fun _ hK => ?_
  subst hty
  unfold Oper.wp execOp
  simp only [ho, resolve, invoke, builtin, Sem.run_bind, Sem.run_pure, Result.andThen_ok, List.map_toArray, List.map_cons, List.map_nil, hs, hx, hrun]
  exact hK _ _ h
theorem its_whole {w : World} {g : Nat} {l : List Nat} (h : Whole w g 3 (ints l).toArray) : Its w (fun _ => True) (some ⟨g, 0, none⟩) l.length (toI l) := by
  refine ⟨toI_len l, Or.inr ⟨g, 0, rfl, trivial, h.lt, fun k hk => ?_⟩⟩
  rw [Nat.zero_add, h.cell, List.getElem?_toArray, toI_get (List.getElem?_eq_getElem hk)]
  simp [ints, hk]
theorem dk_far {w : World} {p bb mb n g : Nat} {a : Dm.A} (h : Dk w p bb mb a n) {t : TypeId} (h1 : t ≠ 66) (h2 : t ≠ 5) {cur : Array Value} {fr : Nat × Nat} (hg : w.heap[g]? = some (.cells cur t fr)) : g ∉ [p, bb, mb] := by
  intro hm
  simp only [List.mem_cons, List.not_mem_nil, or_false] at hm
  rcases hm with rfl | rfl | rfl
  · have := h.cells
    unfold Whole at this
    rw [hg] at this
    injection this with h3
    injection h3 with _ h4
    exact h1 h4
  · have := h.bytes
    unfold Whole at this
    rw [hg] at this
    injection this with h3
    injection h3 with _ h4
    exact h2 h4
  · obtain ⟨es, clock, hb, _⟩ := h.map
    rw [hg] at hb
    cases hb
theorem own_keep {w w' : World} {base n : Nat} {e : TypeId} {s : Nat} {v : Value} {xs : List Value} (h : w.ownsRow base e s v n xs) (hk : ∀ (g : Nat) (cur : Array Value), w.heap[g]? = some (.cells cur e (0, 0)) → w'.heap[g]? = w.heap[g]?) : w'.ownsRow base e s v n xs := by
  refine ⟨h.1, ?_⟩
  rcases h.2 with h0 | ⟨g, cap, cur, h1, h2, h3, r⟩
  · exact Or.inl h0
  · exact Or.inr ⟨g, cap, cur, h1, h2, (hk g cur h3).trans h3, r⟩
theorem own_below {w w' : World} {base n : Nat} {e : TypeId} {s : Nat} {v : Value} {xs : List Value} (h : w.ownsRow base e s v n xs) (hb : Below w.heap.size w w') : w'.ownsRow base e s v n xs :=
  own_keep h fun g cur hg => hb.block g (Array.getElem?_eq_some_iff.1 hg).1
theorem own_only {w w' : World} {base n m p bb mb : Nat} {a : Dm.A} {v : Value} {xs : List Value} (h : w.ownsRow base 3 1 v n xs) (hd : Dk w p bb mb a m) (ho : Only [p, bb, mb] w w') : w'.ownsRow base 3 1 v n xs :=
  own_keep h fun g cur hg => ho.block g (Array.getElem?_eq_some_iff.1 hg).1 (dk_far hd (by decide) (by decide) hg)
theorem whole_only {w w' : World} {m p bb mb g : Nat} {a : Dm.A} {t : TypeId} {cs : Array Value} (h : Whole w g t cs) (hd : Dk w p bb mb a m) (h1 : t ≠ 66) (h2 : t ≠ 5) (ho : Only [p, bb, mb] w w') : Whole w' g t cs :=
  h.keep (ho.block g h.lt (dk_far hd h1 h2 h))
theorem its_only {w w' : World} {S : Nat → Prop} {p bb mb : Nat} {a : Option Addr} {n : Nat} {l : List Int} (h : Its w S a n l) (hS : ∀ b, S b → b ∉ [p, bb, mb]) (ho : Only [p, bb, mb] w w') : Its w' S a n l :=
  h.keep ho.size fun b hb hs => ho.block b hb (hS b hs)
end Go.Proofs.Ytfecobkpdmjaeaa
