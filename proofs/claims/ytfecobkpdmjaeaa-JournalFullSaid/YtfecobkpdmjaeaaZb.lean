/-
  The map of blocks that are not flushed, in memory: what is looked up, how many there are, what is stored, what is cleared, and what comes when it is ranged over.
-/
import Derived.Test.YtfecobkpdmjaeaaZa
import Derived.Maps.RangeWalk
namespace Go.Proofs.Ytfecobkpdmjaeaa
open Go.RowKit Go.ChangeMaps Go.MapKept Go.Maps
set_option linter.unusedVariables false
set_option maxRecDepth 20000

def wv (i : Nat) (b : List Int) : Value := .agg (Value.int .i64 (i : Int) :: nums b).toArray
def ents (f : Dm.F) : List (Value × Value) := f.mapIdx fun i x => (.int .i64 (x.1 : Int), wv i x.2)
def Frs (w : World) (mb : Nat) (f : Dm.F) : Prop := ∃ es clock, w.heap[mb]? = some (.map es clock) ∧ Stamped es clock ∧ es.toList.map (fun e => (e.key, e.val)) = ents f
theorem Frs.lt {w : World} {mb : Nat} {f : Dm.F} (h : Frs w mb f) : mb < w.heap.size := by
  obtain ⟨es, clock, hb, _⟩ := h
  exact (Array.getElem?_eq_some_iff.1 hb).1
theorem Frs.keep {w w' : World} {mb : Nat} {f : Dm.F} (h : Frs w mb f) (hk : w'.heap[mb]? = w.heap[mb]?) : Frs w' mb f := by
  obtain ⟨es, clock, hb, r⟩ := h
  exact ⟨es, clock, hk.trans hb, r⟩
theorem ents_get {es : List MapEntry} {f : Dm.F} (h : es.map (fun e => (e.key, e.val)) = ents f) {j : Nat} {e : MapEntry} (he : es[j]? = some e) : ∃ x, f[j]? = some x ∧ e.key = .int .i64 (x.1 : Int) ∧ e.val = wv j x.2 := by
  have := congrArg (·[j]?) h
  simp only [ents, List.getElem?_map, he, Option.map_some, List.getElem?_mapIdx] at this
  cases hx : f[j]? with
  | none => rw [hx] at this; cases this
  | some x =>
    rw [hx] at this
    simp only [Option.map_some, Option.some.injEq, Prod.mk.injEq] at this
    exact ⟨x, rfl, this.1, this.2⟩
theorem ents_len {es : List MapEntry} {f : Dm.F} (h : es.map (fun e => (e.key, e.val)) = ents f) : es.length = f.length := by
  have := congrArg List.length h
  simpa [ents] using this
theorem ents_there {es : List MapEntry} {f : Dm.F} (h : es.map (fun e => (e.key, e.val)) = ents f) {j : Nat} {x : Nat × List Int} (hx : f[j]? = some x) : ∃ e, es[j]? = some e ∧ e.key = .int .i64 (x.1 : Int) ∧ e.val = wv j x.2 := by
  have hj : j < es.length := by rw [ents_len h]; exact (List.getElem?_eq_some_iff.1 hx).1
  obtain ⟨y, hy, h1, h2⟩ := ents_get h (List.getElem?_eq_getElem hj)
  rw [hx] at hy
  cases hy
  exact ⟨_, List.getElem?_eq_getElem hj, h1, h2⟩
theorem kInt : Keyed Try.prog 3 := int_keyed Try.underlying3
theorem wf_nat {n : Nat} (h : n ≤ 1000000) : (Lit.int .i64 (n : Int)).wf = true := by
  simp [Lit.wf, IntKind.min, IntKind.max, IntKind.signed, IntKind.bits]
  omega
theorem keyN {n : Nat} (h : n ≤ 1000000) : keyOf Try.prog 3 (.int .i64 (n : Int)) = some (.int .i64 (n : Int)) := keyOf_int_mk Try.underlying3 (wf_nat h)
theorem ents_keys {es : List MapEntry} {f : Dm.F} {n : Nat} (h : es.map (fun e => (e.key, e.val)) = ents f) (hf : Dm.Fok f n) (hn : n ≤ 4096) : ∀ e ∈ es, ∃ l, keyOf Try.prog 3 e.key = some l := fun e he => by
  obtain ⟨j, hj⟩ := List.getElem?_of_mem he
  obtain ⟨x, hx, hk, _⟩ := ents_get h hj
  have := (hf.1 x (List.mem_of_getElem? hx)).1
  rw [hk]
  exact ⟨_, keyN (by omega)⟩
theorem find_ents {es : List MapEntry} {f : Dm.F} {n k : Nat} (h : es.map (fun e => (e.key, e.val)) = ents f) (hf : Dm.Fok f n) (hn : n ≤ 4096) (hk : k < n) (w : World) :
    (Dm.look f k = none ∧ (Instr.findKey 3 (.int .i64 (k : Int)) es).run Try.prog w = .ok none w ∧ ∀ e ∈ es, e.key ≠ .int .i64 (k : Int)) ∨
    ∃ i b, f[i]? = some (k, b) ∧ Dm.look f k = some b ∧ (Instr.findKey 3 (.int .i64 (k : Int)) es).run Try.prog w = .ok (some (i, wv i b)) w ∧ ∃ e, es[i]? = some e ∧ e.key = .int .i64 (k : Int) := by
  rcases kInt.find w (keyN (n := k) (by omega)) es (ents_keys h hf hn) with ⟨h1, h2⟩ | ⟨j, e, h1, h2, h3⟩
  · refine Or.inl ⟨?_, h1, h2⟩
    cases hl : Dm.look f k with
    | none => rfl
    | some b =>
      obtain ⟨i, hi⟩ := List.getElem?_of_mem (Dm.look_mem hl)
      obtain ⟨e, he, hk', _⟩ := ents_there h hi
      exact absurd hk' (h2 e (List.mem_of_getElem? he))
  · obtain ⟨x, hx, hkx, hvx⟩ := ents_get h h2
    rw [h3] at hkx
    have hxk : x.1 = k := by
      injection hkx with _ h5
      omega
    obtain ⟨x1, x2⟩ := x
    subst hxk
    exact Or.inr ⟨j, x2, hx, Dm.look_of_get hf hx, by rw [h1, hvx], e, h2, h3⟩
def zw : Value := .agg (Value.int .i64 0 :: nums (List.replicate 64 0)).toArray
theorem zero_w (w : World) : (zeroValue 88).run Try.prog w = .ok zw w := by kernel_rfl
theorem und_map : Try.prog.underlying 64 = some (.map 3 88) := Try.underlying64
theorem frs_lookup_no {w : World} {mb : Nat} {f : Dm.F} {n k : Nat} (h : Frs w mb f) (hf : Dm.Fok f n) (hn : n ≤ 4096) (hk : k < n) (hl : Dm.look f k = none) :
    (Instr.lookup 64 (.map (some mb)) (.int .i64 (k : Int)) true).run Try.prog w = .ok (.tuple #[zw, .bool false]) w := by
  obtain ⟨es, clock, hb, hs, he⟩ := h
  rcases find_ents he hf hn hk w with ⟨_, h1, _⟩ | ⟨i, b, _, h2, _⟩
  · simp [Instr.lookup, run_underlying und_map, MapKept.run_getObj_map hb, kInt.check w _ (keyN (n := k) (by omega)), h1, zero_w, Result.andThen]
  · rw [hl] at h2; cases h2
theorem frs_lookup_yes {w : World} {mb : Nat} {f : Dm.F} {n k : Nat} {b : List Int} (h : Frs w mb f) (hf : Dm.Fok f n) (hn : n ≤ 4096) (hk : k < n) (hl : Dm.look f k = some b) :
    ∃ i, f[i]? = some (k, b) ∧ (∀ c, (Instr.lookup 64 (.map (some mb)) (.int .i64 (k : Int)) c).run Try.prog w = .ok (if c then .tuple #[wv i b, .bool true] else wv i b) w) := by
  obtain ⟨es, clock, hb, hs, he⟩ := h
  rcases find_ents he hf hn hk w with ⟨h1, _⟩ | ⟨i, b', h0, h2, h1, _⟩
  · rw [hl] at h1; cases h1
  · rw [hl] at h2
    cases h2
    exact ⟨i, h0, fun c => by simp [Instr.lookup, run_underlying und_map, MapKept.run_getObj_map hb, kInt.check w _ (keyN (n := k) (by omega)), h1, Result.andThen]⟩
theorem frs_len {w : World} {mb : Nat} {f : Dm.F} (h : Frs w mb f) (ty : TypeId) : (Builtin.len_ #[64] ty #[.map (some mb)]).run Try.prog w = .ok (.int .i64 (f.length : Int)) w := by
  obtain ⟨es, clock, hb, hs, he⟩ := h
  have : es.size = f.length := by have := ents_len he; simpa using this
  simp [Builtin.len_, run_underlying und_map, MapKept.run_getObj_map hb, Result.andThen, this, goInt]
theorem frs_store {w : World} {mb : Nat} {f : Dm.F} {n k i : Nat} {b : List Int} (h : Frs w mb f) (hf : Dm.Fok f n) (hn : n ≤ 4096) (hk : k < n) (hi : (Dm.look f k = none ∧ i = f.length) ∨ ∃ b0, f[i]? = some (k, b0)) :
    ∃ w', (Instr.mapUpdate 64 (.map (some mb)) (.int .i64 (k : Int)) (wv i b)).run Try.prog w = .ok () w' ∧ Frs w' mb (Dm.set f k b) ∧ w.grownBy w' (some mb) ∧ w'.heap.size = w.heap.size := by
  obtain ⟨es, clock, hb, hs, he⟩ := h
  have hkey := keyN (n := k) (by omega)
  rcases find_ents he hf hn hk w with ⟨hl, h1, h2⟩ | ⟨j, b', h0, hl, h1, e, h2, h3⟩
  · have hi' : i = f.length := by
      rcases hi with ⟨_, h⟩ | ⟨b0, h⟩
      · exact h
      · exfalso
        exact (Dm.look_none.1 hl) (List.mem_map.2 ⟨_, List.mem_of_getElem? h, rfl⟩)
    subst hi'
    refine ⟨_, by simp only [Instr.mapUpdate, run_underlying und_map, MapKept.run_getObj_map hb, kInt.check w false hkey, h1, MapKept.run_setObj_map _ hb, Result.andThen, Sem.run_bind]; rfl, ⟨es.push ⟨.int .i64 (k : Int), wv f.length b, clock⟩, clock + 1, heap_setBlock_same hb _, stamped_push hs h2, ?_⟩, ⟨rfl, rfl, rfl, by simp [setBlock], fun i _ hi => heap_setBlock_other hb _ (fun e => hi (by rw [e]))⟩, by simp [setBlock]⟩
    rw [Dm.set_none hl, Array.toList_push, List.map_append, he]
    simp [ents, List.mapIdx_append]
  · have hi' : i = j := by
      rcases hi with ⟨h, _⟩ | ⟨b0, h⟩
      · rw [hl] at h; cases h
      · have hn2 := hf.2
        have hi1 := (List.getElem?_eq_some_iff.1 h).1
        have hj1 := (List.getElem?_eq_some_iff.1 h0).1
        refine (List.getElem_inj (h₀ := by simpa using hi1) (h₁ := by simpa using hj1) hn2).1 ?_
        simp only [List.getElem_map]
        rw [(List.getElem?_eq_some_iff.1 h).2, (List.getElem?_eq_some_iff.1 h0).2]
    subst hi'
    have hj : es[i]? = some e := by simpa using h2
    have hkeyf : ∀ e', es[i]? = some e' → ({ e' with key := .int .i64 (k : Int), val := wv i b } : MapEntry).key = e'.key := fun e' he' => by rw [hj] at he'; cases he'; exact h3.symm
    refine ⟨_, by simp [Instr.mapUpdate, run_underlying und_map, MapKept.run_getObj_map hb, kInt.check w false hkey, h1, hj, h3, kInt.stays w hkey, MapKept.run_setObj_map _ hb, Result.andThen]; rfl, ⟨es.modify i (fun e' => { e' with key := .int .i64 (k : Int), val := wv i b }), clock, heap_setBlock_same hb _, stamped_modify hs _ _ (fun _ _ => rfl) (fun e' _ he' => hkeyf e' he'), ?_⟩, ⟨rfl, rfl, rfl, by simp [setBlock], fun i _ hi => heap_setBlock_other hb _ (fun e => hi (by rw [e]))⟩, by simp [setBlock]⟩
    have hlist : (es.modify i (fun e' => { e' with key := .int .i64 (k : Int), val := wv i b })).toList = es.toList.set i { e with key := .int .i64 (k : Int), val := wv i b } := by rw [Array.toList_modify, modify_eq_set _ _ _ _ h2]
    rw [hlist, List.map_set, he, Dm.set_there hf h0]
    apply List.ext_getElem?
    intro q
    simp only [ents, List.getElem?_set, List.getElem?_mapIdx, List.length_mapIdx]
    by_cases e1 : i = q
    · subst e1
      rw [if_pos rfl, if_pos rfl]
      have hj1 := (List.getElem?_eq_some_iff.1 h0).1
      rw [if_pos hj1, if_pos hj1]
      rfl
    · rw [if_neg e1, if_neg e1]
theorem frs_clear {w : World} {mb : Nat} {f : Dm.F} (h : Frs w mb f) (ty : TypeId) : ∃ w', (Builtin.clear_ #[64] ty #[.map (some mb)]).run Try.prog w = .ok (.tuple #[]) w' ∧ Frs w' mb [] ∧ w.grownBy w' (some mb) ∧ w'.heap.size = w.heap.size := by
  obtain ⟨es, clock, hb, hs, he⟩ := h
  refine ⟨_, by simp [Builtin.clear_, run_underlying und_map, MapKept.run_getObj_map hb, MapKept.run_setObj_map _ hb, Result.andThen]; rfl, ⟨#[], clock, heap_setBlock_same hb _, stamped_empty clock, rfl⟩, ⟨rfl, rfl, rfl, by simp [setBlock], fun i _ hi => heap_setBlock_other hb _ (fun e => hi (by rw [e]))⟩, by simp [setBlock]⟩

/-- A range over the map under way: which of its entries have come. -/
def Rng (w : World) (r mb : Nat) (f : Dm.F) (d : Nat → Bool) (c : Nat) : Prop :=
  ∃ es clock since seen c0, w.heap[mb]? = some (.map es clock) ∧ Stamped es clock ∧ es.toList.map (fun e => (e.key, e.val)) = ents f ∧
    w.heap[r]? = some (.mapIter (some mb) since seen c0) ∧ (∀ x ∈ es.toList, x.born < since) ∧ (leftOf es seen).size = c ∧ (∀ i e, es.toList[i]? = some e → d i = seen.contains e.born) ∧ since ≤ c0 ∧ since ≤ clock
theorem Rng.frs {w : World} {r mb : Nat} {f : Dm.F} {d : Nat → Bool} {c : Nat} (h : Rng w r mb f d c) : Frs w mb f := by
  obtain ⟨es, clock, _, _, _, hb, hs, he, _⟩ := h
  exact ⟨es, clock, hb, hs, he⟩
theorem Rng.keep {w w' : World} {r mb : Nat} {f : Dm.F} {d : Nat → Bool} {c : Nat} (h : Rng w r mb f d c) (hm : w'.heap[mb]? = w.heap[mb]?) (hr : w'.heap[r]? = w.heap[r]?) : Rng w' r mb f d c := by
  obtain ⟨es, clock, since, seen, c0, hb, hs, he, hi, rest⟩ := h
  exact ⟨es, clock, since, seen, c0, hm.trans hb, hs, he, hr.trans hi, rest⟩
theorem Rng.lt {w : World} {r mb : Nat} {f : Dm.F} {d : Nat → Bool} {c : Nat} (h : Rng w r mb f d c) : r < w.heap.size := by
  obtain ⟨es, clock, since, seen, c0, hb, hs, he, hi, rest⟩ := h
  exact (Array.getElem?_eq_some_iff.1 hi).1
theorem Rng.left {w : World} {r mb : Nat} {f : Dm.F} {d : Nat → Bool} {c : Nat} (h : Rng w r mb f d c) : w.rangeLeft mb r = c := by
  obtain ⟨es, clock, since, seen, c0, hb, hs, he, hi, _, hc, _⟩ := h
  simp only [World.rangeLeft, hb, hi]
  exact hc
theorem frs_range {w : World} {mb : Nat} {f : Dm.F} (h : Frs w mb f) :
    ∃ w', (Instr.range 64 (.map (some mb))).run Try.prog w = .ok (.pointer (some ⟨w.heap.size, 0, none⟩)) w' ∧ Rng w' w.heap.size mb f (fun _ => false) f.length ∧ w.grownBy w' none ∧ w'.heap.size = w.heap.size + 1 := by
  have hlt := h.lt
  obtain ⟨es, clock, hb, hs, he⟩ := h
  refine ⟨_, run_range_map w _ _ _ mb es clock und_map hb, ⟨es, clock, clock, #[], clock, ((MapKept.heap_alloc w _).2 mb hlt).trans hb, hs, he, (MapKept.heap_alloc w _).1, hs.1, ?_, fun i e _ => by simp, Nat.le_refl _, Nat.le_refl _⟩, World.grownBy_alloc w _ none, by simp⟩
  have := ents_len he
  have e1 : leftOf es #[] = es := by
    unfold leftOf
    exact Array.filter_eq_self.2 (by simp)
  rw [e1]
  simpa using this
theorem frs_next {w : World} {r mb : Nat} {f : Dm.F} {d : Nat → Bool} {c : Nat} (h : Rng w r mb f d c) (ty : TypeId) :
    ((∀ i, i < f.length → d i = true) ∧ (Instr.next (.pointer (some ⟨r, 0, none⟩)) false ty).run Try.prog w = .ok (.tuple #[.bool false]) w) ∨
    ∃ i x w' c', f[i]? = some x ∧ d i = false ∧ (Instr.next (.pointer (some ⟨r, 0, none⟩)) false ty).run Try.prog w = .ok (.tuple #[.bool true, .int .i64 (x.1 : Int), wv i x.2]) w' ∧ Rng w' r mb f (fun j => d j || j == i) c' ∧ c' < c ∧ w.grownBy w' (some r) ∧
      w'.heap.size = w.heap.size ∧ (Instr.entry (.pointer (some ⟨r, 0, none⟩))).run Try.prog w' = .ok (.tuple #[.int .i64 (x.1 : Int), wv i x.2]) w' := by
  obtain ⟨es, clock, since, seen, c0, hb, hs, he, hr, hold, hc, hd, hsc, hsk⟩ := h
  have hst := (stamped_iff es clock).1 hs
  have hne : r ≠ mb := by intro e; rw [e, hb] at hr; cases hr
  rcases run_next_at (P := Try.prog) w ty r mb since c0 seen es clock hr hb hold hsc with ⟨h0, hrun⟩ | ⟨e, hel, w1, hal, hrun⟩
  · refine Or.inl ⟨fun i hi => ?_, hrun⟩
    obtain ⟨e, hge, _⟩ := ents_there he (List.getElem?_eq_getElem hi)
    rw [hd i e hge, all_seen es seen h0 e (List.mem_of_getElem? hge)]
  · obtain ⟨hem, hes⟩ := mem_left hel
    obtain ⟨i, hi⟩ := List.getElem?_of_mem hem
    obtain ⟨x, hx, hk, hv⟩ := ents_get he hi
    have hr1 : w1.heap[r]? = some (.mapIter (some mb) since seen c0) := by rcases hal with rfl | rfl <;> exact hr
    have hb1 : w1.heap[mb]? = some (.map es clock) := by rcases hal with rfl | rfl <;> exact hb
    have hset := heap_set (o' := .mapIter (some mb) since (seen.push e.born) clock) hr1
    have hb' : (setBlock w1 r (.mapIter (some mb) since (seen.push e.born) clock)).heap[mb]? = some (.map es clock) := (hset.2 mb (fun e1 => hne e1.symm)).trans hb1
    refine Or.inr ⟨i, x, _, _, hx, by rw [hd i e hi]; simpa using hes, by rw [hrun, hk, hv], ⟨es, clock, since, seen.push e.born, clock, hb', hs, he, hset.1, hold, rfl, fun j e' hj => ?_, hsk, hsk⟩, by rw [← hc]; exact left_shrinks es seen e hel, ?_, ?_, ?_⟩
    · show (d j || j == i) = _
      rw [hd j e' hj, contains_push]
      have : (j == i) = (e'.born == e.born) := by
        rw [Bool.eq_iff_iff, beq_iff_eq, beq_iff_eq]
        constructor
        · intro e1; subst e1; rw [hi] at hj; cases hj; rfl
        · intro e1
          have e2 : e' = e := born_inj hst.2.1 (List.mem_of_getElem? hj) hem e1
          subst e2
          have hi1 := (List.getElem?_eq_some_iff.1 hi).1
          have hj1 := (List.getElem?_eq_some_iff.1 hj).1
          refine (List.getElem_inj (xs := es.toList.map (·.born)) (h₀ := by simpa using hj1) (h₁ := by simpa using hi1) hst.2.1).1 ?_
          simp only [List.getElem_map]
          rw [(List.getElem?_eq_some_iff.1 hi).2, (List.getElem?_eq_some_iff.1 hj).2]
      rw [this]
    · rcases hal with rfl | rfl <;> exact ⟨rfl, rfl, rfl, by simp [setBlock], fun i _ hi => hset.2 i (fun e1 => hi (by rw [e1]))⟩
    · rcases hal with rfl | rfl <;> simp [setBlock]
    · rw [run_entry_at _ r mb since seen es clock e hset.1 hb' hem hst.2.1, hk, hv]
end Go.Proofs.Ytfecobkpdmjaeaa
