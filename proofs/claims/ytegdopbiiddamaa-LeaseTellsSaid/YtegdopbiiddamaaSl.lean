/-
  Maps of small numbers by the numbers 0 .. in memory: what is looked up, stored, and what comes when they are ranged over; how many of a plan's nodes are among some.
-/
import Derived.Test.YtegdopbiiddamaaS1
import Derived.Maps.RangeWalk
namespace Go.Proofs.Ytegdopbiiddamaa.Ln
/-- How many of the first n places have something. -/
def num (v : Nat → Bool) : Nat → Nat
  | 0 => 0
  | n + 1 => if v n then num v n + 1 else num v n
theorem num_le (v : Nat → Bool) : ∀ n, num v n ≤ n
  | 0 => Nat.le_refl _
  | n + 1 => by
    have := num_le v n
    unfold num
    split <;> omega
theorem num_none {v : Nat → Bool} : ∀ {n : Nat}, (∀ i, i < n → v i = false) → num v n = 0
  | 0, _ => rfl
  | n + 1, h => by
    unfold num
    rw [h n (by omega), if_neg (by simp), num_none fun i hi => h i (by omega)]
theorem num_ext {v u : Nat → Bool} : ∀ {n : Nat}, (∀ i, i < n → v i = u i) → num v n = num u n
  | 0, _ => rfl
  | n + 1, h => by
    unfold num
    rw [h n (by omega), num_ext fun i hi => h i (by omega)]
theorem num_more {v u : Nat → Bool} {i : Nat} : ∀ {n : Nat}, i < n → v i = false → u i = true → (∀ j, j ≠ i → u j = v j) → num u n = num v n + 1
  | n + 1, hi, hv, hu, h => by
    by_cases e : i = n
    · subst e
      unfold num
      rw [hu, hv, if_pos rfl, if_neg (by simp), num_ext (v := u) (u := v) fun j hj => h j (by omega)]
    · have := num_more (n := n) (by omega) hv hu h
      unfold num
      rw [h n (by omega), this]
      split <;> rfl
/-- How often each of the first n numbers is among some. -/
def often (n : Nat) (l : List Int) : List Nat := (List.range n).map fun (i : Nat) => l.count (i : Int)
theorem often_len (n : Nat) (l : List Int) : (often n l).length = n := by simp [often]
theorem often_get (n : Nat) (l : List Int) {i : Nat} (h : i < n) : (often n l)[i]? = some (l.count (i : Int)) := by simp [often, h]
theorem often_nil (n : Nat) : often n [] = List.replicate n 0 := by
  refine List.ext_getElem? fun i => ?_
  by_cases h : i < n
  · rw [often_get n [] h]; simp [h]
  · rw [List.getElem?_eq_none (by rw [often_len]; omega), List.getElem?_eq_none (by simp; omega)]
theorem often_miss {n : Nat} {l : List Int} {x : Int} (h : ¬ (0 ≤ x ∧ x < n)) : often n (l ++ [x]) = often n l := by
  refine List.ext_getElem? fun i => ?_
  by_cases hi : i < n
  · rw [often_get n _ hi, often_get n _ hi, List.count_append, List.count_singleton, if_neg (by simp; omega)]
    rfl
  · rw [List.getElem?_eq_none (by rw [often_len]; omega), List.getElem?_eq_none (by rw [often_len]; omega)]
theorem often_hit {n : Nat} {l : List Int} {k : Nat} (h : k < n) : often n (l ++ [(k : Int)]) = (often n l).set k (l.count (k : Int) + 1) := by
  refine List.ext_getElem? fun i => ?_
  rw [List.getElem?_set]
  by_cases hi : i < n
  · rw [often_get n _ hi, often_get n _ hi, List.count_append, List.count_singleton, often_len]
    by_cases e : k = i
    · subst e
      simp [h]
    · rw [if_neg e, if_neg (by simp; omega)]
      rfl
  · rw [List.getElem?_eq_none (by rw [often_len]; omega), if_neg (by omega), List.getElem?_eq_none (by rw [often_len]; omega)]
theorem num_cnt (l : List Int) (f : Nat → Bool) : ∀ n, (∀ i, i < n → f i = decide (0 < l.count (i : Int))) → num f n = cnt l n
  | 0, _ => rfl
  | n + 1, h => by
    have e := num_cnt l f n fun i hi => h i (by omega)
    unfold num cnt
    rw [h n (by omega), e]
    by_cases hm : (n : Int) ∈ l
    · rw [if_pos hm, if_pos (by simpa using List.count_pos_iff.2 hm)]
    · rw [if_neg hm, if_neg (by simpa using hm)]
end Go.Proofs.Ytegdopbiiddamaa.Ln
namespace Go.Proofs.Ytegdopbiiddamaa
open Go.RowKit Go.Great Go.ChangeMaps Go.MapKept Go.Maps
set_option linter.unusedVariables false
set_option linter.unusedSimpArgs false
set_option maxRecDepth 20000
def tents (cs : List Nat) : List (Value × Value) := cs.mapIdx fun (i c : Nat) => (.int .i64 (i : Int), .int .i64 (c : Int))
/-- A map of as many numbers by 0 .. . -/
def Tn (w : World) (mb : Nat) (cs : List Nat) : Prop := cs.length ≤ 1000 ∧ ∃ es clock, w.heap[mb]? = some (.map es clock) ∧ Stamped es clock ∧ es.toList.map (fun e => (e.key, e.val)) = tents cs
theorem Tn.lt {w : World} {mb : Nat} {cs : List Nat} (h : Tn w mb cs) : mb < w.heap.size := by
  obtain ⟨_, es, clock, hb, _⟩ := h
  exact (Array.getElem?_eq_some_iff.1 hb).1
theorem Tn.keep {w w' : World} {mb : Nat} {cs : List Nat} (h : Tn w mb cs) (hk : w'.heap[mb]? = w.heap[mb]?) : Tn w' mb cs := by
  obtain ⟨h0, es, clock, hb, r⟩ := h
  exact ⟨h0, es, clock, hk.trans hb, r⟩
theorem Tn.below {B : Nat} {w w' : World} {mb : Nat} {cs : List Nat} (h : Tn w mb cs) (hb : Below B w w') (hlt : mb < B) : Tn w' mb cs := h.keep (hb.block mb hlt)
theorem Tn.new (w : World) : Tn (w.alloc (.map #[] 0)) w.heap.size [] := ⟨by simp, #[], 0, heap_alloc_new _ _, MapKept.stamped_empty 0, rfl⟩
theorem tents_get {es : List MapEntry} {cs : List Nat} (h : es.map (fun e => (e.key, e.val)) = tents cs) {j : Nat} {e : MapEntry} (he : es[j]? = some e) : ∃ c, cs[j]? = some c ∧ e.key = .int .i64 (j : Int) ∧ e.val = .int .i64 (c : Int) := by
  have := congrArg (·[j]?) h
  simp only [tents, List.getElem?_map, he, Option.map_some, List.getElem?_mapIdx] at this
  cases hx : cs[j]? with
  | none => rw [hx] at this; cases this
  | some x =>
    rw [hx] at this
    simp only [Option.map_some, Option.some.injEq, Prod.mk.injEq] at this
    exact ⟨x, rfl, this.1, this.2⟩
theorem tents_len {es : List MapEntry} {cs : List Nat} (h : es.map (fun e => (e.key, e.val)) = tents cs) : es.length = cs.length := by
  have := congrArg List.length h
  simpa [tents] using this
theorem tents_there {es : List MapEntry} {cs : List Nat} (h : es.map (fun e => (e.key, e.val)) = tents cs) {j c : Nat} (hx : cs[j]? = some c) : ∃ e, es[j]? = some e ∧ e.key = .int .i64 (j : Int) ∧ e.val = .int .i64 (c : Int) := by
  have hj : j < es.length := by rw [tents_len h]; exact (List.getElem?_eq_some_iff.1 hx).1
  obtain ⟨y, hy, h1, h2⟩ := tents_get h (List.getElem?_eq_getElem hj)
  rw [hx] at hy
  cases hy
  exact ⟨_, List.getElem?_eq_getElem hj, h1, h2⟩
theorem kTn : Keyed Try.prog 3 := int_keyed Try.underlying3
theorem wfTn {k : Int} (h : In64 k) : (Lit.int .i64 k).wf = true := by
  unfold In64 at h
  simp [Lit.wf, IntKind.min, IntKind.max, IntKind.signed, IntKind.bits]
  omega
theorem keyTn {k : Int} (h : In64 k) : keyOf Try.prog 3 (.int .i64 k) = some (.int .i64 k) := keyOf_int_mk Try.underlying3 (wfTn h)
theorem und_tn : Try.prog.underlying 74 = some (.map 3 3) := Try.underlying74
theorem zero_tn (w : World) : (zeroValue 3).run Try.prog w = .ok (.int .i64 0) w := by kernel_rfl
theorem tents_keys {es : List MapEntry} {cs : List Nat} (h : es.map (fun e => (e.key, e.val)) = tents cs) (hn : cs.length ≤ 1000) : ∀ e ∈ es, ∃ l, keyOf Try.prog 3 e.key = some l := fun e he => by
  obtain ⟨j, hj⟩ := List.getElem?_of_mem he
  obtain ⟨c, hx, hk, _⟩ := tents_get h hj
  have := (List.getElem?_eq_some_iff.1 hx).1
  rw [hk]
  exact ⟨_, keyTn (by constructor <;> omega)⟩
theorem tents_find {es : List MapEntry} {cs : List Nat} (h : es.map (fun e => (e.key, e.val)) = tents cs) (hn : cs.length ≤ 1000) {k : Int} (hk : In64 k) (w : World) :
    (¬ (0 ≤ k ∧ k < cs.length) ∧ (Instr.findKey 3 (.int .i64 k) es).run Try.prog w = .ok none w ∧ ∀ e ∈ es, e.key ≠ .int .i64 k) ∨
    ∃ (i c : Nat) (e : MapEntry), k = (i : Int) ∧ cs[i]? = some c ∧ es[i]? = some e ∧ e.key = .int .i64 k ∧ (Instr.findKey 3 (.int .i64 k) es).run Try.prog w = .ok (some (i, .int .i64 (c : Int))) w := by
  rcases kTn.find w (keyTn hk) es (tents_keys h hn) with ⟨h1, h2⟩ | ⟨j, e, h1, h2, h3⟩
  · refine Or.inl ⟨fun hr => ?_, h1, h2⟩
    obtain ⟨i, rfl⟩ : ∃ i : Nat, k = (i : Int) := ⟨k.toNat, by omega⟩
    obtain ⟨e, he, hk', _⟩ := tents_there h (List.getElem?_eq_getElem (by omega : i < cs.length))
    exact h2 e (List.mem_of_getElem? he) hk'
  · obtain ⟨c, hx, hkx, hvx⟩ := tents_get h h2
    rw [h3] at hkx
    injection hkx with _ hkx
    exact Or.inr ⟨j, c, e, hkx, hx, h2, h3, by rw [h1, hvx]⟩
theorem tn_lookup {w : World} {mb : Nat} {cs : List Nat} (h : Tn w mb cs) {i c : Nat} (hi : cs[i]? = some c) (b : Bool) :
    (Instr.lookup 74 (.map (some mb)) (.int .i64 (i : Int)) b).run Try.prog w = .ok (if b then .tuple #[.int .i64 (c : Int), .bool true] else .int .i64 (c : Int)) w := by
  obtain ⟨hn, es, clock, hb, hs, he⟩ := h
  have hlt := (List.getElem?_eq_some_iff.1 hi).1
  have hk : In64 (i : Int) := by constructor <;> omega
  rcases tents_find he hn hk w with ⟨h0, _⟩ | ⟨j, c', e, h1, h2, _, _, h3⟩
  · exact absurd ⟨by omega, by omega⟩ h0
  · obtain rfl : i = j := by omega
    rw [hi] at h2
    cases h2
    simp [Instr.lookup, run_underlying und_tn, MapKept.run_getObj_map hb, kTn.check w _ (keyTn hk), h3, Result.andThen]
theorem tn_lookup_no {w : World} {mb : Nat} {cs : List Nat} (h : Tn w mb cs) {k : Int} (hk : In64 k) (hi : ¬ (0 ≤ k ∧ k < cs.length)) :
    (Instr.lookup 74 (.map (some mb)) (.int .i64 k) true).run Try.prog w = .ok (.tuple #[.int .i64 0, .bool false]) w := by
  obtain ⟨hn, es, clock, hb, hs, he⟩ := h
  rcases tents_find he hn hk w with ⟨_, h1, _⟩ | ⟨j, c', e, h1, h2, _⟩
  · simp [Instr.lookup, run_underlying und_tn, MapKept.run_getObj_map hb, kTn.check w _ (keyTn hk), h1, zero_tn, Result.andThen]
  · have := (List.getElem?_eq_some_iff.1 h2).1
    exact absurd ⟨by omega, by omega⟩ hi
/-- A number laid behind the others, or anew. -/
theorem tn_store {w : World} {mb : Nat} {cs : List Nat} (h : Tn w mb cs) {i : Nat} (hi : i ≤ cs.length) (hn : i < 1000) (v : Nat) :
    ∃ w', (Instr.mapUpdate 74 (.map (some mb)) (.int .i64 (i : Int)) (.int .i64 (v : Int))).run Try.prog w = .ok () w' ∧ Tn w' mb (if i < cs.length then cs.set i v else cs ++ [v]) ∧ w.grownBy w' (some mb) ∧ w'.heap.size = w.heap.size := by
  obtain ⟨hl, es, clock, hb, hs, he⟩ := h
  have hk : In64 (i : Int) := by constructor <;> omega
  have hkey := keyTn hk
  rcases tents_find he hl hk w with ⟨h0, h1, h2⟩ | ⟨j, c, e, hij, h2, h4, h3, h1⟩
  · have hi' : i = cs.length := by omega
    subst hi'
    rw [if_neg (Nat.lt_irrefl _)]
    refine ⟨_, by simp only [Instr.mapUpdate, run_underlying und_tn, MapKept.run_getObj_map hb, kTn.check w false hkey, h1, MapKept.run_setObj_map _ hb, Result.andThen, Sem.run_bind]; rfl, ⟨by simp; omega, es.push ⟨.int .i64 (cs.length : Int), .int .i64 (v : Int), clock⟩, clock + 1, heap_setBlock_same hb _, stamped_push hs h2, ?_⟩, ⟨rfl, rfl, rfl, by simp [setBlock], fun i _ hi => heap_setBlock_other hb _ (fun e => hi (by rw [e]))⟩, by simp [setBlock]⟩
    rw [Array.toList_push, List.map_append, he]
    simp [tents, List.mapIdx_append]
  · obtain rfl : i = j := by omega
    have hlt := (List.getElem?_eq_some_iff.1 h2).1
    rw [if_pos hlt]
    have hj : es[i]? = some e := by simpa using h4
    have hkeyf : ∀ e', es[i]? = some e' → ({ e' with key := .int .i64 (i : Int), val := .int .i64 (v : Int) } : MapEntry).key = e'.key := fun e' he' => by rw [hj] at he'; cases he'; exact h3.symm
    refine ⟨_, by simp [Instr.mapUpdate, run_underlying und_tn, MapKept.run_getObj_map hb, kTn.check w false hkey, h1, hj, h3, kTn.stays w hkey, MapKept.run_setObj_map _ hb, Result.andThen]; rfl, ⟨by simpa using hl, es.modify i (fun e' => { e' with key := .int .i64 (i : Int), val := .int .i64 (v : Int) }), clock, heap_setBlock_same hb _, stamped_modify hs _ _ (fun _ _ => rfl) (fun e' _ he' => hkeyf e' he'), ?_⟩, ⟨rfl, rfl, rfl, by simp [setBlock], fun i _ hi => heap_setBlock_other hb _ (fun e => hi (by rw [e]))⟩, by simp [setBlock]⟩
    have hlist : (es.modify i (fun e' => { e' with key := .int .i64 (i : Int), val := .int .i64 (v : Int) })).toList = es.toList.set i { e with key := .int .i64 (i : Int), val := .int .i64 (v : Int) } := by rw [Array.toList_modify, modify_eq_set _ _ _ _ h4]
    rw [hlist, List.map_set, he]
    apply List.ext_getElem?
    intro q
    simp only [tents, List.getElem?_set, List.getElem?_mapIdx, List.length_mapIdx]
    by_cases e1 : i = q
    · subst e1
      rw [if_pos rfl, if_pos rfl, if_pos hlt, if_pos hlt]
      rfl
    · rw [if_neg e1, if_neg e1]
theorem wpList_update_tn (w : World) {ops : Array Oper} {rest : List Oper} {o : Oper} {a : Act} {Q : Exit → Act → World → Prop} (hg : o.guard = none) (m x v : Operand) (hop : o.op = Op.mapUpdate 74 m x v) (mb : Nat) (cs : List Nat) (i u : Nat)
    (hm : a.eval m = .map (some mb)) (hx : a.eval x = .int .i64 (i : Int)) (hv : a.eval v = .int .i64 (u : Int)) (h : Tn w mb cs) (hi : i ≤ cs.length) (hn : i < 1000)
    (hK : ∀ w', Tn w' mb (if i < cs.length then cs.set i u else cs ++ [u]) → w.grownBy w' (some mb) → w'.heap.size = w.heap.size → wpList Try.prog ops Q rest (a.put o.dst undef) w') : wpList Try.prog ops Q (o :: rest) a w := by
  refine wpList_plain hg fun K' hK' => ?_
  obtain ⟨w', hrun, r1, r2, r3⟩ := tn_store h hi hn u
  unfold Oper.wp
  simp [execOp, hop, hm, hx, hv, hrun, Result.andThen]
  exact hK' _ _ (hK w' r1 r2 r3)
/-- A range over the map under way: which of its entries have come. -/
def Trg (w : World) (r mb : Nat) (cs : List Nat) (d : Nat → Bool) (c : Nat) : Prop :=
  ∃ es clock since seen c0, w.heap[mb]? = some (.map es clock) ∧ Stamped es clock ∧ es.toList.map (fun e => (e.key, e.val)) = tents cs ∧
    w.heap[r]? = some (.mapIter (some mb) since seen c0) ∧ (∀ x ∈ es.toList, x.born < since) ∧ (leftOf es seen).size = c ∧ (∀ i e, es.toList[i]? = some e → d i = seen.contains e.born) ∧ since ≤ c0 ∧ since ≤ clock
theorem Trg.lt {w : World} {r mb : Nat} {f : List Nat} {d : Nat → Bool} {c : Nat} (h : Trg w r mb f d c) : r < w.heap.size := by
  obtain ⟨es, clock, since, seen, c0, hb, hs, he, hi, rest⟩ := h
  exact (Array.getElem?_eq_some_iff.1 hi).1
theorem Trg.left {w : World} {r mb : Nat} {f : List Nat} {d : Nat → Bool} {c : Nat} (h : Trg w r mb f d c) : w.rangeLeft mb r = c := by
  obtain ⟨es, clock, since, seen, c0, hb, hs, he, hi, _, hc, _⟩ := h
  simp only [World.rangeLeft, hb, hi]
  exact hc
theorem tn_range {w : World} {mb : Nat} {f : List Nat} (h : Tn w mb f) :
    ∃ w', (Instr.range 74 (.map (some mb))).run Try.prog w = .ok (.pointer (some ⟨w.heap.size, 0, none⟩)) w' ∧ Trg w' w.heap.size mb f (fun _ => false) f.length ∧ w.grownBy w' none ∧ w'.heap.size = w.heap.size + 1 := by
  have hlt := h.lt
  obtain ⟨_, es, clock, hb, hs, he⟩ := h
  refine ⟨_, run_range_map w _ _ _ mb es clock und_tn hb, ⟨es, clock, clock, #[], clock, ((MapKept.heap_alloc w _).2 mb hlt).trans hb, hs, he, (MapKept.heap_alloc w _).1, hs.1, ?_, fun i e _ => by simp, Nat.le_refl _, Nat.le_refl _⟩, World.grownBy_alloc w _ none, by simp⟩
  have := tents_len he
  have e1 : leftOf es #[] = es := by
    unfold leftOf
    exact Array.filter_eq_self.2 (by simp)
  rw [e1]
  simpa using this
theorem tn_next {w : World} {r mb : Nat} {f : List Nat} {d : Nat → Bool} {c : Nat} (h : Trg w r mb f d c) (ty : TypeId) :
    ((∀ i, i < f.length → d i = true) ∧ (Instr.next (.pointer (some ⟨r, 0, none⟩)) false ty).run Try.prog w = .ok (.tuple #[.bool false]) w) ∨
    ∃ (i x : Nat) (w' : World) (c' : Nat), f[i]? = some x ∧ d i = false ∧ (Instr.next (.pointer (some ⟨r, 0, none⟩)) false ty).run Try.prog w = .ok (.tuple #[.bool true, .int .i64 (i : Int), .int .i64 (x : Int)]) w' ∧ Trg w' r mb f (fun j => d j || j == i) c' ∧ c' < c ∧ w.grownBy w' (some r) ∧
      w'.heap.size = w.heap.size ∧ (Instr.entry (.pointer (some ⟨r, 0, none⟩))).run Try.prog w' = .ok (.tuple #[.int .i64 (i : Int), .int .i64 (x : Int)]) w' := by
  obtain ⟨es, clock, since, seen, c0, hb, hs, he, hr, hold, hc, hd, hsc, hsk⟩ := h
  have hst := (stamped_iff es clock).1 hs
  have hne : r ≠ mb := by intro e; rw [e, hb] at hr; cases hr
  rcases run_next_at (P := Try.prog) w ty r mb since c0 seen es clock hr hb hold hsc with ⟨h0, hrun⟩ | ⟨e, hel, w1, hal, hrun⟩
  · refine Or.inl ⟨fun i hi => ?_, hrun⟩
    obtain ⟨e, hge, _⟩ := tents_there he (List.getElem?_eq_getElem hi)
    rw [hd i e hge, all_seen es seen h0 e (List.mem_of_getElem? hge)]
  · obtain ⟨hem, hes⟩ := mem_left hel
    obtain ⟨i, hi⟩ := List.getElem?_of_mem hem
    obtain ⟨x, hx, hk, hv⟩ := tents_get he hi
    have hr1 : w1.heap[r]? = some (.mapIter (some mb) since seen c0) := by rcases hal with rfl | rfl <;> exact hr
    have hb1 : w1.heap[mb]? = some (.map es clock) := by rcases hal with rfl | rfl <;> exact hb
    have hset := heap_set (o' := .mapIter (some mb) since (seen.push e.born) clock) hr1
    have hb' : (setBlock w1 r (.mapIter (some mb) since (seen.push e.born) clock)).heap[mb]? = some (.map es clock) := (hset.2 mb (fun e1 => hne e1.symm)).trans hb1
    refine Or.inr ⟨i, x, _, _, hx, by rw [hd i e hi]; simpa using hes, by rw [hrun, hk, hv], ⟨es, clock, since, seen.push e.born, clock, hb', hs, he, hset.1, hold, rfl, fun j e' hj => ?_, hsk, hsk⟩, by rw [← hc]; exact left_shrinks es seen e hel, ?_, ?_, ?_⟩
    · show (d j || j == i) = _
      rw [hd j e' hj, contains_push]
      have : (j == i) = (e'.born == e.born) := by
        rw [Bool.eq_iff_iff, beq_iff_eq, beq_iff_eq]
        constructor
        · intro e1; subst e1; rw [hi] at hj; cases hj; rfl
        · intro e1
          have e2 : e' = e := born_inj hst.2.1 (List.mem_of_getElem? hj) hem e1
          subst e2
          have hi1 := (List.getElem?_eq_some_iff.1 hi).1
          have hj1 := (List.getElem?_eq_some_iff.1 hj).1
          refine (List.getElem_inj (xs := es.toList.map (·.born)) (h₀ := by simpa using hj1) (h₁ := by simpa using hi1) hst.2.1).1 ?_
          simp only [List.getElem_map]
          rw [(List.getElem?_eq_some_iff.1 hi).2, (List.getElem?_eq_some_iff.1 hj).2]
      rw [this]
    · rcases hal with rfl | rfl <;> exact ⟨rfl, rfl, rfl, by simp [setBlock], fun i _ hi => hset.2 i (fun e1 => hi (by rw [e1]))⟩
    · rcases hal with rfl | rfl <;> simp [setBlock]
    · rw [run_entry_at _ r mb since seen es clock e hset.1 hb' hem hst.2.1, hk, hv]
section
variable (w : World) {ops : Array Oper} {rest : List Oper} {o : Oper} {a : Act} {Q : Exit → Act → World → Prop}
theorem wpList_range_tn (hg : o.guard = none) (m : Operand) (hop : o.op = Op.range 74 m) (mb : Nat) (f : List Nat) (hm : a.eval m = .map (some mb)) (h : Tn w mb f)
    (hK : ∀ w', Trg w' w.heap.size mb f (fun _ => false) f.length → w.grownBy w' none → w'.heap.size = w.heap.size + 1 → wpList Try.prog ops Q rest (a.put o.dst (.pointer (some ⟨w.heap.size, 0, none⟩))) w') :
    wpList Try.prog ops Q (o :: rest) a w := by
  refine wpList_plain hg fun K' hK' => ?_
  obtain ⟨w', hrun, r1, r2, r3⟩ := tn_range h
  unfold Oper.wp
  simp [execOp, hop, hm, hrun, Result.andThen]
  exact hK' _ _ (hK w' r1 r2 r3)
theorem wpList_next_tn (hg : o.guard = none) (it : Operand) (hop : o.op = Op.next it false) (r mb : Nat) (f : List Nat) (d : Nat → Bool) (c : Nat) (hit : a.eval it = .pointer (some ⟨r, 0, none⟩)) (h : Trg w r mb f d c)
    (hDone : (∀ i, i < f.length → d i = true) → wpList Try.prog ops Q rest (a.put o.dst (.tuple #[.bool false])) w)
    (hMore : ∀ (i x : Nat) (w' : World) (c' : Nat), f[i]? = some x → d i = false → Trg w' r mb f (fun j => d j || j == i) c' → c' < c → w.grownBy w' (some r) → w'.heap.size = w.heap.size →
      (Instr.entry (.pointer (some ⟨r, 0, none⟩))).run Try.prog w' = .ok (.tuple #[.int .i64 (i : Int), .int .i64 (x : Int)]) w' → wpList Try.prog ops Q rest (a.put o.dst (.tuple #[.bool true, .int .i64 (i : Int), .int .i64 (x : Int)])) w') :
    wpList Try.prog ops Q (o :: rest) a w := by
  refine wpList_plain hg fun K' hK' => ?_
  unfold Oper.wp
  rcases tn_next h o.type with ⟨h0, hrun⟩ | ⟨i, x, w', c', hx, hd, hrun, hrg, hlt, hgr, hsz, hen⟩
  · simp [execOp, hop, hit, hrun, Result.andThen]
    exact hK' _ _ (hDone h0)
  · simp [execOp, hop, hit, hrun, Result.andThen]
    exact hK' _ _ (hMore i x w' c' hx hd hrg hlt hgr hsz hen)
end
end Go.Proofs.Ytegdopbiiddamaa
