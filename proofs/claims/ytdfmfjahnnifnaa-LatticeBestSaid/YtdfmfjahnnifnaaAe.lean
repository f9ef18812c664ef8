/-
  How many nodes want each epoch aborted: a map in memory; the walk of abortsOf.
-/
import Derived.Test.YtdfmfjahnnifnaaAd
import Derived.Maps.RangeWalk
namespace Go.Proofs.Ytdfmfjahnnifnaa
set_option maxRecDepth 20000
set_option linter.unusedSimpArgs false
set_option linter.unusedVariables false
open Go.RowKit Go.Great Go.Shelf Go.ChangeMaps Go.MapKept Go.Maps
theorem kI64 : Keyed Try.prog 2 := int_keyed Try.underlying2
theorem wf64 {k : Int} (h : In64 k) : (Lit.int .i64 k).wf = true := by
  unfold In64 at h
  simp [Lit.wf, IntKind.min, IntKind.max, IntKind.signed, IntKind.bits]
  omega
theorem key64 {k : Int} (h : In64 k) : keyOf Try.prog 2 (.int .i64 k) = some (.int .i64 k) := keyOf_int_mk Try.underlying2 (wf64 h)
theorem und_ab : Try.prog.underlying 63 = some (.map 2 3) := Try.underlying63
theorem zero_ab (w : World) : (zeroValue 3).run Try.prog w = .ok (.int .i64 0) w := by kernel_rfl
def EsOk (es : List MapEntry) (f : Int → Int) : Prop :=
  (∀ e ∈ es, ∃ k, In64 k ∧ e.key = .int .i64 k ∧ e.val = .int .i64 (f k)) ∧ ∀ k, (∀ e ∈ es, e.key ≠ .int .i64 k) → f k = 0
/-- A map of numbers by epochs. -/
def Abm (w : World) (mb : Nat) (f : Int → Int) : Prop := ∃ es clock, w.heap[mb]? = some (.map es clock) ∧ Stamped es clock ∧ EsOk es.toList f
theorem Abm.keep {w w' : World} {mb : Nat} {f : Int → Int} (h : Abm w mb f) (hk : w'.heap[mb]? = w.heap[mb]?) : Abm w' mb f := by
  obtain ⟨es, clock, hb, r⟩ := h
  exact ⟨es, clock, hk.trans hb, r⟩
theorem Abm.lt {w : World} {mb : Nat} {f : Int → Int} (h : Abm w mb f) : mb < w.heap.size := by
  obtain ⟨es, clock, hb, _⟩ := h
  exact (Array.getElem?_eq_some_iff.1 hb).1
theorem Abm.below {B : Nat} {w w' : World} {mb : Nat} {f : Int → Int} (h : Abm w mb f) (hb : Below B w w') (hlt : mb < B) : Abm w' mb f := h.keep (hb.block mb hlt)
theorem Abm.new (w : World) : Abm (w.alloc (.map #[] 0)) w.heap.size (fun _ => 0) :=
  ⟨#[], 0, heap_alloc_new _ _, MapKept.stamped_empty 0, ⟨(fun e he => by cases he), fun _ _ => rfl⟩⟩
theorem es_keys {es : List MapEntry} {f : Int → Int} (h : EsOk es f) : ∀ e ∈ es, ∃ l, keyOf Try.prog 2 e.key = some l := fun e he => by
  obtain ⟨k, h1, h2, _⟩ := h.1 e he
  rw [h2]
  exact ⟨_, key64 h1⟩
theorem es_find {es : List MapEntry} {f : Int → Int} {k : Int} (h : EsOk es f) (hk : In64 k) (w : World) :
    (f k = 0 ∧ (Instr.findKey 2 (.int .i64 k) es).run Try.prog w = .ok none w ∧ ∀ e ∈ es, e.key ≠ .int .i64 k) ∨
    ∃ i e, es[i]? = some e ∧ e.key = .int .i64 k ∧ (Instr.findKey 2 (.int .i64 k) es).run Try.prog w = .ok (some (i, .int .i64 (f k))) w := by
  rcases kI64.find w (key64 hk) es (es_keys h) with ⟨h1, h2⟩ | ⟨j, e, h1, h2, h3⟩
  · exact Or.inl ⟨h.2 k h2, h1, h2⟩
  · obtain ⟨k', _, h5, h6⟩ := h.1 e (List.mem_of_getElem? h2)
    rw [h3] at h5
    injection h5 with _ h5
    subst h5
    exact Or.inr ⟨j, e, h2, h3, by rw [h1, h6]⟩
theorem ab_lookup {w : World} {mb : Nat} {f : Int → Int} {k : Int} (h : Abm w mb f) (hk : In64 k) :
    (Instr.lookup 63 (.map (some mb)) (.int .i64 k) false).run Try.prog w = .ok (.int .i64 (f k)) w := by
  obtain ⟨es, clock, hb, hs, he⟩ := h
  rcases es_find he hk w with ⟨h0, h1, _⟩ | ⟨i, e, _, _, h1⟩
  · simp [Instr.lookup, run_underlying und_ab, MapKept.run_getObj_map hb, kI64.check w _ (key64 hk), h1, zero_ab, Result.andThen, h0]
  · simp [Instr.lookup, run_underlying und_ab, MapKept.run_getObj_map hb, kI64.check w _ (key64 hk), h1, Result.andThen]
/-- One entry set. -/
def upd (f : Int → Int) (k v : Int) : Int → Int := fun x => if x = k then v else f x
theorem ab_store {w : World} {mb : Nat} {f : Int → Int} {k v : Int} (h : Abm w mb f) (hk : In64 k) :
    ∃ w', (Instr.mapUpdate 63 (.map (some mb)) (.int .i64 k) (.int .i64 v)).run Try.prog w = .ok () w' ∧ Abm w' mb (upd f k v) ∧ w.grownBy w' (some mb) ∧ w'.heap.size = w.heap.size := by
  obtain ⟨es, clock, hb, hs, he⟩ := h
  have hkey := key64 hk
  rcases es_find he hk w with ⟨h0, h1, h2⟩ | ⟨i, e, h2, h3, h1⟩
  · refine ⟨_, by simp only [Instr.mapUpdate, run_underlying und_ab, MapKept.run_getObj_map hb, kI64.check w false hkey, h1, MapKept.run_setObj_map _ hb, Result.andThen, Sem.run_bind]; rfl, ⟨es.push ⟨.int .i64 k, .int .i64 v, clock⟩, clock + 1, heap_setBlock_same hb _, stamped_push hs h2, ?_⟩, ⟨rfl, rfl, rfl, by simp [setBlock], fun i _ hi => heap_setBlock_other hb _ (fun e => hi (by rw [e]))⟩, by simp [setBlock]⟩
    rw [Array.toList_push]
    refine ⟨fun e' he' => ?_, fun x hx => ?_⟩
    · rcases List.mem_append.1 he' with he' | he'
      · obtain ⟨k', a1, a2, a3⟩ := he.1 e' he'
        refine ⟨k', a1, a2, ?_⟩
        have : k' ≠ k := fun e => h2 e' he' (by rw [a2, e])
        rw [a3]; unfold upd; rw [if_neg this]
      · rw [List.mem_singleton.1 he']
        exact ⟨k, hk, rfl, by unfold upd; rw [if_pos rfl]⟩
    · have hne : x ≠ k := fun e => hx ⟨.int .i64 k, .int .i64 v, clock⟩ (List.mem_append.2 (Or.inr (List.mem_singleton.2 rfl))) (by rw [e])
      unfold upd
      rw [if_neg hne]
      exact he.2 x fun e' he' => hx e' (List.mem_append.2 (Or.inl he'))
  · have hj : es[i]? = some e := by simpa using h2
    have hkeyf : ∀ e', es[i]? = some e' → ({ e' with key := .int .i64 k, val := .int .i64 v } : MapEntry).key = e'.key := fun e' he' => by rw [hj] at he'; cases he'; exact h3.symm
    refine ⟨_, by simp [Instr.mapUpdate, run_underlying und_ab, MapKept.run_getObj_map hb, kI64.check w false hkey, h1, hj, h3, kI64.stays w hkey, MapKept.run_setObj_map _ hb, Result.andThen]; rfl, ⟨es.modify i (fun e' => { e' with key := .int .i64 k, val := .int .i64 v }), clock, heap_setBlock_same hb _, stamped_modify hs _ _ (fun _ _ => rfl) (fun e' _ he' => hkeyf e' he'), ?_⟩, ⟨rfl, rfl, rfl, by simp [setBlock], fun i _ hi => heap_setBlock_other hb _ (fun e => hi (by rw [e]))⟩, by simp [setBlock]⟩
    have hlist : (es.modify i (fun e' => { e' with key := .int .i64 k, val := .int .i64 v })).toList = es.toList.set i { e with key := .int .i64 k, val := .int .i64 v } := by rw [Array.toList_modify, modify_eq_set _ _ _ _ h2]
    rw [hlist]
    have hi : i < es.toList.length := (List.getElem?_eq_some_iff.1 h2).1
    have hei : es.toList[i] = e := (List.getElem?_eq_some_iff.1 h2).2
    refine ⟨fun e' he' => ?_, fun x hx => ?_⟩
    · obtain ⟨j, hj', hje⟩ := List.getElem_of_mem he'
      rw [List.getElem_set] at hje
      by_cases hij : i = j
      · rw [if_pos hij] at hje
        rw [← hje]
        exact ⟨k, hk, rfl, by unfold upd; rw [if_pos rfl]⟩
      · rw [if_neg hij] at hje
        have hjl : j < es.toList.length := by simpa using hj'
        obtain ⟨k', a1, a2, a3⟩ := he.1 e' (by rw [← hje]; exact List.getElem_mem hjl)
        refine ⟨k', a1, a2, ?_⟩
        have hne : k' ≠ k := fun hkk => by
          have hn := hs.2.2
          have h5 : (es.toList.map (·.key))[i]'(by simpa using hi) = (es.toList.map (·.key))[j]'(by simpa using hjl) := by
            simp only [List.getElem_map]
            rw [hei, h3, hje, a2, hkk]
          exact hij ((List.getElem_inj hn).1 h5)
        rw [a3]; unfold upd; rw [if_neg hne]
    · have hne : x ≠ k := fun hxk => hx { e with key := .int .i64 k, val := .int .i64 v } (List.mem_iff_getElem.2 ⟨i, by simpa using hi, by simp⟩) (by rw [hxk])
      unfold upd
      rw [if_neg hne]
      refine he.2 x fun e' he' hkx => ?_
      obtain ⟨j, hj', hje⟩ := List.getElem_of_mem he'
      by_cases hij : i = j
      · subst hij
        rw [hei] at hje
        rw [← hje, h3] at hkx
        injection hkx with _ hkx
        exact hne hkx.symm
      · refine hx e' (List.mem_iff_getElem.2 ⟨j, by simpa using hj', ?_⟩) hkx
        rw [List.getElem_set, if_neg hij]
        exact hje
theorem wpList_update_ab (w : World) {ops : Array Oper} {rest : List Oper} {o : Oper} {a : Act} {Q : Exit → Act → World → Prop} (hg : o.guard = none) (m x v : Operand) (hop : o.op = Op.mapUpdate 63 m x v) (mb : Nat) (f : Int → Int) (k u : Int)
    (hm : a.eval m = .map (some mb)) (hx : a.eval x = .int .i64 k) (hv : a.eval v = .int .i64 u) (h : Abm w mb f) (hk : In64 k)
    (hK : ∀ w', Abm w' mb (upd f k u) → w.grownBy w' (some mb) → w'.heap.size = w.heap.size → wpList Try.prog ops Q rest (a.put o.dst undef) w') : wpList Try.prog ops Q (o :: rest) a w := by
  refine wpList_plain hg fun K' hK' => ?_
  obtain ⟨w', hrun, r1, r2, r3⟩ := ab_store (v := u) h hk
  unfold Oper.wp
  simp [execOp, hop, hm, hx, hv, hrun, Result.andThen]
  exact hK' _ _ (hK w' r1 r2 r3)
/-- How many of the first facts want an epoch aborted. -/
def abn (l : List Ft.Fact) (j : Nat) : Int → Int := fun e => (((l.take j).filter (La.whose 3 e)).length : Nat)
theorem abn_le (l : List Ft.Fact) (j : Nat) (e : Int) : 0 ≤ abn l j e ∧ abn l j e ≤ j := by
  unfold abn
  have h1 := List.length_filter_le (La.whose 3 e) (l.take j)
  have h2 := List.length_take_le j l
  omega
theorem abn_snoc (l : List Ft.Fact) {j : Nat} (h : j < l.length) : abn l (j + 1) = if (l.getD j Ft.nought).kind = 3 then upd (abn l j) (l.getD j Ft.nought).epoch (abn l j (l.getD j Ft.nought).epoch + 1) else abn l j := by
  funext e
  have e1 : abn l (j + 1) e = abn l j e + (([l.getD j Ft.nought].filter (La.whose 3 e)).length : Nat) := by
    unfold abn
    rw [take_snocF l h, List.filter_append, List.length_append]
    omega
  rw [e1]
  generalize l.getD j Ft.nought = g
  by_cases hk : g.kind = 3
  · rw [if_pos hk]
    unfold upd
    by_cases he : e = g.epoch
    · subst he
      rw [if_pos rfl]
      have : La.whose 3 g.epoch g = true := by unfold La.whose; simp [hk]
      simp [List.filter_cons, this]
    · rw [if_neg he]
      have : La.whose 3 e g = false := by unfold La.whose; simp [hk]; exact fun h => he h.symm
      simp [List.filter_cons, this]
  · rw [if_neg hk]
    have : La.whose 3 e g = false := by unfold La.whose; simp [hk]
    simp [List.filter_cons, this]
theorem abn_all (l : List Ft.Fact) {j : Nat} (h : l.length ≤ j) (e m : Int) : La.aborted l e m ↔ m ≤ abn l j e := by
  unfold La.aborted abn La.who
  rw [List.take_of_length_le h, List.length_map]
end Go.Proofs.Ytdfmfjahnnifnaa
