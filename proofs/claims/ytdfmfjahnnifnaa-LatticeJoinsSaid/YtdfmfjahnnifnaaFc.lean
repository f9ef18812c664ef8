/-
  Rows of facts in memory: what they hold, their parts, appends, slices that are built of one; what came in. (The slice's own type is a parameter, so that the text fills any seat that has api.Fact.)
-/
import Derived.Test.YtdfmfjahnnifnaaFb
import Derived.Test.YtdfmfjahnnifnaaIo
import Derived.Great.CaseRows
import Derived.Great.BuildSlice
namespace Go.Proofs.Ytdfmfjahnnifnaa
set_option maxRecDepth 20000
set_option linter.unusedSimpArgs false
set_option linter.unusedVariables false
open Go.RowKit Go.ChangeShapes Go.WideShapes Go.Deep
/-- A fact, and its manifest's cells. -/
abbrev Fm := Ft.Fact × List Value
def fc (x : Fm) : List Value := fcs x.1.kind x.1.epoch x.1.node x.2
def d0 : Fm := (Ft.nought, zm.toList)
instance : Inhabited Fm := ⟨d0⟩
/-- The cells are the fact's; its digests lie in blocks of D. -/
def Rw (w : World) (D : Nat → Prop) (x : Fm) : Prop := Mv w D (.agg x.2.toArray) x.1.man ∧ x.2.length = 35 ∧ In64 x.1.kind ∧ In64 x.1.epoch ∧ In64 x.1.node
def flatF (R : List Fm) : List Value := (R.map fc).flatten
/-- A row of facts: in a block of S, digests in blocks of D. -/
def Fts (w : World) (S D : Nat → Prop) (a : Option Addr) (n : Nat) (R : List Fm) : Prop :=
  R.length = n ∧ (∀ x ∈ R, Rw w D x) ∧ (R = [] ∨ ∃ b off, a = some ⟨b, off, none⟩ ∧ S b ∧ b < w.heap.size ∧ ∀ k, k < n → w.rangeAt b (off + k * 38) (fc (R.getD k d0)))
section
variable {w w' : World} {S S' D D' : Nat → Prop} {a : Option Addr} {n : Nat} {R : List Fm} {x : Fm}
theorem Rw.keep (h : Rw w D x) (hz : w.heap.size ≤ w'.heap.size) (hk : ∀ b, b < w.heap.size → D b → w'.heap[b]? = w.heap[b]?) : Rw w' D x := ⟨h.1.keep hz hk, h.2⟩
theorem Rw.weak (h : Rw w D x) (hs : ∀ b, b < w.heap.size → D b → D' b) : Rw w D' x := ⟨h.1.weak hs, h.2⟩
theorem Rw.old (h : Rw w D x) : Rw w (fun b => b < w.heap.size) x := h.weak fun _ hb _ => hb
theorem Rw.below {B : Nat} (h : Rw w D x) (hb : Below B w w') (hs : ∀ b, b < w.heap.size → D b → b < B) : Rw w' D x :=
  h.keep hb.size fun b hlt hS => hb.block b (hs b hlt hS)
theorem fc_len (h : Rw w D x) : (fc x).length = 38 := by simp [fc, fcs, h.2.1]
theorem fc_one (h : Rw w D x) : ∀ u ∈ fc x, u.oneCell' = true := by
  obtain ⟨P', e, hs, ha⟩ := mv_agg h.1
  injection e with e
  intro u hu
  simp only [fc, fcs, List.mem_cons] at hu
  rcases hu with rfl | rfl | rfl | hu
  · rfl
  · rfl
  · rfl
  · exact Array.all_eq_true_iff_forall_mem.1 (show x.2.toArray.all (·.oneCell') = true by rw [e]; exact ha) u (by simpa using hu)
theorem Rw.fv (h : Rw w D x) : Fv w D (.agg (fc x).toArray) x.1 := ⟨x.2, rfl, h.1, h.2.2⟩
theorem Fts.keep (h : Fts w S D a n R) (hz : w.heap.size ≤ w'.heap.size) (hk : ∀ b, b < w.heap.size → S b → w'.heap[b]? = w.heap[b]?) (hd : ∀ b, b < w.heap.size → D b → w'.heap[b]? = w.heap[b]?) : Fts w' S D a n R := by
  obtain ⟨h1, h2, h3⟩ := h
  refine ⟨h1, fun x hx => (h2 x hx).keep hz hd, ?_⟩
  rcases h3 with h | ⟨b, off, e, hs, hb, hc⟩
  · exact Or.inl h
  · refine Or.inr ⟨b, off, e, hs, by omega, fun k hlt j v hv => ?_⟩
    exact (World.cell?_of_block (w := w) (hk b hb hs)).trans (hc k hlt j v hv)
theorem Fts.weak (h : Fts w S D a n R) (hs : ∀ b, b < w.heap.size → S b → S' b) (hd : ∀ b, b < w.heap.size → D b → D' b) : Fts w S' D' a n R := by
  obtain ⟨h1, h2, h3⟩ := h
  refine ⟨h1, fun x hx => (h2 x hx).weak hd, ?_⟩
  rcases h3 with h | ⟨b, off, e, hs', hb, hc⟩
  · exact Or.inl h
  · exact Or.inr ⟨b, off, e, hs b hb hs', hb, hc⟩
theorem Fts.old (h : Fts w S D a n R) : Fts w (fun b => b < w.heap.size) (fun b => b < w.heap.size) a n R := h.weak (fun _ hb _ => hb) (fun _ hb _ => hb)
theorem Fts.below {B : Nat} (h : Fts w S D a n R) (hb : Below B w w') (hs : ∀ b, b < w.heap.size → S b → b < B) (hd : ∀ b, b < w.heap.size → D b → b < B) : Fts w' S D a n R :=
  h.keep hb.size (fun b hlt hS => hb.block b (hs b hlt hS)) (fun b hlt hD => hb.block b (hd b hlt hD))
theorem Fts.nil (w : World) (S D : Nat → Prop) (a : Option Addr) : Fts w S D a 0 [] := ⟨rfl, (fun d hd => by cases hd), Or.inl rfl⟩
theorem Fts.at_ (h : Fts w S D a n R) {k : Nat} (hk : k < n) : ∃ b off, a = some ⟨b, off, none⟩ ∧ S b ∧ b < w.heap.size ∧ w.rangeAt b (off + k * 38) (fc (R.getD k d0)) ∧ Rw w D (R.getD k d0) := by
  obtain ⟨h1, h2, h3⟩ := h
  rcases h3 with h | ⟨b, off, e, hs, hb, hc⟩
  · subst h; simp at h1; omega
  · refine ⟨b, off, e, hs, hb, hc k hk, h2 _ ?_⟩
    have hl : k < R.length := by omega
    have : R.getD k d0 = R[k] := by simp [hl]
    rw [this]; exact List.getElem_mem hl
theorem range_c0 {b o : Nat} (h : w.rangeAt b o (fc x)) : w.cell? ⟨b, o, none⟩ = some (.int .i64 x.1.kind) := h 0 _ rfl
theorem range_c1 {b o : Nat} (h : w.rangeAt b o (fc x)) : w.cell? ⟨b, o + 1, none⟩ = some (.int .i64 x.1.epoch) := h 1 _ rfl
theorem range_c2 {b o : Nat} (h : w.rangeAt b o (fc x)) : w.cell? ⟨b, o + 2, none⟩ = some (.int .i64 x.1.node) := h 2 _ rfl
theorem range_man {b o : Nat} (h : w.rangeAt b o (fc x)) : w.rangeAt b (o + 3) x.2 := fun j v hv => by
  rw [Nat.add_assoc, Nat.add_comm 3 j, ← Nat.add_assoc]
  exact h (j + 3) v (by simpa [fc, fcs] using hv)
theorem Fts.take (h : Fts w S D a n R) (k : Nat) (hk : k ≤ n) : Fts w S D a k (R.take k) := by
  obtain ⟨h1, h2, h4⟩ := h
  refine ⟨by rw [List.length_take]; omega, fun d hd => h2 d (List.mem_of_mem_take hd), ?_⟩
  rcases h4 with h | ⟨b, off, rfl, hs, hb, hc⟩
  · subst h; exact Or.inl (by simp)
  · refine Or.inr ⟨b, off, rfl, hs, hb, fun j hj => ?_⟩
    have e : (R.take k).getD j d0 = R.getD j d0 := by
      have : j < R.length := by omega
      simp [hj]
    rw [e]
    exact hc j (by omega)
theorem Fts.drop (h : Fts w S D a n R) (k c : Nat) (hk : k ≤ n) (hc : n ≤ c) : Fts w S D (if c = k then a else a.map (·.add (k * 38))) (n - k) (R.drop k) := by
  obtain ⟨h1, h2, h4⟩ := h
  refine ⟨by rw [List.length_drop]; omega, fun d hd => h2 d (List.mem_of_mem_drop hd), ?_⟩
  by_cases hn : k = n
  · left
    exact List.drop_of_length_le (by omega)
  rcases h4 with h | ⟨b, off, rfl, hs, hb, hcc⟩
  · subst h; simp at h1; omega
  · refine Or.inr ⟨b, off + k * 38, ?_, hs, hb, fun j hj => ?_⟩
    · rw [if_neg (by omega)]
      simp [Addr.add_lit]
    · have e : (R.drop k).getD j d0 = R.getD (k + j) d0 := by simp
      rw [e, show off + k * 38 + j * 38 = off + (k + j) * 38 by omega]
      exact hcc (k + j) (by omega)
theorem flatF_nil : flatF [] = [] := rfl
theorem flatF_append (R Q : List Fm) : flatF (R ++ Q) = flatF R ++ flatF Q := by simp [flatF]
theorem flatF_one (x : Fm) : flatF [x] = fc x := by simp [flatF]
theorem flatF_len (h : ∀ x ∈ R, Rw w D x) : (flatF R).length = 38 * R.length := by
  induction R with
  | nil => rfl
  | cons x R ih =>
    have := ih (fun y hy => h y (List.mem_cons_of_mem _ hy))
    have h2 := fc_len (h x List.mem_cons_self)
    unfold flatF at *
    rw [List.map_cons, List.flatten_cons, List.length_append, this, h2, List.length_cons]
    omega
theorem flatF_ones (h : ∀ x ∈ R, Rw w D x) : ∀ u ∈ flatF R, u.oneCell' = true := by
  intro u hu
  obtain ⟨l, hl, hu⟩ := List.mem_flatten.1 hu
  obtain ⟨x, hx, rfl⟩ := List.mem_map.1 hl
  exact fc_one (h x hx) u hu
theorem flatF_idx : ∀ {R : List Fm}, (∀ x ∈ R, Rw w D x) → ∀ k r : Nat, k < R.length → r < 38 → (flatF R)[k * 38 + r]? = (fc (R.getD k d0))[r]? := by
  intro R
  induction R with
  | nil => intro _ k r hk; simp at hk
  | cons x R ih =>
    intro h k r hk hr
    have hd : (fc x).length = 38 := fc_len (h x List.mem_cons_self)
    show (fc x ++ flatF R)[k * 38 + r]? = _
    cases k with
    | zero =>
      rw [List.getElem?_append_left (by omega), Nat.zero_mul, Nat.zero_add]
      rfl
    | succ k =>
      rw [List.getElem?_append_right (by omega), hd, show (k + 1) * 38 + r - 38 = k * 38 + r by omega]
      exact ih (fun x hx => h x (List.mem_cons_of_mem _ hx)) k r (by simpa using hk) hr
theorem flatF_cells {ad : Addr} (h : Fts w S D (some ad) n R) : ∀ j u, (flatF R)[j]? = some u → w.cell? (ad.add j) = some u := by
  intro j u hu
  have hj : j < 38 * R.length := by
    have := (List.getElem?_eq_some_iff.1 hu).1
    rw [flatF_len h.2.1] at this; exact this
  have hk : j / 38 < R.length := by omega
  obtain ⟨h1, h2, h3⟩ := h
  rcases h3 with h | ⟨b, off, e, _, _, hc⟩
  · subst h; simp at hk
  · injection e with e
    subst e
    have := hc (j / 38) (by omega) (j % 38) u (by rw [← flatF_idx h2 _ _ hk (by omega), show j / 38 * 38 + j % 38 = j by omega]; exact hu)
    rw [Addr.add_lit]
    rw [Nat.add_assoc, show j / 38 * 38 + j % 38 = j by omega] at this
    exact this
end
theorem fact_info : (Try.prog.info? 30).map (fun i => (i.zero, i.size, i.bytes)) = some (some (.agg zf), 38, 96) := by kernel_rfl
/-- append of facts onto a row of the call's own. -/
theorem run_append_facts {T : TypeId} (hT : Try.prog.underlying T = some (.slice 30)) (w : World) (base : Nat) (ty : TypeId) (v : Value) (n : Nat) (xs : List Value) (hown : w.ownsRow base 30 38 v n xs) (S D : Nat → Prop) (A : Option Addr) (m c : Nat) (R : List Fm) (hr : Fts w S D A m R)
    (hn : n ≤ 100000) (hm : m ≤ 100000) (hbase : base ≤ w.heap.size) :
    ∃ v' w', (Builtin.append_ #[T, T] ty #[v, .slice A m c]).run Try.prog w = .ok v' w' ∧ w'.ownsRow base 30 38 v' (n + m) (xs ++ flatF R) ∧ w.grownBy w' v.ownBlock ∧
      (v'.ownBlock = v.ownBlock ∨ v'.ownBlock = some w.heap.size) := by
  obtain ⟨i, hi, hz, hsize, hby⟩ := info_parts fact_info
  cases A with
  | none =>
    have hl : R = [] := by
      rcases hr.2.2 with h | ⟨b, off, h, _⟩
      · exact h
      · cases h
    subst hl
    have hm0 : m = 0 := hr.1.symm
    subst hm0
    refine ⟨v, w, ?_, by simpa [flatF] using hown, World.grownBy.refl w _, .inl rfl⟩
    rcases hown.2 with ⟨rfl, rfl⟩ | ⟨g, cap, cur, rfl, _, _, hnc, _⟩
    · simp [Builtin.append_, run_underlying hT, sizeOf, typeInfo, hi, Builtin.lenOf, Builtin.firstCells]
    · simp [Builtin.append_, run_underlying hT, sizeOf, typeInfo, hi, Builtin.lenOf, Builtin.firstCells, hnc, storeCells]
  | some ad =>
    obtain ⟨v', w', hrun, h2, h3, _, h5⟩ := run_append_own_at (P := Try.prog) w base T ty 30 i _ 38 96 hT hi hz hsize hby (by simp [Value.cells, zf_size]) (by omega) v n xs hown ad m c (flatF R) (by rw [flatF_len hr.2.1, hr.1, Nat.mul_comm]) (flatF_cells hr) (flatF_ones hr.2.1) (by unfold maxLen; omega) (by omega) hbase
    exact ⟨v', w', hrun, h2, h3, h5⟩
theorem wp_append_facts {T : TypeId} (hT : Try.prog.underlying T = some (.slice 30)) (w : World) {o : Oper} {a : Act} {K : Act → World → Prop} {Q : Exit → Act → World → Prop} (s x : Operand)
    (ho : o.op = .call { callee := .builtin .append, args := #[s, x], argTypes := #[T, T] })
    (base : Nat) (v : Value) (n : Nat) (xs : List Value) (hs : a.eval s = v) (hown : w.ownsRow base 30 38 v n xs)
    (S D : Nat → Prop) (A : Option Addr) (m c : Nat) (R : List Fm) (hx : a.eval x = .slice A m c) (hr : Fts w S D A m R)
    (hn : n ≤ 100000) (hm : m ≤ 100000) (hbase : base ≤ w.heap.size)
    (h : ∀ v' w', w'.ownsRow base 30 38 v' (n + m) (xs ++ flatF R) → w.grownBy w' v.ownBlock → (v'.ownBlock = v.ownBlock ∨ v'.ownBlock = some w.heap.size) → K (a.put o.dst v') w') : o.wp Try.prog a w K Q := by
  obtain ⟨v', w', hrun, h2, h3, h4⟩ := run_append_facts hT w base o.type v n xs hown S D A m c R hr hn hm hbase
  unfold Oper.wp execOp
  simp only [ho, resolve, invoke, builtin, Sem.run_bind, Sem.run_pure, Result.andThen_ok, List.map_toArray, List.map_cons, List.map_nil, hs, hx, hrun]
  exact h v' w' h2 h3 h4
theorem wpList_append_facts {T : TypeId} (hT : Try.prog.underlying T = some (.slice 30)) (w : World) {ops : Array Oper} {rest : List Oper} {o : Oper} {a : Act} {Q : Exit → Act → World → Prop} (hgd : Region.wanted o (yielded ops a.tmps) = true) (s x : Operand)
    (ho : o.op = .call { callee := .builtin .append, args := #[s, x], argTypes := #[T, T] })
    (base : Nat) (v : Value) (n : Nat) (xs : List Value) (hs : a.eval s = v) (hown : w.ownsRow base 30 38 v n xs)
    (S D : Nat → Prop) (A : Option Addr) (m c : Nat) (R : List Fm) (hx : a.eval x = .slice A m c) (hr : Fts w S D A m R)
    (hn : n ≤ 100000) (hm : m ≤ 100000) (hbase : base ≤ w.heap.size)
    (h : ∀ v' w', w'.ownsRow base 30 38 v' (n + m) (xs ++ flatF R) → w.grownBy w' v.ownBlock → (v'.ownBlock = v.ownBlock ∨ v'.ownBlock = some w.heap.size) → wpList Try.prog ops Q rest (a.put o.dst v') w') : wpList Try.prog ops Q (o :: rest) a w :=
  wpList_step fun _ hK => by rw [if_pos hgd]; exact wp_append_facts hT w s x ho base v n xs hs hown S D A m c R hx hr hn hm hbase fun v' w' h2 h3 h4 => hK _ _ (h v' w' h2 h3 h4)
/-- A slice that is built of one fact. -/
theorem wp_buildF {T : TypeId} (hT : Try.prog.underlying T = some (.slice 30)) {o : Oper} {a : Act} {w : World} {K : Act → World → Prop} {Q : Exit → Act → World → Prop} (ix : Nat) (ho : o.op = .buildSlice T 1 #[(0, .tmp ix)]) (C : List Value) (hd : C.length = 38)
    (hev : a.eval (.tmp ix) = .agg C.toArray) (h : K (a.put o.dst (.slice (some ⟨w.heap.size, 0, none⟩) 1 1)) (w.alloc (.cells C.toArray 30))) : o.wp Try.prog a w K Q := by
  obtain ⟨i, hi, hz, hsize, hby⟩ := info_parts fact_info
  refine wp_buildSlice T 30 1 #[(0, .tmp ix)] ho C.toArray i _ hT hi hz (by rw [hsize]; decide) (by rw [hsize]; decide) ?_ h
  rw [hsize]
  have e1 : ((#[(0, Operand.tmp ix)] : Array (Nat × Operand)).map fun (i, x) => (i, a.eval x)).toList = (([Value.agg C.toArray] : List Value).zipIdx 0).map fun x => (x.2, x.1) := by
    simp only [List.map_toArray, List.map_cons, List.map_nil, hev]
    rfl
  rw [e1]
  have h := Go.Great.fill_whole (s := 38) (by omega) [Value.agg C.toArray] ((Array.range (1 * 38)).map ((Value.agg zf).cells[· % (Value.agg zf).cells.size]!)) (by intro v hv; simp at hv; subst hv; simp [Value.cells, hd]) (by simp)
  refine h.trans ?_
  simp [Value.cells]
theorem wpList_buildF {T : TypeId} (hT : Try.prog.underlying T = some (.slice 30)) {ops : Array Oper} {rest : List Oper} {o : Oper} {a : Act} {w : World} {Q : Exit → Act → World → Prop} (hg : Region.wanted o (yielded ops a.tmps) = true) (ix : Nat) (ho : o.op = .buildSlice T 1 #[(0, .tmp ix)]) (C : List Value) (hd : C.length = 38)
    (hev : a.eval (.tmp ix) = .agg C.toArray) (h : wpList Try.prog ops Q rest (a.put o.dst (.slice (some ⟨w.heap.size, 0, none⟩) 1 1)) (w.alloc (.cells C.toArray 30))) : wpList Try.prog ops Q (o :: rest) a w :=
  wpList_step fun _ hK => by rw [if_pos hg]; exact wp_buildF hT ix ho C hd hev (hK _ _ h)
theorem fts_one {w : World} {S D : Nat → Prop} {g : Nat} {T : TypeId} {x : Fm} (h : Whole w g T (fc x).toArray) (hS : S g) (hx : Rw w D x) : Fts w S D (some ⟨g, 0, none⟩) 1 [x] := by
  refine ⟨rfl, fun y hy => by simp at hy; subst hy; exact hx, Or.inr ⟨g, 0, rfl, hS, h.lt, fun k hk j v hv => ?_⟩⟩
  have : k = 0 := by omega
  subst this
  rw [h.cell, List.getElem?_toArray]
  simpa using hv
/-- A row of facts of the call's own, as a slice. -/
theorem own_facts {w : World} {D : Nat → Prop} {base : Nat} {v : Value} {n : Nat} {R : List Fm} (h : w.ownsRow base 30 38 v n (flatF R)) (hd : ∀ x ∈ R, Rw w D x) (hl : R.length = n) :
    ∃ a c, v = .slice a n c ∧ n ≤ c ∧ Fts w (base ≤ ·) D a n R := by
  by_cases h0 : n = 0
  · have hnil : R = [] := List.eq_nil_of_length_eq_zero (by omega)
    subst h0 hnil
    rcases h.2 with ⟨rfl, _⟩ | ⟨g, cap, cur, rfl, _, _, _, _⟩
    · exact ⟨_, _, rfl, Nat.zero_le _, Fts.nil _ _ _ _⟩
    · exact ⟨_, _, rfl, Nat.zero_le _, Fts.nil _ _ _ _⟩
  · obtain ⟨g, cap, rfl, hb', hlt⟩ := h.form (by omega)
    have hcap : n ≤ cap := by
      rcases h.2 with ⟨h', _⟩ | ⟨g', cap', cur, h', _, _, hnc, _⟩
      · simp at h'
      · simp only [Value.slice.injEq] at h'
        omega
    refine ⟨_, _, rfl, hcap, hl, hd, Or.inr ⟨g, 0, rfl, hb', hlt, fun k hk j u hu => ?_⟩⟩
    have hj : j < 38 := by
      have h1 := (List.getElem?_eq_some_iff.1 hu).1
      have hdk : (fc (R.getD k d0)).length = 38 := by
        have : R.getD k d0 = R[k]'(by omega) := by simp [hl, hk]
        rw [this]; exact fc_len (hd _ (List.getElem_mem _))
      rw [hdk] at h1; exact h1
    rw [Nat.zero_add, h.cellAt _ (by omega), flatF_idx hd k j (by omega) hj]
    exact hu
section
variable {H : Type} {enc : TypeId × Value → H} {w : World}
theorem open_fm {m : Nat} {cs : List Value} {x : DataW H × List MemPlace} (h : DataW.trod enc Try.prog w 0 (fun _ => true) true m 30 cs = some x) : ∃ f : Fm, cs = fc f ∧ Rw w (fun b => b < w.heap.size) f := by
  obtain ⟨f, hf⟩ := open_fcs h
  obtain ⟨P, M, e, h1, h2, h3, h4⟩ := fv_agg hf
  injection e with e
  refine ⟨(f, M), ?_, h2, h3, h4⟩
  have := congrArg Array.toList (e.trans h1)
  simpa [fc] using this
/-- A row of facts that came in. -/
theorem open_facts {T : TypeId} (hT : Try.prog.underlying T = some (.slice 30)) {m : Nat} {a : Option Addr} {len cap : Nat} {x : DataW H × List MemPlace} (h : DataW.trod enc Try.prog w 0 (fun _ => true) true m T [.slice a len cap] = some x) :
    ∃ R, len ≤ cap ∧ Fts w (· < w.heap.size) (· < w.heap.size) a len R := by
  have k38 : Try.prog.cellsOf 30 = 38 := by kernel_rfl
  rcases open_slice hT h with ⟨hcs, _⟩ | ⟨ad, l, c, m', n, Dt, Pl, hcs, _, hl, _, hm, _, hi⟩
  · injection hcs with hcs _
    injection hcs with e1 e2 e3
    subst e1 e2 e3
    exact ⟨[], Nat.le_refl _, Fts.nil _ _ _ _⟩
  · injection hcs with hcs _
    injection hcs with e1 e2 e3
    subst e1 e2 e3
    have hm' : m' = cap := by simpa using hm
    subst hm'
    rw [k38] at hi
    by_cases h0 : len = 0
    · subst h0
      exact ⟨[], Nat.zero_le _, Fts.nil _ _ _ _⟩
    · obtain ⟨b, off, spot⟩ := ad
      have hspot : spot = none := by
        obtain ⟨cs', h1, h2⟩ := hi 0 (by omega)
        obtain ⟨_, hlen, hat⟩ := World.cells?_some h1
        obtain ⟨f, rfl, hf⟩ := open_fm h2
        have := hat 0 (by omega)
        simp only [fc, fcs, List.getElem?_cons_zero] at this
        simpa [Addr.add] using World.cell?_spot this
      subst hspot
      obtain ⟨f, hf⟩ := choose_lt (α := Fm) (n := len) (p := fun i p => Rw w (fun b => b < w.heap.size) p ∧ w.rangeAt b (off + i * 38) (fc p)) (fun i hlt => by
        obtain ⟨cs', h1, h2⟩ := hi i (by omega)
        obtain ⟨_, hlen, hat⟩ := World.cells?_some h1
        obtain ⟨p, rfl, hok⟩ := open_fm h2
        refine ⟨p, hok, fun j u hu => ?_⟩
        have hj : j < 38 := by
          have := (List.getElem?_eq_some_iff.1 hu).1
          rw [fc_len hok] at this; exact this
        have := hat j hj
        rw [add_add, add_plain] at this
        rw [← hu, ← this, Nat.add_assoc])
      have hb : b < w.heap.size := World.block_lt_of_cell? w _ (range_c0 (hf 0 (by omega)).2)
      refine ⟨(List.range len).map f, hl, by simp, ?_, Or.inr ⟨b, off, rfl, hb, hb, ?_⟩⟩
      · intro p hp
        obtain ⟨i, hi', rfl⟩ := List.mem_map.1 hp
        exact (hf i (List.mem_range.1 hi')).1
      · intro i hlt
        have := (hf i hlt).2
        simpa [hlt] using this
end
end Go.Proofs.Ytdfmfjahnnifnaa
