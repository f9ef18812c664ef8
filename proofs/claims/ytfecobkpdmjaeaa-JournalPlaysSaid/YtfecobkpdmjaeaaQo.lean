/-
  What came in: texts, rows of texts, rows of calls.
-/
import Derived.Test.YtfecobkpdmjaeaaQm
namespace Go.Proofs.Ytfecobkpdmjaeaa
open Go.ChangeShapes Go.WideShapes Go.RowKit Go.Deep
set_option linter.unusedVariables false
set_option maxRecDepth 20000
theorem row_txt {w : World} {a : Option Addr} {len cap : Nat} {zs : List Int} (h : Row .u8 w a len cap zs) : ∃ l, Txt w (· < w.heap.size) a len cap l ∧ cap ≤ maxLen := by
  rcases h with ⟨_, h0, h1, _⟩ | ⟨x, rfl, hle, hcm, hz, hc, hw⟩
  · subst h0 h1
    exact ⟨[], Txt.nil _ _ _ _, Nat.zero_le _⟩
  · have hby : Byt (zs.take len) := by
      intro y hy
      exact u8_in (hw y (List.mem_of_mem_take hy))
    by_cases h0 : len = 0
    · subst h0
      exact ⟨[], ⟨rfl, by omega, byt_nil, Or.inl rfl⟩, hcm⟩
    · obtain ⟨b, off, rfl, hc'⟩ := ints_at hc (by omega)
      refine ⟨zs.take len, ⟨by simp; omega, hle, hby, Or.inr ⟨b, off, rfl, World.block_lt_of_cell? w _ (hc' 0 (by omega)), World.block_lt_of_cell? w _ (hc' 0 (by omega)), fun k hk => ?_⟩⟩, hcm⟩
      rw [hc' k (by omega)]
      have hk' : k < zs.length := by omega
      simp [hk', hk]
section
variable {H : Type} {enc : TypeId × Value → H} {w : World}
theorem open_txt {m : Nat} {v : Value} {x : DataW H × List MemPlace} (h : DataW.trod enc Try.prog w 0 (fun _ => true) true m 37 [v] = some x) : ∃ a n c l, v = .slice a n c ∧ Txt w (· < w.heap.size) a n c l ∧ c ≤ maxLen := by
  rcases open_ints Try.underlying37 Try.underlying5 (by kernel_rfl) h with ⟨hcs, _⟩ | ⟨x, l, c, zs, hcs, _, hl, hm, hz, _, hcell, hwz⟩
  · injection hcs with hcs _
    exact ⟨none, 0, 0, [], hcs, Txt.nil _ _ _ _, Nat.zero_le _⟩
  · injection hcs with hcs _
    obtain ⟨l', ht⟩ := row_txt (w := w) (a := some x) (len := l) (cap := c) (zs := zs) (.inr ⟨_, rfl, hl, hm, by simpa using hz, hcell, hwz⟩)
    exact ⟨_, _, _, l', hcs, ht⟩
/-- One text's cells. -/
def TxAt (w : World) (S : Nat → Prop) (b o : Nat) (l : List Int) : Prop := ∃ a n c, w.rangeAt b o [.slice a n c] ∧ Txt w S a n c l ∧ c ≤ maxLen
def TxIn (w : World) (cs : List Value) (l : List Int) : Prop := ∃ a n c, cs = [.slice a n c] ∧ Txt w (· < w.heap.size) a n c l ∧ c ≤ maxLen
theorem open_t1 {m : Nat} {cs : List Value} {x : DataW H × List MemPlace} (h : DataW.trod enc Try.prog w 0 (fun _ => true) true m 37 cs = some x) : ∃ l, TxIn w cs l := by
  rcases open_ints Try.underlying37 Try.underlying5 (by kernel_rfl) h with ⟨hcs, _⟩ | ⟨x, l, c, zs, hcs, _, hl, hm, hz, _, hcell, hwz⟩
  · exact ⟨[], none, 0, 0, hcs, Txt.nil _ _ _ _, Nat.zero_le _⟩
  · obtain ⟨l', ht⟩ := row_txt (w := w) (a := some x) (len := l) (cap := c) (zs := zs) (.inr ⟨_, rfl, hl, hm, by simpa using hz, hcell, hwz⟩)
    exact ⟨l', _, _, _, hcs, ht⟩
theorem open_txts_first {cs : List Value} {l : List Int} (h : TxIn w cs l) : ∃ v, cs[0]? = some v := by obtain ⟨a, n, c, rfl, _⟩ := h; exact ⟨_, rfl⟩
theorem open_txts_len {cs : List Value} {l : List Int} (h : TxIn w cs l) : cs.length = 1 := by obtain ⟨a, n, c, rfl, _⟩ := h; rfl
theorem open_txts_at {cs : List Value} {l : List Int} {b o : Nat} (h : TxIn w cs l) (hr : w.rangeAt b o cs) : TxAt w (· < w.heap.size) b o l := by obtain ⟨a, n, c, rfl, r⟩ := h; exact ⟨a, n, c, hr, r⟩
theorem open_txts_lt {l : List Int} {b o : Nat} {S : Nat → Prop} (h : TxAt w S b o l) : b < w.heap.size := by obtain ⟨a, n, c, hr, _⟩ := h; exact World.block_lt_of_cell? w _ (hr 0 _ rfl)
/-- A row that came in. -/
theorem open_txts {m : Nat} {a : Option Addr} {len cap : Nat} {x : DataW H × List MemPlace} (h : DataW.trod enc Try.prog w 0 (fun _ => true) true m 48 [.slice a len cap] = some x) :
    ∃ cs : List (List Int), len ≤ maxLen ∧ cs.length = len ∧ (len = 0 ∨ ∃ b off, a = some ⟨b, off, none⟩ ∧ b < w.heap.size ∧ ∀ i c, cs[i]? = some c → TxAt w (· < w.heap.size) b (off + i * 1) c) := by
  have kk : Try.prog.cellsOf 37 = 1 := by kernel_rfl
  rcases open_slice Try.underlying48 h with ⟨hcs, _⟩ | ⟨ad, l, c, m', n, D, Pl, hcs, _, hl, hcap, hm, _, hi⟩
  · injection hcs with hcs _
    injection hcs with e1 e2 e3
    subst e1 e2 e3
    exact ⟨[], Nat.zero_le _, rfl, Or.inl rfl⟩
  · injection hcs with hcs _
    injection hcs with e1 e2 e3
    subst e1 e2 e3
    have hm' : m' = cap := by simpa using hm
    subst hm'
    rw [kk] at hi
    have hlm : len ≤ maxLen := by omega
    by_cases h0 : len = 0
    · subst h0
      exact ⟨[], Nat.zero_le _, rfl, Or.inl rfl⟩
    · obtain ⟨b, off, spot⟩ := ad
      have hspot : spot = none := by
        obtain ⟨cs', h1, h2⟩ := hi 0 (by omega)
        obtain ⟨c, hc⟩ := open_t1 (w := w) (cs := cs') h2
        obtain ⟨_, hln, hat⟩ := World.cells?_some h1
        obtain ⟨v, hv⟩ := open_txts_first hc
        have h3 := hat 0 (by omega)
        rw [hv] at h3
        simpa [Addr.add] using World.cell?_spot (h3.trans rfl)
      subst hspot
      have key : ∀ i, i < len → ∃ c : (List Int), TxAt w (· < w.heap.size) b (off + i * 1) c := fun i hlt => by
        obtain ⟨cs', h1, h2⟩ := hi i (by omega)
        obtain ⟨c, hc⟩ := open_t1 (w := w) (cs := cs') h2
        obtain ⟨_, hln, hat⟩ := World.cells?_some h1
        refine ⟨c, open_txts_at hc (fun j v hv => ?_)⟩
        have hj : j < 1 := by
          have := (List.getElem?_eq_some_iff.1 hv).1
          have := open_txts_len hc
          omega
        have h3 := hat j hj
        rw [add_add, add_plain] at h3
        rw [← hv, ← h3, Nat.add_assoc]
      obtain ⟨f, hf⟩ := choose_lt (α := (List Int)) (n := len) (p := fun i c => TxAt w (· < w.heap.size) b (off + i * 1) c) key
      have hblt : b < w.heap.size := open_txts_lt (hf 0 (by omega))
      refine ⟨(List.range len).map f, hlm, by simp, Or.inr ⟨b, off, rfl, hblt, fun i c hc => ?_⟩⟩
      rw [List.getElem?_map] at hc
      by_cases hlt : i < len
      · rw [List.getElem?_range hlt] at hc
        injection hc with hc
        rw [← hc]
        exact hf i hlt
      · rw [List.getElem?_eq_none (by simp; omega)] at hc
        cases hc
/-- A call. -/
structure Jc where
  kind : Int
  b : List Int
  n : Int
  f : List Int
instance : Inhabited Jc := ⟨⟨0, [], 0, []⟩⟩
structure JcOf (w : World) (S : Nat → Prop) (cs : List Value) (c : Jc) : Prop where
  is : ∃ ba bn bc fa fn fc, cs = [.int .i64 c.kind, .slice ba bn bc, .int .i64 c.n, .slice fa fn fc] ∧ Txt w S ba bn bc c.b ∧ bc ≤ maxLen ∧ Its w S fa fn c.f ∧ fn ≤ maxLen
  k1 : -9223372036854775808 ≤ c.kind ∧ c.kind ≤ 9223372036854775807
  k2 : -9223372036854775808 ≤ c.n ∧ c.n ≤ 9223372036854775807
def JcAt (w : World) (S : Nat → Prop) (b o : Nat) (c : Jc) : Prop := ∃ cs, w.rangeAt b o cs ∧ JcOf w S cs c
theorem open_call {m : Nat} {cs : List Value} {x : DataW H × List MemPlace} (h : DataW.trod enc Try.prog w 0 (fun _ => true) true m 40 cs = some x) : ∃ c, JcOf w (· < w.heap.size) cs c := by
  obtain ⟨xs, m', _, _, hcl, hxl, hf⟩ := DataW.trod_struct Try.underlying40 h
  have hcl' : cs.length = 4 := hcl.trans (by kernel_rfl)
  have hxl' : xs.length = 4 := hxl
  obtain ⟨c0, c1, c2, c3, rfl⟩ : ∃ c0 c1 c2 c3, cs = [c0, c1, c2, c3] := by
    match cs, hcl' with
    | [c0, c1, c2, c3], _ => exact ⟨c0, c1, c2, c3, rfl⟩
  have k0 : Try.prog.cellsOf 3 = 1 := by kernel_rfl
  have k1 : Try.prog.cellsOf 37 = 1 := by kernel_rfl
  have k3 : Try.prog.cellsOf 38 = 1 := by kernel_rfl
  obtain ⟨y0, hy0⟩ := some_of' hxl' (i := 0) (by omega)
  obtain ⟨y1, hy1⟩ := some_of' hxl' (i := 1) (by omega)
  obtain ⟨y2, hy2⟩ := some_of' hxl' (i := 2) (by omega)
  obtain ⟨y3, hy3⟩ := some_of' hxl' (i := 3) (by omega)
  have f0 : DataW.trod enc Try.prog w 0 (fun _ => true) true m' 3 (([c0, c1, c2, c3].drop 0).take (Try.prog.cellsOf 3)) = some y0 := (hf 0 _ rfl).trans hy0
  have f1 : DataW.trod enc Try.prog w 0 (fun _ => true) true m' 37 (([c0, c1, c2, c3].drop 1).take (Try.prog.cellsOf 37)) = some y1 := (hf 1 _ rfl).trans hy1
  have f2 : DataW.trod enc Try.prog w 0 (fun _ => true) true m' 3 (([c0, c1, c2, c3].drop 2).take (Try.prog.cellsOf 3)) = some y2 := (hf 2 _ rfl).trans hy2
  have f3 : DataW.trod enc Try.prog w 0 (fun _ => true) true m' 38 (([c0, c1, c2, c3].drop 3).take (Try.prog.cellsOf 38)) = some y3 := (hf 3 _ rfl).trans hy3
  rw [k0] at f0 f2
  rw [k1] at f1
  rw [k3] at f3
  simp only [List.drop_succ_cons, List.drop_zero, List.take_succ_cons, List.take_zero] at f0 f1 f2 f3
  obtain ⟨n0, e0, _, g0⟩ := DataW.trod_int Try.underlying3 f0
  obtain ⟨n2, e2, _, g2⟩ := DataW.trod_int Try.underlying3 f2
  obtain ⟨a, n, c, l, e1, ht, hm⟩ := open_txt f1
  obtain ⟨fa, fn, fc, fl, e3, hti, hfm, _⟩ := open_its f3
  injection e0 with e0 _
  injection e2 with e2 _
  subst e0 e1 e2 e3
  exact ⟨⟨n0, l, n2, fl⟩, ⟨a, n, c, fa, fn, fc, rfl, ht, hm, hti, hfm⟩, i64_in g0, i64_in g2⟩
theorem open_calls_first {cs : List Value} {c : Jc} {S : Nat → Prop} (h : JcOf w S cs c) : ∃ v, cs[0]? = some v := by obtain ⟨a, n, k, fa, fn, fc, rfl, _⟩ := h.is; exact ⟨_, rfl⟩
theorem open_calls_len {cs : List Value} {c : Jc} {S : Nat → Prop} (h : JcOf w S cs c) : cs.length = 4 := by obtain ⟨a, n, k, fa, fn, fc, rfl, _⟩ := h.is; rfl
theorem open_calls_at {cs : List Value} {c : Jc} {S : Nat → Prop} {b o : Nat} (h : JcOf w S cs c) (hr : w.rangeAt b o cs) : JcAt w S b o c := ⟨cs, hr, h⟩
theorem open_calls_lt {c : Jc} {b o : Nat} {S : Nat → Prop} (h : JcAt w S b o c) : b < w.heap.size := by obtain ⟨cs, hr, h⟩ := h; obtain ⟨v, hv⟩ := open_calls_first h; exact World.block_lt_of_cell? w _ (hr 0 _ hv)
/-- A row that came in. -/
theorem open_calls {m : Nat} {a : Option Addr} {len cap : Nat} {x : DataW H × List MemPlace} (h : DataW.trod enc Try.prog w 0 (fun _ => true) true m 23 [.slice a len cap] = some x) :
    ∃ cs : List Jc, len ≤ maxLen ∧ cs.length = len ∧ (len = 0 ∨ ∃ b off, a = some ⟨b, off, none⟩ ∧ b < w.heap.size ∧ ∀ i c, cs[i]? = some c → JcAt w (· < w.heap.size) b (off + i * 4) c) := by
  have kk : Try.prog.cellsOf 40 = 4 := by kernel_rfl
  rcases open_slice Try.underlying23 h with ⟨hcs, _⟩ | ⟨ad, l, c, m', n, D, Pl, hcs, _, hl, hcap, hm, _, hi⟩
  · injection hcs with hcs _
    injection hcs with e1 e2 e3
    subst e1 e2 e3
    exact ⟨[], Nat.zero_le _, rfl, Or.inl rfl⟩
  · injection hcs with hcs _
    injection hcs with e1 e2 e3
    subst e1 e2 e3
    have hm' : m' = cap := by simpa using hm
    subst hm'
    rw [kk] at hi
    have hlm : len ≤ maxLen := by omega
    by_cases h0 : len = 0
    · subst h0
      exact ⟨[], Nat.zero_le _, rfl, Or.inl rfl⟩
    · obtain ⟨b, off, spot⟩ := ad
      have hspot : spot = none := by
        obtain ⟨cs', h1, h2⟩ := hi 0 (by omega)
        obtain ⟨c, hc⟩ := open_call (w := w) (cs := cs') h2
        obtain ⟨_, hln, hat⟩ := World.cells?_some h1
        obtain ⟨v, hv⟩ := open_calls_first hc
        have h3 := hat 0 (by omega)
        rw [hv] at h3
        simpa [Addr.add] using World.cell?_spot (h3.trans rfl)
      subst hspot
      have key : ∀ i, i < len → ∃ c : Jc, JcAt w (· < w.heap.size) b (off + i * 4) c := fun i hlt => by
        obtain ⟨cs', h1, h2⟩ := hi i (by omega)
        obtain ⟨c, hc⟩ := open_call (w := w) (cs := cs') h2
        obtain ⟨_, hln, hat⟩ := World.cells?_some h1
        refine ⟨c, open_calls_at hc (fun j v hv => ?_)⟩
        have hj : j < 4 := by
          have := (List.getElem?_eq_some_iff.1 hv).1
          have := open_calls_len hc
          omega
        have h3 := hat j hj
        rw [add_add, add_plain] at h3
        rw [← hv, ← h3, Nat.add_assoc]
      obtain ⟨f, hf⟩ := choose_lt (α := Jc) (n := len) (p := fun i c => JcAt w (· < w.heap.size) b (off + i * 4) c) key
      have hblt : b < w.heap.size := open_calls_lt (hf 0 (by omega))
      refine ⟨(List.range len).map f, hlm, by simp, Or.inr ⟨b, off, rfl, hblt, fun i c hc => ?_⟩⟩
      rw [List.getElem?_map] at hc
      by_cases hlt : i < len
      · rw [List.getElem?_range hlt] at hc
        injection hc with hc
        rw [← hc]
        exact hf i hlt
      · rw [List.getElem?_eq_none (by simp; omega)] at hc
        cases hc
end
/-- Texts that came in. -/
def Txs (w : World) (S : Nat → Prop) (a : Option Addr) (n : Nat) (ps : List (List Int)) : Prop := n ≤ maxLen ∧ ps.length = n ∧ (n = 0 ∨ ∃ b off, a = some ⟨b, off, none⟩ ∧ S b ∧ b < w.heap.size ∧ ∀ i c, ps[i]? = some c → TxAt w S b (off + i * 1) c)
/-- Calls that came in. -/
def Jcs (w : World) (S : Nat → Prop) (a : Option Addr) (n : Nat) (cs : List Jc) : Prop := n ≤ maxLen ∧ cs.length = n ∧ (n = 0 ∨ ∃ b off, a = some ⟨b, off, none⟩ ∧ S b ∧ b < w.heap.size ∧ ∀ i c, cs[i]? = some c → JcAt w S b (off + i * 4) c)
theorem TxAt.keep {w w' : World} {S : Nat → Prop} {b o : Nat} {c : List Int} (h : TxAt w S b o c) (hb : b < w.heap.size) (hs : S b) (hz : w.heap.size ≤ w'.heap.size) (hk : ∀ b, b < w.heap.size → S b → w'.heap[b]? = w.heap[b]?) : TxAt w' S b o c := by
  obtain ⟨a, n, cc, h1, h2, h3⟩ := h
  exact ⟨a, n, cc, fun j v hv => (World.cell?_of_block (w := w) (hk b hb hs)).trans (h1 j v hv), h2.keep hz hk, h3⟩
theorem JcAt.keep {w w' : World} {S : Nat → Prop} {b o : Nat} {c : Jc} (h : JcAt w S b o c) (hb : b < w.heap.size) (hs : S b) (hz : w.heap.size ≤ w'.heap.size) (hk : ∀ b, b < w.heap.size → S b → w'.heap[b]? = w.heap[b]?) : JcAt w' S b o c := by
  obtain ⟨cs, h1, ⟨⟨ba, bn, bc, fa, fn, fc, e, h3, h4, h5, h6⟩, k1, k2⟩⟩ := h
  exact ⟨cs, fun j v hv => (World.cell?_of_block (w := w) (hk b hb hs)).trans (h1 j v hv), ⟨ba, bn, bc, fa, fn, fc, e, h3.keep hz hk, h4, h5.keep hz hk, h6⟩, k1, k2⟩
theorem Txs.keep {w w' : World} {S : Nat → Prop} {a : Option Addr} {n : Nat} {ps : List (List Int)} (h : Txs w S a n ps) (hz : w.heap.size ≤ w'.heap.size) (hk : ∀ b, b < w.heap.size → S b → w'.heap[b]? = w.heap[b]?) : Txs w' S a n ps := by
  refine ⟨h.1, h.2.1, ?_⟩
  rcases h.2.2 with h0 | ⟨b, off, rfl, hs, hb, hc⟩
  · exact Or.inl h0
  · exact Or.inr ⟨b, off, rfl, hs, by omega, fun i c hi => (hc i c hi).keep hb hs hz hk⟩
theorem Jcs.keep {w w' : World} {S : Nat → Prop} {a : Option Addr} {n : Nat} {ps : List Jc} (h : Jcs w S a n ps) (hz : w.heap.size ≤ w'.heap.size) (hk : ∀ b, b < w.heap.size → S b → w'.heap[b]? = w.heap[b]?) : Jcs w' S a n ps := by
  refine ⟨h.1, h.2.1, ?_⟩
  rcases h.2.2 with h0 | ⟨b, off, rfl, hs, hb, hc⟩
  · exact Or.inl h0
  · exact Or.inr ⟨b, off, rfl, hs, by omega, fun i c hi => (hc i c hi).keep hb hs hz hk⟩
end Go.Proofs.Ytfecobkpdmjaeaa
