/-
  What came in: numbers, blocks, rows of numbers, rows of calls.
-/
import Derived.Test.YtfhaipeimpaeiaaZm
import Derived.Deep.Slices
import Derived.ChangeSlices
import Derived.ChangeOld
import Derived.ProofKit
import Derived.LaidMore
import Derived.OpenShut
namespace Go.Proofs.Ytfhaipeimpaeiaa
open Go.ChangeShapes Go.WideShapes Go.RowKit Go.Deep
set_option linter.unusedVariables false

theorem u8_in {n : Int} (h : (Lit.int .u8 n).wf = true) : 0 ≤ n ∧ n < 256 := by
  simp [Lit.wf, IntKind.min, IntKind.max, IntKind.signed, IntKind.bits] at h
  omega
theorem i64_in {n : Int} (h : (Lit.int .i64 n).wf = true) : -9223372036854775808 ≤ n ∧ n ≤ 9223372036854775807 := by
  simp [Lit.wf, IntKind.min, IntKind.max, IntKind.signed, IntKind.bits] at h
  omega
/-- What came in: nil, or a row of numbers. -/
def Row (k : IntKind) (w : World) (a : Option Addr) (len cap : Nat) (zs : List Int) : Prop :=
  (a = none ∧ len = 0 ∧ cap = 0 ∧ zs = []) ∨
  ∃ x, a = some x ∧ len ≤ cap ∧ cap ≤ maxLen ∧ zs.length = cap ∧ (∀ i, i < zs.length → w.cell? (x.add i) = some (.int k (zs.getD i 0))) ∧ ∀ n ∈ zs, (Lit.int k n).wf = true
def Num64 (l : List Int) : Prop := ∀ x ∈ l, -9223372036854775808 ≤ x ∧ x ≤ 9223372036854775807
theorem row_its {w : World} {a : Option Addr} {len cap : Nat} {zs : List Int} (h : Row .i64 w a len cap zs) : ∃ l, Its w (· < w.heap.size) a len l ∧ len ≤ maxLen ∧ Num64 l := by
  rcases h with ⟨_, h0, h1, _⟩ | ⟨x, rfl, hle, hcm, hz, hc, hw⟩
  · subst h0 h1
    exact ⟨[], ⟨rfl, Or.inl rfl⟩, Nat.zero_le _, (fun x hx => by cases hx)⟩
  · by_cases h0 : len = 0
    · subst h0
      exact ⟨[], ⟨rfl, Or.inl rfl⟩, Nat.zero_le _, (fun x hx => by cases hx)⟩
    · obtain ⟨b, off, rfl, hc'⟩ := ints_at hc (by omega)
      refine ⟨zs.take len, ⟨by simp; omega, Or.inr ⟨b, off, rfl, World.block_lt_of_cell? w _ (hc' 0 (by omega)), World.block_lt_of_cell? w _ (hc' 0 (by omega)), fun k hk => ?_⟩⟩, by omega, fun y hy => i64_in (hw y (List.mem_of_mem_take hy))⟩
      rw [hc' k (by omega)]
      have hk' : k < zs.length := by omega
      simp [hk', hk]
structure Cl where
  kind : Int
  n : Int
  b : List Int
  f : List Int
instance : Inhabited Cl := ⟨⟨0, 0, [], []⟩⟩
def ccells (c : Cl) (v : Value) : List Value := Value.int .i64 c.kind :: Value.int .i64 c.n :: (nums c.b ++ [v])
def ClAt (w : World) (S : Nat → Prop) (b o : Nat) (c : Cl) : Prop :=
  ∃ a n m, w.rangeAt b o (ccells c (.slice a n m)) ∧ Its w S a n c.f ∧ n ≤ maxLen ∧ c.b.length = 64 ∧ Byt c.b
def Cls (w : World) (S : Nat → Prop) (a : Option Addr) (n : Nat) (cs : List Cl) : Prop :=
  cs.length = n ∧ (n = 0 ∨ ∃ b off, a = some ⟨b, off, none⟩ ∧ S b ∧ b < w.heap.size ∧ ∀ i c, cs[i]? = some c → ClAt w S b (off + i * 67) c)
theorem Cls.keep {w w' : World} {S : Nat → Prop} {a : Option Addr} {n : Nat} {cs : List Cl} (h : Cls w S a n cs) (hz : w.heap.size ≤ w'.heap.size) (hk : ∀ b, b < w.heap.size → S b → w'.heap[b]? = w.heap[b]?) : Cls w' S a n cs := by
  obtain ⟨h1, h2⟩ := h
  refine ⟨h1, ?_⟩
  rcases h2 with h | ⟨b, off, rfl, hs, hb, hc⟩
  · exact Or.inl h
  · refine Or.inr ⟨b, off, rfl, hs, by omega, fun i c hi => ?_⟩
    obtain ⟨a1, n1, m1, r1, r2, r3⟩ := hc i c hi
    refine ⟨a1, n1, m1, fun j v hv => ?_, r2.keep hz hk, r3⟩
    rw [← r1 j v hv]
    exact World.cell?_of_block (w := w) (hk b hb hs)
section
variable {H : Type} {enc : TypeId × Value → H} {w : World}
theorem some_of' {xs : List (DataW H × List MemPlace)} {n i : Nat} (h : xs.length = n) (hi : i < n) : ∃ y, xs[i]? = some y := ⟨xs[i]'(by omega), List.getElem?_eq_getElem (by omega)⟩
/-- A block's bytes that came in. -/
theorem open_b64 {m : Nat} {r : List Value} {x : DataW H × List MemPlace} (hr : r.length = 64) (h : DataW.trod enc Try.prog w 0 (fun _ => true) true m 32 r = some x) : ∃ l : List Int, l.length = 64 ∧ Byt l ∧ r = nums l := by
  obtain ⟨xs, m', _, _, _, hxl, hi⟩ := DataW.trod_array und_b h
  have hc : Try.prog.cellsOf 5 = 1 := by kernel_rfl
  obtain ⟨f, hf⟩ := choose_lt (α := Int) (n := 64) (p := fun i v => r[i]? = some (.int .u8 v) ∧ 0 ≤ v ∧ v < 256) (fun i hlt => by
    have h1 := hi i hlt
    obtain ⟨y, hy⟩ := some_of' hxl hlt
    rw [hy, hc, Nat.mul_one] at h1
    obtain ⟨n, hn, _, hw⟩ := DataW.trod_int Try.underlying5 h1
    refine ⟨n, ?_, u8_in hw⟩
    rw [List.drop_eq_getElem_cons (by omega)] at hn
    simp only [List.take_succ_cons, List.take_zero, List.cons.injEq, and_true] at hn
    rw [List.getElem?_eq_getElem (by omega), hn])
  refine ⟨(List.range 64).map f, by simp, ?_, ?_⟩
  · intro y hy
    obtain ⟨i, hi', rfl⟩ := List.mem_map.1 hy
    exact (hf i (List.mem_range.1 hi')).2
  · apply List.ext_getElem?
    intro i
    by_cases h32 : i < 64
    · rw [(hf i h32).1, nums_get _ i (by simpa using h32)]
      simp [h32]
    · rw [List.getElem?_eq_none (by omega), List.getElem?_eq_none (by rw [nums_len]; simp; omega)]
theorem open_block {base : Nat} {r : Reach} {v : Value} {d : DataW H} {ps : List MemPlace} (hv : Value.okWide Try.prog w r base 32 v) (h : DataW.Trod enc Try.prog w 0 (fun _ => true) true 32 v d ps) : ∃ l : List Int, l.length = 64 ∧ Byt l ∧ v = .agg (nums l).toArray := by
  simp only [Value.okWide, und_b] at hv
  obtain ⟨cs, rfl, h2, _⟩ := hv
  obtain ⟨fuel, hf⟩ := h
  have h4 : cs.size = 64 := by rw [h2]; kernel_rfl
  obtain ⟨l, hl, hb, e⟩ := open_b64 (r := cs.toList) (by simpa using h4) (by simpa [Value.cells] using hf)
  refine ⟨l, hl, hb, ?_⟩
  rw [← e]
theorem open_its {m : Nat} {v : Value} {x : DataW H × List MemPlace} (h : DataW.trod enc Try.prog w 0 (fun _ => true) true m 33 [v] = some x) : ∃ a n c l, v = .slice a n c ∧ Its w (· < w.heap.size) a n l ∧ n ≤ maxLen ∧ Num64 l := by
  rcases open_ints Try.underlying33 Try.underlying3 (by kernel_rfl) h with ⟨hcs, _⟩ | ⟨x, l, c, zs, hcs, _, hl, hm, hz, _, hcell, hwz⟩
  · injection hcs with hcs _
    exact ⟨none, 0, 0, [], hcs, ⟨rfl, Or.inl rfl⟩, Nat.zero_le _, (fun x hx => by cases hx)⟩
  · injection hcs with hcs _
    obtain ⟨l', ht⟩ := row_its (w := w) (a := some x) (len := l) (cap := c) (zs := zs) (.inr ⟨_, rfl, hl, hm, by simpa using hz, hcell, hwz⟩)
    exact ⟨_, _, _, l', hcs, ht⟩
theorem two_more (cs : List Value) (h : cs.length = 67) : ∃ c0 c1 r v, cs = c0 :: c1 :: (r ++ [v]) ∧ r.length = 64 := by
  cases cs with
  | nil => simp at h
  | cons c0 cs => cases cs with
    | nil => simp at h
    | cons c1 cs =>
      have hl : cs.length = 65 := by simpa using h
      refine ⟨c0, c1, cs.take 64, cs[64]'(by omega), ?_, by simp; omega⟩
      congr 2
      have := List.take_append_drop 64 cs
      rw [List.drop_eq_getElem_cons (by omega), List.drop_eq_nil_of_le (by omega)] at this
      exact this.symm
/-- A call that came in. -/
theorem open_call {m : Nat} {cs : List Value} {x : DataW H × List MemPlace} (h : DataW.trod enc Try.prog w 0 (fun _ => true) true m 35 cs = some x) :
    ∃ (c : Cl) (a : Option Addr) (n k : Nat), cs = ccells c (.slice a n k) ∧ Its w (· < w.heap.size) a n c.f ∧ n ≤ maxLen ∧ c.b.length = 64 ∧ Byt c.b := by
  obtain ⟨xs, m', _, _, hcl, hxl, hf⟩ := DataW.trod_struct Try.underlying35 h
  have hcl' : cs.length = 67 := hcl.trans (by kernel_rfl)
  have hxl' : xs.length = 4 := hxl
  obtain ⟨c0, c1, r, v, rfl, hr⟩ := two_more cs hcl'
  have k0 : Try.prog.cellsOf 3 = 1 := by kernel_rfl
  have k2 : Try.prog.cellsOf 32 = 64 := by kernel_rfl
  have k3 : Try.prog.cellsOf 33 = 1 := by kernel_rfl
  obtain ⟨y0, hy0⟩ := some_of' hxl' (i := 0) (by omega)
  obtain ⟨y1, hy1⟩ := some_of' hxl' (i := 1) (by omega)
  obtain ⟨y2, hy2⟩ := some_of' hxl' (i := 2) (by omega)
  obtain ⟨y3, hy3⟩ := some_of' hxl' (i := 3) (by omega)
  have f0 : DataW.trod enc Try.prog w 0 (fun _ => true) true m' 3 (((c0 :: c1 :: (r ++ [v])).drop 0).take (Try.prog.cellsOf 3)) = some y0 := (hf 0 _ rfl).trans hy0
  have f1 : DataW.trod enc Try.prog w 0 (fun _ => true) true m' 3 (((c0 :: c1 :: (r ++ [v])).drop 1).take (Try.prog.cellsOf 3)) = some y1 := (hf 1 _ rfl).trans hy1
  have f2 : DataW.trod enc Try.prog w 0 (fun _ => true) true m' 32 (((c0 :: c1 :: (r ++ [v])).drop 2).take (Try.prog.cellsOf 32)) = some y2 := (hf 2 _ rfl).trans hy2
  have f3 : DataW.trod enc Try.prog w 0 (fun _ => true) true m' 33 (((c0 :: c1 :: (r ++ [v])).drop 66).take (Try.prog.cellsOf 33)) = some y3 := (hf 3 _ rfl).trans hy3
  rw [k0] at f0 f1
  rw [k2] at f2
  rw [k3] at f3
  simp only [List.drop_succ_cons, List.drop_zero, List.take_succ_cons, List.take_zero] at f0 f1 f2 f3
  rw [List.take_append_of_le_length (by omega), List.take_of_length_le (by omega)] at f2
  rw [List.drop_append, List.drop_eq_nil_of_le (by omega), hr] at f3
  simp only [Nat.sub_self, List.drop_zero, List.nil_append, List.take_succ_cons, List.take_zero] at f3
  obtain ⟨n0, e0, _, g0⟩ := DataW.trod_int Try.underlying3 f0
  obtain ⟨n1, e1, _, g1⟩ := DataW.trod_int Try.underlying3 f1
  obtain ⟨hh, hl64, hby, e2⟩ := open_b64 hr f2
  obtain ⟨a, n, c, l, e3, ht, hm, _⟩ := open_its f3
  injection e0 with e0 _
  injection e1 with e1 _
  subst e0 e1 e2 e3
  exact ⟨⟨n0, n1, hh, l⟩, a, n, c, rfl, ht, hm, hl64, hby⟩
/-- A row of calls that came in. -/
theorem open_calls {m : Nat} {a : Option Addr} {len cap : Nat} {x : DataW H × List MemPlace} (h : DataW.trod enc Try.prog w 0 (fun _ => true) true m 23 [.slice a len cap] = some x) :
    ∃ cs, Cls w (· < w.heap.size) a len cs ∧ len ≤ maxLen := by
  have k67 : Try.prog.cellsOf 35 = 67 := by kernel_rfl
  rcases open_slice Try.underlying23 h with ⟨hcs, _⟩ | ⟨ad, l, c, m', n, D, Pl, hcs, _, hl, hcap, hm, _, hi⟩
  · injection hcs with hcs _
    injection hcs with e1 e2 e3
    subst e1 e2 e3
    exact ⟨[], ⟨rfl, Or.inl rfl⟩, Nat.zero_le _⟩
  · injection hcs with hcs _
    injection hcs with e1 e2 e3
    subst e1 e2 e3
    have hm' : m' = cap := by simpa using hm
    subst hm'
    rw [k67] at hi
    have hlm : len ≤ maxLen := by omega
    by_cases h0 : len = 0
    · subst h0
      exact ⟨[], ⟨rfl, Or.inl rfl⟩, Nat.zero_le _⟩
    · obtain ⟨b, off, spot⟩ := ad
      have hspot : spot = none := by
        obtain ⟨cs', h1, h2⟩ := hi 0 (by omega)
        obtain ⟨p, a1, n1, c1, hcs, _⟩ := open_call h2
        obtain ⟨_, _, hat⟩ := World.cells?_some h1
        have := hat 0 (by omega)
        rw [hcs] at this
        simpa [Addr.add] using World.cell?_spot (this.trans rfl)
      subst hspot
      have key : ∀ i, i < len → ∃ c : Cl, ClAt w (· < w.heap.size) b (off + i * 67) c := fun i hlt => by
        obtain ⟨cs', h1, h2⟩ := hi i (by omega)
        obtain ⟨p, a1, n1, c1, rfl, ht, hm, hl64, hby⟩ := open_call h2
        obtain ⟨_, hlen, hat⟩ := World.cells?_some h1
        refine ⟨p, a1, n1, c1, fun j v hv => ?_, ht, hm, hl64, hby⟩
        have hj : j < 67 := by
          have := (List.getElem?_eq_some_iff.1 hv).1
          omega
        have := hat j hj
        rw [add_add, add_plain] at this
        rw [← hv, ← this, Nat.add_assoc]
      obtain ⟨f, hf⟩ := choose_lt (α := Cl) (n := len) (p := fun i c => ClAt w (· < w.heap.size) b (off + i * 67) c) key
      have hblt : b < w.heap.size := by
        obtain ⟨a1, n1, m1, r1, _⟩ := hf 0 (by omega)
        exact World.block_lt_of_cell? w _ (r1 0 _ rfl)
      refine ⟨(List.range len).map f, ⟨by simp, Or.inr ⟨b, off, rfl, hblt, hblt, fun i c hc => ?_⟩⟩, hlm⟩
      rw [List.getElem?_map] at hc
      by_cases hlt : i < len
      · rw [List.getElem?_range hlt] at hc
        injection hc with hc
        rw [← hc]
        exact hf i hlt
      · rw [List.getElem?_eq_none (by simp; omega)] at hc
        cases hc
end
end Go.Proofs.Ytfhaipeimpaeiaa
