/-
  What came in: numbers, blocks, rows of numbers, rows of calls.
-/
import Derived.Test.YtfecobkpdmjaeaaZk
import Derived.Deep.Slices
import Derived.ChangeSlices
import Derived.ChangeOld
import Derived.ProofKit
import Derived.LaidMore
import Derived.OpenShut
namespace Go.Proofs.Ytfecobkpdmjaeaa
open Go.ChangeShapes Go.WideShapes Go.RowKit Go.Deep
set_option linter.unusedVariables false
set_option maxRecDepth 20000

theorem u8_in {n : Int} (h : (Lit.int .u8 n).wf = true) : 0 ≤ n ∧ n < 256 := by
  simp [Lit.wf, IntKind.min, IntKind.max, IntKind.signed, IntKind.bits] at h
  omega
theorem i64_in {n : Int} (h : (Lit.int .i64 n).wf = true) : -9223372036854775808 ≤ n ∧ n ≤ 9223372036854775807 := by
  simp [Lit.wf, IntKind.min, IntKind.max, IntKind.signed, IntKind.bits] at h
  omega
/-- What came in: nil, or a row of numbers. -/
def Row (k : IntKind) (w : World) (a : Option Addr) (len cap : Nat) (zs : List Int) : Prop :=
  (a = none ∧ len = 0 ∧ cap = 0 ∧ zs = []) ∨
  ∃ x, a = some x ∧ len ≤ cap ∧ cap ≤ maxLen ∧ zs.length = cap ∧ (∀ i, i < zs.length → w.cell? (x.add i) = some (.int k (zs.getD i 0))) ∧ ∀ n ∈ zs, (Lit.int k n).wf = true
def Num64 (l : List Int) : Prop := ∀ x ∈ l, -9223372036854775808 ≤ x ∧ x ≤ 9223372036854775807
theorem row_its {w : World} {a : Option Addr} {len cap : Nat} {zs : List Int} (h : Row .i64 w a len cap zs) : ∃ l, Its w (· < w.heap.size) a len l ∧ len ≤ maxLen ∧ Num64 l := by
  rcases h with ⟨_, h0, h1, _⟩ | ⟨x, rfl, hle, hcm, hz, hc, hw⟩
  · subst h0 h1
    exact ⟨[], ⟨rfl, Or.inl rfl⟩, Nat.zero_le _, (fun x hx => by cases hx)⟩
  · by_cases h0 : len = 0
    · subst h0
      exact ⟨[], ⟨rfl, Or.inl rfl⟩, Nat.zero_le _, (fun x hx => by cases hx)⟩
    · obtain ⟨b, off, rfl, hc'⟩ := ints_at hc (by omega)
      refine ⟨zs.take len, ⟨by simp; omega, Or.inr ⟨b, off, rfl, World.block_lt_of_cell? w _ (hc' 0 (by omega)), World.block_lt_of_cell? w _ (hc' 0 (by omega)), fun k hk => ?_⟩⟩, by omega, fun y hy => i64_in (hw y (List.mem_of_mem_take hy))⟩
      rw [hc' k (by omega)]
      have hk' : k < zs.length := by omega
      simp [hk', hk]
section
variable {H : Type} {enc : TypeId × Value → H} {w : World}
theorem some_of' {xs : List (DataW H × List MemPlace)} {n i : Nat} (h : xs.length = n) (hi : i < n) : ∃ y, xs[i]? = some y := ⟨xs[i]'(by omega), List.getElem?_eq_getElem (by omega)⟩
/-- A block's bytes that came in. -/
theorem open_b64 {m : Nat} {r : List Value} {x : DataW H × List MemPlace} (hr : r.length = 64) (h : DataW.trod enc Try.prog w 0 (fun _ => true) true m 45 r = some x) : ∃ l : List Int, l.length = 64 ∧ Byt l ∧ r = nums l := by
  obtain ⟨xs, m', _, _, _, hxl, hi⟩ := DataW.trod_array und_b h
  have hc : Try.prog.cellsOf 5 = 1 := by kernel_rfl
  obtain ⟨f, hf⟩ := choose_lt (α := Int) (n := 64) (p := fun i v => r[i]? = some (.int .u8 v) ∧ 0 ≤ v ∧ v < 256) (fun i hlt => by
    have h1 := hi i hlt
    obtain ⟨y, hy⟩ := some_of' hxl hlt
    rw [hy, hc, Nat.mul_one] at h1
    obtain ⟨n, hn, _, hw⟩ := DataW.trod_int Try.underlying5 h1
    refine ⟨n, ?_, u8_in hw⟩
    rw [List.drop_eq_getElem_cons (by omega)] at hn
    simp only [List.take_succ_cons, List.take_zero, List.cons.injEq, and_true] at hn
    rw [List.getElem?_eq_getElem (by omega), hn])
  refine ⟨(List.range 64).map f, by simp, ?_, ?_⟩
  · intro y hy
    obtain ⟨i, hi', rfl⟩ := List.mem_map.1 hy
    exact (hf i (List.mem_range.1 hi')).2
  · apply List.ext_getElem?
    intro i
    by_cases h32 : i < 64
    · rw [(hf i h32).1, nums_get _ i (by simpa using h32)]
      simp [h32]
    · rw [List.getElem?_eq_none (by omega), List.getElem?_eq_none (by rw [nums_len]; simp; omega)]
theorem open_block {base : Nat} {r : Reach} {v : Value} {d : DataW H} {ps : List MemPlace} (hv : Value.okWide Try.prog w r base 45 v) (h : DataW.Trod enc Try.prog w 0 (fun _ => true) true 45 v d ps) : ∃ l : List Int, l.length = 64 ∧ Byt l ∧ v = .agg (nums l).toArray := by
  simp only [Value.okWide, und_b] at hv
  obtain ⟨cs, rfl, h2, _⟩ := hv
  obtain ⟨fuel, hf⟩ := h
  have h4 : cs.size = 64 := by rw [h2]; kernel_rfl
  obtain ⟨l, hl, hb, e⟩ := open_b64 (r := cs.toList) (by simpa using h4) (by simpa [Value.cells] using hf)
  refine ⟨l, hl, hb, ?_⟩
  rw [← e]
theorem open_its {m : Nat} {v : Value} {x : DataW H × List MemPlace} (h : DataW.trod enc Try.prog w 0 (fun _ => true) true m 38 [v] = some x) : ∃ a n c l, v = .slice a n c ∧ Its w (· < w.heap.size) a n l ∧ n ≤ maxLen ∧ Num64 l := by
  rcases open_ints Try.underlying38 Try.underlying3 (by kernel_rfl) h with ⟨hcs, _⟩ | ⟨x, l, c, zs, hcs, _, hl, hm, hz, _, hcell, hwz⟩
  · injection hcs with hcs _
    exact ⟨none, 0, 0, [], hcs, ⟨rfl, Or.inl rfl⟩, Nat.zero_le _, (fun x hx => by cases hx)⟩
  · injection hcs with hcs _
    obtain ⟨l', ht⟩ := row_its (w := w) (a := some x) (len := l) (cap := c) (zs := zs) (.inr ⟨_, rfl, hl, hm, by simpa using hz, hcell, hwz⟩)
    exact ⟨_, _, _, l', hcs, ht⟩
end
end Go.Proofs.Ytfecobkpdmjaeaa
