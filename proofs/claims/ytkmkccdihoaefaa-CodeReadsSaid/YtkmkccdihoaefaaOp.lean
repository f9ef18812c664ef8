/-
  Rows of parts that came in.
-/
import Derived.Test.YtkmkccdihoaefaaLo
import Derived.Deep.Slices
import Derived.ChangeSlices
import Derived.ChangeOld
namespace Go.Proofs.Ytkmkccdihoaefaa
open Go.ChangeShapes Go.WideShapes Go.RowKit Go.Deep

instance : Inhabited Prt := ⟨⟨0, 0, 0, 0, [], []⟩⟩
theorem i64_in {n : Int} (h : (Lit.int .i64 n).wf = true) : inI64 n := by
  simp [Lit.wf, IntKind.min, IntKind.max, IntKind.signed, IntKind.bits] at h
  exact h
theorem u8_in {n : Int} (h : (Lit.int .u8 n).wf = true) : 0 ≤ n ∧ n < 256 := by
  simp [Lit.wf, IntKind.min, IntKind.max, IntKind.signed, IntKind.bits] at h
  omega
theorem five (cs : List Value) (h : cs.length = 37) : ∃ c0 c1 c2 c3 c4 r, cs = c0 :: c1 :: c2 :: c3 :: c4 :: r ∧ r.length = 32 := by
  cases cs with
  | nil => simp at h
  | cons c0 cs => cases cs with
    | nil => simp at h
    | cons c1 cs => cases cs with
      | nil => simp at h
      | cons c2 cs => cases cs with
        | nil => simp at h
        | cons c3 cs => cases cs with
          | nil => simp at h
          | cons c4 r => exact ⟨c0, c1, c2, c3, c4, r, rfl, by simpa using h⟩
section
variable {H : Type} {enc : TypeId × Value → H} {w : World}
theorem some_of {xs : List (DataW H × List MemPlace)} {n i : Nat} (h : xs.length = n) (hi : i < n) : ∃ y, xs[i]? = some y := ⟨xs[i]'(by omega), List.getElem?_eq_getElem (by omega)⟩
/-- Thirty-two bytes that came in. -/
theorem open_h32 {m : Nat} {r : List Value} {x : DataW H × List MemPlace} (hr : r.length = 32) (h : DataW.trod enc Try.prog w 0 (fun _ => true) true m 26 r = some x) : ∃ l : List Int, l.length = 32 ∧ Cd.Byt l ∧ r = nums l := by
  obtain ⟨xs, m', _, _, _, hxl, hi⟩ := DataW.trod_array und32 h
  have hc : Try.prog.cellsOf 5 = 1 := by kernel_rfl
  obtain ⟨f, hf⟩ := choose_lt (α := Int) (n := 32) (p := fun i v => r[i]? = some (.int .u8 v) ∧ 0 ≤ v ∧ v < 256) (fun i hlt => by
    have h1 := hi i hlt
    obtain ⟨y, hy⟩ := some_of hxl hlt
    rw [hy, hc, Nat.mul_one] at h1
    obtain ⟨n, hn, _, hw⟩ := DataW.trod_int Try.underlying5 h1
    refine ⟨n, ?_, u8_in hw⟩
    rw [List.drop_eq_getElem_cons (by omega)] at hn
    simp only [List.take_succ_cons, List.take_zero, List.cons.injEq, and_true] at hn
    rw [List.getElem?_eq_getElem (by omega), hn])
  refine ⟨(List.range 32).map f, by simp, ?_, ?_⟩
  · intro y hy
    obtain ⟨i, hi', rfl⟩ := List.mem_map.1 hy
    exact (hf i (List.mem_range.1 hi')).2
  · apply List.ext_getElem?
    intro i
    by_cases h32 : i < 32
    · rw [(hf i h32).1, nums_get _ i (by simpa using h32)]
      simp [h32]
    · rw [List.getElem?_eq_none (by omega), List.getElem?_eq_none (by rw [nums_len]; simp; omega)]
theorem open_txt {m : Nat} {v : Value} {x : DataW H × List MemPlace} (h : DataW.trod enc Try.prog w 0 (fun _ => true) true m 25 [v] = some x) : ∃ a n c l, v = .slice a n c ∧ Txt w (· < w.heap.size) a n c l := by
  rcases open_ints Try.underlying25 Try.underlying5 (by kernel_rfl) h with ⟨hcs, _⟩ | ⟨x, l, c, zs, hcs, _, hl, hm, hz, _, hcell, hwz⟩
  · injection hcs with hcs _
    exact ⟨none, 0, 0, [], hcs, Txt.nil _ _ _ _⟩
  · injection hcs with hcs _
    obtain ⟨l', ht⟩ := row_txt (w := w) (a := some x) (len := l) (cap := c) (zs := zs) (.inr ⟨_, rfl, hl, hm, by simpa using hz, hcell, hwz⟩)
    exact ⟨_, _, _, l', hcs, ht⟩
/-- A part that came in. -/
theorem open_part {m : Nat} {cs : List Value} {x : DataW H × List MemPlace} (h : DataW.trod enc Try.prog w 0 (fun _ => true) true m 28 cs = some x) :
    ∃ (p : Prt) (v : Value), p.Ok ∧ cs = cellsOf p v ∧ ∃ a n c, v = .slice a n c ∧ Txt w (· < w.heap.size) a n c p.b := by
  obtain ⟨xs, m', _, _, hcl, hxl, hf⟩ := DataW.trod_struct Try.underlying28 h
  have hcl' : cs.length = 37 := hcl.trans (by kernel_rfl)
  have hxl' : xs.length = 6 := hxl
  obtain ⟨c0, c1, c2, c3, c4, r, rfl, hr⟩ := five cs hcl'
  have k1 : Try.prog.cellsOf 2 = 1 := by kernel_rfl
  have k0 : Try.prog.cellsOf 3 = 1 := by kernel_rfl
  have k4 : Try.prog.cellsOf 25 = 1 := by kernel_rfl
  have k5 : Try.prog.cellsOf 26 = 32 := by kernel_rfl
  obtain ⟨y0, hy0⟩ := some_of hxl' (i := 0) (by omega)
  obtain ⟨y1, hy1⟩ := some_of hxl' (i := 1) (by omega)
  obtain ⟨y2, hy2⟩ := some_of hxl' (i := 2) (by omega)
  obtain ⟨y3, hy3⟩ := some_of hxl' (i := 3) (by omega)
  obtain ⟨y4, hy4⟩ := some_of hxl' (i := 4) (by omega)
  obtain ⟨y5, hy5⟩ := some_of hxl' (i := 5) (by omega)
  have f0 : DataW.trod enc Try.prog w 0 (fun _ => true) true m' 3 (((c0 :: c1 :: c2 :: c3 :: c4 :: r).drop 0).take (Try.prog.cellsOf 3)) = some y0 := (hf 0 _ rfl).trans hy0
  have f1 : DataW.trod enc Try.prog w 0 (fun _ => true) true m' 2 (((c0 :: c1 :: c2 :: c3 :: c4 :: r).drop 1).take (Try.prog.cellsOf 2)) = some y1 := (hf 1 _ rfl).trans hy1
  have f2 : DataW.trod enc Try.prog w 0 (fun _ => true) true m' 2 (((c0 :: c1 :: c2 :: c3 :: c4 :: r).drop 2).take (Try.prog.cellsOf 2)) = some y2 := (hf 2 _ rfl).trans hy2
  have f3 : DataW.trod enc Try.prog w 0 (fun _ => true) true m' 2 (((c0 :: c1 :: c2 :: c3 :: c4 :: r).drop 3).take (Try.prog.cellsOf 2)) = some y3 := (hf 3 _ rfl).trans hy3
  have f4 : DataW.trod enc Try.prog w 0 (fun _ => true) true m' 25 (((c0 :: c1 :: c2 :: c3 :: c4 :: r).drop 4).take (Try.prog.cellsOf 25)) = some y4 := (hf 4 _ rfl).trans hy4
  have f5 : DataW.trod enc Try.prog w 0 (fun _ => true) true m' 26 (((c0 :: c1 :: c2 :: c3 :: c4 :: r).drop 5).take (Try.prog.cellsOf 26)) = some y5 := (hf 5 _ rfl).trans hy5
  rw [k0] at f0
  rw [k1] at f1 f2 f3
  rw [k4] at f4
  rw [k5] at f5
  simp only [List.drop_succ_cons, List.drop_zero, List.take_succ_cons, List.take_zero] at f0 f1 f2 f3 f4 f5
  rw [List.take_of_length_le (by omega)] at f5
  obtain ⟨n0, e0, _, g0⟩ := DataW.trod_int Try.underlying3 f0
  obtain ⟨n1, e1, _, g1⟩ := DataW.trod_int Try.underlying2 f1
  obtain ⟨n2, e2, _, g2⟩ := DataW.trod_int Try.underlying2 f2
  obtain ⟨n3, e3, _, g3⟩ := DataW.trod_int Try.underlying2 f3
  obtain ⟨a, n, c, l, e4, ht⟩ := open_txt f4
  obtain ⟨hh, hl32, hby, e5⟩ := open_h32 hr f5
  injection e0 with e0 _
  injection e1 with e1 _
  injection e2 with e2 _
  injection e3 with e3 _
  subst e0 e1 e2 e3 e5
  exact ⟨⟨n0, n1, n2, n3, l, hh⟩, c4, ⟨i64_in g0, i64_in g1, i64_in g2, i64_in g3, hl32, hby⟩, rfl, a, n, c, e4, ht⟩
/-- A row of parts that came in. -/
theorem open_parts {m : Nat} {a : Option Addr} {len cap : Nat} {x : DataW H × List MemPlace} (h : DataW.trod enc Try.prog w 0 (fun _ => true) true m 23 [.slice a len cap] = some x) :
    ∃ ps, Prts w (· < w.heap.size) a len ps := by
  have k37 : Try.prog.cellsOf 28 = 37 := by kernel_rfl
  rcases open_slice Try.underlying23 h with ⟨hcs, _⟩ | ⟨ad, l, c, m', n, D, Pl, hcs, _, hl, _, hm, _, hi⟩
  · injection hcs with hcs _
    injection hcs with e1 e2 e3
    subst e1 e2 e3
    exact ⟨[], rfl, by simp, Or.inl rfl⟩
  · injection hcs with hcs _
    injection hcs with e1 e2 e3
    subst e1 e2 e3
    have hm' : m' = cap := by simpa using hm
    subst hm'
    rw [k37] at hi
    by_cases h0 : len = 0
    · subst h0
      exact ⟨[], rfl, by simp, Or.inl rfl⟩
    · obtain ⟨b, off, spot⟩ := ad
      have hspot : spot = none := by
        obtain ⟨cs', h1, h2⟩ := hi 0 (by omega)
        obtain ⟨p, v, hok, hcs, _⟩ := open_part h2
        obtain ⟨_, _, hat⟩ := World.cells?_some h1
        have := hat 0 (by omega)
        rw [hcs] at this
        simpa [Addr.add] using World.cell?_spot (this.trans rfl)
      subst hspot
      obtain ⟨f, hf⟩ := choose_lt (α := Prt) (n := len) (p := fun i p => p.Ok ∧ PrtAt w (· < w.heap.size) b (off + i * 37) p) (fun i hlt => by
        obtain ⟨cs', h1, h2⟩ := hi i (by omega)
        obtain ⟨p, v, hok, rfl, a1, n1, c1, rfl, ht⟩ := open_part h2
        obtain ⟨_, _, hat⟩ := World.cells?_some h1
        have hc : ∀ j, j < 37 → w.cell? ⟨b, off + i * 37 + j, none⟩ = (cellsOf p (.slice a1 n1 c1))[j]? := fun j hj => by
          have := hat j hj
          rw [add_add, add_plain] at this
          rw [← this, Nat.add_assoc]
        refine ⟨p, hok, hc 0 (by omega), hc 1 (by omega), hc 2 (by omega), hc 3 (by omega), ⟨a1, n1, c1, hc 4 (by omega), ht⟩, fun j u hu => ?_⟩
        have hj : j < 32 := by
          have := (List.getElem?_eq_some_iff.1 hu).1
          rw [nums_len, hok.h] at this; exact this
        have := hc (5 + j) (by omega)
        rw [Nat.add_assoc, this, Nat.add_comm 5 j]
        simpa [cellsOf, pcells] using hu)
      refine ⟨(List.range len).map f, by simp, ?_, Or.inr ⟨b, off, rfl, ?_, ?_, ?_⟩⟩
      · intro p hp
        obtain ⟨i, hi', rfl⟩ := List.mem_map.1 hp
        exact (hf i (List.mem_range.1 hi')).1
      · exact World.block_lt_of_cell? w _ (hf 0 (by omega)).2.hk
      · exact World.block_lt_of_cell? w _ (hf 0 (by omega)).2.hk
      · intro i p hp
        rw [List.getElem?_map] at hp
        by_cases hlt : i < len
        · rw [List.getElem?_range hlt] at hp
          injection hp with hp
          rw [← hp]
          exact (hf i hlt).2
        · rw [List.getElem?_eq_none (by simp; omega)] at hp
          cases hp
end
end Go.Proofs.Ytkmkccdihoaefaa
