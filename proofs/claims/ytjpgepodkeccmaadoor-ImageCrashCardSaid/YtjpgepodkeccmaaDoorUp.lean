/-
  Boots that came in, and rows of them; the walks of nothing (ImageNil) and of numbers of blocks (ImageBlocks).
-/
import Derived.Test.YtjpgepodkeccmaaDoorUo
namespace Go.Proofs.YtjpgepodkeccmaaDoor
set_option linter.unusedVariables false
set_option linter.unusedSimpArgs false
set_option maxRecDepth 20000
open Go.ChangeShapes Go.WideShapes Go.RowKit Go.Deep
instance : Inhabited Im.Bt := ⟨Im.Z⟩
/-- A boot whose numbers are those of the machine. -/
structure Bok (b : Im.Bt) : Prop where
  a : I64 b.area
  e : I64 b.epoch
  s : I64 b.size
  w : Im.W32 b
theorem u16_in {n : Int} (h : (Lit.int .u16 n).wf = true) : 0 ≤ n ∧ n < 65536 := by
  simp [Lit.wf, IntKind.min, IntKind.max, IntKind.signed, IntKind.bits] at h
  omega
section
variable {H : Type} {enc : TypeId × Value → H} {w : World}
theorem three (cs : List Value) (h : cs.length = 35) : ∃ c0 c1 c2 r, cs = c0 :: c1 :: c2 :: r ∧ r.length = 32 := by
  match cs, h with
  | c0 :: c1 :: c2 :: r, h => exact ⟨c0, c1, c2, r, rfl, by simpa using h⟩
theorem open_bcs {m : Nat} {cs : List Value} {x : DataW H × List MemPlace} (h : DataW.trod enc Tryd.prog w 0 (fun _ => true) true m 41 cs = some x) :
    ∃ b : Im.Bt, Bok b ∧ cs = bc b := by
  obtain ⟨xs, m', _, _, hcl, hxl, hf⟩ := DataW.trod_struct Tryd.underlying41 h
  have hcl' : cs.length = 35 := hcl.trans (by kernel_rfl)
  have hxl' : xs.length = 4 := hxl
  obtain ⟨c0, c1, c2, r, rfl, hr⟩ := three cs hcl'
  have k0 : Tryd.prog.cellsOf 3 = 1 := by kernel_rfl
  have k1 : Tryd.prog.cellsOf 2 = 1 := by kernel_rfl
  have k3 : Tryd.prog.cellsOf 39 = 32 := by kernel_rfl
  obtain ⟨y0, hy0⟩ := Sh.some_of hxl' (i := 0) (by omega)
  obtain ⟨y1, hy1⟩ := Sh.some_of hxl' (i := 1) (by omega)
  obtain ⟨y2, hy2⟩ := Sh.some_of hxl' (i := 2) (by omega)
  obtain ⟨y3, hy3⟩ := Sh.some_of hxl' (i := 3) (by omega)
  have f0 : DataW.trod enc Tryd.prog w 0 (fun _ => true) true m' 3 (((c0 :: c1 :: c2 :: r).drop 0).take (Tryd.prog.cellsOf 3)) = some y0 := (hf 0 _ rfl).trans hy0
  have f1 : DataW.trod enc Tryd.prog w 0 (fun _ => true) true m' 2 (((c0 :: c1 :: c2 :: r).drop 1).take (Tryd.prog.cellsOf 2)) = some y1 := (hf 1 _ rfl).trans hy1
  have f2 : DataW.trod enc Tryd.prog w 0 (fun _ => true) true m' 3 (((c0 :: c1 :: c2 :: r).drop 2).take (Tryd.prog.cellsOf 3)) = some y2 := (hf 2 _ rfl).trans hy2
  have f3 : DataW.trod enc Tryd.prog w 0 (fun _ => true) true m' 39 (((c0 :: c1 :: c2 :: r).drop 3).take (Tryd.prog.cellsOf 39)) = some y3 := (hf 3 _ rfl).trans hy3
  rw [k0] at f0 f2
  rw [k1] at f1
  rw [k3] at f3
  simp only [List.drop_succ_cons, List.drop_zero, List.take_succ_cons, List.take_zero] at f0 f1 f2 f3
  rw [List.take_of_length_le (by omega)] at f3
  obtain ⟨n0, e0, _, g0⟩ := DataW.trod_int Tryd.underlying3 f0
  obtain ⟨n1, e1, _, g1⟩ := DataW.trod_int Tryd.underlying2 f1
  obtain ⟨n2, e2, _, g2⟩ := DataW.trod_int Tryd.underlying3 f2
  obtain ⟨hh, hl32, e3⟩ := Sh.open_h32 hr f3
  injection e0 with e0 _
  injection e1 with e1 _
  injection e2 with e2 _
  subst e0 e1 e2 e3
  exact ⟨⟨n0, n1, n2, hh⟩, ⟨Sh.i64_in g0, Sh.i64_in g1, Sh.i64_in g2, hl32⟩, rfl⟩
theorem open_boot {base : Nat} {r : Reach} {v : Value} {d : DataW H} {ps : List MemPlace} (hv : Value.okWide Tryd.prog w r base 41 v) (h : DataW.Trod enc Tryd.prog w 0 (fun _ => true) true 41 v d ps) : ∃ b : Im.Bt, Bok b ∧ v = .agg (bc b).toArray := by
  simp only [Value.okWide, Tryd.underlying41] at hv
  obtain ⟨cs, rfl, h2, _⟩ := hv
  obtain ⟨fuel, hf⟩ := h
  obtain ⟨b, h3, h4⟩ := open_bcs (cs := cs.toList) (by simpa [Value.cells] using hf)
  exact ⟨b, h3, by rw [← h4]⟩
/-- A row of boots. -/
def Bts (w : World) (S : Nat → Prop) (a : Option Addr) (n : Nat) (bs : List Im.Bt) : Prop :=
  n ≤ maxLen ∧ bs.length = n ∧ (∀ b ∈ bs, Bok b) ∧ (n = 0 ∨ ∃ g off, a = some ⟨g, off, none⟩ ∧ S g ∧ g < w.heap.size ∧ ∀ i b, bs[i]? = some b → w.rangeAt g (off + i * 35) (bc b))
theorem open_boots {m : Nat} {a : Option Addr} {len cap : Nat} {x : DataW H × List MemPlace} (h : DataW.trod enc Tryd.prog w 0 (fun _ => true) true m 38 [.slice a len cap] = some x) :
    ∃ bs, Bts w (· < w.heap.size) a len bs := by
  have kk : Tryd.prog.cellsOf 41 = 35 := by kernel_rfl
  rcases open_slice Tryd.underlying38 h with ⟨hcs, _⟩ | ⟨ad, l, c, m', n, D, Pl, hcs, _, hl, hcap, hm, _, hi⟩
  · injection hcs with hcs _
    injection hcs with e1 e2 e3
    subst e1 e2 e3
    exact ⟨[], Nat.zero_le _, rfl, by simp, Or.inl rfl⟩
  · injection hcs with hcs _
    injection hcs with e1 e2 e3
    subst e1 e2 e3
    have hm' : m' = cap := by simpa using hm
    subst hm'
    rw [kk] at hi
    have hlm : len ≤ maxLen := by omega
    by_cases h0 : len = 0
    · subst h0
      exact ⟨[], Nat.zero_le _, rfl, by simp, Or.inl rfl⟩
    · obtain ⟨b, off, spot⟩ := ad
      have hspot : spot = none := by
        obtain ⟨cs', h1, h2⟩ := hi 0 (by omega)
        obtain ⟨c, _, hc⟩ := open_bcs (w := w) (cs := cs') h2
        obtain ⟨_, hln, hat⟩ := World.cells?_some h1
        have h3 := hat 0 (by omega)
        rw [hc] at h3
        simpa [Addr.add] using World.cell?_spot (h3.trans rfl)
      subst hspot
      have key : ∀ i, i < len → ∃ c : Im.Bt, Bok c ∧ w.rangeAt b (off + i * 35) (bc c) := fun i hlt => by
        obtain ⟨cs', h1, h2⟩ := hi i (by omega)
        obtain ⟨c, hk, hc⟩ := open_bcs (w := w) (cs := cs') h2
        obtain ⟨_, hln, hat⟩ := World.cells?_some h1
        refine ⟨c, hk, fun j v hv => ?_⟩
        have hj : j < 35 := by
          have := (List.getElem?_eq_some_iff.1 hv).1
          have := bc_len hk.w.1
          omega
        have h3 := hat j hj
        rw [add_add, add_plain] at h3
        rw [← hv, ← hc, ← h3, Nat.add_assoc]
      obtain ⟨f, hf⟩ := choose_lt (α := Im.Bt) (n := len) (p := fun i c => Bok c ∧ w.rangeAt b (off + i * 35) (bc c)) key
      have hblt : b < w.heap.size := World.block_lt_of_cell? w _ ((hf 0 (by omega)).2 0 _ rfl)
      refine ⟨(List.range len).map f, hlm, by simp, ?_, Or.inr ⟨b, off, rfl, hblt, hblt, fun i c hc => ?_⟩⟩
      · intro c hc
        obtain ⟨i, hi', rfl⟩ := List.mem_map.1 hc
        exact (hf i (List.mem_range.1 hi')).1
      rw [List.getElem?_map] at hc
      by_cases hlt : i < len
      · rw [List.getElem?_range hlt] at hc
        injection hc with hc
        rw [← hc]
        exact (hf i hlt).2
      · rw [List.getElem?_eq_none (by simp; omega)] at hc
        cases hc
end
end Go.Proofs.YtjpgepodkeccmaaDoor
