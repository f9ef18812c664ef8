/-
  slices.Grow and slices.Concat of whole numbers; the package's granted and Ask of leases.
-/
import Derived.Test.YtegdopbiiddamaaSe
import Derived.Lib.AppendZerosOnto
namespace Go.Proofs.Ytegdopbiiddamaa
open Go.RowKit Go.Great
set_option linter.unusedVariables false
set_option linter.unusedSimpArgs false
set_option maxRecDepth 20000
theorem sz_i (w : World) : (sizeOf 3).run Try.prog w = .ok 1 w := by
  obtain ⟨i, hi, hz, hsize, hby⟩ := info_parts IE.info
  have hi' : Try.prog.info? 3 = some i := hi
  have hs' : i.size = 1 := hsize
  simp [sizeOf, typeInfo, hi', hs']
theorem slice_hiI {a : Option Addr} {n c k : Nat} (h1 : k ≤ c) (w : World) : (Instr.slice 22 (.slice a n c) none (some (.int .i64 (k : Int))) none).run Try.prog w = .ok (.slice a k c) w := by
  have hb : (0 : Int) ≤ (k : Int) ∧ (k : Int) ≤ (c : Int) := by omega
  have e : (if c = 0 then a else Option.map (fun x => x.add (0 * 1)) a) = a := by
    split
    · rfl
    · cases a <;> simp [Addr.add]
  have und : Try.prog.underlying 22 = some (.slice 3) := Try.underlying22
  simp only [Instr.slice, Instr.sliceBounds, Instr.sliceBound, Sem.run_bind, Sem.run_pure, Result.andThen_ok, run_underlying und, asIntOf, if_pos hb, sz_i, Int.toNat_natCast, e, Nat.sub_zero]
/-- Room for so many is made. -/
def GrowQ (w : World) (e : Ending) (w' : World) : Prop := ∃ a c, e = .returned (.slice a 0 c) ∧ IE.Own w' w.heap.size a 0 c [] ∧ Below w.heap.size w w'
set_option maxHeartbeats 2000000 in
theorem grow_any (m : Nat) (hm : m ≤ 20000) (w : World) : Calls Try.prog 72 #[.slice none 0 0, .int .i64 (m : Int)] w (GrowQ w) := by
  by_cases h0 : m = 0
  · subst h0
    go_enter Try.func72, Try.ntmps72
    go_wp2
    go_ret
    exact ⟨none, 0, rfl, Elem.Own.nil _ _, Below.refl _ _⟩
  · have q1 : ¬ ((m : Int) < 0) := by omega
    have q2 : (m : Int) > 0 := by omega
    have hw0 : IntKind.i64.wrap (m : Int) = (m : Int) := by rw [IntKind.wrap_i64]; omega
    have hs1 := slice_hiI (a := none) (n := 0) (c := 0) (k := 0) (Nat.le_refl 0)
    obtain ⟨i0, hi, hz, hsize, hby⟩ := info_parts IE.info
    have hi : Try.prog.info? 3 = some i0 := hi
    have hz : i0.zero = some (.int .i64 0) := hz
    have hsize : i0.size = 1 := hsize
    have hby : i0.bytes = 8 := hby
    have und : Try.prog.underlying 22 = some (.slice 3) := Try.underlying22
    have hrun := Lib.run_append_nil_zeros w 22 3 22 3 i0 _ .i64 .i64 und Try.underlying3 hi hz m (by omega) (by rw [hsize]; decide) (by omega) (by rw [hby]; omega)
    obtain ⟨cap, hcap⟩ : ∃ cap, grownCap w m 0 3 = cap := ⟨_, rfl⟩
    have hge := grownCap_ge w m 0 3
    have hmax := grownCap_le_maxLen w m 0 3 (by unfold maxLen; omega)
    rw [hcap] at hrun hge hmax
    have hs2 := slice_hiI (a := some ⟨w.heap.size, 0, none⟩) (n := m) (c := cap) (k := 0) (Nat.zero_le _)
    obtain ⟨cur, hcur⟩ : ∃ cur, Builtin.zeroCells (Value.int IntKind.i64 0).cells m ++ Builtin.zeroCells (Value.int IntKind.i64 0).cells (cap - m) = cur := ⟨_, rfl⟩
    rw [hcur] at hrun
    have hcs : cur.size = cap * 1 := by
      rw [← hcur, Array.size_append, size_zeroCells, size_zeroCells, show (Value.int IntKind.i64 0).cells.size = 1 from rfl]
      omega
    have HX : Hid (IE.Own (w.alloc (.cells cur 3)).drew w.heap.size (some ⟨w.heap.size, 0, none⟩) 0 cap [] ∧ Below w.heap.size w (w.alloc (.cells cur 3)).drew) :=
      Lib.hid ⟨⟨World.ownsRow_made w.drew cur cap (Nat.le_refl _) hmax hcs, (fun m hm => by cases hm), rfl⟩, below_drew (below_alloc w.drew _)⟩
    have HRUN := Lib.hid hrun
    clear hi hz hsize hby hrun hcap hge hmax hcur hcs h0 und
    go_enter Try.func72, Try.ntmps72
    go_wp2_with (first | (at_builtin; refine Lib.wpList_append_run _ rfl _ _ _ _ rfl _ _ rfl rfl _ _ HRUN.out ?_) | fail)
    go_wp2
    go_ret
    exact ⟨_, _, rfl, HX.out⟩
/-- Two rows as parts, in their block. -/
def Two (w : World) (g : Nat) (s t : Value) : Prop := g < w.heap.size ∧ w.cell? ⟨g, 0, none⟩ = some s ∧ w.cell? ⟨g, 1, none⟩ = some t
theorem Two.below {w w' : World} {g : Nat} {s t : Value} (h : Two w g s t) {B : Nat} (hb : Below B w w') (hg : g < B) : Two w' g s t :=
  ⟨Nat.lt_of_lt_of_le h.1 hb.size, (hb.cell (p := ⟨g, 0, none⟩) hg).trans h.2.1, (hb.cell (p := ⟨g, 1, none⟩) hg).trans h.2.2⟩
theorem own_cat {w w' : World} {B : Nat} {a : Option Addr} {n c m : Nat} {l k : List Int} {v' : Value} (h : IE.Own w B a n c l) (hm : ∀ m ∈ k, In64 m) (hk : k.length = m) (hown : w'.ownsRow B IE.T IE.K v' (n + m) (IE.flat l ++ IE.flat k)) : ∃ a' c', v' = .slice a' (n + m) c' ∧ IE.Own w' B a' (n + m) c' (l ++ k) := by
  rw [← IE.flat_append] at hown
  have hall : ∀ x ∈ l ++ k, IE.ok x := fun x hx => by
    rcases List.mem_append.1 hx with hx | hx
    · exact h.mem x hx
    · exact hm x hx
  exact Elem.own_of hown hall (by simp [h.len, hk])
/-- A row of the call's own is answered. -/
def RowQ (w : World) (l : List Int) (e : Ending) (w' : World) : Prop := ∃ a n c, e = .returned (.slice a n c) ∧ IE.Own w' w.heap.size a n c l ∧ Below w.heap.size w w'
set_option maxHeartbeats 4000000 in
theorem concat_any {w : World} {S S' : Nat → Prop} {a a' : Option Addr} {n n' c c' g : Nat} {l l' : List Int} (h : Ns w S a n l) (h' : Ns w S' a' n' l') (hg : Two w g (.slice a n c) (.slice a' n' c')) (hn : n ≤ 10000) (hn' : n' ≤ 10000) :
    Calls Try.prog 51 #[.slice (some ⟨g, 0, none⟩) 2 2] w (RowQ w (l ++ l')) := by
  have H := Lib.hid (And.intro (ns_row h.old) (ns_row h'.old))
  have HM := Lib.hid (And.intro (And.intro h.2.1 h.1) (And.intro h'.2.1 h'.1))
  have HG := Lib.hid hg
  have g0 := hg.2.1
  have g1 := hg.2.2
  clear h h' hg
  obtain ⟨m, hm⟩ : ∃ m : Nat, n + n' = m := ⟨_, rfl⟩
  have hwm : IntKind.i64.wrap ((n : Int) + (n' : Int)) = (m : Int) := by rw [IntKind.wrap_i64]; omega
  have hw0 : IntKind.i64.wrap (0 + (n : Int)) = (n : Int) := by rw [IntKind.wrap_i64]; omega
  have qn : ¬ ((n : Int) < 0) := by omega
  have qm : ¬ ((m : Int) < 0) := by omega
  have HMM := Lib.hid hm
  clear hm
  go_enter Try.func51, Try.ntmps51
  go_wp2
  go_loopw [3, 5, 11] (fun s _ i wr => wr = w ∧ ((i = .int .i64 0 ∧ s = .int .i64 0) ∨ (i = .int .i64 1 ∧ s = .int .i64 (n : Int)) ∨ (i = .int .i64 2 ∧ s = .int .i64 (m : Int)))) (fun _ _ i _ => 2 - (intOf i).toNat)
  case atStart => exact ⟨rfl, Or.inl ⟨rfl, rfl⟩⟩
  case round =>
    obtain ⟨rfl, hrel⟩ := hrel
    rcases hrel with ⟨rfl, rfl⟩ | ⟨rfl, rfl⟩ | ⟨rfl, rfl⟩
    · go_wp2
      exact ⟨by simp, by simp [intOf]⟩
    · go_wp2
      exact ⟨by simp, by simp [intOf]⟩
    · clear g0 g1 hwm hw0 qn qm
      go_wp2_with fail
      refine (grow_any m (by have := HMM.out; omega) _).mono ?_
      rintro e w2 ⟨a2, c2, rfl, hm2, hb2⟩
      have HJ0 : Hid (IE.Own w2 wr.heap.size a2 0 c2 [] ∧ Below wr.heap.size wr w2) := Lib.hid ⟨hm2, hb2⟩
      clear hm2 hb2
      generalize hB : wr.heap.size = B at *
      have HB := Lib.hid hB
      clear hB
      go_wp2
      go_loopw [6, 8, 27] (fun v _ i ws => ∃ (a3 : Option Addr) (k c3 : Nat) (L : List Int), v = .slice a3 k c3 ∧ Hid (IE.Own ws B a3 k c3 L ∧ Below B wr ws) ∧ Hid (k ≤ 20000) ∧ ((i = .int .i64 0 ∧ Hid (k = 0 ∧ L = [])) ∨ (i = .int .i64 1 ∧ Hid (k = n ∧ L = l)) ∨ (i = .int .i64 2 ∧ Hid (k = n + n' ∧ L = l ++ l')))) (fun _ _ i _ => 2 - (intOf i).toNat)
      case atStart => exact ⟨a2, 0, c2, [], rfl, HJ0, Lib.hid (Nat.zero_le _), Or.inl ⟨rfl, Lib.hid ⟨rfl, rfl⟩⟩⟩
      case round =>
        clear HJ0
        obtain ⟨a3, k, c3, L, rfl, HJ, HK, hrel⟩ := hrel
        have hT := HG.out.below HJ.out.2 (by rw [← HB.out]; exact HG.out.1)
        have hH1 := H.out.1.below HJ.out.2 (fun b hb _ => by rw [← HB.out]; exact hb)
        have hH2 := H.out.2.below HJ.out.2 (fun b hb _ => by rw [← HB.out]; exact hb)
        have HH := Lib.hid (And.intro hH1 hH2)
        have g0 := hT.2.1
        have g1 := hT.2.2
        clear hT hH1 hH2
        rcases hrel with ⟨rfl, HI⟩ | ⟨rfl, HI⟩ | ⟨rfl, HI⟩
        · go_wp2_with (first | (at_builtin; refine IE.wpList_append _ (by rfl) (.tmp 31) (.tmp 32) rfl B (.slice a3 k c3) k (IE.flat L) rfl HJ.out.1.own _ a n c l rfl HH.out.1 (by have := HK.out; omega) (by omega) (by rw [← HB.out]; exact HJ.out.2.size) ?_) | fail)
          intro v5 w5 hown hgr _
          obtain ⟨a5, c5, rfl, hl5⟩ := own_cat HJ.out.1 HM.out.1.1 HM.out.1.2 hown
          have HJ5 : Hid (IE.Own w5 B a5 (k + n) c5 (L ++ l) ∧ Below B _ w5) := Lib.hid ⟨hl5, HJ.out.2.grown hgr (by rw [← HB.out]; exact HJ.out.2.size) (fun q hq => (HJ.out.1.own.lt q hq).1)⟩
          clear hown hgr hl5 HH g0 g1
          go_wp2
          go_roundw
          case rel => exact ⟨a5, k + n, c5, L ++ l, rfl, HJ5, Lib.hid (by have := HI.out.1; omega), Or.inr (Or.inl ⟨by simp, Lib.hid ⟨by rw [HI.out.1, Nat.zero_add], by rw [HI.out.2, List.nil_append]⟩⟩)⟩
          case measure => simp [intOf]
        · go_wp2_with (first | (at_builtin; refine IE.wpList_append _ (by rfl) (.tmp 31) (.tmp 32) rfl B (.slice a3 k c3) k (IE.flat L) rfl HJ.out.1.own _ a' n' c' l' rfl HH.out.2 (by have := HK.out; omega) (by omega) (by rw [← HB.out]; exact HJ.out.2.size) ?_) | fail)
          intro v5 w5 hown hgr _
          obtain ⟨a5, c5, rfl, hl5⟩ := own_cat HJ.out.1 HM.out.2.1 HM.out.2.2 hown
          have HJ5 : Hid (IE.Own w5 B a5 (k + n') c5 (L ++ l') ∧ Below B _ w5) := Lib.hid ⟨hl5, HJ.out.2.grown hgr (by rw [← HB.out]; exact HJ.out.2.size) (fun q hq => (HJ.out.1.own.lt q hq).1)⟩
          clear hown hgr hl5 HH g0 g1
          go_wp2
          go_roundw
          case rel => exact ⟨a5, k + n', c5, L ++ l', rfl, HJ5, Lib.hid (by have := HI.out.1; omega), Or.inr (Or.inr ⟨by simp, Lib.hid ⟨by rw [HI.out.1], by rw [HI.out.2]⟩⟩)⟩
          case measure => simp [intOf]
        · go_wp2
          go_ret
          exact ⟨a3, k, c3, rfl, by rw [← HI.out.2]; rw [HB.out]; exact HJ.out.1, by rw [HB.out]; exact HJ.out.2⟩
end Go.Proofs.Ytegdopbiiddamaa
