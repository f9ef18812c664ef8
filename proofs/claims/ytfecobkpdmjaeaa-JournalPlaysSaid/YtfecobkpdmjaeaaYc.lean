/-
  The walks of the document's Start, Read, Flush.
-/
import Derived.Test.YtfecobkpdmjaeaaYb
namespace Go.Proofs.Ytfecobkpdmjaeaa
open Go.RowKit
set_option linter.unusedVariables false
set_option maxRecDepth 20000
set_option linter.unusedSimpArgs false
theorem b_infos : ∃ i z, Try.prog.info? 45 = some i ∧ i.zero = some z ∧ i.size = 64 ∧ i.bytes = 64 ∧ z.cells.size = 64 := by
  have h : (Try.prog.info? 45).map (fun i => (i.zero, i.size, i.bytes)) = some (some (.agg zb), 64, 64) := by kernel_rfl
  cases hq : Try.prog.info? 45 with
  | none => rw [hq] at h; cases h
  | some i =>
    rw [hq] at h
    simp only [Option.map_some, Option.some.injEq, Prod.mk.injEq] at h
    exact ⟨i, .agg zb, rfl, h.1, h.2.1, h.2.2, rfl⟩
theorem run_append_rows (w : World) (B n : Nat) (ty : TypeId) (u : Value) (xs : List Value) (h1 : ∀ x ∈ xs, x.oneCell' = true) (hown : w.ownsRow B 45 64 u n xs) (hn : n ≤ 100000) (hB : B ≤ w.heap.size) :
    ∃ v' w', (Builtin.append_ #[54, 54] ty #[.slice (some ⟨w.heap.size, 0, none⟩) 0 0, u]).run Try.prog (w.alloc (.cells #[] 45)) = .ok v' w' ∧ w'.ownsRow B 45 64 v' n xs ∧ Below w.heap.size w w' ∧ ∀ g, v'.ownBlock = some g → w.heap.size ≤ g := by
  obtain ⟨i, z, hi, hz, hs, hb, hzs⟩ := b_infos
  have hb0 : Below w.heap.size w (w.alloc (.cells #[] 45)) := (Below.refl _ _).alloc (Nat.le_refl _) _
  have how := own_below hown hb0
  have hbase : (w.alloc (.cells #[] 45)).ownsRow B 45 64 (.slice (some ⟨w.heap.size, 0, none⟩) 0 0) 0 [] := ⟨rfl, Or.inr ⟨w.heap.size, 0, #[], rfl, hB, heap_alloc_new w _, Nat.le_refl _, Nat.zero_le _, rfl, rfl⟩⟩
  rcases how.2 with ⟨rfl, rfl⟩ | ⟨g, cap, cur, rfl, hgB, hg, hnc, hcm, hcs, hct⟩
  · have hx : xs = [] := List.eq_nil_of_length_eq_zero (by have := how.1; omega)
    subst hx
    refine ⟨_, _, ?_, hbase, hb0, fun g e => by cases e; exact Nat.le_refl _⟩
    simp [Builtin.append_, run_underlying Try.underlying54, sizeOf, typeInfo, hi, Builtin.lenOf, Builtin.firstCells, storeCells]
  · have hnews : ∀ j x, xs[j]? = some x → (w.alloc (.cells #[] 45)).cell? ((⟨g, 0, none⟩ : Addr).add j) = some x := fun j x hx => by
      rw [Addr.add_lit, Nat.zero_add, cell_of_row _ g j cur 45 (0, 0) hg, ← hx, ← hct, List.getElem?_take, if_pos, Array.getElem?_toList]
      have := (List.getElem?_eq_some_iff.1 hx).1
      have := how.1
      omega
    obtain ⟨v', w', hrun, h2, h3, _, h5⟩ := run_append_own_at (P := Try.prog) (w := w.alloc (.cells #[] 45)) B 54 ty 45 i z 64 64 Try.underlying54 hi hz hs hb hzs (by omega) _ 0 [] hbase ⟨g, 0, none⟩ n cap xs how.1 hnews h1 (by unfold maxLen; omega) (by omega) (by simp; omega)
    refine ⟨v', w', hrun, by simpa using h2, hb0.trans ⟨h3.os, h3.tape, h3.output, h3.size, fun j hj => h3.block j (by simp; omega) (fun e => by injection e with e; have e' : j = w.heap.size := e; omega)⟩, fun g' e => ?_⟩
    rcases h5 with h | h
    · rw [h] at e; cases e; exact Nat.le_refl _
    · rw [h] at e; cases e; simp
theorem rstart_any {w : World} {B r n : Nat} {vL vN vD : Value} {a : Dm.A} (h : Rk w B r vL vN vD a n) :
    Calls Try.prog 25 #[.pointer (some ⟨r, 0, none⟩)] w fun e w' => e = .returned (.tuple #[]) ∧ Rk w' B r vL vN vD (Dm.start a) n ∧ RF B w w' := by
  have c3 := h.c3
  have f3 : w.frozen? ⟨r, 3, none⟩ = false := h.cells.frozen 3
  have H := Lib.hid h
  clear h
  go_enter Try.func25, Try.ntmps25
  go_wp2
  go_end0
  have h := H.out
  have hg : w.grownBy (w.setCell ⟨r, 3, none⟩ (.bool false)) (some r) := ⟨rfl, rfl, rfl, by simp [World.setCell], fun k _ hne => Below.heap_setCell w ⟨r, 3, none⟩ _ k (fun e => hne (by rw [e]))⟩
  have hrn : ∀ (g : Nat) (t : TypeId) (cu : Array Value), w.heap[g]? = some (.cells cu t (0, 0)) → t ≠ 56 → (w.setCell ⟨r, 3, none⟩ (.bool false)).heap[g]? = w.heap[g]? := fun g t cu hgc ht => hg.block g (Array.getElem?_eq_some_iff.1 hgc).1 (fun e => by
    cases e
    have h2 := h.cells
    unfold Whole at h2
    rw [h2] at hgc
    injection hgc with h3
    injection h3 with _ h4
    exact ht h4.symm)
  refine ⟨rfl, ⟨?_, own_keep h.last (fun g cu hgc => hrn g _ cu hgc (by decide)), own_keep h.now (fun g cu hgc => hrn g _ cu hgc (by decide)), own_keep h.dirty (fun g cu hgc => hrn g _ cu hgc (by decide)), h.apart, h.base, Dm.start_ok h.ok⟩, RF.of_grown hg h.base h.cells (Or.inl rfl)⟩
  have := h.cells.set 3 (.bool false)
  exact this
theorem nums_ones (l : List Int) : ∀ x ∈ nums l, x.oneCell' = true := nums_one l
theorem rk_far {w w' : World} {r g n s B : Nat} {t e : TypeId} {v : Value} {xs : List Value} {cs : Array Value} (hr : Whole w r t cs) (hg : w.grownBy w' (some r)) (h : w.ownsRow B e s v n xs) (ht : e ≠ t) : w'.ownsRow B e s v n xs :=
  own_keep h fun g cu hgc => hg.block g (Array.getElem?_eq_some_iff.1 hgc).1 (fun e1 => by
    cases e1
    unfold Whole at hr
    rw [hr] at hgc
    injection hgc with h3
    injection h3 with _ h4
    exact ht h4.symm)
theorem grown_cell (w : World) (r i : Nat) (v : Value) : w.grownBy (w.setCell ⟨r, i, none⟩ v) (some r) := ⟨rfl, rfl, rfl, by simp [World.setCell], fun k _ hne => Below.heap_setCell w ⟨r, i, none⟩ _ k (fun e => hne (by rw [e]))⟩
set_option maxHeartbeats 4000000 in
theorem rflush_any {w : World} {B r n : Nat} {vL vN vD : Value} {a : Dm.A} (h : Rk w B r vL vN vD a n) (hd : a.down = false) (hB : B ≤ w.heap.size) :
    Calls Try.prog 18 #[.pointer (some ⟨r, 0, none⟩)] w fun e w' => e = .returned (.int .i64 0) ∧ (∃ vL' vN' vD', Rk w' B r vL' vN' vD' (Dm.flush a) n) ∧ RF B w w' := by
  have c3 : w.cell? ⟨r, 3, none⟩ = some (.bool false) := by rw [h.c3, hd]
  have H := Lib.hid h
  have hb0 : Below w.heap.size w (w.alloc (.cells #[] 45)) := (Below.refl _ _).alloc (Nat.le_refl _) _
  have c1 : (w.alloc (.cells #[] 45)).cell? ⟨r, 1, none⟩ = some vN := (World.cell?_of_block (w := w) (hb0.block r h.cells.lt)).trans h.c1
  have hn := h.ok.small
  obtain ⟨v1, w1, hrun, hown1, hb1, hg1⟩ := run_append_rows w B n 54 vN (nums (Dm.now a)) (nums_one _) h.now (by omega) hB
  obtain ⟨la, lc, hv1, _⟩ := own_formR hown1
  obtain ⟨na, nc, hvN, _⟩ := own_formR h.now
  subst hv1
  have hc1 : Whole w1 r 56 #[vL, vN, vD, .bool a.down] := h.cells.keep (hb1.block r h.cells.lt)
  obtain ⟨x0, hx0⟩ : ∃ x0, w1.cell? ⟨r, 0, none⟩ = some x0 := ⟨vL, hc1.cell 0⟩
  have f0 : w1.frozen? ⟨r, 0, none⟩ = false := hc1.frozen 0
  have hc2 : Whole (w1.setCell ⟨r, 0, none⟩ (.slice la n lc)) r 56 #[.slice la n lc, vN, vD, .bool a.down] := hc1.set 0 _
  have hg2 := grown_cell w1 r 0 (.slice la n lc)
  obtain ⟨w2, h2⟩ : ∃ w2, w1.setCell ⟨r, 0, none⟩ (.slice la n lc) = w2 := ⟨_, rfl⟩
  rw [h2] at hc2 hg2
  obtain ⟨x2, hx2⟩ : ∃ x2, w2.cell? ⟨r, 2, none⟩ = some x2 := ⟨vD, hc2.cell 2⟩
  have f2 : w2.frozen? ⟨r, 2, none⟩ = false := hc2.frozen 2
  have hc3 : Whole (w2.setCell ⟨r, 2, none⟩ (.slice none 0 0)) r 56 #[.slice la n lc, vN, .slice none 0 0, .bool a.down] := hc2.set 2 _
  have hg3 := grown_cell w2 r 2 (.slice none 0 0)
  have hl3 := rk_far (g := 0) hc2 hg3 (rk_far (g := 0) hc1 hg2 hown1 (by decide)) (by decide)
  have hn3 := rk_far (g := 0) hc2 hg3 (rk_far (g := 0) hc1 hg2 (own_below h.now hb1) (by decide)) (by decide)
  have HF : Hid ((∃ vL' vN' vD', Rk (w2.setCell ⟨r, 2, none⟩ (.slice none 0 0)) B r vL' vN' vD' (Dm.flush a) n) ∧ RF B w (w2.setCell ⟨r, 2, none⟩ (.slice none 0 0))) := Lib.hid (by
    refine ⟨⟨_, _, _, hc3, hl3, hn3, ⟨rfl, Or.inl ⟨rfl, rfl⟩⟩, ?_, h.base, Dm.flush_ok h.ok⟩, ((RF.of_below hb1).trans (RF.of_grown hg2 h.base hc1 (Or.inl rfl))).trans (RF.of_grown hg3 h.base hc2 (Or.inl rfl))⟩
    intro g e1 e2
    have h3 := hg1 g e1
    obtain ⟨cu, h4, _⟩ := own_block h.now e2
    have := (Array.getElem?_eq_some_iff.1 h4).1
    omega)
  have HRUN := Lib.hid hrun
  have H2 := Lib.hid h2
  rw [hvN] at c1
  have HVN := Lib.hid hvN
  clear h hd hb0 hn hrun hown1 hb1 hg1 hvN hc1 hc2 hg2 hc3 hg3 hl3 hn3 h2
  go_enter Try.func18, Try.ntmps18
  go_upto_region 4 with (first | (at_builtin; refine wpList_append_run rfl (.tmp 8) (.tmp 12) 54 54 rfl rfl (.slice (some ⟨w.heap.size, 0, none⟩) 0 0) (.slice na n nc) (.slice la n lc) w1 rfl rfl (by have := HRUN.out; rw [HVN.out] at this; exact this) ?_) | fail)
  rw [H2.out]
  go_wp2
  go_ret
  exact ⟨rfl, HF.out⟩
theorem rflush_down {w : World} {r : Nat} (c3 : w.cell? ⟨r, 3, none⟩ = some (.bool true)) :
    Calls Try.prog 18 #[.pointer (some ⟨r, 0, none⟩)] w fun e w' => e = .returned (.int .i64 60) ∧ w = w' := by
  go_enter Try.func18, Try.ntmps18
  go_wp2
  go_ret
  exact ⟨rfl, rfl⟩
theorem rcrash_down {w : World} {r : Nat} {v : Value} (c3 : w.cell? ⟨r, 3, none⟩ = some (.bool true)) :
    Calls Try.prog 20 #[.pointer (some ⟨r, 0, none⟩), v] w fun e w' => e = .returned (.tuple #[]) ∧ w = w' := by
  go_enter Try.func20, Try.ntmps20
  go_wp2
  exact bodyPost_ret (v := .tuple #[]) (by simp [results, Try.results20]) rfl ⟨rfl, rfl⟩
end Go.Proofs.Ytfecobkpdmjaeaa
