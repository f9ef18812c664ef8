/-
  The walks of the document's Start, Read, Flush.
-/
import Derived.Test.YtfhaipeimpaeiaaYb
namespace Go.Proofs.Ytfhaipeimpaeiaa
open Go.RowKit
set_option linter.unusedVariables false
set_option linter.unusedSimpArgs false
theorem b_infos : ∃ i z, Try.prog.info? 32 = some i ∧ i.zero = some z ∧ i.size = 64 ∧ i.bytes = 64 ∧ z.cells.size = 64 := by
  have h : (Try.prog.info? 32).map (fun i => (i.zero, i.size, i.bytes)) = some (some (.agg zb), 64, 64) := by kernel_rfl
  cases hq : Try.prog.info? 32 with
  | none => rw [hq] at h; cases h
  | some i =>
    rw [hq] at h
    simp only [Option.map_some, Option.some.injEq, Prod.mk.injEq] at h
    exact ⟨i, .agg zb, rfl, h.1, h.2.1, h.2.2, rfl⟩
theorem run_append_rows (w : World) (B n : Nat) (ty : TypeId) (u : Value) (xs : List Value) (h1 : ∀ x ∈ xs, x.oneCell' = true) (hown : w.ownsRow B 32 64 u n xs) (hn : n ≤ 100000) (hB : B ≤ w.heap.size) :
    ∃ v' w', (Builtin.append_ #[38, 38] ty #[.slice (some ⟨w.heap.size, 0, none⟩) 0 0, u]).run Try.prog (w.alloc (.cells #[] 32)) = .ok v' w' ∧ w'.ownsRow B 32 64 v' n xs ∧ Below w.heap.size w w' ∧ ∀ g, v'.ownBlock = some g → w.heap.size ≤ g := by
  obtain ⟨i, z, hi, hz, hs, hb, hzs⟩ := b_infos
  have hb0 : Below w.heap.size w (w.alloc (.cells #[] 32)) := (Below.refl _ _).alloc (Nat.le_refl _) _
  have how := own_below hown hb0
  have hbase : (w.alloc (.cells #[] 32)).ownsRow B 32 64 (.slice (some ⟨w.heap.size, 0, none⟩) 0 0) 0 [] := ⟨rfl, Or.inr ⟨w.heap.size, 0, #[], rfl, hB, heap_alloc_new w _, Nat.le_refl _, Nat.zero_le _, rfl, rfl⟩⟩
  rcases how.2 with ⟨rfl, rfl⟩ | ⟨g, cap, cur, rfl, hgB, hg, hnc, hcm, hcs, hct⟩
  · have hx : xs = [] := List.eq_nil_of_length_eq_zero (by have := how.1; omega)
    subst hx
    refine ⟨_, _, ?_, hbase, hb0, fun g e => by cases e; exact Nat.le_refl _⟩
    simp [Builtin.append_, run_underlying Try.underlying38, sizeOf, typeInfo, hi, Builtin.lenOf, Builtin.firstCells, storeCells]
  · have hnews : ∀ j x, xs[j]? = some x → (w.alloc (.cells #[] 32)).cell? ((⟨g, 0, none⟩ : Addr).add j) = some x := fun j x hx => by
      rw [Addr.add_lit, Nat.zero_add, cell_of_row _ g j cur 32 (0, 0) hg, ← hx, ← hct, List.getElem?_take, if_pos, Array.getElem?_toList]
      have := (List.getElem?_eq_some_iff.1 hx).1
      have := how.1
      omega
    obtain ⟨v', w', hrun, h2, h3, _, h5⟩ := run_append_own_at (P := Try.prog) (w := w.alloc (.cells #[] 32)) B 38 ty 32 i z 64 64 Try.underlying38 hi hz hs hb hzs (by omega) _ 0 [] hbase ⟨g, 0, none⟩ n cap xs how.1 hnews h1 (by unfold maxLen; omega) (by omega) (by simp; omega)
    refine ⟨v', w', hrun, by simpa using h2, hb0.trans ⟨h3.os, h3.tape, h3.output, h3.size, fun j hj => h3.block j (by simp; omega) (fun e => by injection e with e; have e' : j = w.heap.size := e; omega)⟩, fun g' e => ?_⟩
    rcases h5 with h | h
    · rw [h] at e; cases e; exact Nat.le_refl _
    · rw [h] at e; cases e; simp
theorem rstart_any {w : World} {B r n : Nat} {vL vN vD : Value} {a : Dm.A} (h : Rk w B r vL vN vD a n) :
    Calls Try.prog 19 #[.pointer (some ⟨r, 0, none⟩)] w fun e w' => e = .returned (.tuple #[]) ∧ Rk w' B r vL vN vD (Dm.start a) n ∧ RF B w w' := by
  have c3 := h.c3
  have f3 : w.frozen? ⟨r, 3, none⟩ = false := h.cells.frozen 3
  have H := Lib.hid h
  clear h
  go_enter Try.func19, Try.ntmps19
  go_wp2
  go_end0
  have h := H.out
  have hg : w.grownBy (w.setCell ⟨r, 3, none⟩ (.bool false)) (some r) := ⟨rfl, rfl, rfl, by simp [World.setCell], fun k _ hne => Below.heap_setCell w ⟨r, 3, none⟩ _ k (fun e => hne (by rw [e]))⟩
  have hrn : ∀ (g : Nat) (t : TypeId) (cu : Array Value), w.heap[g]? = some (.cells cu t (0, 0)) → t ≠ 40 → (w.setCell ⟨r, 3, none⟩ (.bool false)).heap[g]? = w.heap[g]? := fun g t cu hgc ht => hg.block g (Array.getElem?_eq_some_iff.1 hgc).1 (fun e => by
    cases e
    have h2 := h.cells
    unfold Whole at h2
    rw [h2] at hgc
    injection hgc with h3
    injection h3 with _ h4
    exact ht h4.symm)
  refine ⟨rfl, ⟨?_, own_keep h.last (fun g cu hgc => hrn g _ cu hgc (by decide)), own_keep h.now (fun g cu hgc => hrn g _ cu hgc (by decide)), own_keep h.dirty (fun g cu hgc => hrn g _ cu hgc (by decide)), h.apart, h.base, Dm.start_ok h.ok⟩, RF.of_grown hg h.base h.cells (Or.inl rfl)⟩
  have := h.cells.set 3 (.bool false)
  exact this
set_option maxRecDepth 100000 in
set_option maxHeartbeats 4000000 in
theorem rread_z {w : World} {B r n : Nat} {z : Int} {vL vN vD : Value} {a : Dm.A} (h : Rk w B r vL vN vD a n) :
    Calls Try.prog 26 #[.pointer (some ⟨r, 0, none⟩), .int .i64 z] w fun e w' => e = .returned (.tuple #[.agg (nums (rdz a n z)).toArray, .int .i64 (bad a n z)]) ∧ Below w.heap.size w w' := by
  have hzb := zero_b
  have H := Lib.hid h
  obtain ⟨E, hE⟩ : ∃ E, bad a n z = E := ⟨_, rfl⟩
  rw [hE]
  obtain ⟨X, hX⟩ : ∃ X, rdz a n z = X := ⟨_, rfl⟩
  rw [hX]
  have HX := Lib.hid hX
  clear hX
  have hb : Below w.heap.size w (w.alloc (.cells zb 32)) := (Below.refl _ _).alloc (Nat.le_refl _) _
  have H1 := Lib.hid (And.intro (h.below hb) (And.intro (Whole.new w 32 zb) hb))
  have HE := Lib.hid hE
  clear h hb hE
  go_enter Try.func26, Try.ntmps26
  go_wp2_with fail
  obtain ⟨w1, h1⟩ : ∃ w1, w.alloc (.cells zb 32) = w1 := ⟨_, rfl⟩
  rw [h1] at H1 ⊢
  clear h1
  refine (wrong_any (z := z) H1.out.1).mono ?_
  rintro e w' ⟨rfl, rfl⟩
  rw [HE.out]
  clear hzb
  by_cases hz : E = 0
  · have hz' := bad_zero.1 (HE.out.trans hz)
    obtain ⟨k, rfl⟩ := Int.eq_ofNat_of_zero_le hz'.2.1
    have hkn : k < n := by omega
    have hrd : rdz a n (k : Int) = Dm.blk (Dm.now a) k := by unfold rdz; rw [if_pos (HE.out.trans hz), (Dm.now_get H.out.ok).2.2]; rfl
    have hb : Dm.blk (Dm.now a) k = X := (HX.out.symm.trans hrd).symm
    have hbl : X.length = 64 := by rw [← hb]; exact Dm.blk_len (Dm.now_get H.out.ok).1 hkn
    have HB := Lib.hid (And.intro hb hbl)
    obtain ⟨b, hbX⟩ : ∃ b, b = X := ⟨_, rfl⟩
    subst hbX
    have c1 := H1.out.1.c1
    obtain ⟨nb, nc, cur, hvN, hnbB, hnb, hns, hnt, _⟩ := own_at H1.out.1.now (by omega)
    have hrg : w1.rangeAt nb (k * 64) (nums b) := fun j v hv => by
      have hj : j < 64 := by have := (List.getElem?_eq_some_iff.1 hv).1; rw [nums_len, hbl] at this; exact this
      rw [hnb.cell]
      have := congrArg (·[k * 64 + j]?) hnt
      simp only [List.getElem?_take] at this
      rw [if_pos (by omega), Array.getElem?_toList] at this
      rw [this, ← hv, ← hb]
      unfold nums
      rw [List.getElem?_map, List.getElem?_map, Dm.blk_get, if_pos hj, Nat.mul_comm]
    have HRG := Lib.hid hrg
    subst hz hvN
    have q1 : (k : Int) < (n : Int) := by omega
    clear hz' hrd hb hbl hnbB hnb hns hnt hrg
    go_wp2_with (first | ((with_reducible show wpList _ _ _ ((⟨_, Op.load 32 _, _, _, _, _⟩ : Oper) :: _) _ _); refine wpList_load_mid rfl 32 (.tmp 19) rfl nb (k * 64) rfl (nums b) _ HRG.out und_b rfl (info_bm HB.out.2) ?_) | ((with_reducible show wpList _ _ _ ((⟨_, Op.store 32 _ _, _, _, _, _⟩ : Oper) :: _) _ _); refine wpList_store_row rfl 32 (.tmp 4) (.tmp 20) rfl w.heap.size (nums b).toArray rfl rfl 32 zb H1.out.2.1 (info_bn HB.out.2) (size_bn HB.out.2) (all_nums _) ?_) | fail)
    refine ⟨rfl, _, results_cell_tmp rfl _ _ _ _ rfl (loadVar_b (H1.out.2.1.row (nums b).toArray) HB.out.2) rfl, rfl, below_row H1.out.2.2 (Nat.le_refl _) _⟩
  · have hz' : (E == 0) = false := by simpa using hz
    obtain rfl : X = z64 := HX.out.symm.trans (rdz_none (by rw [HE.out]; exact hz))
    clear hz
    go_wp2_with (first | ((with_reducible show wpList _ _ _ ((⟨_, Op.build 32 _, _, _, _, _⟩ : Oper) :: _) _ _); refine wpList_built rfl _ rfl _ rfl _ built_z ?_) | ((with_reducible show wpList _ _ _ ((⟨_, Op.store 32 _ _, _, _, _, _⟩ : Oper) :: _) _ _); refine wpList_store_row rfl 32 (.tmp 4) (.tmp 12) rfl w.heap.size (nums z64).toArray rfl rfl 32 zb H1.out.2.1 (info_bn z64_len) (size_bn z64_len) (all_nums _) ?_) | fail)
    refine ⟨rfl, _, results_cell_tmp rfl _ _ _ _ rfl (loadVar_b (H1.out.2.1.row (nums z64).toArray) z64_len) rfl, rfl, below_row H1.out.2.2 (Nat.le_refl _) _⟩
theorem nums_ones (l : List Int) : ∀ x ∈ nums l, x.oneCell' = true := nums_one l
theorem rk_far {w w' : World} {r g n s B : Nat} {t e : TypeId} {v : Value} {xs : List Value} {cs : Array Value} (hr : Whole w r t cs) (hg : w.grownBy w' (some r)) (h : w.ownsRow B e s v n xs) (ht : e ≠ t) : w'.ownsRow B e s v n xs :=
  own_keep h fun g cu hgc => hg.block g (Array.getElem?_eq_some_iff.1 hgc).1 (fun e1 => by
    cases e1
    unfold Whole at hr
    rw [hr] at hgc
    injection hgc with h3
    injection h3 with _ h4
    exact ht h4.symm)
theorem grown_cell (w : World) (r i : Nat) (v : Value) : w.grownBy (w.setCell ⟨r, i, none⟩ v) (some r) := ⟨rfl, rfl, rfl, by simp [World.setCell], fun k _ hne => Below.heap_setCell w ⟨r, i, none⟩ _ k (fun e => hne (by rw [e]))⟩
set_option maxHeartbeats 4000000 in
theorem rflush_any {w : World} {B r n : Nat} {vL vN vD : Value} {a : Dm.A} (h : Rk w B r vL vN vD a n) (hd : a.down = false) (hB : B ≤ w.heap.size) :
    Calls Try.prog 27 #[.pointer (some ⟨r, 0, none⟩)] w fun e w' => e = .returned (.int .i64 0) ∧ (∃ vL' vN' vD', Rk w' B r vL' vN' vD' (Dm.flush a) n) ∧ RF B w w' := by
  have c3 : w.cell? ⟨r, 3, none⟩ = some (.bool false) := by rw [h.c3, hd]
  have H := Lib.hid h
  have hb0 : Below w.heap.size w (w.alloc (.cells #[] 32)) := (Below.refl _ _).alloc (Nat.le_refl _) _
  have c1 : (w.alloc (.cells #[] 32)).cell? ⟨r, 1, none⟩ = some vN := (World.cell?_of_block (w := w) (hb0.block r h.cells.lt)).trans h.c1
  have hn := h.ok.small
  obtain ⟨v1, w1, hrun, hown1, hb1, hg1⟩ := run_append_rows w B n 38 vN (nums (Dm.now a)) (nums_one _) h.now (by omega) hB
  obtain ⟨la, lc, hv1, _⟩ := own_form hown1
  obtain ⟨na, nc, hvN, _⟩ := own_form h.now
  subst hv1
  have hc1 : Whole w1 r 40 #[vL, vN, vD, .bool a.down] := h.cells.keep (hb1.block r h.cells.lt)
  obtain ⟨x0, hx0⟩ : ∃ x0, w1.cell? ⟨r, 0, none⟩ = some x0 := ⟨vL, hc1.cell 0⟩
  have f0 : w1.frozen? ⟨r, 0, none⟩ = false := hc1.frozen 0
  have hc2 : Whole (w1.setCell ⟨r, 0, none⟩ (.slice la n lc)) r 40 #[.slice la n lc, vN, vD, .bool a.down] := hc1.set 0 _
  have hg2 := grown_cell w1 r 0 (.slice la n lc)
  obtain ⟨w2, h2⟩ : ∃ w2, w1.setCell ⟨r, 0, none⟩ (.slice la n lc) = w2 := ⟨_, rfl⟩
  rw [h2] at hc2 hg2
  obtain ⟨x2, hx2⟩ : ∃ x2, w2.cell? ⟨r, 2, none⟩ = some x2 := ⟨vD, hc2.cell 2⟩
  have f2 : w2.frozen? ⟨r, 2, none⟩ = false := hc2.frozen 2
  have hc3 : Whole (w2.setCell ⟨r, 2, none⟩ (.slice none 0 0)) r 40 #[.slice la n lc, vN, .slice none 0 0, .bool a.down] := hc2.set 2 _
  have hg3 := grown_cell w2 r 2 (.slice none 0 0)
  have hl3 := rk_far (g := 0) hc2 hg3 (rk_far (g := 0) hc1 hg2 hown1 (by decide)) (by decide)
  have hn3 := rk_far (g := 0) hc2 hg3 (rk_far (g := 0) hc1 hg2 (own_below h.now hb1) (by decide)) (by decide)
  have HF : Hid ((∃ vL' vN' vD', Rk (w2.setCell ⟨r, 2, none⟩ (.slice none 0 0)) B r vL' vN' vD' (Dm.flush a) n) ∧ RF B w (w2.setCell ⟨r, 2, none⟩ (.slice none 0 0))) := Lib.hid (by
    refine ⟨⟨_, _, _, hc3, hl3, hn3, ⟨rfl, Or.inl ⟨rfl, rfl⟩⟩, ?_, h.base, Dm.flush_ok h.ok⟩, ((RF.of_below hb1).trans (RF.of_grown hg2 h.base hc1 (Or.inl rfl))).trans (RF.of_grown hg3 h.base hc2 (Or.inl rfl))⟩
    intro g e1 e2
    have h3 := hg1 g e1
    obtain ⟨cu, h4, _⟩ := own_block h.now e2
    have := (Array.getElem?_eq_some_iff.1 h4).1
    omega)
  have HRUN := Lib.hid hrun
  have H2 := Lib.hid h2
  rw [hvN] at c1
  have HVN := Lib.hid hvN
  clear h hd hb0 hn hrun hown1 hb1 hg1 hvN hc1 hc2 hg2 hc3 hg3 hl3 hn3 h2
  go_enter Try.func27, Try.ntmps27
  go_upto_region 4 with (first | (at_builtin; refine wpList_append_run rfl (.tmp 8) (.tmp 12) 38 38 rfl rfl (.slice (some ⟨w.heap.size, 0, none⟩) 0 0) (.slice na n nc) (.slice la n lc) w1 rfl rfl (by have := HRUN.out; rw [HVN.out] at this; exact this) ?_) | fail)
  rw [H2.out]
  go_wp2
  go_ret
  exact ⟨rfl, HF.out⟩
theorem rflush_down {w : World} {r : Nat} (c3 : w.cell? ⟨r, 3, none⟩ = some (.bool true)) :
    Calls Try.prog 27 #[.pointer (some ⟨r, 0, none⟩)] w fun e w' => e = .returned (.int .i64 60) ∧ w = w' := by
  go_enter Try.func27, Try.ntmps27
  go_wp2
  go_ret
  exact ⟨rfl, rfl⟩
theorem rcrash_down {w : World} {r : Nat} {v : Value} (c3 : w.cell? ⟨r, 3, none⟩ = some (.bool true)) :
    Calls Try.prog 28 #[.pointer (some ⟨r, 0, none⟩), v] w fun e w' => e = .returned (.tuple #[]) ∧ w = w' := by
  go_enter Try.func28, Try.ntmps28
  go_wp2
  exact bodyPost_ret (v := .tuple #[]) (by simp [results, Try.results28]) rfl ⟨rfl, rfl⟩
end Go.Proofs.Ytfhaipeimpaeiaa
