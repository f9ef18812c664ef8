/-
  The document's Append, where it goes on to write.
-/
import Derived.Test.YtfecobkpdmjaeaaVf
namespace Go.Proofs.Ytfecobkpdmjaeaa
open Go.RowKit
set_option linter.unusedVariables false
set_option linter.unusedSimpArgs false
set_option maxRecDepth 20000
/-- Blocks that the document's journal never writes to: those ahead of B, and all but its own kinds. -/
structure RG (B : Nat) (w w' : World) : Prop where
  os : w'.os = w.os
  tape : w'.tape = w.tape
  output : w'.output = w.output
  size : w.heap.size ≤ w'.heap.size
  block : ∀ i, i < w.heap.size → (i < B ∨ ∀ cur fr, w.heap[i]? ≠ some (.cells cur 56 fr) ∧ w.heap[i]? ≠ some (.cells cur 45 fr) ∧ w.heap[i]? ≠ some (.cells cur 51 fr)) → w'.heap[i]? = w.heap[i]?
theorem RG.refl (B : Nat) (w : World) : RG B w w := ⟨rfl, rfl, rfl, Nat.le_refl _, fun _ _ _ => rfl⟩
theorem RG.trans {B : Nat} {a b c : World} (h : RG B a b) (k : RG B b c) : RG B a c :=
  ⟨k.os.trans h.os, k.tape.trans h.tape, k.output.trans h.output, Nat.le_trans h.size k.size, fun i hi hn => by
    have e := h.block i hi hn
    rw [← e]
    exact k.block i (Nat.lt_of_lt_of_le hi h.size) (by rcases hn with hn | hn
                                                       · exact Or.inl hn
                                                       · exact Or.inr (by rw [e]; exact hn))⟩
theorem RG.of_rf {B : Nat} {a b : World} (h : RF B a b) : RG B a b := ⟨h.os, h.tape, h.output, h.size, fun i hi hn => h.block i hi (by rcases hn with hn | hn
                                                                                                                                       · exact Or.inl hn
                                                                                                                                       · exact Or.inr fun cur fr => ⟨(hn cur fr).1, (hn cur fr).2.1⟩)⟩
theorem RG.of_below {B : Nat} {a b : World} (h : Below a.heap.size a b) : RG B a b := RG.of_rf (RF.of_below h)
theorem RG.of_journal {B j : Nat} {a b : World} (ho : Only [j] a b) (hB : B ≤ j) {cur : Array Value} (hj : Whole a j 51 cur) : RG B a b :=
  ⟨ho.os, ho.tape, ho.output, ho.size, fun i hi hn => ho.block i hi (by
    simp only [List.mem_cons, List.not_mem_nil, or_false]
    intro e
    subst e
    rcases hn with hn | hn
    · omega
    · exact (hn cur (0, 0)).2.2 hj)⟩
theorem RG.below {B : Nat} {a b : World} (h : RG B a b) (hB : B ≤ a.heap.size) : Below B a b := ⟨h.os, h.tape, h.output, h.size, fun i hi => h.block i (by omega) (Or.inl hi)⟩
theorem rf_recs {B B2 : Nat} {w w' : World} {v : Value} {L : List (List Int)} (h : Recs w B v L) (hf : RF B2 w w') : Recs w' B v L :=
  h.keep fun g cur t _ ht hc => hf.block g (Array.getElem?_eq_some_iff.1 hc).1 (Or.inr fun cu fr => ⟨fun e => by rw [hc] at e; injection e with e1; injection e1 with _ e2; rcases ht with rfl | rfl <;> exact absurd e2 (by decide), fun e => by rw [hc] at e; injection e with e1; injection e1 with _ e2; rcases ht with rfl | rfl <;> exact absurd e2 (by decide)⟩)
theorem rf_journal {B2 B j r fr m life used : Nat} {w w' : World} {v : Value} {L : List (List Int)} (h : Rj w B j r v fr m life used L) (hf : RF B2 w w') : Rj w' B j r v fr m life used L :=
  ⟨hf.whole h.cells (by decide) (by decide), rf_recs h.recs hf⟩
theorem rf_txt {B : Nat} {w w' : World} {S : Nat → Prop} {a : Option Addr} {n c : Nat} {t : List Int} (h : Txt w S a n c t) (hS : ∀ b, S b → b < B) (hf : RF B w w') : Txt w' S a n c t :=
  h.keep hf.size fun b hb hs => hf.block b hb (Or.inl (hS b hs))
theorem Rk.aside {w w' : World} {B r n j : Nat} {vL vN vD : Value} {a : Dm.A} {cur : Array Value} (h : Rk w B r vL vN vD a n) (ho : Only [j] w w') (hj : Whole w j 51 cur) : Rk w' B r vL vN vD a n := by
  have key : ∀ (g : Nat) (c : Array Value) (e : TypeId), e ≠ 51 → w.heap[g]? = some (.cells c e (0, 0)) → w'.heap[g]? = w.heap[g]? := fun g c e he hg => ho.block g (Array.getElem?_eq_some_iff.1 hg).1 (fun hm => by
    simp at hm
    subst hm
    have h1 := hj
    unfold Whole at h1
    rw [h1] at hg
    injection hg with h3
    injection h3 with _ h4
    exact he h4.symm)
  exact ⟨h.cells.keep (key _ _ _ (by decide) h.cells), own_keep h.last (fun g c hg => key g c _ (by decide) hg), own_keep h.now (fun g c hg => key g c _ (by decide) hg), own_keep h.dirty (fun g c hg => key g c _ (by decide) hg), h.apart, h.base, h.ok⟩
theorem run_append_vals (w : World) (base : Nat) (ty : TypeId) (v : Value) (n : Nat) (xs : List Value) (hown : w.ownsRow base 37 1 v n xs) (B2 m : Nat) (u : Value) (ys : List Value) (hu : w.ownsRow B2 37 1 u m ys) (h1 : ∀ y ∈ ys, y.oneCell' = true) (hn : n + m ≤ 1000000) (hbase : base ≤ w.heap.size) :
    ∃ v' w', (Builtin.append_ #[48, 48] ty #[v, u]).run Try.prog w = .ok v' w' ∧ w'.ownsRow base 37 1 v' (n + m) (xs ++ ys) ∧ w.grownBy w' v.ownBlock := by
  obtain ⟨i0, hi0, hz0, hz1, hz2⟩ := info_parts sl_info
  have hl := hu.1
  rcases hu.2 with ⟨rfl, rfl⟩ | ⟨g, cap, cur, rfl, hg, hcur, hmc, hcl, hsz, _⟩
  · obtain rfl : ys = [] := List.eq_nil_of_length_eq_zero (by omega)
    refine ⟨v, w, ?_, by simpa using hown, World.grownBy.refl w _⟩
    rcases hown.2 with ⟨rfl, rfl⟩ | ⟨g, cap, cur, rfl, _, _, hnc, _⟩
    · simp [Builtin.append_, run_underlying Try.underlying48, sizeOf, typeInfo, hi0, Builtin.lenOf, Builtin.firstCells]
    · simp [Builtin.append_, run_underlying Try.underlying48, sizeOf, typeInfo, hi0, Builtin.lenOf, Builtin.firstCells, hnc, storeCells]
  · obtain ⟨v', w', hrun, h2, h3, _, _⟩ := run_append_own_at (P := Try.prog) w base 48 ty 37 i0 (.slice none 0 0) 1 24 Try.underlying48 hi0 hz0 hz1 hz2 rfl (by omega) v n xs hown ⟨g, 0, none⟩ m cap ys (by omega) (fun j y hy => hu.cells rfl j y hy) h1 (by unfold maxLen; omega) (by omega) hbase
    exact ⟨v', w', hrun, h2, h3⟩
theorem recs_ones {w : World} {B : Nat} {L : List (List Int)} {vs : List Value} (hl : vs.length = L.length) (h : ∀ (k : Nat) (l : List Int), L[k]? = some l → ∃ u, (vs : List Value)[k]? = some u ∧ RowU w B u l) : ∀ y ∈ vs, y.oneCell' = true := by
  intro y hy
  obtain ⟨k, hk, rfl⟩ := List.getElem_of_mem hy
  obtain ⟨u, h1, h2⟩ := h k (L[k]'(by omega)) (List.getElem?_eq_getElem (by omega))
  rw [List.getElem?_eq_getElem hk] at h1
  injection h1 with h1
  rw [h1]
  obtain ⟨a, c, rfl, _⟩ := h2.form
  rfl
/-- What the document's Append answers, where the record is one and there is room. -/
def RApp (w : World) (B j r fr m life used n : Nat) (L : List (List Int)) (A : Dm.A) (t : List Int) (e : Ending) (w' : World) : Prop :=
  (A.down = true ∧ e = .returned (.int .i64 60) ∧ (∃ v, Rj w' B j r v fr m life used L) ∧ (∃ vL vN vD, Rk w' B r vL vN vD A n) ∧ RG B w w') ∨
  (A.down = false ∧ e = .returned (.int .i64 0) ∧ (∃ v, Rj w' B j r v fr m life (used + Jl.need t) (L ++ [t])) ∧ (∃ vL vN vD, Rk w' B r vL vN vD (wrs A (fr + used) t life (Jl.need t)) n) ∧ RG B w w')
set_option maxHeartbeats 8000000 in
theorem rAppend_any {w : World} {B j r n fr m life used nn c : Nat} {v vL vN vD : Value} {L : List (List Int)} {A : Dm.A} {a : Option Addr} {S : Nat → Prop} {t : List Int} (h : Rj w B j r v fr m life used L) (hr : Rk w B r vL vN vD A n) (ht : Txt w S a nn c t) (hS : ∀ b, S b → b < B) (hB : B ≤ w.heap.size) (hBj : B ≤ j) (h0 : 0 < nn) (h1 : nn ≤ 2000) (hu : used ≤ m) (hm : fr + m ≤ n) (hf : Jl.need t ≤ m - used) (hl : life ≤ 2199023255552) (hL : L.length ≤ 100000) :
    Calls Try.prog 16 #[.pointer (some ⟨j, 0, none⟩), .slice a nn c] w (RApp w B j r fr m life used n L A t) := by
  have hsm := hr.ok.small
  have c2 := h.c2
  have c4 := h.c4
  have q1 : ((nn : Int) == 0) = false := by simp; omega
  have q2 : ¬ (2000 : Int) < (nn : Int) := by omega
  have hnt : Jl.need t = (nn + 43) / 44 := by unfold Jl.need; rw [ht.1]
  obtain ⟨M, hM⟩ : ∃ M, (nn + 43) / 44 = M := ⟨_, rfl⟩
  rw [hnt, hM] at hf
  have HM := Lib.hid (And.intro hM (hnt.trans hM))
  have hM0 : 0 < M := by omega
  have hMn : 44 * (M - 1) < nn := by omega
  have q3 : ¬ (m : Int) - (used : Int) < (M : Int) := by omega
  have q4 : IntKind.i64.wrap ((m : Int) - (used : Int)) = (m : Int) - (used : Int) := IntWalk.i64_in _ (by omega)
  have HH := Lib.hid (And.intro h (And.intro hr (And.intro ht (And.intro hS (And.intro hB (And.intro hBj hL))))))
  clear h hr ht hS hM hB hnt hBj hL
  go_enter Try.func16, Try.ntmps16
  go_wp2_with fail
  refine (rneed_any (by omega)).mono ?_
  rintro e w1 ⟨rfl, rfl⟩
  rw [HM.out.1]
  go_wp2_with fail
  go_quiet (fail)
  rename_i nq
  obtain ⟨w0, hw0⟩ : ∃ w0, w.drewN nq = w0 := ⟨_, rfl⟩
  have hb0 : Below w.heap.size w w0 := by rw [← hw0]; exact below_drewN (Below.refl _ _) nq
  rw [hw0]
  have H0 : Hid (Rj w0 B j r v fr m life used L ∧ (∃ vD, Rk w0 B r vL vN vD (wrs A (fr + used) t life 0) n) ∧ RF B w w0) := Lib.hid ⟨HH.out.1.below hb0, ⟨vD, HH.out.2.1.below hb0⟩, RF.of_below hb0⟩
  clear hw0 hb0 q4 q3 c2 c4
  go_wp2
  go_loopw [6] (fun vi wr => ∃ k : Nat, k ≤ M ∧ vi = .int .i64 (k : Int) ∧ (A.down = true → k = 0) ∧ Hid (Rj wr B j r v fr m life used L ∧ (∃ vD, Rk wr B r vL vN vD (wrs A (fr + used) t life k) n) ∧ RF B w wr)) (fun vi _ => M - (intOf vi).toNat)
  case atStart => exact ⟨0, Nat.zero_le _, rfl, (fun _ => rfl), H0⟩
  case round =>
    clear H0
    obtain ⟨k, hk, rfl, hdk, HX⟩ := hrel
    have HDK := Lib.hid hdk
    clear hdk
    by_cases hlt : k < M
    · have q3 : (k : Int) < (M : Int) := by omega
      obtain ⟨vD1, hr1⟩ := HX.out.2.1
      have HR := Lib.hid hr1
      clear hr1
      have s1 : IntKind.i64.wrap ((fr : Int) + (used : Int)) = (fr : Int) + (used : Int) := IntWalk.i64_in _ (by omega)
      have s2 : IntKind.i64.wrap ((fr : Int) + (used : Int) + (k : Int)) = (fr : Int) + (used : Int) + (k : Int) := IntWalk.i64_in _ (by omega)
      have cj : wr.cell? ⟨j, 0, none⟩ = some (.pointer (some ⟨r, 0, none⟩)) ∧ wr.cell? ⟨j, 1, none⟩ = some (.int .i64 (fr : Int)) ∧ wr.cell? ⟨j, 3, none⟩ = some (.int .i64 (life : Int)) ∧ wr.cell? ⟨j, 4, none⟩ = some (.int .i64 (used : Int)) := ⟨HX.out.1.c0, HX.out.1.c1, HX.out.1.c3, HX.out.1.c4⟩
      go_upto_region 9 with fail
      refine wp_region_held_drew (S := fun w' => w'.cell? ⟨j, 0, none⟩ = some (.pointer (some ⟨r, 0, none⟩)) ∧ w'.cell? ⟨j, 1, none⟩ = some (.int .i64 (fr : Int)) ∧ w'.cell? ⟨j, 3, none⟩ = some (.int .i64 (life : Int)) ∧ w'.cell? ⟨j, 4, none⟩ = some (.int .i64 (used : Int))) (by kernel_rfl) cj (fun hHeld => ?_)
      refine wpAnyH_take (i := 0) (v := .pointer (some ⟨j, 0, none⟩)) rfl (by kernel_rfl) (by kernel_rfl) (by kernel_rfl) (fun _ _ _ h => h) (Or.inl ⟨by rfl, (by intro w hSw; (try dsimp only at hSw); go_simp)⟩) (by assumption) ?_
      try simp only [Act.put, List.getElem_toArray, List.getElem_cons_zero, List.getElem_cons_succ, List.setIfInBounds_toArray, List.set_cons_zero, List.set_cons_succ]
      refine wpAnyH_take (i := 1) (v := .pointer (some ⟨j, 0, none⟩)) rfl (by kernel_rfl) (by kernel_rfl) (by kernel_rfl) (fun _ _ _ h => h) (Or.inl ⟨by rfl, (by intro w hSw; (try dsimp only at hSw); go_simp)⟩) (by assumption) ?_
      try simp only [Act.put, List.getElem_toArray, List.getElem_cons_zero, List.getElem_cons_succ, List.setIfInBounds_toArray, List.set_cons_zero, List.set_cons_succ]
      refine wpAnyH_take (i := 2) (v := .pointer (some ⟨j, 0, none⟩)) rfl (by kernel_rfl) (by kernel_rfl) (by kernel_rfl) (fun _ _ _ h => h) (Or.inl ⟨by rfl, (by intro w hSw; (try dsimp only at hSw); go_simp)⟩) (by assumption) ?_
      try simp only [Act.put, List.getElem_toArray, List.getElem_cons_zero, List.getElem_cons_succ, List.setIfInBounds_toArray, List.set_cons_zero, List.set_cons_succ]
      refine wpAnyH_take (i := 3) (v := .pointer (some ⟨r, 0, none⟩)) rfl (by kernel_rfl) (by kernel_rfl) (by kernel_rfl) (fun _ _ _ h => h) (Or.inl ⟨by rfl, (by intro w hSw; (try dsimp only at hSw); go_simp)⟩) (by assumption) ?_
      try simp only [Act.put, List.getElem_toArray, List.getElem_cons_zero, List.getElem_cons_succ, List.setIfInBounds_toArray, List.set_cons_zero, List.set_cons_succ]
      refine wpAnyH_take (i := 4) (v := .pointer (some ⟨j, 0, none⟩)) rfl (by kernel_rfl) (by kernel_rfl) (by kernel_rfl) (fun _ _ _ h => h) (Or.inl ⟨by rfl, (by intro w hSw; (try dsimp only at hSw); go_simp)⟩) (by assumption) ?_
      try simp only [Act.put, List.getElem_toArray, List.getElem_cons_zero, List.getElem_cons_succ, List.setIfInBounds_toArray, List.set_cons_zero, List.set_cons_succ]
      refine wpAnyH_take (i := 5) (v := .pointer (some ⟨j, 0, none⟩)) rfl (by kernel_rfl) (by kernel_rfl) (by kernel_rfl) (fun _ _ _ h => h) (Or.inl ⟨by rfl, (by intro w hSw; (try dsimp only at hSw); go_simp)⟩) (by assumption) ?_
      try simp only [Act.put, List.getElem_toArray, List.getElem_cons_zero, List.getElem_cons_succ, List.setIfInBounds_toArray, List.set_cons_zero, List.set_cons_succ]
      refine wpAnyH_take (i := 6) (v := .pointer (some ⟨j, 1, none⟩)) rfl (by kernel_rfl) (by kernel_rfl) (by kernel_rfl) (fun _ _ _ h => h) (Or.inl ⟨by rfl, (by intro w hSw; (try dsimp only at hSw); go_simp)⟩) (by assumption) ?_
      try simp only [Act.put, List.getElem_toArray, List.getElem_cons_zero, List.getElem_cons_succ, List.setIfInBounds_toArray, List.set_cons_zero, List.set_cons_succ]
      refine wpAnyH_take (i := 7) (v := .int .i64 (fr : Int)) rfl (by kernel_rfl) (by kernel_rfl) (by kernel_rfl) (fun _ _ _ h => h) (Or.inl ⟨by rfl, (by intro w hSw; (try dsimp only at hSw); go_simp)⟩) (by assumption) ?_
      try simp only [Act.put, List.getElem_toArray, List.getElem_cons_zero, List.getElem_cons_succ, List.setIfInBounds_toArray, List.set_cons_zero, List.set_cons_succ]
      refine wpAnyH_take (i := 8) (v := .pointer (some ⟨j, 0, none⟩)) rfl (by kernel_rfl) (by kernel_rfl) (by kernel_rfl) (fun _ _ _ h => h) (Or.inl ⟨by rfl, (by intro w hSw; (try dsimp only at hSw); go_simp)⟩) (by assumption) ?_
      try simp only [Act.put, List.getElem_toArray, List.getElem_cons_zero, List.getElem_cons_succ, List.setIfInBounds_toArray, List.set_cons_zero, List.set_cons_succ]
      refine wpAnyH_take (i := 9) (v := .pointer (some ⟨j, 0, none⟩)) rfl (by kernel_rfl) (by kernel_rfl) (by kernel_rfl) (fun _ _ _ h => h) (Or.inl ⟨by rfl, (by intro w hSw; (try dsimp only at hSw); go_simp)⟩) (by assumption) ?_
      try simp only [Act.put, List.getElem_toArray, List.getElem_cons_zero, List.getElem_cons_succ, List.setIfInBounds_toArray, List.set_cons_zero, List.set_cons_succ]
      refine wpAnyH_take (i := 10) (v := .pointer (some ⟨j, 4, none⟩)) rfl (by kernel_rfl) (by kernel_rfl) (by kernel_rfl) (fun _ _ _ h => h) (Or.inl ⟨by rfl, (by intro w hSw; (try dsimp only at hSw); go_simp)⟩) (by assumption) ?_
      try simp only [Act.put, List.getElem_toArray, List.getElem_cons_zero, List.getElem_cons_succ, List.setIfInBounds_toArray, List.set_cons_zero, List.set_cons_succ]
      refine wpAnyH_take (i := 11) (v := .int .i64 (used : Int)) rfl (by kernel_rfl) (by kernel_rfl) (by kernel_rfl) (fun _ _ _ h => h) (Or.inl ⟨by rfl, (by intro w hSw; (try dsimp only at hSw); go_simp)⟩) (by assumption) ?_
      try simp only [Act.put, List.getElem_toArray, List.getElem_cons_zero, List.getElem_cons_succ, List.setIfInBounds_toArray, List.set_cons_zero, List.set_cons_succ]
      refine wpAnyH_take (i := 12) (v := .int .i64 ((fr : Int) + (used : Int))) rfl (by kernel_rfl) (by kernel_rfl) (by kernel_rfl) (fun _ _ _ h => h) (Or.inl ⟨by rfl, (by intro w hSw; (try dsimp only at hSw); go_simp)⟩) (by assumption) ?_
      try simp only [Act.put, List.getElem_toArray, List.getElem_cons_zero, List.getElem_cons_succ, List.setIfInBounds_toArray, List.set_cons_zero, List.set_cons_succ]
      refine wpAnyH_take (i := 13) (v := .int .i64 (k : Int)) rfl (by kernel_rfl) (by kernel_rfl) (by kernel_rfl) (fun _ _ _ h => h) (Or.inl ⟨by rfl, (by intro w hSw; (try dsimp only at hSw); go_simp)⟩) (by assumption) ?_
      try simp only [Act.put, List.getElem_toArray, List.getElem_cons_zero, List.getElem_cons_succ, List.setIfInBounds_toArray, List.set_cons_zero, List.set_cons_succ]
      refine wpAnyH_take (i := 14) (v := .int .i64 ((fr : Int) + (used : Int) + (k : Int))) rfl (by kernel_rfl) (by kernel_rfl) (by kernel_rfl) (fun _ _ _ h => h) (Or.inl ⟨by rfl, (by intro w hSw; (try dsimp only at hSw); go_simp)⟩) (by assumption) ?_
      try simp only [Act.put, List.getElem_toArray, List.getElem_cons_zero, List.getElem_cons_succ, List.setIfInBounds_toArray, List.set_cons_zero, List.set_cons_succ]
      clear s1 s2
      refine wpAnyH_take (i := 15) (v := .slice a nn c) rfl (by kernel_rfl) (by kernel_rfl) (by kernel_rfl) (fun _ _ _ h => h) (Or.inl ⟨by rfl, (by intro w hSw; (try dsimp only at hSw); go_simp)⟩) (by assumption) ?_
      try simp only [Act.put, List.getElem_toArray, List.getElem_cons_zero, List.getElem_cons_succ, List.setIfInBounds_toArray, List.set_cons_zero, List.set_cons_succ]
      refine wpAnyH_take (i := 16) (v := .int .i64 (k : Int)) rfl (by kernel_rfl) (by kernel_rfl) (by kernel_rfl) (fun _ _ _ h => h) (Or.inl ⟨by rfl, (by intro w hSw; (try dsimp only at hSw); go_simp)⟩) (by assumption) ?_
      try simp only [Act.put, List.getElem_toArray, List.getElem_cons_zero, List.getElem_cons_succ, List.setIfInBounds_toArray, List.set_cons_zero, List.set_cons_succ]
      refine wpAnyH_take (i := 17) (v := .pointer (some ⟨j, 0, none⟩)) rfl (by kernel_rfl) (by kernel_rfl) (by kernel_rfl) (fun _ _ _ h => h) (Or.inl ⟨by rfl, (by intro w hSw; (try dsimp only at hSw); go_simp)⟩) (by assumption) ?_
      try simp only [Act.put, List.getElem_toArray, List.getElem_cons_zero, List.getElem_cons_succ, List.setIfInBounds_toArray, List.set_cons_zero, List.set_cons_succ]
      refine wpAnyH_take (i := 18) (v := .pointer (some ⟨j, 0, none⟩)) rfl (by kernel_rfl) (by kernel_rfl) (by kernel_rfl) (fun _ _ _ h => h) (Or.inl ⟨by rfl, (by intro w hSw; (try dsimp only at hSw); go_simp)⟩) (by assumption) ?_
      try simp only [Act.put, List.getElem_toArray, List.getElem_cons_zero, List.getElem_cons_succ, List.setIfInBounds_toArray, List.set_cons_zero, List.set_cons_succ]
      refine wpAnyH_take (i := 19) (v := .pointer (some ⟨j, 3, none⟩)) rfl (by kernel_rfl) (by kernel_rfl) (by kernel_rfl) (fun _ _ _ h => h) (Or.inl ⟨by rfl, (by intro w hSw; (try dsimp only at hSw); go_simp)⟩) (by assumption) ?_
      try simp only [Act.put, List.getElem_toArray, List.getElem_cons_zero, List.getElem_cons_succ, List.setIfInBounds_toArray, List.set_cons_zero, List.set_cons_succ]
      refine wpAnyH_take (i := 20) (v := .int .i64 (life : Int)) rfl (by kernel_rfl) (by kernel_rfl) (by kernel_rfl) (fun _ _ _ h => h) (Or.inl ⟨by rfl, (by intro w hSw; (try dsimp only at hSw); go_simp)⟩) (by assumption) ?_
      try simp only [Act.put, List.getElem_toArray, List.getElem_cons_zero, List.getElem_cons_succ, List.setIfInBounds_toArray, List.set_cons_zero, List.set_cons_succ]
      refine wpAnyH_ready (rs := [21]) (by kernel_rfl) (by simp) (AllReadyH.cons rfl (fun K hK => ?_) AllReadyH.nil)
      try simp only [List.getElem_toArray, List.getElem_cons_zero, List.getElem_cons_succ]
      go_simp
      have hws : B ≤ wr.heap.size := by have := HX.out.2.2.size; have := HH.out.2.2.2.2.1; omega
      refine (rblock_any (w := wr.drew) (r := t) (S := S) ((rf_txt HH.out.2.2.1 HH.out.2.2.2.1 HX.out.2.2).keep (Nat.le_refl _) (fun _ _ _ => rfl)) (fun b hb => by have := HH.out.2.2.2.1 b hb; show b < wr.heap.size; omega) (by omega) (by omega) hl).mono ?_
      rintro e w3 ⟨rfl, hb3⟩
      have hb3' := below_drew hb3
      have H3 := Lib.hid (And.intro (HX.out.1.below hb3') (And.intro (HR.out.below hb3') (HX.out.2.2.trans (RF.of_below hb3'))))
      have cj3 : w3.cell? ⟨j, 0, none⟩ = some (.pointer (some ⟨r, 0, none⟩)) ∧ w3.cell? ⟨j, 1, none⟩ = some (.int .i64 (fr : Int)) ∧ w3.cell? ⟨j, 3, none⟩ = some (.int .i64 (life : Int)) ∧ w3.cell? ⟨j, 4, none⟩ = some (.int .i64 (used : Int)) := ⟨H3.out.1.c0, H3.out.1.c1, H3.out.1.c3, H3.out.1.c4⟩
      obtain ⟨bk, hbk⟩ : ∃ bk, Jl.block t k life = bk := ⟨_, rfl⟩
      have HBK : Hid (Jl.block t k life = bk ∧ Blk bk) := Lib.hid ⟨hbk, by rw [← hbk]; exact blk_byt k life HH.out.2.2.1.2.2.1⟩
      rw [hbk]
      clear hbk hHeld cj hb3 hb3'
      go_wp2_with fail
      refine hK.out _ _ cj3 (fun hHeld => ?_)
      clear hK K hHeld
      try simp only [Act.put, List.getElem_toArray, List.getElem_cons_zero, List.getElem_cons_succ, List.setIfInBounds_toArray, List.set_cons_zero, List.set_cons_succ]
      have hHeld := cj3
      refine wpAnyH_ready (rs := [22]) (by kernel_rfl) (by simp) (AllReadyH.cons rfl (fun K hK => ?_) AllReadyH.nil)
      try simp only [List.getElem_toArray, List.getElem_cons_zero, List.getElem_cons_succ]
      go_simp
      have hws3 : B ≤ w3.heap.size := by have := H3.out.2.2.size; have := HH.out.2.2.2.2.1; omega
      refine (rwrite_z (z := (fr : Int) + (used : Int) + (k : Int)) H3.out.2.1 HBK.out.2.1 HBK.out.2.2 hws3).mono ?_
      rintro e w4 ⟨rfl, hr4, hf4⟩
      have hj4 := rf_journal H3.out.1 hf4
      have cj4 : w4.cell? ⟨j, 0, none⟩ = some (.pointer (some ⟨r, 0, none⟩)) ∧ w4.cell? ⟨j, 1, none⟩ = some (.int .i64 (fr : Int)) ∧ w4.cell? ⟨j, 3, none⟩ = some (.int .i64 (life : Int)) ∧ w4.cell? ⟨j, 4, none⟩ = some (.int .i64 (used : Int)) := ⟨hj4.c0, hj4.c1, hj4.c3, hj4.c4⟩
      have H4 := Lib.hid (And.intro hj4 (And.intro hr4 (H3.out.2.2.trans hf4)))
      obtain ⟨E, hE⟩ : ∃ E, bad (wrs A (fr + used) t life k) n ((fr : Int) + (used : Int) + (k : Int)) = E := ⟨_, rfl⟩
      have HE := Lib.hid hE
      rw [hE]
      clear hr4 hf4 hj4 hHeld cj3 hE hws hws3
      go_wp2_with fail
      refine hK.out _ _ cj4 (fun hHeld => ?_)
      clear hK K hHeld
      try simp only [Act.put, List.getElem_toArray, List.getElem_cons_zero, List.getElem_cons_succ, List.setIfInBounds_toArray, List.set_cons_zero, List.set_cons_succ]
      have hHeld := cj4
      refine wpAnyH_take (i := 23) (v := .int .i64 E) rfl (by kernel_rfl) (by kernel_rfl) (by kernel_rfl) (fun _ _ _ h => h) (Or.inl ⟨by rfl, (by intro w hSw; (try dsimp only at hSw); go_simp)⟩) (by assumption) ?_
      try simp only [Act.put, List.getElem_toArray, List.getElem_cons_zero, List.getElem_cons_succ, List.setIfInBounds_toArray, List.set_cons_zero, List.set_cons_succ]
      refine wpAnyH_done (by kernel_rfl) ?_ _
      clear cj4 hHeld
      cases hdn : A.down with
      | true =>
        have e60 : E = 60 := by rw [← HE.out]; unfold bad; rw [wrs_down, if_pos hdn]
        subst e60
        have HF : Hid (∃ vL vN vD, Rk w4 B r vL vN vD A n) := Lib.hid (by
          obtain ⟨vD2, h2⟩ := H4.out.2.1
          have e : wrz (wrs A (fr + used) t life k) n ((fr : Int) + (used : Int) + (k : Int)) bk = A := by
            unfold wrz
            rw [HE.out, if_neg (by decide), HDK.out hdn]
            rfl
          rw [e] at h2
          exact ⟨_, _, _, h2⟩)
        go_wp2
        go_ret
        exact Or.inl ⟨hdn, rfl, ⟨v, H4.out.1⟩, HF.out, RG.of_rf H4.out.2.2⟩
      | false =>
        have hz := bad_zero.2 (show (wrs A (fr + used) t life k).down = false ∧ 0 ≤ (fr : Int) + (used : Int) + (k : Int) ∧ (fr : Int) + (used : Int) + (k : Int) < (n : Int) from ⟨by rw [wrs_down]; exact hdn, by omega, by omega⟩)
        rw [HE.out] at hz
        subst hz
        have HF : Hid (∃ vD, Rk w4 B r vL vN vD (wrs A (fr + used) t life (k + 1)) n) := Lib.hid (by
          obtain ⟨vD2, h2⟩ := H4.out.2.1
          have e : wrz (wrs A (fr + used) t life k) n ((fr : Int) + (used : Int) + (k : Int)) bk = wrs A (fr + used) t life (k + 1) := by
            unfold wrz
            rw [HE.out, if_pos rfl, wrs_succ, HBK.out.1]
            congr 1
          rw [e] at h2
          exact ⟨_, h2⟩)
        go_wp2
        go_roundw
        case rel => exact ⟨k + 1, by omega, by go_num, (fun h => by rw [hdn] at h; cases h), Lib.hid ⟨H4.out.1, HF.out, H4.out.2.2⟩⟩
        case measure => simp [intOf]; omega
    · obtain rfl : M = k := by omega
      have q3 : ¬ (M : Int) < (M : Int) := by omega
      have hdn : A.down = false := by
        cases h : A.down with
        | false => rfl
        | true => have := HDK.out h; omega
      have c4 := HX.out.1.c4
      have f4 := HX.out.1.cells.frozen 4
      have s1 : IntKind.i64.wrap ((used : Int) + (M : Int)) = (used : Int) + (M : Int) := IntWalk.i64_in _ (by omega)
      go_upto_region 13 with fail
      obtain ⟨wa, hwa⟩ : ∃ wa, wr.setCell ⟨j, 4, none⟩ (.int .i64 ((used : Int) + (M : Int))) = wa := ⟨_, rfl⟩
      have hsz : w.heap.size ≤ wr.heap.size := HX.out.2.2.size
      obtain ⟨q, cp, rfl⟩ := HX.out.1.recs.form
      obtain ⟨N0, hN0⟩ : ∃ N0, L.length = N0 := ⟨_, rfl⟩
      have HA : Hid (Whole wa j 51 #[.pointer (some ⟨r, 0, none⟩), .int .i64 (fr : Int), .int .i64 (m : Int), .int .i64 (life : Int), .int .i64 ((used : Int) + (M : Int)), .slice q L.length cp] ∧ Recs wa B (.slice q L.length cp) L ∧ Only [j] wr wa) := Lib.hid (by
        have ho := only_set wr j 4 (.int .i64 ((used : Int) + (M : Int)))
        rw [hwa] at ho
        have hj := HX.out.1.cells.set 4 (.int .i64 ((used : Int) + (M : Int)))
        rw [hwa] at hj
        refine ⟨hj, HX.out.1.recs.keep fun g cur t _ htt hc => ho.block g (Array.getElem?_eq_some_iff.1 hc).1 (fun e => by
          simp at e
          subst e
          have h1 := HX.out.1.cells
          unfold Whole at h1
          rw [h1] at hc
          injection hc with h3
          injection h3 with _ h4
          rcases htt with rfl | rfl <;> exact absurd h4 (by decide)), ho⟩)
      rw [hwa]
      clear hwa c4 f4 s1
      rw [hN0] at HA
      have HN0 := Lib.hid hN0
      clear hN0
      have c5 : wa.cell? ⟨j, 5, none⟩ = some (.slice q N0 cp) := HA.out.1.cell 5
      have hb1 := below_alloc wa (.cells #[] 37)
      have c5' : (wa.alloc (.cells #[] 37)).cell? ⟨j, 5, none⟩ = some (.slice q N0 cp) := (HA.out.1.below hb1 HA.out.1.lt).cell 5
      have own1 : (wa.alloc (.cells #[] 37)).ownsRow wa.heap.size 37 1 (.slice (some ⟨wa.heap.size, 0, none⟩) 0 0) 0 [] := World.ownsRow_made wa (e := 37) (base := wa.heap.size) (size := 1) #[] 0 (Nat.le_refl _) (Nat.zero_le _) rfl
      obtain ⟨vs, hv1, hv2⟩ := HA.out.2.1
      have hvl : vs.length = L.length := by have := hv1.1; omega
      have hones := recs_ones hvl hv2
      have hv1' := own_below hv1 hb1
      rw [HN0.out] at hv1'
      have hLL : N0 ≤ 100000 := by have := HH.out.2.2.2.2.2.2; have := HN0.out; omega
      obtain ⟨v2, w2, hrun, ho2, hg2⟩ := run_append_vals (wa.alloc (.cells #[] 37)) wa.heap.size 48 (.slice (some ⟨wa.heap.size, 0, none⟩) 0 0) 0 [] own1 B N0 (.slice q N0 cp) vs hv1' hones (by omega) hb1.size
      have hb2 : Below wa.heap.size wa w2 := below_own hb1 hb1.size hg2 (fun g hg => (row_block own1 hg).choose_spec.1)
      rw [Nat.zero_add, List.nil_append] at ho2
      have hlt2 : ∀ g, v2.ownBlock = some g → g < w2.heap.size := fun g hg => by
        obtain ⟨cur, _, hc⟩ := row_block ho2 hg
        exact (Array.getElem?_eq_some_iff.1 hc).1
      obtain ⟨q2, p2, rfl⟩ := own_form ho2
      have hb3 : Below wa.heap.size wa (w2.alloc (.cells #[] 5)) := hb2.alloc hb2.size _
      have own3 : (w2.alloc (.cells #[] 5)).ownsRow w2.heap.size 5 1 (.slice (some ⟨w2.heap.size, 0, none⟩) 0 0) 0 [] := World.ownsRow_made w2 (e := 5) (base := w2.heap.size) (size := 1) #[] 0 (Nat.le_refl _) (Nat.zero_le _) rfl
      have ho3 := own_below ho2 (below_alloc w2 (.cells #[] 5))
      have htx : Txt (w2.alloc (.cells #[] 5)) S a nn c t := by
        have h1 := rf_txt HH.out.2.2.1 HH.out.2.2.2.1 HX.out.2.2
        have hBw := HH.out.2.2.2.2.1
        have hBj := HH.out.2.2.2.2.2.1
        have h2 : Txt wa S a nn c t := h1.keep HA.out.2.2.size (fun b hb hs => HA.out.2.2.block b hb (by have := HH.out.2.2.2.1 b hs; simp; omega))
        exact h2.keep hb3.size (fun b hb hs => hb3.block b hb)
      have hz3 : w2.heap.size ≤ (w2.alloc (.cells #[] 5)).heap.size := by simp
      obtain ⟨iu, hu1, hu2, hu3, hu4⟩ := info_parts u8_info
      have HU := Lib.hid (And.intro hu1 (And.intro hu2 (And.intro hu3 hu4)))
      have HV := Lib.hid (And.intro hrun (And.intro ho3 (And.intro own3 (And.intro htx (And.intro hb3 (And.intro hv2 (And.intro hvl (And.intro hb2 hlt2))))))))
      have hws2 : wa.heap.size ≤ w2.heap.size := hb2.size
      clear hb1 own1 hv1 hv2 hvl hones hv1' hrun ho2 hg2 hb2 hb3 own3 ho3 htx hu1 hu2 hu3 hu4 hlt2
      go_wp2_with (first | (at_builtin; refine wpList_append_run rfl (.tmp 70) (.tmp 74) 48 48 rfl rfl (.slice (some ⟨wa.heap.size, 0, none⟩) 0 0) (.slice q N0 cp) _ w2 rfl rfl HV.out.1 ?_) | (at_builtin; refine wpList_append_txt _ rfl (.tmp 76) (.tmp 77) 37 rfl w2.heap.size 5 iu (.int .u8 0) 1 Try.underlying37 HU.out.1 HU.out.2.1 HU.out.2.2.1 HU.out.2.2.2 rfl _ 0 [] rfl HV.out.2.2.1 S a nn c t rfl HV.out.2.2.2.1 (by unfold maxLen; omega) (by omega) hz3 ?_; intro v4 w4 ho4 hg4 _; rw [Nat.zero_add, List.nil_append] at ho4; obtain ⟨q4, p4, rfl⟩ := own_form ho4; have H4 := Lib.hid (And.intro ho4 (And.intro (below_own HV.out.2.2.2.2.1 HV.out.2.2.2.2.1.size hg4 (fun g hg => Nat.le_trans hws2 (row_block HV.out.2.2.1 hg).choose_spec.1)) (own_below (own_keepV HV.out.2.1 (fun g hg => hg4.block g (Nat.lt_of_lt_of_le (HV.out.2.2.2.2.2.2.2.2 g hg) hz3) (fun e => by have h8 := (row_block HV.out.2.2.1 e.symm).choose_spec.1; have h9 := HV.out.2.2.2.2.2.2.2.2 g hg; omega))) (below_alloc w4 (.cells #[.slice q4 nn p4] 37))))); clear ho4 hg4) | (at_builtin; refine wpList_append_one rfl (.tmp 75) (.tmp 79) 48 37 (.slice none 0 0) 24 rfl Try.underlying48 sl_info rfl (by omega) wa.heap.size (.slice q2 N0 p2) N0 vs rfl H4.out.2.2 w4.heap.size 37 (.slice q4 nn p4) rfl (Whole.new w4 _ _) rfl (by omega) (H4.out.2.1.alloc H4.out.2.1.size _).size ?_; intro v9 w9 ho9 hg9 _; obtain ⟨q9, p9, rfl⟩ := own_form ho9; have hb9 := below_own (H4.out.2.1.alloc H4.out.2.1.size (.cells #[.slice q4 nn p4] 37)) (H4.out.2.1.alloc H4.out.2.1.size _).size hg9 (fun g hg => (row_block H4.out.2.2 hg).choose_spec.1); have hj9 := HA.out.1.below hb9 HA.out.1.lt; have c59 : w9.cell? ⟨j, 5, none⟩ = some (.slice q N0 cp) := hj9.cell 5; have f59 := hj9.frozen 5) | fail)
      have hset := only_set w9 j 5 (.slice q9 (N0 + 1) p9)
      have hr9 : Recs w9 B (.slice q9 (N0 + 1) p9) (L ++ [t]) := by
        have hBw : B ≤ wa.heap.size := by have := HH.out.2.2.2.2.1; have := HA.out.2.2.size; omega
        have hc := HV.out.2.2.2.2.2.1
        have hb4c : Below wa.heap.size wa (w4.alloc (.cells #[.slice q4 nn p4] 37)) := H4.out.2.1.alloc H4.out.2.1.size _
        have hown := own_base (b2 := B) H4.out.2.2 hBw
        have hown9 := own_base (b2 := B) ho9 hBw
        rw [← HN0.out] at hown hown9
        have hu : RowU (w4.alloc (.cells #[.slice q4 nn p4] 37)) B (.slice q4 nn p4) t := by
          have h1 := own_below (own_base (b2 := B) H4.out.1 (by omega)) (below_alloc w4 (.cells #[.slice q4 nn p4] 37))
          refine ⟨?_, HH.out.2.2.1.2.2.1⟩
          rw [HH.out.2.2.1.1]
          exact h1
        exact Recs.more (fun k l hl => by
          obtain ⟨u, h1, h2⟩ := hc k l hl
          exact ⟨u, h1, h2.below hb4c⟩) hown hu (by rw [HN0.out] at hown9 ⊢; exact hown9) (by rw [HN0.out]; exact hg9)
      have HF : Hid (Rj (w9.setCell ⟨j, 5, none⟩ (.slice q9 (N0 + 1) p9)) B j r (.slice q9 (N0 + 1) p9) fr m life (used + Jl.need t) (L ++ [t])) := Lib.hid (by
        refine ⟨?_, hr9.keep fun g cur t _ htt hc => hset.block g (Array.getElem?_eq_some_iff.1 hc).1 (fun e => by
          simp at e
          subst e
          have h1 := hj9
          unfold Whole at h1
          rw [h1] at hc
          injection hc with h3
          injection h3 with _ h4
          rcases htt with rfl | rfl <;> exact absurd h4 (by decide))⟩
        have h := hj9.set 5 (.slice q9 (N0 + 1) p9)
        have e : ((used + Jl.need t : Nat) : Int) = (used : Int) + (M : Int) := by rw [HM.out.2]; omega
        rw [e]
        exact h)
      have HK : Hid (∃ vL vN vD, Rk (w9.setCell ⟨j, 5, none⟩ (.slice q9 (N0 + 1) p9)) B r vL vN vD (wrs A (fr + used) t life (Jl.need t)) n) := Lib.hid (by
        obtain ⟨vD2, h2⟩ := HX.out.2.1
        rw [HM.out.2]
        have h3 := h2.aside HA.out.2.2 HX.out.1.cells
        have h4 := h3.below hb9
        exact ⟨_, _, _, h4.aside hset hj9⟩)
      have HFR : Hid (RG B w (w9.setCell ⟨j, 5, none⟩ (.slice q9 (N0 + 1) p9))) := Lib.hid (((RG.of_rf HX.out.2.2).trans (RG.of_journal HA.out.2.2 HH.out.2.2.2.2.2.1 HX.out.1.cells)).trans ((RG.of_below hb9).trans (RG.of_journal hset HH.out.2.2.2.2.2.1 hj9)))
      clear ho9 hg9 hb9 hj9 c59 f59 hset hr9
      go_ret
      exact Or.inr ⟨hdn, rfl, ⟨_, HF.out⟩, HK.out, HFR.out⟩
end Go.Proofs.Ytfecobkpdmjaeaa
