/-
  The journal and the document's, side by side: what each call of either does to both.
-/
import Derived.Test.YtfecobkpdmjaeaaVg
import Derived.Test.YtfecobkpdmjaeaaVh
import Derived.Test.YtfecobkpdmjaeaaQo
import Derived.Test.YtfecobkpdmjaeaaZs
namespace Go.Proofs.Ytfecobkpdmjaeaa
open Go.RowKit
set_option linter.unusedVariables false
set_option linter.unusedSimpArgs false
set_option maxRecDepth 20000
/-- What the code's calls let be: blocks of other kinds. -/
theorem far_code {w w' : World} {p bb mb j n g : Nat} {A : Dm.A} {cj cur : Array Value} {t : TypeId} {fr : Nat × Nat} (hd : Dk w p bb mb A n) (hj : Whole w j 74 cj) (ho : Only [p, bb, mb, j] w w') (hg : w.heap[g]? = some (.cells cur t fr)) (h1 : t ≠ 66) (h2 : t ≠ 74) (h3 : t ≠ 5 ∨ g ≠ bb) : w'.heap[g]? = w.heap[g]? := by
  obtain ⟨d1, d2, d3⟩ := dk_types hd hg
  refine ho.block g (Array.getElem?_eq_some_iff.1 hg).1 ?_
  simp only [List.mem_cons, List.not_mem_nil, or_false, not_or]
  refine ⟨d1 h1, ?_, d3, fun e => ?_⟩
  · rcases h3 with h3 | h3
    · exact d2 h3
    · exact h3
  · subst e
    unfold Whole at hj
    rw [hj] at hg
    injection hg with h5
    injection h5 with _ h6
    exact h2 h6.symm
theorem only_four {p bb mb j : Nat} {w w' : World} (h : Only [p, bb, mb] w w') : Only [p, bb, mb, j] w w' := ⟨h.os, h.tape, h.output, h.size, fun i hi hn => h.block i hi (fun hm => hn (by simp at hm ⊢; omega))⟩
/-- The two, side by side. -/
structure Duo (w W : World) (B p bb mb r fr m : Nat) (A : Dm.A) (j : Nat) (L : List (List Int)) (used life : Nat) (A2 : Dm.A) (k : Nat) (L2 : List (List Int)) (used2 life2 : Nat) : Prop where
  d : Dk w p bb mb A 40
  rk : ∃ vL vN vD, Rk w B r vL vN vD A2 40
  jr : ∃ v, Jr w B j p v (fr + used) (m - used) life L
  rj : ∃ v, Rj w B k r v fr m life2 used2 L2
  below : Below W.heap.size W w
  pl : W.heap.size ≤ p ∧ W.heap.size ≤ bb ∧ W.heap.size ≤ mb ∧ p < B ∧ bb < B ∧ mb < B ∧ B ≤ j ∧ B ≤ k ∧ W.heap.size ≤ B
  size : B ≤ w.heap.size
/-- Records of calls stay. -/
def Keeps (w w' : World) : Prop := ∀ g cs, Whole w g 40 cs → Whole w' g 40 cs
theorem Keeps.trans {a b c : World} (h : Keeps a b) (k : Keeps b c) : Keeps a c := fun g cs hg => k g cs (h g cs hg)
theorem Keeps.below {a b : World} (h : Below a.heap.size a b) : Keeps a b := fun g cs hg => hg.below h hg.lt
section
variable {w w' W : World} {B p bb mb r fr m : Nat} {A : Dm.A} {j : Nat} {L : List (List Int)} {used life : Nat} {A2 : Dm.A} {k : Nat} {L2 : List (List Int)} {used2 life2 : Nat}
theorem Duo.old (h : Duo w W B p bb mb r fr m A j L used life A2 k L2 used2 life2) (hb : Below w.heap.size w w') : Duo w' W B p bb mb r fr m A j L used life A2 k L2 used2 life2 := by
  obtain ⟨vL, vN, vD, hr⟩ := h.rk
  obtain ⟨v, hj⟩ := h.jr
  obtain ⟨v2, hk⟩ := h.rj
  exact ⟨h.d.old hb, ⟨vL, vN, vD, hr.below hb⟩, ⟨v, hj.below hb⟩, ⟨v2, hk.below hb⟩, h.below.trans (hb.mono h.below.size), h.pl, Nat.le_trans h.size hb.size⟩
theorem Duo.code {A' : Dm.A} {L' : List (List Int)} {used' life' : Nat} (h : Duo w W B p bb mb r fr m A j L used life A2 k L2 used2 life2) (hd : Dk w' p bb mb A' 40) (hj : ∃ v, Jr w' B j p v (fr + used') (m - used') life' L') (ho : Only [p, bb, mb, j] w w') : Duo w' W B p bb mb r fr m A' j L' used' life' A2 k L2 used2 life2 ∧ Keeps w w' := by
  obtain ⟨vL, vN, vD, hr⟩ := h.rk
  obtain ⟨v, hjo⟩ := h.jr
  obtain ⟨v2, hk⟩ := h.rj
  have hpl := h.pl
  have far : ∀ {g : Nat} {cur : Array Value} {t : TypeId} {fr : Nat × Nat}, w.heap[g]? = some (.cells cur t fr) → t ≠ 66 → t ≠ 74 → (t ≠ 5 ∨ g ≠ bb) → w'.heap[g]? = w.heap[g]? := fun hg h1 h2 h3 => far_code h.d hjo.cells ho hg h1 h2 h3
  refine ⟨⟨hd, ⟨vL, vN, vD, ⟨hr.cells.keep (far hr.cells (by decide) (by decide) (Or.inl (by decide))), own_keep hr.last (fun g c hg => far hg (by decide) (by decide) (Or.inl (by decide))), own_keep hr.now (fun g c hg => far hg (by decide) (by decide) (Or.inl (by decide))), own_keep hr.dirty (fun g c hg => far hg (by decide) (by decide) (Or.inl (by decide))), hr.apart, hr.base, hr.ok⟩⟩, hj, ⟨v2, hk.cells.keep (far hk.cells (by decide) (by decide) (Or.inl (by decide))), hk.recs.keep fun g cur t hg ht hc => far hc (by rcases ht with rfl | rfl <;> decide) (by rcases ht with rfl | rfl <;> decide) (Or.inr (by omega))⟩, ?_, h.pl, Nat.le_trans h.size ho.size⟩, fun g cs hg => hg.keep (far hg (by decide) (by decide) (Or.inl (by decide)))⟩
  exact h.below.trans (ho.below h.below.size (fun x hx => by simp at hx; omega))
theorem RG.far {B g : Nat} {w w' : World} {cur : Array Value} {t : TypeId} {fr : Nat × Nat} (hf : RG B w w') (hg : w.heap[g]? = some (.cells cur t fr)) (h1 : t ≠ 56) (h2 : t ≠ 45) (h3 : t ≠ 51) : w'.heap[g]? = w.heap[g]? :=
  hf.block g (Array.getElem?_eq_some_iff.1 hg).1 (Or.inr fun cu f => by
    refine ⟨fun e => ?_, fun e => ?_, fun e => ?_⟩
    · rw [hg] at e; injection e with e1; injection e1 with _ e2; exact h1 e2
    · rw [hg] at e; injection e with e1; injection e1 with _ e2; exact h2 e2
    · rw [hg] at e; injection e with e1; injection e1 with _ e2; exact h3 e2)
theorem Duo.ref {A2' : Dm.A} {L2' : List (List Int)} {used2' life2' : Nat} (h : Duo w W B p bb mb r fr m A j L used life A2 k L2 used2 life2) (hr : ∃ vL vN vD, Rk w' B r vL vN vD A2' 40) (hk : ∃ v, Rj w' B k r v fr m life2' used2' L2') (hf : RG B w w') : Duo w' W B p bb mb r fr m A j L used life A2' k L2' used2' life2' ∧ Keeps w w' := by
  obtain ⟨v, hj⟩ := h.jr
  have hpl := h.pl
  refine ⟨⟨h.d.keep (hf.block p h.d.cells.lt (Or.inl (by omega))) (hf.block bb h.d.bytes.lt (Or.inl (by omega))) (hf.block mb h.d.map.lt (Or.inl (by omega))), hr, ⟨v, hj.cells.keep (hf.far hj.cells (by decide) (by decide) (by decide)), hj.recs.keep fun g cur t hg ht hc => hf.far hc (by rcases ht with rfl | rfl <;> decide) (by rcases ht with rfl | rfl <;> decide) (by rcases ht with rfl | rfl <;> decide)⟩, hk, ?_, h.pl, Nat.le_trans h.size hf.size⟩, fun g cs hg => hg.keep (hf.far hg (by decide) (by decide) (by decide))⟩
  exact h.below.trans ((hf.below h.size).mono (by omega))
/-- What either Append answers and turns. -/
def app1 (fr m life : Nat) (t : List Int) (A : Dm.A) (L : List (List Int)) (used : Nat) : Int × Dm.A × List (List Int) × Nat :=
  if t.length = 0 ∨ 2000 < t.length then (71, A, L, used) else if m - used < Jl.need t then (70, A, L, used) else if A.down = true then (60, A, L, used) else (0, wrs A (fr + used) t life (Jl.need t), L ++ [t], used + Jl.need t)
def App (fr m life : Nat) (t : List Int) (A : Dm.A) (L : List (List Int)) (used : Nat) (z : Int) (A' : Dm.A) (L' : List (List Int)) (used' : Nat) : Prop := app1 fr m life t A L used = (z, A', L', used')
theorem App.one {t : List Int} {z z2 : Int} {B1 B2 : Dm.A} {M1 M2 : List (List Int)} {u1 u2 : Nat} (h : App fr m life t A L used z B1 M1 u1) (k : App fr m life t A L used z2 B2 M2 u2) : z = z2 ∧ B1 = B2 ∧ M1 = M2 ∧ u1 = u2 := by
  have e := h.symm.trans k
  injection e with e1 e
  injection e with e2 e
  injection e with e3 e4
  exact ⟨e1, e2, e3, e4⟩
/-- What a journal's numbers may be. -/
structure Fit (fr m : Nat) (L : List (List Int)) (used life i : Nat) : Prop where
  used : used ≤ m
  m : fr + m ≤ 40
  many : L.length ≤ 40 + i
  short : ∀ l ∈ L, l.length ≤ 2000
  life : life ≤ 1099511627777
theorem Fit.le {i i2 : Nat} (h : Fit fr m L used life i) (hi : i ≤ i2) : Fit fr m L used life i2 := ⟨h.used, h.m, by have := h.many; omega, h.short, h.life⟩
theorem Fit.sh {i : Nat} (h : Fit fr m L used life i) (hi : i ≤ 1000) : Short L := ⟨by have := h.many; omega, fun l hl => by have := h.short l hl; omega⟩
theorem App.fit {t : List Int} {z : Int} {B1 : Dm.A} {M1 : List (List Int)} {u1 i : Nat} (h : App fr m life t A L used z B1 M1 u1) (hf : Fit fr m L used life i) : Fit fr m M1 u1 life (i + 1) := by
  unfold App app1 at h
  split at h
  · injection h with _ h; injection h with _ h; injection h with h1 h2; subst h1 h2; exact hf.le (Nat.le_succ i)
  · rename_i h0
    split at h
    · injection h with _ h; injection h with _ h; injection h with h1 h2; subst h1 h2; exact hf.le (Nat.le_succ i)
    · rename_i h1
      split at h
      · injection h with _ h; injection h with _ h; injection h with h1 h2; subst h1 h2; exact hf.le (Nat.le_succ i)
      · injection h with _ h; injection h with _ h; injection h with h3 h4; subst h3 h4
        have hu := hf.used
        have hm := hf.many
        refine ⟨by omega, hf.m, by rw [List.length_append, List.length_singleton]; omega, fun l hl => ?_, hf.life⟩
        rcases List.mem_append.1 hl with hl | hl
        · exact hf.short l hl
        · rw [List.mem_singleton.1 hl]; omega
theorem b_append {a : Option Addr} {n c i : Nat} {t : List Int} (h : Duo w W B p bb mb r fr m A j L used life A2 k L2 used2 life2) (hf : Fit fr m L used life i) (hi : i ≤ 1000) (ht0 : Txt W (· < W.heap.size) a n c t) :
    Calls Try.prog 15 #[.pointer (some ⟨j, 0, none⟩), .slice a n c] w fun e w' => ∃ z A' L' used', e = .returned (.int .i64 z) ∧ App fr m life t A L used z A' L' used' ∧ Duo w' W B p bb mb r fr m A' j L' used' life A2 k L2 used2 life2 ∧ Keeps w w' := by
  have ht := ht0.keep h.below.size (fun b hb _ => h.below.block b hb)
  have hn := ht.1
  obtain ⟨v, hj⟩ := h.jr
  have hpl := h.pl
  have hs := h.below.size
  have hfm := hf.m
  have hfu := hf.used
  have hfl := hf.life
  by_cases h0 : n = 0 ∨ 2000 < n
  · refine (jAppend_rec h0).mono ?_
    rintro e w' ⟨rfl, rfl⟩
    exact ⟨_, _, _, _, rfl, by unfold App app1; rw [if_pos (by rw [hn]; exact h0)], h, fun _ _ hg => hg⟩
  · by_cases h1 : m - used < Jl.need t
    · refine (jAppend_full hj (by omega) (by omega) (by unfold Jl.need at h1; rw [hn] at h1; exact h1)).mono ?_
      rintro e w' ⟨rfl, rfl⟩
      exact ⟨_, _, _, _, rfl, by unfold App app1; rw [if_neg (by rw [hn]; exact h0), if_pos h1], h, fun _ _ hg => hg⟩
    · have hS : ∀ b, (b < W.heap.size) → b < w.heap.size ∧ b ≠ p ∧ b ≠ bb ∧ b ≠ mb ∧ b ≠ j := fun b hb => by omega
      cases hdn : A.down with
      | true =>
        refine (jAppend_down hj h.d (by omega) hdn ht hS (by omega) (by omega) (by omega) (by omega) (hf.sh hi) (by omega) h.size).mono ?_
        rintro e w' ⟨rfl, hj', hd', ho⟩
        have hx := h.code hd' ⟨v, hj'⟩ (only_four ho)
        exact ⟨_, _, _, _, rfl, by unfold App app1; rw [if_neg (by rw [hn]; exact h0), if_neg h1, if_pos hdn], hx.1, hx.2⟩
      | false =>
        refine (jAppend_ok hj h.d (by omega) hdn ht hS (by omega) (by omega) (by omega) (by omega) (hf.sh hi) (by omega) h.size).mono ?_
        rintro e w' ⟨v', rfl, hj', hd', ho, _⟩
        have hx := h.code (used' := used + Jl.need t) (life' := life) hd' ⟨v', by rw [Nat.add_assoc, Nat.sub_sub] at hj'; exact hj'⟩ ho
        exact ⟨_, _, _, _, rfl, by unfold App app1; rw [if_neg (by rw [hn]; exact h0), if_neg h1, if_neg (by rw [hdn]; decide)], hx.1, hx.2⟩
theorem b_rappend {a : Option Addr} {n c i : Nat} {t : List Int} (h : Duo w W B p bb mb r fr m A j L used life A2 k L2 used2 life2) (hf : Fit fr m L2 used2 life2 i) (hi : i ≤ 1000) (ht0 : Txt W (· < W.heap.size) a n c t) (hc : c ≤ maxLen) :
    Calls Try.prog 16 #[.pointer (some ⟨k, 0, none⟩), .slice a n c] w fun e w' => ∃ z A' L' used', e = .returned (.int .i64 z) ∧ App fr m life2 t A2 L2 used2 z A' L' used' ∧ Duo w' W B p bb mb r fr m A j L used life A' k L' used' life2 ∧ Keeps w w' := by
  have ht := ht0.keep h.below.size (fun b hb _ => h.below.block b hb)
  have hn := ht.1
  obtain ⟨v, hj⟩ := h.rj
  obtain ⟨vL, vN, vD, hr⟩ := h.rk
  have hpl := h.pl
  have hs := h.below.size
  have hfm := hf.m
  have hfu := hf.used
  have hfl := hf.life
  by_cases h0 : n = 0 ∨ 2000 < n
  · refine (rAppend_rec h0 ht.2.1 (by have := ht.2.1; omega)).mono ?_
    rintro e w' ⟨rfl, rfl⟩
    exact ⟨_, _, _, _, rfl, by unfold App app1; rw [if_pos (by rw [hn]; exact h0)], h, fun _ _ hg => hg⟩
  · by_cases h1 : m - used2 < Jl.need t
    · refine (rAppend_full hj (by omega) (by omega) hfu (by omega) (by unfold Jl.need at h1; rw [hn] at h1; exact h1)).mono ?_
      rintro e w' ⟨rfl, hb⟩
      exact ⟨_, _, _, _, rfl, by unfold App app1; rw [if_neg (by rw [hn]; exact h0), if_pos h1], h.old hb, Keeps.below hb⟩
    · refine (rAppend_any hj hr ht (fun b hb => by omega) h.size (by omega) (by omega) (by omega) hfu hfm (by omega) (by omega) (hf.sh hi).1).mono ?_
      rintro e w' (⟨hdn, rfl, hj', hr', hg⟩ | ⟨hdn, rfl, hj', hr', hg⟩)
      · have hx := h.ref hr' hj' hg
        exact ⟨_, _, _, _, rfl, by unfold App app1; rw [if_neg (by rw [hn]; exact h0), if_neg h1, if_pos hdn], hx.1, hx.2⟩
      · have hx := h.ref hr' hj' hg
        exact ⟨_, _, _, _, rfl, by unfold App app1; rw [if_neg (by rw [hn]; exact h0), if_neg h1, if_neg (by rw [hdn]; decide)], hx.1, hx.2⟩
/-- Flush, crash, where the machine may be down. -/
def flz (A : Dm.A) : Dm.A := if A.down = true then A else Dm.flush A
def dnz (A : Dm.A) : Int := if A.down = true then 60 else 0
def crz (A : Dm.A) (fs : List Int) : Dm.A := if A.down = true then A else Dm.crash A fs
theorem b_force (h : Duo w W B p bb mb r fr m A j L used life A2 k L2 used2 life2) :
    Calls Try.prog 17 #[.pointer (some ⟨j, 0, none⟩)] w fun e w' => e = .returned (.int .i64 (dnz A)) ∧ Duo w' W B p bb mb r fr m (flz A) j L used life A2 k L2 used2 life2 ∧ Keeps w w' := by
  obtain ⟨v, hj⟩ := h.jr
  have hpl := h.pl
  unfold dnz flz
  cases hdn : A.down with
  | true =>
    refine (jForce_down hj h.d hdn).mono ?_
    rintro e w' ⟨rfl, rfl⟩
    rw [if_pos rfl, if_pos rfl]
    exact ⟨rfl, h, fun _ _ hg => hg⟩
  | false =>
    refine (jForce_up hj h.d (by omega) hdn).mono ?_
    rintro e w' ⟨rfl, hj', hd', ho⟩
    rw [if_neg (by decide), if_neg (by decide)]
    exact ⟨rfl, h.code hd' ⟨v, hj'⟩ (only_four ho)⟩
theorem b_rflush (h : Duo w W B p bb mb r fr m A j L used life A2 k L2 used2 life2) :
    Calls Try.prog 18 #[.pointer (some ⟨r, 0, none⟩)] w fun e w' => e = .returned (.int .i64 (dnz A2)) ∧ Duo w' W B p bb mb r fr m A j L used life (flz A2) k L2 used2 life2 ∧ Keeps w w' := by
  obtain ⟨v, hj⟩ := h.rj
  obtain ⟨vL, vN, vD, hr⟩ := h.rk
  unfold dnz flz
  cases hdn : A2.down with
  | true =>
    refine (rflush_down (by rw [hr.c3, hdn])).mono ?_
    rintro e w' ⟨rfl, rfl⟩
    rw [if_pos rfl, if_pos rfl]
    exact ⟨rfl, h, fun _ _ hg => hg⟩
  | false =>
    refine (rflush_any hr hdn h.size).mono ?_
    rintro e w' ⟨rfl, hr', hf⟩
    rw [if_neg (by decide), if_neg (by decide)]
    exact ⟨rfl, h.ref hr' ⟨v, rf_journal hj hf⟩ (RG.of_rf hf)⟩
theorem b_crash {fa : Option Addr} {fl fc : Nat} {fs : List Int} (h : Duo w W B p bb mb r fr m A j L used life A2 k L2 used2 life2) (hi0 : Its W (· < W.heap.size) fa fl fs) (hfl : fl ≤ maxLen) :
    Calls Try.prog 19 #[.pointer (some ⟨p, 0, none⟩), .slice fa fl fc] w fun e w' => e = .returned (.tuple #[]) ∧ Duo w' W B p bb mb r fr m (crz A fs) j L used life A2 k L2 used2 life2 ∧ Keeps w w' := by
  have hi := hi0.keep h.below.size (fun b hb _ => h.below.block b hb)
  obtain ⟨v, hj⟩ := h.jr
  have hpl := h.pl
  unfold crz
  cases hdn : A.down with
  | true =>
    refine (crash_bad (ready_down (by rw [h.d.c2, hdn])) (by omega)).mono ?_
    rintro e w' ⟨rfl, rfl⟩
    rw [if_pos rfl]
    exact ⟨rfl, h, fun _ _ hg => hg⟩
  | false =>
    refine (crash_any h.d hdn (hi.weak (fun b _ hb => by omega)) hfl).mono ?_
    rintro e w' ⟨rfl, hd', ho⟩
    rw [if_neg (by decide)]
    exact ⟨rfl, h.code hd' ⟨v, hj.only h.d (by omega) ho⟩ (only_four ho)⟩
theorem b_rcrash {fa : Option Addr} {fl fc : Nat} {fs : List Int} (h : Duo w W B p bb mb r fr m A j L used life A2 k L2 used2 life2) (hi0 : Its W (· < W.heap.size) fa fl fs) (hfl : fl ≤ maxLen) :
    Calls Try.prog 20 #[.pointer (some ⟨r, 0, none⟩), .slice fa fl fc] w fun e w' => e = .returned (.tuple #[]) ∧ Duo w' W B p bb mb r fr m A j L used life (crz A2 fs) k L2 used2 life2 ∧ Keeps w w' := by
  have hi := hi0.keep h.below.size (fun b hb _ => h.below.block b hb)
  obtain ⟨v, hj⟩ := h.rj
  obtain ⟨vL, vN, vD, hr⟩ := h.rk
  have hpl := h.pl
  unfold crz
  cases hdn : A2.down with
  | true =>
    refine (rcrash_down (by rw [hr.c3, hdn])).mono ?_
    rintro e w' ⟨rfl, rfl⟩
    rw [if_pos rfl]
    exact ⟨rfl, h, fun _ _ hg => hg⟩
  | false =>
    refine (rcrash_any hr hdn h.size (hi.weak (fun b _ hb => by omega)) hfl).mono ?_
    rintro e w' ⟨rfl, hr', hf⟩
    rw [if_neg (by decide)]
    exact ⟨rfl, h.ref hr' ⟨v, rf_journal hj hf⟩ (RG.of_rf hf)⟩
theorem b_start (h : Duo w W B p bb mb r fr m A j L used life A2 k L2 used2 life2) :
    Calls Try.prog 24 #[.pointer (some ⟨p, 0, none⟩)] w fun e w' => e = .returned (.tuple #[]) ∧ Duo w' W B p bb mb r fr m (Dm.start A) j L used life A2 k L2 used2 life2 ∧ Keeps w w' := by
  obtain ⟨v, hj⟩ := h.jr
  have hpl := h.pl
  refine (start_any h.d).mono ?_
  rintro e w' ⟨rfl, hd', hg, _⟩
  have ho : Only [p, bb, mb] w w' := Only.of_grown hg (by simp)
  exact ⟨rfl, h.code hd' ⟨v, hj.only h.d (by omega) ho⟩ (only_four ho)⟩
theorem b_rstart (h : Duo w W B p bb mb r fr m A j L used life A2 k L2 used2 life2) :
    Calls Try.prog 25 #[.pointer (some ⟨r, 0, none⟩)] w fun e w' => e = .returned (.tuple #[]) ∧ Duo w' W B p bb mb r fr m A j L used life (Dm.start A2) k L2 used2 life2 ∧ Keeps w w' := by
  obtain ⟨v, hj⟩ := h.rj
  obtain ⟨vL, vN, vD, hr⟩ := h.rk
  refine (rstart_any hr).mono ?_
  rintro e w' ⟨rfl, hr', hf⟩
  exact ⟨rfl, h.ref ⟨_, _, _, hr'⟩ ⟨v, rf_journal hj hf⟩ (RG.of_rf hf)⟩
theorem b_write {z : Int} {b : List Int} (h : Duo w W B p bb mb r fr m A j L used life A2 k L2 used2 life2) (hb64 : b.length = 64) (hB : Byt b) :
    Calls Try.prog 21 #[.pointer (some ⟨p, 0, none⟩), .int .i64 z, .agg (nums b).toArray] w fun e w' => e = .returned (.int .i64 (bad A 40 z)) ∧ Duo w' W B p bb mb r fr m (wrz A 40 z b) j L used life A2 k L2 used2 life2 ∧ Keeps w w' := by
  obtain ⟨v, hj⟩ := h.jr
  have hpl := h.pl
  refine (write_z h.d hb64 hB).mono ?_
  rintro e w' ⟨rfl, hd', ho⟩
  exact ⟨rfl, h.code hd' ⟨v, hj.only h.d (by omega) ho⟩ (only_four ho)⟩
theorem b_rwrite {z : Int} {b : List Int} (h : Duo w W B p bb mb r fr m A j L used life A2 k L2 used2 life2) (hb64 : b.length = 64) (hB : Byt b) :
    Calls Try.prog 23 #[.pointer (some ⟨r, 0, none⟩), .int .i64 z, .agg (nums b).toArray] w fun e w' => e = .returned (.int .i64 (bad A2 40 z)) ∧ Duo w' W B p bb mb r fr m A j L used life (wrz A2 40 z b) k L2 used2 life2 ∧ Keeps w w' := by
  obtain ⟨v, hj⟩ := h.rj
  obtain ⟨vL, vN, vD, hr⟩ := h.rk
  refine (rwrite_z hr hb64 hB h.size).mono ?_
  rintro e w' ⟨rfl, ⟨vD', hr'⟩, hf⟩
  exact ⟨rfl, h.ref ⟨_, _, _, hr'⟩ ⟨v, rf_journal hj hf⟩ (RG.of_rf hf)⟩
end
/-- What is opened is short. -/
theorem go_short (bs : List (List Int)) : ∀ s : Jl.S, s.part.length ≤ 44 * s.pos → s.recs.length ≤ s.pos → (∀ l ∈ s.recs, l.length ≤ 44 * s.pos) → (Jl.go bs s).recs.length ≤ s.pos + bs.length ∧ ∀ l ∈ (Jl.go bs s).recs, l.length ≤ 44 * (s.pos + bs.length) := by
  induction bs with
  | nil => intro s _ h2 h3; exact ⟨h2, h3⟩
  | cons b bs ih =>
    intro s h1 h2 h3
    unfold Jl.go
    split
    · rename_i hg
      have hc : (Jl.body b).length ≤ 44 := by
        unfold Jl.body
        rw [List.length_take]
        have := hg.2.2.2.2.1
        omega
      have h4 : (Jl.step s b).part.length ≤ 44 * (Jl.step s b).pos ∧ (Jl.step s b).recs.length ≤ (Jl.step s b).pos ∧ (∀ l ∈ (Jl.step s b).recs, l.length ≤ 44 * (Jl.step s b).pos) := by
        rw [(step_pos s b).1]
        unfold Jl.step
        split
        · refine ⟨Nat.zero_le _, by rw [List.length_append, List.length_singleton]; omega, fun l hl => ?_⟩
          rcases List.mem_append.1 hl with hl | hl
          · have := h3 l hl; omega
          · rw [List.mem_singleton.1 hl, List.length_append]; omega
        · refine ⟨by rw [List.length_append]; omega, by show s.recs.length ≤ s.pos + 1; omega, fun l hl => ?_⟩
          have := h3 l hl; omega
      have h5 := ih _ h4.1 h4.2.1 h4.2.2
      rw [(step_pos s b).1] at h5
      rw [List.length_cons]
      exact ⟨by omega, fun l hl => by have := h5.2 l hl; omega⟩
    · rw [List.length_cons]
      exact ⟨by omega, fun l hl => by have := h3 l hl; omega⟩
/-- What is opened. -/
def opL (A : Dm.A) (fr m : Nat) : List (List Int) := (Jl.go (bsOf A fr m) (J0 0)).recs
def opU (A : Dm.A) (fr m : Nat) : Nat := (Jl.go (bsOf A fr m) (J0 0)).used
def opF (A : Dm.A) (fr m : Nat) : Nat := grt (bsOf A fr m) + 1
theorem op_fit (A : Dm.A) {fr m : Nat} (hm : fr + m ≤ 40) : Fit fr m (opL A fr m) (opU A fr m) (opF A fr m) 0 := by
  have hl : (bsOf A fr m).length = m := by simp [bsOf]
  have h1 := (go_used (bsOf A fr m) (J0 0) (Nat.le_refl _)).1
  have h2 := go_short (bsOf A fr m) (J0 0) (Nat.le_refl _) (Nat.le_refl _) (fun l hl => by cases hl)
  have h3 := grt_le (bsOf A fr m)
  have h4 : (J0 0).pos = 0 := rfl
  rw [hl, h4] at h1 h2
  refine ⟨by show (Jl.go _ _).used ≤ m; omega, hm, by show (Jl.go _ _).recs.length ≤ _; omega, fun l hl => ?_, by show grt _ + 1 ≤ _; omega⟩
  have := h2.2 l hl
  omega
end Go.Proofs.Ytfecobkpdmjaeaa
