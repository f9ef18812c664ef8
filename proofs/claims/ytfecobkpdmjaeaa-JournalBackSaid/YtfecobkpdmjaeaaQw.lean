/-
  The walk of JournalLasts.
-/
import Derived.Test.YtfecobkpdmjaeaaQv
import Derived.Deep.MidRow
namespace Go.Proofs.Ytfecobkpdmjaeaa
open Go.RowKit
set_option linter.unusedVariables false
set_option linter.unusedSimpArgs false
set_option maxRecDepth 20000
/-- The blocks that last. -/
def lsOf (A : Dm.A) (fr n : Nat) : List (List Int) := (List.range n).map fun i => Dm.blk A.last (fr + i)
theorem wrs_last (A : Dm.A) (next : Nat) (r : List Int) (life i : Nat) : (wrs A next r life i).last = A.last := by
  induction i with
  | zero => rfl
  | succ i ih => rw [wrs_succ]; exact ih
theorem lsOf_wrs (A : Dm.A) (next : Nat) (r : List Int) (life i fr m : Nat) : lsOf (wrs A next r life i) fr m = lsOf A fr m := by unfold lsOf; rw [wrs_last]
theorem lsOf_flush {A : Dm.A} {n : Nat} (h : Dm.Ok A n) (fr m : Nat) : lsOf (Dm.flush A) fr m = bsOf A fr m := by
  unfold lsOf bsOf
  congr 1
  funext i
  exact (Dm.now_get h).2.2 (fr + i)
theorem lsOf_crash (A : Dm.A) (fs : List Int) (fr m : Nat) : lsOf (Dm.start (Dm.crash A fs)) fr m = bsOf (Dm.start (Dm.crash A fs)) fr m := rfl
theorem torns_map (T N L : Nat → List Int) : ∀ is : List Nat, (∀ i ∈ is, Torn (T i) (N i) (L i) ∧ Sm (N i) ∧ Sm (L i)) → Torns (is.map T) (is.map N) (is.map L) := by
  intro is
  induction is with
  | nil => intro _; exact Torns.nil
  | cons i is ih =>
    intro h
    obtain ⟨h1, h2, h3⟩ := h i (by simp)
    exact Torns.cons h1 h2 h3 (ih fun j hj => h j (by simp [hj]))
theorem torns_crash {A : Dm.A} {n fr m : Nat} (h : Dm.Ok A n) (hm : fr + m ≤ n) (fs : List Int) (h1 : ∀ b ∈ bsOf A fr m, Sm b) (h2 : ∀ b ∈ lsOf A fr m, Sm b) : Torns (bsOf (Dm.start (Dm.crash A fs)) fr m) (bsOf A fr m) (lsOf A fr m) := by
  refine torns_map _ _ _ _ fun i hi => ?_
  have hi' := List.mem_range.1 hi
  refine ⟨?_, h1 _ (List.mem_map.2 ⟨i, hi, rfl⟩), h2 _ (List.mem_map.2 ⟨i, hi, rfl⟩)⟩
  obtain ⟨k, hk, e⟩ := crash_read h (show fr + i < n by omega) fs
  rw [(Dm.now_get h).2.2] at e
  exact ⟨k, hk, e⟩
/-- A journal that is written, forced and crashed, on its disk. -/
structure Js (w W : World) (B j p bb mb : Nat) (v : Value) (L : List (List Int)) (u F life : Nat) (A : Dm.A) : Prop where
  jr : Jr w B j p v (3 + u) (50 - u) life L
  dk : Dk w p bb mb A 60
  up : A.down = false
  wal : Wal (bsOf A 3 50) (lsOf A 3 50) L u F life
  below : Below W.heap.size W w
  short : ∀ l ∈ L, l.length ≤ 300
  pl : Pl W B j p bb mb
  size : B ≤ w.heap.size
theorem Js.le {w W : World} {B j p bb mb : Nat} {v : Value} {L : List (List Int)} {u F life : Nat} {A : Dm.A} (h : Js w W B j p bb mb v L u F life A) : u ≤ 50 := by
  obtain ⟨u0, a, a', h1, h2, _⟩ := h.wal.is
  rw [bsOf_len] at h2
  exact h2
theorem Js.step {w w' W : World} {B j p bb mb : Nat} {v : Value} {L : List (List Int)} {u F life : Nat} {A : Dm.A} (h : Js w W B j p bb mb v L u F life A) (hb : Below w.heap.size w w') : Js w' W B j p bb mb v L u F life A :=
  ⟨h.jr.below hb, h.dk.old hb, h.up, h.wal, h.below.trans (hb.mono h.below.size), h.short, h.pl, Nat.le_trans h.size hb.size⟩
theorem js_append {w W : World} {B j p bb mb : Nat} {v : Value} {L : List (List Int)} {u F life : Nat} {A : Dm.A} {x : Option Addr} {n c : Nat} {r : List Int} (h : Js w W B j p bb mb v L u F life A) (ht : Txt w (· < W.heap.size) x n c r) (h1 : n ≤ 300) (hl2 : life < 256) (hLs : L.length ≤ 1000) :
    Calls Try.prog 15 #[.pointer (some ⟨j, 0, none⟩), .slice x n c] w fun e w' => ∃ z, e = .returned (.int .i64 z) ∧ ∃ v' L' u' A', Js w' W B j p bb mb v' L' u' F life A' ∧ L'.length ≤ L.length + 1 ∧ Only [p, bb, mb, j] w w' := by
  have hrn := ht.1
  have hu := h.le
  have hP := h.pl
  by_cases h0 : n = 0
  · refine (jAppend_rec (Or.inl h0)).mono ?_
    rintro e w' ⟨rfl, rfl⟩
    exact ⟨_, rfl, v, L, u, A, h, by omega, Only.refl _ _⟩
  · by_cases hf : Jl.need r ≤ 50 - u
    · refine (jAppend_ok h.jr h.dk hP.bB h.up ht (fun b hb => by have hb' : b < W.heap.size := hb; have h1 := hP.lp; have h2 := hP.lbb; have h3 := hP.lmb; have h4 := hP.lj; have h5 := h.below.size; omega) (by omega) (by omega) hf (by omega) ⟨by omega, fun l hl => by have := h.short l hl; omega⟩ (by omega) h.size).mono ?_
      rintro e w' ⟨v', rfl, hj, hd, ho, _⟩
      have hS : ∀ x ∈ [p, bb, mb, j], W.heap.size ≤ x := by
        have h1 := hP.lp; have h2 := hP.lbb; have h3 := hP.lmb; have h4 := hP.lj
        intro x hx
        simp at hx
        omega
      have hr : r ≠ [] := by intro e; rw [e] at hrn; simp at hrn; omega
      refine ⟨_, rfl, v', L ++ [r], u + Jl.need r, _, ⟨?_, hd, by rw [wrs_down]; exact h.up, ?_, ho.aft h.below hS, fun l hl => ?_, hP, Nat.le_trans h.size ho.size⟩, by simp, ho⟩
      · rw [Nat.add_assoc, Nat.sub_sub] at hj
        exact hj
      · rw [lsOf_wrs, bsOf_wrs A 3 50 u r life (by omega)]
        exact wal_append h.wal hr ht.2.2.1 hl2 (by rw [bsOf_len]; omega)
      · rcases List.mem_append.1 hl with hl | hl
        · exact h.short l hl
        · rw [List.mem_singleton.1 hl]; omega
    · refine (jAppend_full h.jr (by omega) (by omega) (by rw [← hrn]; unfold Jl.need at hf; omega)).mono ?_
      rintro e w' ⟨rfl, rfl⟩
      exact ⟨_, rfl, v, L, u, A, h, by omega, Only.refl _ _⟩
theorem js_force {w W : World} {B j p bb mb : Nat} {v : Value} {L : List (List Int)} {u F life : Nat} {A : Dm.A} (h : Js w W B j p bb mb v L u F life A) :
    Calls Try.prog 17 #[.pointer (some ⟨j, 0, none⟩)] w fun e w' => e = .returned (.int .i64 0) ∧ Js w' W B j p bb mb v L u L.length life (Dm.flush A) ∧ Only [p, bb, mb] w w' := by
  have hP := h.pl
  refine (jForce_up h.jr h.dk hP.bB h.up).mono ?_
  rintro e w' ⟨rfl, hj, hd, ho⟩
  have hS : ∀ x ∈ [p, bb, mb], W.heap.size ≤ x := by
    have h1 := hP.lp; have h2 := hP.lbb; have h3 := hP.lmb
    intro x hx
    simp at hx
    omega
  refine ⟨rfl, ⟨hj, hd, h.up, ?_, ho.aft h.below hS, h.short, hP, Nat.le_trans h.size ho.size⟩, ho⟩
  rw [bsOf_flush h.dk.ok, lsOf_flush h.dk.ok]
  exact wal_force h.wal
/-- A disk behind a crash. -/
structure Jc2 (w W : World) (p bb mb : Nat) (L : List (List Int)) (F life : Nat) (A : Dm.A) (K : List (List Int)) : Prop where
  dk : Dk w p bb mb A 60
  up : A.down = false
  below : Below W.heap.size W w
  is : (Jl.go (bsOf A 3 50) (J0 0)).recs = K ∧ F ≤ K.length ∧ K.length ≤ L.length ∧ K = L.take K.length ∧ life ≤ grt (bsOf A 3 50) + 1 ∧ grt (bsOf A 3 50) ≤ life
  wal : Wal (bsOf A 3 50) (lsOf A 3 50) K (Jl.go (bsOf A 3 50) (J0 0)).used K.length (grt (bsOf A 3 50) + 1)
  short : ∀ l ∈ K, l.length ≤ 300
theorem js_crash {w w' W : World} {B j p bb mb : Nat} {v : Value} {L : List (List Int)} {u F life : Nat} {A : Dm.A} {fs : List Int} (h : Js w W B j p bb mb v L u F life A) (hd : Dk w' p bb mb (Dm.start (Dm.crash A fs)) 60) (hb : Below W.heap.size W w') : ∃ K, Jc2 w' W p bb mb L F life (Dm.start (Dm.crash A fs)) K := by
  have ht := torns_crash h.dk.ok (by omega : 3 + 50 ≤ 60) fs h.wal.smN h.wal.smL
  have hc := wal_crash h.wal ht
  refine ⟨_, hd, rfl, hb, ⟨rfl, hc.1, hc.2.1, hc.2.2.1, hc.2.2.2.1, hc.2.2.2.2⟩, ?_, fun l hl => ?_⟩
  · rw [lsOf_crash]
    exact wal_open ht.sm
  · rw [hc.2.2.1] at hl
    exact h.short l (List.mem_of_mem_take hl)
end Go.Proofs.Ytfecobkpdmjaeaa
