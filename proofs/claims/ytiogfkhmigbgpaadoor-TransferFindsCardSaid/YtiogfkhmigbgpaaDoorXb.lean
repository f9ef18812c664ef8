/-
  Rows of bools, and rows of such rows, in memory; the walks of the document's has, some, Missing, Pick and Same.
-/
import Derived.Test.YtiogfkhmigbgpaaDoorXa
import Derived.Test.YtiogfkhmigbgpaaDoorRw
namespace Go.Proofs.YtiogfkhmigbgpaaDoor
open Go.RowKit Go.Great
set_option linter.unusedVariables false
set_option linter.unusedSimpArgs false
set_option maxRecDepth 20000
def BE : Elem Bool where
  K := 1
  T := 4
  TS := 22
  enc := fun x => [.bool x]
  z := false
  ok := fun _ => True
  bytes := 1
  zero := .bool false
  hK := by omega
  len := fun x => rfl
  one := fun x v hv => by rw [List.mem_singleton.1 hv]; rfl
  und := Tryd.underlying22
  info := by kernel_rfl
  zs := rfl
  hb := by omega
  hKs := by omega
theorem be_cells {w : World} {S : Nat → Prop} {a : Option Addr} {n : Nat} {l : List Bool} (h : BE.Row w S a n l) (h0 : 0 < n) : ∃ b off, a = some ⟨b, off, none⟩ ∧ S b ∧ b < w.heap.size ∧ ∀ k, k < n → w.cell? ⟨b, off + k, none⟩ = some (.bool (l.getD k false)) := by
  obtain ⟨b, off, rfl, hS, hb, hc⟩ := h.rows h0
  refine ⟨b, off, rfl, hS, hb, fun k hk => ?_⟩
  have := hc k hk 0 _ rfl
  rw [show BE.K = 1 from rfl, Nat.mul_one, Nat.add_zero] at this
  exact this
theorem be_row {w : World} {S : Nat → Prop} {b off n : Nat} {l : List Bool} (hl : l.length = n) (hS : S b) (hb : b < w.heap.size) (hc : ∀ k, k < n → w.cell? ⟨b, off + k, none⟩ = some (.bool (l.getD k false))) : BE.Row w S (some ⟨b, off, none⟩) n l := by
  refine ⟨hl, fun _ _ => trivial, Or.inr ⟨b, off, rfl, hS, hb, fun k hk j v hv => ?_⟩⟩
  match j, hv with
  | 0, hv =>
    have hv' : v = .bool (l.getD k false) := (Option.some.inj hv).symm
    rw [show BE.K = 1 from rfl, Nat.mul_one, Nat.add_zero, hc k hk, hv']
  | j + 1, hv => cases hv
theorem be_whole {w : World} {S : Nat → Prop} {g : Nat} {l : List Bool} (h : Whole w g 4 (l.map Value.bool).toArray) (hS : S g) : BE.Row w S (some ⟨g, 0, none⟩) l.length l :=
  be_row rfl hS h.lt (fun k hk => by rw [Nat.zero_add, h.cell, List.getElem?_toArray]; simp [hk])
/-- A row of rows of bools; all of it in blocks of S. -/
def Bns (w : World) (S : Nat → Prop) (a : Option Addr) (n : Nat) (l : List (List Bool)) : Prop :=
  l.length = n ∧ (l = [] ∨ ∃ b off, a = some ⟨b, off, none⟩ ∧ S b ∧ b < w.heap.size ∧ ∀ k, k < n → ∃ ad m c, w.cell? ⟨b, off + k, none⟩ = some (.slice ad m c) ∧ BE.Row w S ad m (l.getD k []))
theorem Bns.keep {w w' : World} {S : Nat → Prop} {a : Option Addr} {n : Nat} {l : List (List Bool)} (h : Bns w S a n l) (hz : w.heap.size ≤ w'.heap.size) (hk : ∀ b, b < w.heap.size → S b → w'.heap[b]? = w.heap[b]?) : Bns w' S a n l := by
  obtain ⟨h1, h2⟩ := h
  refine ⟨h1, ?_⟩
  rcases h2 with h | ⟨b, off, rfl, hs, hb, hc⟩
  · exact Or.inl h
  · refine Or.inr ⟨b, off, rfl, hs, by omega, fun k hk' => ?_⟩
    obtain ⟨ad, m, c, h3, h4⟩ := hc k hk'
    exact ⟨ad, m, c, (World.cell?_of_block (w := w) (hk b hb hs)).trans h3, h4.keep hz hk⟩
theorem Bns.weak {w : World} {S S' : Nat → Prop} {a : Option Addr} {n : Nat} {l : List (List Bool)} (h : Bns w S a n l) (hs : ∀ b, b < w.heap.size → S b → S' b) : Bns w S' a n l := by
  obtain ⟨h1, h2⟩ := h
  refine ⟨h1, ?_⟩
  rcases h2 with h | ⟨b, off, rfl, hs', hb, hc⟩
  · exact Or.inl h
  · refine Or.inr ⟨b, off, rfl, hs b hb hs', hb, fun k hk' => ?_⟩
    obtain ⟨ad, m, c, h3, h4⟩ := hc k hk'
    exact ⟨ad, m, c, h3, h4.weak hs⟩
theorem Bns.old {w : World} {S : Nat → Prop} {a : Option Addr} {n : Nat} {l : List (List Bool)} (h : Bns w S a n l) : Bns w (fun b => b < w.heap.size) a n l := h.weak fun _ hb _ => hb
theorem Bns.below {w w' : World} {S : Nat → Prop} {B : Nat} {a : Option Addr} {n : Nat} {l : List (List Bool)} (h : Bns w S a n l) (hb : Below B w w') (hs : ∀ b, b < w.heap.size → S b → b < B) : Bns w' S a n l :=
  h.keep hb.size fun b hlt hS => hb.block b (hs b hlt hS)
theorem Bns.on {w w' : World} {a : Option Addr} {n : Nat} {l : List (List Bool)} (h : Bns w Any a n l) (hb : Below w.heap.size w w') : Bns w' Any a n l := h.below hb (fun _ h _ => h)
theorem Bns.at_ {w : World} {S : Nat → Prop} {a : Option Addr} {n : Nat} {l : List (List Bool)} (h : Bns w S a n l) {k : Nat} (hk : k < n) : ∃ b off, a = some ⟨b, off, none⟩ ∧ ∃ ad m c, w.cell? ⟨b, off + k, none⟩ = some (.slice ad m c) ∧ BE.Row w S ad m (l.getD k []) := by
  obtain ⟨h1, h2⟩ := h
  rcases h2 with h | ⟨b, off, rfl, hs', hb, hc⟩
  · subst h; simp at h1; omega
  · exact ⟨b, off, rfl, hc k hk⟩
theorem ret_three {a b a' b' : Int} {x x' : Bool} (h1 : a = a') (h2 : b = b') (h3 : x = x') : Ending.returned (.tuple #[.int .i64 a, .int .i64 b, .bool x]) = .returned (.tuple #[.int .i64 a', .int .i64 b', .bool x']) := by rw [h1, h2, h3]
theorem rhas_any {w : World} {S : Nat → Prop} {a : Option Addr} {n c : Nat} {l : List Bool} (h : BE.Row w S a n l) (k : Nat) :
    Calls Tryd.prog 28 #[.slice a n c, .int .i64 (k : Int)] w fun e w' => e = .returned (.bool (Tr.has l k)) ∧ w = w' := by
  obtain ⟨r, hr⟩ : ∃ r, Tr.has l k = r := ⟨_, rfl⟩
  rw [hr]
  by_cases hk : k < n
  · obtain ⟨b, off, rfl, _, _, hc⟩ := be_cells h (by omega)
    have ck := hc k hk
    have e : l.getD k false = r := hr
    rw [e] at ck
    have q : (k : Int) < (n : Int) := by omega
    clear hc h e hr hk
    cases r
    · go_enter Tryd.func28, Tryd.ntmps28
      go_wp2
      go_ret
      exact ⟨rfl, rfl⟩
    · go_enter Tryd.func28, Tryd.ntmps28
      go_wp2
      go_ret
      exact ⟨rfl, rfl⟩
  · have HE : Hid (r = false) := Lib.hid (by rw [← hr]; unfold Tr.has; simp [show l.length ≤ k by rw [h.1]; omega])
    have q : ¬ ((k : Int) < (n : Int)) := by omega
    clear h hr
    go_enter Tryd.func28, Tryd.ntmps28
    go_wp2
    go_ret
    exact ⟨ret_bool HE.out.symm, rfl⟩
set_option maxHeartbeats 4000000 in
theorem rsome_any {w : World} {S : Nat → Prop} {a : Option Addr} {n c : Nat} {l : List (List Bool)} (h : Bns w S a n l) (hn : n ≤ 1000000) (k : Nat) :
    Calls Tryd.prog 27 #[.slice a n c, .int .i64 (k : Int)] w fun e w' => e = .returned (.bool (Tr.some_ l k)) ∧ w = w' := by
  obtain ⟨r, hr⟩ : ∃ r, Tr.some_ l k = r := ⟨_, rfl⟩
  have HR := Lib.hid hr
  rw [hr]
  have H := Lib.hid h
  have HN := Lib.hid h.1
  clear h hr
  go_enter Tryd.func27, Tryd.ntmps27
  go_wp2
  go_loop [5, 6] (fun v _ => ∃ j : Nat, j ≤ n ∧ v = .int .i64 (j : Int) ∧ Hid (∀ i, i < j → Tr.has (l.getD i []) k = false)) (fun v _ => n - (intOf v).toNat)
  case atStart => exact ⟨0, Nat.zero_le _, rfl, Lib.hid (fun i hi => by omega)⟩
  case round =>
    obtain ⟨j, hj, rfl, HJ⟩ := hrel
    by_cases hlt : j < n
    case neg =>
      have q : ¬ ((j : Int) < (n : Int)) := by omega
      have HE : Hid (r = false) := Lib.hid (by
        rw [← HR.out]
        cases hs : Tr.some_ l k
        · rfl
        · obtain ⟨p, hp, hpk⟩ := Tr.some_of_at hs
          rw [HN.out] at hp
          rw [HJ.out p (by omega)] at hpk
          cases hpk)
      go_wp2
      go_ret
      exact ⟨ret_bool HE.out.symm, rfl⟩
    have q : (j : Int) < (n : Int) := by omega
    obtain ⟨b, off, rfl, ad, m, cm, ci, hrow⟩ := H.out.at_ hlt
    have HW := Lib.hid hrow
    clear hrow
    go_wp2_with fail
    refine (rhas_any HW.out k).mono ?_
    rintro e w' ⟨rfl, rfl⟩
    obtain ⟨y, hy⟩ : ∃ y, Tr.has (l.getD j []) k = y := ⟨_, rfl⟩
    rw [hy]
    have HY := Lib.hid hy
    clear hy ci
    cases y
    · go_wp2
      exact ⟨⟨j + 1, by omega, by go_num, Lib.hid (fun i hi => by
        by_cases hij : i < j
        · exact HJ.out i hij
        · obtain rfl : i = j := by omega
          exact HY.out)⟩, by simp [intOf]; omega⟩
    · have HE : Hid (r = true) := Lib.hid (by rw [← HR.out]; exact Tr.at_of_some (p := j) (by rw [HN.out]; exact hlt) HY.out)
      go_wp2
      go_ret
      exact ⟨ret_bool HE.out.symm, rfl⟩
set_option maxHeartbeats 4000000 in
theorem rmissing_any {w : World} {S : Nat → Prop} {a : Option Addr} {n c : Nat} {l : List Bool} (h : BE.Row w S a n l) (hn : n ≤ 1000000) :
    Calls Tryd.prog 11 #[.slice a n c] w fun e w' => e = .returned (.int .i64 (Tr.missing l : Int)) ∧ w = w' := by
  have H := Lib.hid h
  have HN := Lib.hid h.1
  clear h
  go_enter Tryd.func11, Tryd.ntmps11
  go_wp2
  go_loop [3, 4] (fun v i => ∃ j z : Nat, j ≤ n ∧ i = .int .i64 (j : Int) ∧ v = .int .i64 (z : Int) ∧ z ≤ j ∧ Hid (Tr.missing (l.take j) = z)) (fun _ v => n - (intOf v).toNat)
  case atStart => exact ⟨0, 0, Nat.zero_le _, rfl, rfl, Nat.le_refl _, Lib.hid rfl⟩
  case round =>
    obtain ⟨j, z, hj, rfl, rfl, hz, HJ⟩ := hrel
    by_cases hlt : j < n
    case neg =>
      have q : ¬ ((j : Int) < (n : Int)) := by omega
      have HE : Hid (Tr.missing l = z) := Lib.hid (by rw [← HJ.out, List.take_of_length_le (by rw [HN.out]; omega)])
      go_wp2
      go_ret
      rw [HE.out]
      exact ⟨rfl, rfl⟩
    have q : (j : Int) < (n : Int) := by omega
    obtain ⟨b, off, rfl, _, _, hc⟩ := be_cells H.out (by omega)
    have cj := hc j hlt
    have hs := Tr.missing_next l j (by rw [HN.out]; exact hlt)
    obtain ⟨x, hx⟩ : ∃ x, l.getD j false = x := ⟨_, rfl⟩
    rw [hx] at cj hs
    rw [HJ.out] at hs
    have HS := Lib.hid hs
    clear hc hs hx
    cases x
    · go_wp2
      exact ⟨⟨j + 1, z + 1, by omega, by go_num, by go_num, by omega, Lib.hid (by rw [HS.out]; rfl)⟩, by simp [intOf]; omega⟩
    · go_wp2
      exact ⟨⟨j + 1, z, by omega, by go_num, rfl, by omega, Lib.hid (by rw [HS.out]; rfl)⟩, by simp [intOf]; omega⟩
end Go.Proofs.YtiogfkhmigbgpaaDoor
