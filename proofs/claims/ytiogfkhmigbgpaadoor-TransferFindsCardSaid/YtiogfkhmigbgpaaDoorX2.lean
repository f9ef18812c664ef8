/-
  The package's soughtOf: which chunks are missing, and some peer has.
-/
import Derived.Test.YtiogfkhmigbgpaaDoorX1
set_option linter.unusedVariables false
namespace Tr
open Go.Proofs.YtiogfkhmigbgpaaDoor
/-- Of each chunk that is missing, what Q says; of the others false. -/
def sg (hv : List Bool) (Q : Nat → Bool) : List Bool := (List.range hv.length).map fun k => !hv.getD k false && Q k
theorem sg_len (hv : List Bool) (Q : Nat → Bool) : (sg hv Q).length = hv.length := by simp [sg]
theorem sg_at {hv : List Bool} {Q : Nat → Bool} {k : Nat} (h : k < hv.length) : (sg hv Q).getD k false = (!hv.getD k false && Q k) := by simp [sg, h]
theorem sg_congr {hv : List Bool} {Q Q' : Nat → Bool} (h : ∀ k, k < hv.length → Q k = Q' k) : sg hv Q = sg hv Q' := by
  unfold sg
  exact List.map_congr_left fun k hk => by rw [h k (List.mem_range.1 hk)]
theorem sg_set {hv : List Bool} {Q Q' : Nat → Bool} {i : Nat} (h : i < hv.length) (hq : ∀ k, k < hv.length → k ≠ i → Q' k = Q k) : (sg hv Q).set i (!hv.getD i false && Q' i) = sg hv Q' := by
  apply List.ext_getElem
  · rw [List.length_set, sg_len, sg_len]
  · intro k h1 h2
    rw [sg_len] at h2
    rw [List.getElem_set]
    by_cases hk : i = k
    · subst hk
      simp [sg]
    · rw [if_neg hk]
      simp only [sg, List.getElem_map, List.getElem_range]
      rw [hq k h2 (fun e => hk e.symm)]
theorem sg_none (hv : List Bool) : sg hv (some_ (([] : List (List Bool)))) = List.replicate hv.length false := by
  unfold sg some_
  apply List.ext_getElem
  · simp
  · intro k h1 h2
    simp
theorem some_next {ps : List (List Bool)} {j : Nat} (h : j < ps.length) (k : Nat) : some_ (ps.take (j + 1)) k = (some_ (ps.take j) k || has (ps.getD j []) k) := by
  unfold some_
  rw [List.take_succ_eq_append_getElem h, List.any_append]
  simp [h]
theorem has_over {l : List Bool} {i : Nat} (h : l.length ≤ i) : has l i = false := by unfold has; simp [h]
end Tr
namespace Go.Proofs.YtiogfkhmigbgpaaDoor
open Go.RowKit Go.Great
set_option linter.unusedVariables false
set_option linter.unusedSimpArgs false
set_option maxRecDepth 20000
theorem own_cell {w : World} {B g n c k : Nat} {l : List Bool} (h : BE.Own w B (some ⟨g, 0, none⟩) n c l) (hk : k < n) : w.cell? ⟨g, k, none⟩ = some (.bool (l.getD k false)) ∧ w.frozen? ⟨g, k, none⟩ = false ∧ B ≤ g := by
  obtain ⟨g', cur, e, hB, hlt, _, hw, hn, ht⟩ := h.form (by omega)
  cases e
  obtain ⟨b, off, e, _, _, hc⟩ := be_cells h.row (by omega)
  cases e
  exact ⟨by have := hc k hk; rwa [Nat.zero_add] at this, hw.frozen k, hB⟩
set_option maxHeartbeats 8000000 in
theorem sought_any {w : World} {S S' : Nat → Prop} {a b : Option Addr} {n c m c' : Nat} {hv : List Bool} {ps : List (List Bool)} (h : BE.Row w S a n hv) (h' : Bns w S' b m ps) (hn : n ≤ 1000) (hm : m ≤ 1000) :
    Calls Tryd.prog 24 #[.slice a n c, .slice b m c'] w (BoQ w (Tr.sg hv (Tr.some_ ps))) := by
  have H := Lib.hid (And.intro h.old h'.old)
  have HN := Lib.hid (And.intro h.1 h'.1)
  have hmk := run_makeB n (by omega) w
  have HO := Lib.hid (And.intro (own_zeros w (n := n) (by omega)) (below_alloc w (.cells (Array.replicate n (Value.bool false)) 4)))
  obtain ⟨w1, hw1⟩ : ∃ w1, w.alloc (.cells (Array.replicate n (Value.bool false)) 4) = w1 := ⟨_, rfl⟩
  rw [hw1] at hmk HO
  clear h h' hw1
  obtain ⟨G, hG⟩ : ∃ G, w.heap.size = G := ⟨_, rfl⟩
  have HG := Lib.hid hG
  rw [hG] at hmk HO
  clear hG
  go_enter Tryd.func24, Tryd.ntmps24
  go_wp2
  go_loopw [7, 8, 14, 23] (fun _ _ v _ wr => ∃ j : Nat, j ≤ m ∧ v = .int .i64 (j : Int) ∧ Hid (BE.Own wr G (some ⟨G, 0, none⟩) n n (Tr.sg hv (Tr.some_ (ps.take j))) ∧ Below G w wr)) (fun _ _ v _ _ => m - (intOf v).toNat)
  case atStart => exact ⟨0, Nat.zero_le _, rfl, Lib.hid ⟨by rw [List.take_zero, Tr.sg_none, HN.out.1]; exact HO.out.1, HO.out.2⟩⟩
  case round =>
    clear HO hmk
    obtain ⟨j, hj, rfl, HJ⟩ := hrel
    by_cases hlt : j < m
    case neg =>
      have q : ¬ ((j : Int) < (m : Int)) := by omega
      go_wp2
      go_ret
      exact ⟨_, n, n, rfl, by have := HJ.out.1; rw [List.take_of_length_le (by rw [HN.out.2]; omega)] at this; rw [HG.out]; exact this, by rw [HG.out]; exact HJ.out.2⟩
    have q : (j : Int) < (m : Int) := by omega
    have hbn := H.out.2.below HJ.out.2 (fun b h _ => by have := HG.out; omega)
    obtain ⟨bp, off, rfl, ad, mj, cj, ci, hrow⟩ := hbn.at_ hlt
    obtain ⟨t, ht⟩ : ∃ t, ps.getD j [] = t := ⟨_, rfl⟩
    have HP := Lib.hid ht
    rw [ht] at hrow
    have HR := Lib.hid (And.intro hrow (H.out.1.below HJ.out.2 (fun b h _ => by have := HG.out; omega)))
    have hm1 : (min (mj : Int) (n : Int)) = ((min mj n : Nat) : Int) := by omega
    obtain ⟨z, hz⟩ : ∃ z, min mj n = z := ⟨_, rfl⟩
    have hzn : z ≤ n ∧ z ≤ mj := by omega
    have HZ := Lib.hid hz
    rw [hz] at hm1
    clear hz hrow hbn ht
    go_wp2
    obtain ⟨wo, rfl⟩ : ∃ x, x = wr := ⟨wr, rfl⟩
    go_loopw [8, 23] (fun _ v wx => ∃ i : Nat, i ≤ z ∧ v = .int .i64 (i : Int) ∧ Hid (BE.Own wx G (some ⟨G, 0, none⟩) n n (Tr.sg hv (fun k => Tr.some_ (ps.take j) k || (decide (k < i) && Tr.has t k))) ∧ Below G wo wx)) (fun _ v _ => z - (intOf v).toNat)
    case atStart => exact ⟨0, Nat.zero_le _, rfl, Lib.hid ⟨by have := HJ.out.1; simpa using this, Below.refl _ _⟩⟩
    case round =>
      obtain ⟨i, hi, rfl, HI⟩ := hrel
      by_cases hiz : i < z
      case neg =>
        have q2 : ¬ ((i : Int) < (z : Int)) := by omega
        have HE : Hid (BE.Own wr G (some ⟨G, 0, none⟩) n n (Tr.sg hv (Tr.some_ (ps.take (j + 1))))) := Lib.hid (by
          have h := HI.out.1
          rw [show Tr.sg hv (fun k => Tr.some_ (ps.take j) k || (decide (k < i) && Tr.has t k)) = Tr.sg hv (Tr.some_ (ps.take (j + 1))) from Tr.sg_congr (fun k hk => by
            rw [Tr.some_next (by rw [HN.out.2]; exact hlt), HP.out]
            by_cases hki : k < i
            · simp [hki]
            · have h1 := HR.out.1.1
              have h2 := HZ.out
              have h3 := HN.out.1
              rw [Tr.has_over (l := t) (by omega)]
              simp)] at h
          exact h)
        go_wp2
        exact ⟨⟨j + 1, by omega, by go_num, Lib.hid ⟨HE.out, HJ.out.2.trans HI.out.2⟩⟩, by simp [intOf]; omega⟩
      have q2 : (i : Int) < (z : Int) := by omega
      have q3 : (i : Int) < (n : Int) := by omega
      have q4 : (i : Int) < (mj : Int) := by omega
      obtain ⟨ba, oa, rfl, _, _, hca⟩ := be_cells (HR.out.2.below HI.out.2 (fun b h _ => by have := HG.out; omega)) (by omega)
      obtain ⟨bt, ot, rfl, _, _, hct⟩ := be_cells (HR.out.1.below HI.out.2 (fun b h _ => by have := HG.out; omega)) (by omega)
      have ca := hca i (by omega)
      have ct := hct i (by omega)
      obtain ⟨cg, fg, _⟩ := own_cell HI.out.1 (k := i) (by omega)
      rw [Tr.sg_at (by rw [HN.out.1]; omega)] at cg
      obtain ⟨x, hx⟩ : ∃ x, hv.getD i false = x := ⟨_, rfl⟩
      obtain ⟨y, hy⟩ : ∃ y, t.getD i false = y := ⟨_, rfl⟩
      obtain ⟨s, hs⟩ : ∃ s, Tr.some_ (ps.take j) i = s := ⟨_, rfl⟩
      rw [hx] at ca cg
      rw [hy] at ct
      rw [hs, show (s || (decide (i < i) && Tr.has t i)) = s by simp] at cg
      have HX : Hid (∀ v, v = (!x && (s || y)) → BE.Own (wr.setCell ⟨G, i, none⟩ (.bool v)) G (some ⟨G, 0, none⟩) n n (Tr.sg hv (fun k => Tr.some_ (ps.take j) k || (decide (k < i + 1) && Tr.has t k))) ∧ Below G wo (wr.setCell ⟨G, i, none⟩ (.bool v))) := Lib.hid (fun v hv' => by
        refine ⟨?_, HI.out.2.setCell (p := ⟨G, i, none⟩) (Nat.le_refl _) _⟩
        have h := be_set HI.out.1 (k := i) (by omega) v
        rw [hv', ← hx, ← hs, ← hy] at h ⊢
        rw [← Tr.sg_set (i := i) (Q := fun k => Tr.some_ (ps.take j) k || (decide (k < i) && Tr.has t k)) (Q' := fun k => Tr.some_ (ps.take j) k || (decide (k < i + 1) && Tr.has t k)) (by rw [HN.out.1]; omega) (fun k _ hk => by
          by_cases hki : k < i
          · simp [hki, show k < i + 1 by omega]
          · simp [hki, show ¬ k < i + 1 by omega])]
        simpa [Tr.has] using h)
      clear hca hct hx hy hs
      cases x <;> cases s <;> cases y
      all_goals
        simp only [Bool.not_true, Bool.not_false, Bool.true_and, Bool.false_and] at cg
        go_wp2
        exact ⟨⟨i + 1, by omega, by go_num, Lib.hid (HX.out _ rfl)⟩, by simp [intOf]; omega⟩
end Go.Proofs.YtiogfkhmigbgpaaDoor
