/-
  Plain mathematics of transfers over a manifest that was built.
-/
import Derived.Test.YtiogfkhmigbgpaaDoorXd
set_option linter.unusedVariables false
namespace Tr
open Go.Proofs.YtiogfkhmigbgpaaDoor
def done (l : List Bool) : Bool := decide (l ≠ [] ∧ missing l = 0)
/-- What a manifest that was built is. -/
structure Bt (img : List Int) (c N : Nat) (m : Mf.Man) : Prop where
  is : m = Mf.made img (c : Int)
  good : ¬ m.bad
  len : m.ds.length = N
  pos : 1 ≤ c
  le : c ≤ 4096
  n64 : N ≤ 64
  size : m.size = (img.length : Int)
  chunk : m.chunk = (c : Int)
  cov : img.length ≤ N * c
  last : (N - 1) * c < img.length
  one : 1 ≤ N
theorem bt_of {img : List Int} {ch : Int} (h : Mf.cnt img.length ch ≠ 0) : ∃ c N : Nat, ch = (c : Int) ∧ N = Mf.cnt img.length ch ∧ Bt img c N (Mf.made img ch) := by
  have h1 := Mf.cnt_in h
  have h2 := Mf.cnt_mul h
  obtain ⟨c, rfl⟩ : ∃ c : Nat, ch = (c : Int) := ⟨ch.toNat, by omega⟩
  obtain ⟨N, hN⟩ : ∃ N, Mf.cnt img.length (c : Int) = N := ⟨_, rfl⟩
  refine ⟨c, N, rfl, hN.symm, rfl, Mf.bad_made h, ?_, by omega, by omega, by rw [← hN]; exact Mf.cnt_le _ _, rfl, rfl, ?_, ?_, ?_⟩
  · show (Mf.digsTo img (c : Int).toNat (Mf.cnt img.length (c : Int))).length = N
    rw [Mf.digsTo_len, hN]
  · rw [hN] at h2
    have := h2.2
    have e : ((N * c : Nat) : Int) = (N : Int) * (c : Int) := Int.natCast_mul _ _
    omega
  · rw [hN] at h h2
    have := h2.1
    obtain ⟨M, rfl⟩ : ∃ M, N = M + 1 := ⟨N - 1, by omega⟩
    have e : ((M * c : Nat) : Int) = (M : Int) * (c : Int) := Int.natCast_mul _ _
    have e2 : (((M + 1 : Nat) : Int) - 1) = (M : Int) := by omega
    rw [e2] at this
    rw [Nat.add_sub_cancel]
    omega
  · rw [hN] at h; omega
section
variable {img : List Int} {c N : Nat} {m : Mf.Man}
theorem Bt.off (h : Bt img c N m) {k : Nat} (hk : k < N) : ¬ Mf.off m (k : Int) := by
  have h1 := h.len
  rintro (h | h | h)
  · exact Bt.good ‹_› h
  · omega
  · omega
theorem Bt.fr (h : Bt img c N m) {k : Nat} (hk : k < N) : Mf.fr m (k : Int) = ((k * c : Nat) : Int) := by
  unfold Mf.fr
  rw [if_neg (h.off hk), h.chunk, Int.natCast_mul]
theorem Bt.til (h : Bt img c N m) {k : Nat} (hk : k < N) : Mf.til m (k : Int) = ((min ((k + 1) * c) img.length : Nat) : Int) := by
  unfold Mf.til
  have e : ((k : Int) + 1) * (c : Int) = (((k + 1) * c : Nat) : Int) := by rw [Int.natCast_mul]; rfl
  rw [if_neg (h.off hk), h.size, h.chunk, e]
  split <;> omega
theorem Bt.place (h : Bt img c N m) {k : Nat} (hk : k < N) : k * c < img.length ∧ k * c ≤ min ((k + 1) * c) img.length := by
  have h1 := h.last
  have h2 : k * c ≤ (N - 1) * c := Nat.mul_le_mul_right _ (by omega)
  have h3 : (k + 1) * c = k * c + c := by rw [Nat.add_mul, Nat.one_mul]
  omega
theorem Bt.prt (h : Bt img c N m) {k : Nat} (hk : k < N) (b : List Int) : part m b k = (b.drop (k * c)).take (min ((k + 1) * c) img.length - k * c) := by
  unfold Tr.part
  rw [h.fr hk, h.til hk, Int.toNat_natCast, Int.toNat_natCast]
theorem Bt.ck (h : Bt img c N m) {k : Nat} (hk : k < N) : (img.drop (k * c)).take (min ((k + 1) * c) img.length - k * c) = Mf.ck img c k := by
  unfold Mf.ck
  have h3 : (k + 1) * c = k * c + c := by rw [Nat.add_mul, Nat.one_mul]
  have h4 := h.place hk
  by_cases hl : (k + 1) * c ≤ img.length
  · rw [Nat.min_eq_left hl, h3, Nat.add_sub_cancel_left]
  · rw [Nat.min_eq_right (by omega), List.take_of_length_le (by simp), List.take_of_length_le (by simp; omega)]
theorem Bt.dig (h : Bt img c N m) {k : Nat} (hk : k < N) : m.ds.getD k [] = Mf.cdig (k : Nat) (Mf.ck img c k) := by
  have hl := h.len
  rw [h.is] at hl ⊢
  show (Mf.digsTo img (c : Int).toNat (Mf.cnt img.length (c : Int))).getD k [] = _
  have hl' : Mf.cnt img.length (c : Int) = N := by
    have : (Mf.digsTo img (c : Int).toNat (Mf.cnt img.length (c : Int))).length = N := hl
    rw [Mf.digsTo_len] at this
    exact this
  rw [hl', Int.toNat_natCast]
  unfold Mf.digsTo
  rw [List.getD_eq_getElem?_getD, List.getElem?_map, List.getElem?_range hk]
  rfl
/-- The chunk's own bytes are verified. -/
theorem Bt.ver (h : Bt img c N m) {k : Nat} (hk : k < N) {b : List Int} (hb : b = Mf.ck img c k) : Mf.ver m (k : Int) b = 0 := by
  have h4 := h.place hk
  subst hb
  unfold Mf.ver
  rw [if_neg (h.off hk), if_neg]
  rintro (h1 | h1)
  · refine h1 ?_
    rw [h.til hk, h.fr hk, ← h.ck hk, List.length_take, List.length_drop]
    omega
  · refine h1 ?_
    rw [Int.toNat_natCast, h.dig hk]
/-- Bytes of another length are not. -/
theorem Bt.short (h : Bt img c N m) {k : Nat} (hk : k < N) {b : List Int} (hb : b.length ≠ min ((k + 1) * c) img.length - k * c) : Mf.ver m (k : Int) b = 51 := by
  have h4 := h.place hk
  unfold Mf.ver
  rw [if_neg (h.off hk), if_pos]
  left
  rw [h.til hk, h.fr hk]
  omega
theorem Bt.fnd (h : Bt img c N m) (b : List Int) : find m b = (List.range N).map fun k => decide (Mf.ver m (k : Nat) (part m b k) = 0) := by
  unfold Tr.find
  rw [if_neg h.good, h.len]
/-- Bytes that begin with the image hold all its chunks. -/
theorem Bt.full (h : Bt img c N m) (more : List Int) : Tr.find m (img ++ more) = List.replicate N true := by
  rw [h.fnd]
  apply List.ext_getElem
  · simp
  · intro k h1 h2
    have hk : k < N := by simpa using h1
    have h4 := h.place hk
    simp only [List.getElem_map, List.getElem_range, List.getElem_replicate, decide_eq_true_eq]
    refine h.ver hk ?_
    rw [h.prt hk, ← h.ck hk, List.drop_append_of_le_length (by omega), List.take_append_of_le_length (by simp; omega)]
/-- A beginning of the image holds those that are all there. -/
theorem Bt.begins (h : Bt img c N m) {n : Nat} (hn : n ≤ img.length) : Tr.find m (img.take n) = (List.range N).map fun k => decide (Mf.til m (k : Nat) ≤ (n : Int)) := by
  rw [h.fnd]
  refine List.map_congr_left fun k hk => ?_
  have hk : k < N := List.mem_range.1 hk
  have h4 := h.place hk
  have hsh := fun b hb => h.short (b := b) hk hb
  have hck := h.ck hk
  have hvr := fun b hb => h.ver (b := b) hk hb
  have htl : min ((k + 1) * c) img.length ≤ img.length := Nat.min_le_right _ _
  have hst : k * c < min ((k + 1) * c) img.length := by
    have h5 := h.pos
    have h6 : (k + 1) * c = k * c + c := by rw [Nat.add_mul, Nat.one_mul]
    omega
  rw [h.prt hk, h.til hk]
  generalize min ((k + 1) * c) img.length = t at *
  generalize k * c = s at *
  by_cases hc : t ≤ n
  · rw [decide_eq_true (show ((t : Nat) : Int) ≤ (n : Int) by omega)]
    refine decide_eq_true (hvr _ ?_)
    rw [← hck, List.drop_take, List.take_take, Nat.min_eq_left (by omega)]
  · rw [decide_eq_false (show ¬ ((t : Nat) : Int) ≤ (n : Int) by omega)]
    have e := hsh (((img.take n).drop s).take (t - s)) (by
      rw [List.length_take, List.length_drop, List.length_take]
      omega)
    rw [e]
    decide
end
theorem missing_rep_true (n : Nat) : missing (List.replicate n true) = 0 := by
  unfold missing
  rw [List.count_replicate]
  rfl
theorem missing_rep_false (n : Nat) : missing (List.replicate n false) = n := by
  unfold missing
  rw [List.count_replicate]
  rfl
theorem missing_zero {l : List Bool} (h : missing l = 0) {k : Nat} (hk : k < l.length) : l.getD k false = true := by
  unfold missing at h
  rw [List.count_eq_zero] at h
  have e : l.getD k false = l[k] := by simp [hk]
  rw [e]
  cases hl : l[k]
  · exact absurd (hl ▸ List.getElem_mem hk) h
  · rfl
theorem missing_pos {l : List Bool} (h : missing l ≠ 0) : ∃ k, k < l.length ∧ l.getD k false = false := by
  unfold missing at h
  have : 0 < l.count false := by omega
  obtain ⟨k, hk, e⟩ := List.getElem_of_mem (List.count_pos_iff.1 this)
  exact ⟨k, hk, by simp [hk, e]⟩
theorem missing_set {l : List Bool} {k : Nat} (hk : k < l.length) (h : l.getD k false = false) : missing (l.set k true) + 1 = missing l := by
  unfold missing
  have e : l[k] = false := by simpa [hk] using h
  have hp : 0 < l.count false := List.count_pos_iff.2 (e ▸ List.getElem_mem hk)
  rw [List.count_set hk, e]
  simp
  omega
/-- What is picked is missing, and a peer has it. -/
theorem pick_ok {hv : List Bool} {ps : List (List Bool)} {d : Int} {N : Nat} (hN : hv.length = N) (hm : missing hv ≠ 0) : ∃ i p : Nat, pick hv (ps ++ [List.replicate N true]) d = ((i : Int), (p : Int), true) ∧ i < N ∧ hv.getD i false = false ∧ p < ps.length + 1 ∧ has ((ps ++ [List.replicate N true]).getD p []) i = true := by
  obtain ⟨k, hk, hkf⟩ := missing_pos hm
  have hall : ∀ c, c < N → some_ (ps ++ [List.replicate N true]) c = true := fun c hc => at_of_some (p := ps.length) (by simp) (by simp [has, hc])
  unfold pick
  cases h1 : first hv.length (d.toNat % hv.length) (fun c => !hv.getD c false && some_ (ps ++ [List.replicate N true]) c) with
  | none =>
    have := first_none h1 k hk
    rw [hkf, hall k (by omega)] at this
    cases this
  | some i =>
    have h2 := first_some h1
    simp only [Bool.and_eq_true, Bool.not_eq_true'] at h2
    cases h3 : first (ps ++ [List.replicate N true]).length (d.toNat / 4294967296 % (ps ++ [List.replicate N true]).length) (fun p => has ((ps ++ [List.replicate N true]).getD p []) i) with
    | none =>
      obtain ⟨p, hp, hpi⟩ := some_of_at h2.2.2
      rw [first_none h3 p hp] at hpi
      cases hpi
    | some p =>
      have h4 := first_some h3
      refine ⟨i, p, ?_, by omega, h2.2.1, by simpa using h4.1, h4.2⟩
      dsimp only
      rw [h3]
theorem pick_end {hv : List Bool} {ps : List (List Bool)} {d : Int} (hm : missing hv = 0) : pick hv ps d = (0, 0, false) := by
  unfold pick
  have : first hv.length (d.toNat % hv.length) (fun c => !hv.getD c false && some_ ps c) = none := by
    by_cases h0 : hv.length = 0
    · unfold first; rw [h0]; rfl
    · refine first_end (fun k hk => ?_)
      rw [missing_zero hm (Nat.mod_lt _ (by omega))]
      rfl
  rw [this]
theorem has_len {l : List Bool} {i : Nat} (h : has l i = true) : i < l.length := by
  apply Decidable.byContradiction
  intro hn
  unfold has at h
  rw [List.getD_eq_getElem?_getD, List.getElem?_eq_none (by omega)] at h
  cases h
end Tr
