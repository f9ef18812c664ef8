/-
  Plain facts on the document's Get: what is read of bytes up to some place.
-/
import Derived.Test.YtkmkccdihoaefaaBm
set_option linter.unusedSimpArgs false
set_option linter.unusedVariables false
namespace Cd
/-- The number that bytes are, the high bit of each left out. -/
def acc (l : List Int) : Int := l.foldl (fun u b => u * 128 + b % 128) 0
theorem acc_snoc (l : List Int) (x : Int) : acc (l ++ [x]) = acc l * 128 + x % 128 := by simp [acc]
theorem fold_ge (l : List Int) : ∀ u : Int, 0 ≤ u → u ≤ l.foldl (fun u b => u * 128 + b % 128) u := by
  induction l with
  | nil => intro u _; exact Int.le_refl _
  | cons x l ih =>
    intro u h
    rw [List.foldl_cons]
    have := ih (u * 128 + x % 128) (by omega)
    omega
theorem acc_nonneg (l : List Int) : 0 ≤ acc l := fold_ge l 0 (Int.le_refl _)
theorem acc_le (a b : List Int) : acc a ≤ acc (a ++ b) := by
  unfold acc
  rw [List.foldl_append]
  exact fold_ge b _ (acc_nonneg a)
theorem acc_take (l : List Int) (k : Nat) : acc (l.take k) ≤ acc l := by
  have := acc_le (l.take k) (l.drop k)
  rwa [List.take_append_drop] at this
theorem acc_tops (u : Nat) : acc (tops u) = (u : Int) := by
  induction u using Nat.strongRecOn with
  | _ u ih =>
    by_cases h : u = 0
    · subst h; rw [tops_zero]; rfl
    · rw [tops_pos h, acc_snoc, ih _ (by omega)]
      omega
theorem acc_encU (u : Nat) : acc (encU u) = (u : Int) := by
  unfold encU
  rw [acc_snoc, acc_tops]
  omega
theorem tops_high (u : Nat) : ∀ x ∈ tops u, 128 ≤ x := by
  induction u using Nat.strongRecOn with
  | _ u ih =>
    by_cases h : u = 0
    · subst h; rw [tops_zero]; intro x hx; cases hx
    · rw [tops_pos h]
      intro x hx
      rcases List.mem_append.1 hx with hx | hx
      · exact ih _ (by omega) x hx
      · simp at hx; omega
/-- The first i bytes have the high bit. -/
def High (l : List Int) (i : Nat) : Prop := ∀ j, j < i → 128 ≤ l.getD j 0
theorem high_snoc {l : List Int} {i : Nat} (h : High l i) (hi : 128 ≤ l.getD i 0) : High l (i + 1) := by
  intro j hj
  by_cases e : j = i
  · subst e; exact hi
  · exact h j (by omega)
theorem enc_at (u : Nat) (r : List Int) : (encU u ++ r).getD (tops (u / 128)).length 0 = ((u % 128 : Nat) : Int) := by
  unfold encU
  rw [List.append_assoc]
  simp
theorem enc_high (u : Nat) (r : List Int) {j : Nat} (hj : j < (tops (u / 128)).length) : 128 ≤ (encU u ++ r).getD j 0 := by
  unfold encU
  rw [List.append_assoc, List.getD_eq_getElem?_getD, List.getElem?_append_left hj, List.getElem?_eq_getElem hj]
  exact tops_high _ _ (List.getElem_mem hj)
theorem high_le {u : Nat} {r : List Int} {i : Nat} (h : High (encU u ++ r) i) : i ≤ (tops (u / 128)).length := by
  apply Decidable.byContradiction
  intro hh
  have := h (tops (u / 128)).length (by omega)
  rw [enc_at] at this
  omega
theorem parse_big {l : List Int} (hb : Byt l) {i : Nat} (hh : High l i) (hu : 144115188075855872 ≤ acc (l.take i)) : parse l = none := by
  cases hp : parse l with
  | none => rfl
  | some o =>
    obtain ⟨u, r⟩ := o
    obtain ⟨h0, h1, e⟩ := parse_enc hp hb
    rw [e] at hh hu
    have hi := high_le hh
    have h2 : (encU u.toNat ++ r).take i = (tops (u.toNat / 128)).take i := by
      unfold encU
      rw [List.append_assoc, List.take_append_of_le_length hi]
    rw [h2] at hu
    have h3 := acc_take (tops (u.toNat / 128)) i
    rw [acc_tops] at h3
    omega
theorem parse_open {l : List Int} (hb : Byt l) {i : Nat} (hh : High l i) (hi : l.length ≤ i ∨ 10 ≤ i) : parse l = none := by
  cases hp : parse l with
  | none => rfl
  | some o =>
    obtain ⟨u, r⟩ := o
    obtain ⟨h0, h1, e⟩ := parse_enc hp hb
    rw [e] at hh
    have h2 := high_le hh
    have h3 : (encU u.toNat).length ≤ 10 := encU_len (by omega)
    have h4 : (encU u.toNat).length = (tops (u.toNat / 128)).length + 1 := by simp [encU]
    have h5 : l.length = (encU u.toNat).length + r.length := by rw [e, List.length_append]
    omega
/-- Where a byte has no high bit: the bytes are a number just if they are its. -/
theorem parse_here {l : List Int} (hb : Byt l) {i : Nat} (hi : i < l.length) (hh : High l i) (hl : l.getD i 0 < 128) (ha : acc (l.take (i + 1)) < 18446744073709551616) :
    parse l = if num (unfold (acc (l.take (i + 1))).toNat) = l.take (i + 1) then some (acc (l.take (i + 1)), l.drop (i + 1)) else none := by
  have h0 := acc_nonneg (l.take (i + 1))
  split
  · rename_i hn
    unfold num at hn
    rw [fold_unfold] at hn
    have := parse_encU (u := (acc (l.take (i + 1))).toNat) (by omega) (l.drop (i + 1))
    rw [hn, List.take_append_drop] at this
    rw [this]
    congr 2
    omega
  · rename_i hn
    cases hp : parse l with
    | none => rfl
    | some o =>
      exfalso
      obtain ⟨u, r⟩ := o
      obtain ⟨h1, h2, e⟩ := parse_enc hp hb
      apply hn
      have hi1 : i ≤ (tops (u.toNat / 128)).length := by rw [e] at hh; exact high_le hh
      have hi2 : i = (tops (u.toNat / 128)).length := by
        apply Decidable.byContradiction
        intro hne
        have := enc_high u.toNat r (j := i) (by omega)
        rw [← e] at this
        omega
      have h4 : (encU u.toNat).length = i + 1 := by simp [encU, hi2]
      have h5 : l.take (i + 1) = encU u.toNat := by rw [e, ← h4, List.take_left]
      rw [h5, acc_encU]
      unfold num
      rw [fold_unfold]
      congr 1
theorem acc_lt {l : List Int} {i : Nat} (hi : i < l.length) (hu : acc (l.take i) < 144115188075855872) : acc (l.take (i + 1)) = acc (l.take i) * 128 + l.getD i 0 % 128 ∧ acc (l.take (i + 1)) < 18446744073709551616 := by
  have e : l.take (i + 1) = l.take i ++ [l.getD i 0] := by
    rw [List.take_succ_eq_append_getElem hi]; simp [hi]
  rw [e, acc_snoc]
  refine ⟨rfl, by omega⟩
/-- The number that bytes begin with, and how many bytes it has. -/
def getN (l : List Int) : Int × Nat :=
  match parse l with
  | some (u, r) => (unfold u.toNat, l.length - r.length)
  | none => (0, 0)
theorem getN_none {l : List Int} (h : parse l = none) : getN l = (0, 0) := by unfold getN; rw [h]
theorem getN_here {l : List Int} (hb : Byt l) {i : Nat} (hi : i < l.length) (hh : High l i) (hl : l.getD i 0 < 128) (ha : acc (l.take (i + 1)) < 18446744073709551616) :
    getN l = if num (unfold (acc (l.take (i + 1))).toNat) = l.take (i + 1) then (unfold (acc (l.take (i + 1))).toNat, i + 1) else (0, 0) := by
  unfold getN
  rw [parse_here hb hi hh hl ha]
  by_cases hn : num (unfold (acc (l.take (i + 1))).toNat) = l.take (i + 1)
  · rw [if_pos hn, if_pos hn]
    simp only [List.length_drop]
    congr 1
    omega
  · rw [if_neg hn, if_neg hn]
end Cd
