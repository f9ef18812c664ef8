/-
  Plain facts on the bytes of numbers (no Go program): what a number's bytes are, what is read of bytes, and that each is the other's inverse.
  Plain facts on the document's Get: what is read of bytes up to some place.
  Plain mathematics of manifests: how many chunks, where they are, what is checked, written and read.
  The walks of count, and of the document's chunks.
  The walks of the document's chunks, and of Check and few, and the document's Check.
  The walks of Part, and the document's Part; and of few.
  The walks of a chunk's digest, and the document's.
-/
import Derived.Test.YtiogfkhmigbgpaaDoorZi
import Derived.Test.YtiogfkhmigbgpaaDoorZj
import Derived.Test.YtiogfkhmigbgpaaDoorZl
namespace Cd

/-- The digits of u, highest first, each with the bit 128; none of 0. -/
def tops (u : Nat) : List Int := if _h : u = 0 then [] else tops (u / 128) ++ [((u % 128 + 128 : Nat) : Int)]
termination_by u
decreasing_by omega

def encU (u : Nat) : List Int := tops (u / 128) ++ [((u % 128 : Nat) : Int)]
def fold (n : Int) : Nat := if n < 0 then (2 * (-(n + 1)) + 1).toNat else (2 * n).toNat
def unfold (u : Nat) : Int := if u % 2 = 1 then -((u / 2 : Nat) : Int) - 1 else ((u / 2 : Nat) : Int)
/-- A number's bytes. -/
def num (n : Int) : List Int := encU (fold n)

def top57 : Int := 144115188075855872

/-- What is read behind a first byte b with the bits u so far. -/
def go : List Int → Int → Int → Option (Int × List Int)
  | [], u, b => if b < 128 then some (u, []) else none
  | c :: r, u, b => if b < 128 then some (u, c :: r) else if u < top57 then go r (u * 128 + c % 128) c else none
def parse : List Int → Option (Int × List Int)
  | [] => none
  | b :: r => if b = 128 then none else go r (b % 128) b

theorem parse_cons (b : Int) (r : List Int) : parse (b :: r) = if b = 128 then none else go r (b % 128) b := rfl

def Byt (l : List Int) : Prop := ∀ x ∈ l, 0 ≤ x ∧ x < 256

theorem tops_zero : tops 0 = [] := by unfold tops; simp
theorem tops_pos {u : Nat} (h : u ≠ 0) : tops u = tops (u / 128) ++ [((u % 128 + 128 : Nat) : Int)] := by
  conv => lhs; unfold tops
  rw [dif_neg h]

theorem byt_append {a b : List Int} (ha : Byt a) (hb : Byt b) : Byt (a ++ b) := by
  intro x hx
  rcases List.mem_append.1 hx with h | h
  · exact ha x h
  · exact hb x h
theorem byt_left {a b : List Int} (h : Byt (a ++ b)) : Byt a := fun x hx => h x (List.mem_append_left _ hx)
theorem byt_right {a b : List Int} (h : Byt (a ++ b)) : Byt b := fun x hx => h x (List.mem_append_right _ hx)
theorem byt_drop {a : List Int} (h : Byt a) (k : Nat) : Byt (a.drop k) := fun x hx => h x (List.mem_of_mem_drop hx)
theorem byt_take {a : List Int} (h : Byt a) (k : Nat) : Byt (a.take k) := fun x hx => h x (List.mem_of_mem_take hx)
theorem byt_nil : Byt [] := fun x hx => by cases hx
theorem byt_cons {x : Int} {l : List Int} (h0 : 0 ≤ x) (h1 : x < 256) (h : Byt l) : Byt (x :: l) := by
  intro y hy
  rcases List.mem_cons.1 hy with h' | h'
  · subst h'; exact ⟨h0, h1⟩
  · exact h y h'
theorem byt_tops (u : Nat) : Byt (tops u) := by
  induction u using Nat.strongRecOn with
  | _ u ih =>
    by_cases h : u = 0
    · subst h; rw [tops_zero]; exact byt_nil
    · rw [tops_pos h]
      exact byt_append (ih _ (by omega)) (byt_cons (by omega) (by omega) byt_nil)
theorem byt_encU (u : Nat) : Byt (encU u) := byt_append (byt_tops _) (byt_cons (by omega) (by omega) byt_nil)
theorem byt_num (n : Int) : Byt (num n) := byt_encU _

theorem tops_len {k : Nat} : ∀ {u : Nat}, u < 128 ^ k → (tops u).length ≤ k := by
  induction k with
  | zero => intro u h; have : u = 0 := by simpa using h
            subst this; rw [tops_zero]; simp
  | succ k ih =>
    intro u h
    by_cases h0 : u = 0
    · subst h0; rw [tops_zero]; simp
    · rw [tops_pos h0]
      have : u / 128 < 128 ^ k := by
        rw [Nat.pow_succ] at h
        exact Nat.div_lt_of_lt_mul (by rw [Nat.mul_comm]; exact h)
      have := ih this
      simp; omega
theorem encU_len {u : Nat} (h : u < 18446744073709551616) : (encU u).length ≤ 10 := by
  have : (tops (u / 128)).length ≤ 9 := tops_len (by
    have e : (128 : Nat) ^ 9 = 9223372036854775808 := by decide
    rw [e]; omega)
  unfold encU; simp; omega
theorem encU_pos (u : Nat) : 0 < (encU u).length := by unfold encU; simp

theorem fold_lt {n : Int} (h0 : -9223372036854775808 ≤ n) (h1 : n ≤ 9223372036854775807) : fold n < 18446744073709551616 := by
  unfold fold; split <;> omega
theorem unfold_fold (n : Int) : unfold (fold n) = n := by
  unfold fold unfold
  by_cases h : n < 0
  · rw [if_pos h, if_pos (by omega)]; omega
  · rw [if_neg h, if_neg (by omega)]; omega
theorem fold_unfold (u : Nat) : fold (unfold u) = u := by
  unfold fold unfold
  by_cases h : u % 2 = 1
  · rw [if_pos h, if_pos (by omega)]; omega
  · rw [if_neg h, if_neg (by omega)]; omega
theorem unfold_range {u : Nat} (h : u < 18446744073709551616) : -9223372036854775808 ≤ unfold u ∧ unfold u ≤ 9223372036854775807 := by
  unfold unfold; split <;> omega
theorem num_len {n : Int} (h0 : -9223372036854775808 ≤ n) (h1 : n ≤ 9223372036854775807) : (num n).length ≤ 10 := encU_len (fold_lt h0 h1)
theorem num_pos (n : Int) : 0 < (num n).length := encU_pos _

theorem go_lt (r : List Int) (u b : Int) (h : b < 128) : go r u b = some (u, r) := by
  cases r <;> simp [go, h]
theorem go_ge (c : Int) (r : List Int) (u b : Int) (h : ¬ b < 128) (hu : u < top57) : go (c :: r) u b = go r (u * 128 + c % 128) c := by
  simp [go, h, hu]

theorem parse_tops (c : Int) (t : List Int) : ∀ v : Nat, v ≠ 0 → (v : Int) < top57 → parse (tops v ++ c :: t) = go t ((v : Int) * 128 + c % 128) c := by
  intro v
  induction v using Nat.strongRecOn generalizing c t with
  | _ v ih =>
    intro h0 h1
    by_cases hs : v < 128
    · rw [tops_pos h0, show v / 128 = 0 by omega, tops_zero, show v % 128 = v by omega]
      show parse (((v + 128 : Nat) : Int) :: c :: t) = _
      rw [parse_cons, if_neg (by omega), go_ge _ _ _ _ (by omega) (by unfold top57; omega), show ((v + 128 : Nat) : Int) % 128 = (v : Int) by omega]
    · rw [tops_pos h0, List.append_assoc]
      show parse (tops (v / 128) ++ ((v % 128 + 128 : Nat) : Int) :: c :: t) = _
      rw [ih (v / 128) (by omega) _ _ (by omega) (by unfold top57 at *; omega)]
      have e : ((v / 128 : Nat) : Int) * 128 + ((v % 128 + 128 : Nat) : Int) % 128 = (v : Int) := by omega
      rw [e, go_ge _ _ _ _ (by omega) h1]
theorem parse_encU {u : Nat} (h : u < 18446744073709551616) (r : List Int) : parse (encU u ++ r) = some ((u : Int), r) := by
  unfold encU
  by_cases hs : u < 128
  · rw [show u / 128 = 0 by omega, tops_zero, show u % 128 = u by omega]
    show parse ((u : Int) :: r) = _
    rw [parse_cons, if_neg (by omega), go_lt _ _ _ (by omega), show (u : Int) % 128 = (u : Int) by omega]
  · rw [List.append_assoc]
    show parse (tops (u / 128) ++ ((u % 128 : Nat) : Int) :: r) = _
    rw [parse_tops _ _ _ (by omega) (by unfold top57; omega), go_lt _ _ _ (by omega), show ((u / 128 : Nat) : Int) * 128 + ((u % 128 : Nat) : Int) % 128 = (u : Int) by omega]

theorem go_enc {r : List Int} {u' : Int} : ∀ (t : List Int) (u b : Int), go t u b = some (u', r) → Byt (b :: t) → 0 ≤ u → u < 18446744073709551616 → (1 ≤ u ∨ b < 128) → b % 128 = u % 128 →
    0 ≤ u' ∧ u' < 18446744073709551616 ∧ ∃ s, t = s ++ r ∧ tops (u.toNat / 128) ++ b :: s = encU u'.toNat := by
  intro t
  have last : ∀ (u b : Int), 0 ≤ u → 0 ≤ b → b < 128 → b % 128 = u % 128 → tops (u.toNat / 128) ++ [b] = encU u.toNat := by
    intro u b h0 h1 h2 h3
    unfold encU
    congr 2; omega
  induction t with
  | nil =>
    intro u b h hb h0 h1 hu he
    have hb0 := hb b (by simp)
    unfold go at h
    split at h
    · simp at h
      obtain ⟨rfl, rfl⟩ := h
      exact ⟨h0, h1, [], rfl, last u b h0 hb0.1 (by assumption) he⟩
    · simp at h
  | cons c t ih =>
    intro u b h hb h0 h1 hu he
    have hb0 := hb b (by simp)
    have hc0 := hb c (by simp)
    unfold go at h
    split at h
    · simp at h
      obtain ⟨rfl, rfl⟩ := h
      exact ⟨h0, h1, [], rfl, last u b h0 hb0.1 (by assumption) he⟩
    · split at h
      · rename_i h2 h3
        unfold top57 at h3
        obtain ⟨g0, g1, s, rfl, hs⟩ := ih (u * 128 + c % 128) c h (fun x hx => hb x (by simp at hx ⊢; right; exact hx)) (by omega) (by omega) (by omega) (by omega)
        refine ⟨g0, g1, c :: s, rfl, ?_⟩
        rw [← hs, show (u * 128 + c % 128).toNat / 128 = u.toNat by omega, tops_pos (u := u.toNat) (by omega), List.append_assoc]
        congr 1
        show b :: c :: s = ((u.toNat % 128 + 128 : Nat) : Int) :: c :: s
        congr 1
        omega
      · simp at h
theorem parse_enc {l r : List Int} {u : Int} (h : parse l = some (u, r)) (hb : Byt l) : 0 ≤ u ∧ u < 18446744073709551616 ∧ l = encU u.toNat ++ r := by
  cases l with
  | nil => simp [parse] at h
  | cons b t =>
    have hb0 := hb b (by simp)
    rw [parse_cons] at h
    split at h
    · simp at h
    · obtain ⟨g0, g1, s, rfl, hs⟩ := go_enc t (b % 128) b h hb (by omega) (by omega) (by omega) (by omega)
      refine ⟨g0, g1, ?_⟩
      rw [← hs, show (b % 128).toNat / 128 = 0 by omega, tops_zero]
      rfl

/-- What is read of a rest that a number of least to most begins. -/
def get (least most : Int) (l : List Int) : Option (Int × List Int) :=
  match parse l with
  | some (u, r) => if least ≤ unfold u.toNat ∧ unfold u.toNat ≤ most then some (unfold u.toNat, r) else none
  | none => none
theorem parse_num {n : Int} (h0 : -9223372036854775808 ≤ n) (h1 : n ≤ 9223372036854775807) (r : List Int) : parse (num n ++ r) = some ((fold n : Int), r) := parse_encU (fold_lt h0 h1) r
theorem get_num {n least most : Int} (h0 : -9223372036854775808 ≤ n) (h1 : n ≤ 9223372036854775807) (hl : least ≤ n) (hm : n ≤ most) (r : List Int) : get least most (num n ++ r) = some (n, r) := by
  unfold get
  rw [parse_num h0 h1]
  simp only [Int.toNat_natCast, unfold_fold]
  rw [if_pos ⟨hl, hm⟩]
theorem get_enc {least most n : Int} {l r : List Int} (h : get least most l = some (n, r)) (hb : Byt l) : -9223372036854775808 ≤ n ∧ n ≤ 9223372036854775807 ∧ least ≤ n ∧ n ≤ most ∧ l = num n ++ r := by
  unfold get at h
  split at h
  · rename_i u r' hp
    split at h
    · rename_i hh
      simp at h
      obtain ⟨rfl, rfl⟩ := h
      obtain ⟨g0, g1, g2⟩ := parse_enc hp hb
      have := unfold_range (u := u.toNat) (by omega)
      refine ⟨this.1, this.2, hh.1, hh.2, ?_⟩
      unfold num
      rw [fold_unfold]; exact g2
    · simp at h
  · simp at h
end Cd
set_option linter.unusedSimpArgs false
set_option linter.unusedVariables false
namespace Cd
/-- The number that bytes are, the high bit of each left out. -/
def acc (l : List Int) : Int := l.foldl (fun u b => u * 128 + b % 128) 0
theorem acc_snoc (l : List Int) (x : Int) : acc (l ++ [x]) = acc l * 128 + x % 128 := by simp [acc]
theorem fold_ge (l : List Int) : ∀ u : Int, 0 ≤ u → u ≤ l.foldl (fun u b => u * 128 + b % 128) u := by
  induction l with
  | nil => intro u _; exact Int.le_refl _
  | cons x l ih =>
    intro u h
    rw [List.foldl_cons]
    have := ih (u * 128 + x % 128) (by omega)
    omega
theorem acc_nonneg (l : List Int) : 0 ≤ acc l := fold_ge l 0 (Int.le_refl _)
theorem acc_le (a b : List Int) : acc a ≤ acc (a ++ b) := by
  unfold acc
  rw [List.foldl_append]
  exact fold_ge b _ (acc_nonneg a)
theorem acc_take (l : List Int) (k : Nat) : acc (l.take k) ≤ acc l := by
  have := acc_le (l.take k) (l.drop k)
  rwa [List.take_append_drop] at this
theorem acc_tops (u : Nat) : acc (tops u) = (u : Int) := by
  induction u using Nat.strongRecOn with
  | _ u ih =>
    by_cases h : u = 0
    · subst h; rw [tops_zero]; rfl
    · rw [tops_pos h, acc_snoc, ih _ (by omega)]
      omega
theorem acc_encU (u : Nat) : acc (encU u) = (u : Int) := by
  unfold encU
  rw [acc_snoc, acc_tops]
  omega
theorem tops_high (u : Nat) : ∀ x ∈ tops u, 128 ≤ x := by
  induction u using Nat.strongRecOn with
  | _ u ih =>
    by_cases h : u = 0
    · subst h; rw [tops_zero]; intro x hx; cases hx
    · rw [tops_pos h]
      intro x hx
      rcases List.mem_append.1 hx with hx | hx
      · exact ih _ (by omega) x hx
      · simp at hx; omega
/-- The first i bytes have the high bit. -/
def High (l : List Int) (i : Nat) : Prop := ∀ j, j < i → 128 ≤ l.getD j 0
theorem high_snoc {l : List Int} {i : Nat} (h : High l i) (hi : 128 ≤ l.getD i 0) : High l (i + 1) := by
  intro j hj
  by_cases e : j = i
  · subst e; exact hi
  · exact h j (by omega)
theorem enc_at (u : Nat) (r : List Int) : (encU u ++ r).getD (tops (u / 128)).length 0 = ((u % 128 : Nat) : Int) := by
  unfold encU
  rw [List.append_assoc]
  simp
theorem enc_high (u : Nat) (r : List Int) {j : Nat} (hj : j < (tops (u / 128)).length) : 128 ≤ (encU u ++ r).getD j 0 := by
  unfold encU
  rw [List.append_assoc, List.getD_eq_getElem?_getD, List.getElem?_append_left hj, List.getElem?_eq_getElem hj]
  exact tops_high _ _ (List.getElem_mem hj)
theorem high_le {u : Nat} {r : List Int} {i : Nat} (h : High (encU u ++ r) i) : i ≤ (tops (u / 128)).length := by
  apply Decidable.byContradiction
  intro hh
  have := h (tops (u / 128)).length (by omega)
  rw [enc_at] at this
  omega
theorem parse_big {l : List Int} (hb : Byt l) {i : Nat} (hh : High l i) (hu : 144115188075855872 ≤ acc (l.take i)) : parse l = none := by
  cases hp : parse l with
  | none => rfl
  | some o =>
    obtain ⟨u, r⟩ := o
    obtain ⟨h0, h1, e⟩ := parse_enc hp hb
    rw [e] at hh hu
    have hi := high_le hh
    have h2 : (encU u.toNat ++ r).take i = (tops (u.toNat / 128)).take i := by
      unfold encU
      rw [List.append_assoc, List.take_append_of_le_length hi]
    rw [h2] at hu
    have h3 := acc_take (tops (u.toNat / 128)) i
    rw [acc_tops] at h3
    omega
theorem parse_open {l : List Int} (hb : Byt l) {i : Nat} (hh : High l i) (hi : l.length ≤ i ∨ 10 ≤ i) : parse l = none := by
  cases hp : parse l with
  | none => rfl
  | some o =>
    obtain ⟨u, r⟩ := o
    obtain ⟨h0, h1, e⟩ := parse_enc hp hb
    rw [e] at hh
    have h2 := high_le hh
    have h3 : (encU u.toNat).length ≤ 10 := encU_len (by omega)
    have h4 : (encU u.toNat).length = (tops (u.toNat / 128)).length + 1 := by simp [encU]
    have h5 : l.length = (encU u.toNat).length + r.length := by rw [e, List.length_append]
    omega
/-- Where a byte has no high bit: the bytes are a number just if they are its. -/
theorem parse_here {l : List Int} (hb : Byt l) {i : Nat} (hi : i < l.length) (hh : High l i) (hl : l.getD i 0 < 128) (ha : acc (l.take (i + 1)) < 18446744073709551616) :
    parse l = if num (unfold (acc (l.take (i + 1))).toNat) = l.take (i + 1) then some (acc (l.take (i + 1)), l.drop (i + 1)) else none := by
  have h0 := acc_nonneg (l.take (i + 1))
  split
  · rename_i hn
    unfold num at hn
    rw [fold_unfold] at hn
    have := parse_encU (u := (acc (l.take (i + 1))).toNat) (by omega) (l.drop (i + 1))
    rw [hn, List.take_append_drop] at this
    rw [this]
    congr 2
    omega
  · rename_i hn
    cases hp : parse l with
    | none => rfl
    | some o =>
      exfalso
      obtain ⟨u, r⟩ := o
      obtain ⟨h1, h2, e⟩ := parse_enc hp hb
      apply hn
      have hi1 : i ≤ (tops (u.toNat / 128)).length := by rw [e] at hh; exact high_le hh
      have hi2 : i = (tops (u.toNat / 128)).length := by
        apply Decidable.byContradiction
        intro hne
        have := enc_high u.toNat r (j := i) (by omega)
        rw [← e] at this
        omega
      have h4 : (encU u.toNat).length = i + 1 := by simp [encU, hi2]
      have h5 : l.take (i + 1) = encU u.toNat := by rw [e, ← h4, List.take_left]
      rw [h5, acc_encU]
      unfold num
      rw [fold_unfold]
      congr 1
theorem acc_lt {l : List Int} {i : Nat} (hi : i < l.length) (hu : acc (l.take i) < 144115188075855872) : acc (l.take (i + 1)) = acc (l.take i) * 128 + l.getD i 0 % 128 ∧ acc (l.take (i + 1)) < 18446744073709551616 := by
  have e : l.take (i + 1) = l.take i ++ [l.getD i 0] := by
    rw [List.take_succ_eq_append_getElem hi]; simp [hi]
  rw [e, acc_snoc]
  refine ⟨rfl, by omega⟩
/-- The number that bytes begin with, and how many bytes it has. -/
def getN (l : List Int) : Int × Nat :=
  match parse l with
  | some (u, r) => (unfold u.toNat, l.length - r.length)
  | none => (0, 0)
theorem getN_none {l : List Int} (h : parse l = none) : getN l = (0, 0) := by unfold getN; rw [h]
theorem getN_here {l : List Int} (hb : Byt l) {i : Nat} (hi : i < l.length) (hh : High l i) (hl : l.getD i 0 < 128) (ha : acc (l.take (i + 1)) < 18446744073709551616) :
    getN l = if num (unfold (acc (l.take (i + 1))).toNat) = l.take (i + 1) then (unfold (acc (l.take (i + 1))).toNat, i + 1) else (0, 0) := by
  unfold getN
  rw [parse_here hb hi hh hl ha]
  by_cases hn : num (unfold (acc (l.take (i + 1))).toNat) = l.take (i + 1)
  · rw [if_pos hn, if_pos hn]
    simp only [List.length_drop]
    congr 1
    omega
  · rw [if_neg hn, if_neg hn]
end Cd
namespace Mf
open Go.Proofs.YtiogfkhmigbgpaaDoor
/-- How many chunks an image of s bytes has, in chunks of c; 0, if it may not be. -/
def cnt (s c : Int) : Nat := if s < 1 ∨ 65536 < s ∨ c < 1 ∨ 4096 < c then 0 else if 64 < (s + c - 1) / c then 0 else ((s + c - 1) / c).toNat
theorem quo {s c : Int} (hc : 1 ≤ c) : ((s + c - 1) / c - 1) * c < s ∧ s ≤ (s + c - 1) / c * c := by
  have h1 := Int.mul_ediv_add_emod (s + c - 1) c
  have h2 := Int.emod_nonneg (s + c - 1) (show c ≠ 0 by omega)
  have h3 := Int.emod_lt_of_pos (s + c - 1) (show 0 < c by omega)
  have e1 : ((s + c - 1) / c - 1) * c = c * ((s + c - 1) / c) - c := by rw [Int.sub_mul, Int.mul_comm, Int.one_mul]
  have e2 : (s + c - 1) / c * c = c * ((s + c - 1) / c) := Int.mul_comm _ _
  rw [e1, e2]
  omega
theorem quo_eq {s c n : Int} (hc : 1 ≤ c) (h1 : (n - 1) * c < s) (h2 : s ≤ n * c) : (s + c - 1) / c = n := by
  have hq := quo (s := s) hc
  generalize (s + c - 1) / c = q at hq
  have a1 : q - 1 < n := by
    apply Decidable.byContradiction
    intro h
    have : n * c ≤ (q - 1) * c := Int.mul_le_mul_of_nonneg_right (by omega) (by omega)
    omega
  have a2 : n - 1 < q := by
    apply Decidable.byContradiction
    intro h
    have : q * c ≤ (n - 1) * c := Int.mul_le_mul_of_nonneg_right (by omega) (by omega)
    omega
  omega
theorem cnt_le (s c : Int) : cnt s c ≤ 64 := by
  unfold cnt
  split
  · omega
  · split <;> omega
theorem cnt_bad {s c : Int} (h : s < 1 ∨ 65536 < s ∨ c < 1 ∨ 4096 < c) : cnt s c = 0 := by unfold cnt; rw [if_pos h]
theorem cnt_in {s c : Int} (h : cnt s c ≠ 0) : 1 ≤ s ∧ s ≤ 65536 ∧ 1 ≤ c ∧ c ≤ 4096 := by
  apply Decidable.byContradiction
  intro hh
  exact h (cnt_bad (by omega))
theorem cnt_of {s c : Int} {n : Nat} (hs : 1 ≤ s) (hs' : s ≤ 65536) (hc : 1 ≤ c) (hc' : c ≤ 4096) (h1 : ((n : Int) - 1) * c < s) (h2 : s ≤ n * c) : cnt s c = if 64 < n then 0 else n := by
  unfold cnt
  rw [if_neg (by omega), quo_eq hc h1 h2]
  by_cases h : 64 < n
  · rw [if_pos h, if_pos (by omega)]
  · rw [if_neg h, if_neg (by omega)]
    omega
theorem cnt_mul {s c : Int} (h : cnt s c ≠ 0) : ((cnt s c : Int) - 1) * c < s ∧ s ≤ cnt s c * c := by
  obtain ⟨h1, h2, h3, h4⟩ := cnt_in h
  have hq := quo (s := s) h3
  have e : cnt s c = if 64 < (s + c - 1) / c then 0 else ((s + c - 1) / c).toNat := by unfold cnt; rw [if_neg (by omega)]
  generalize (s + c - 1) / c = q at hq e
  by_cases hb : 64 < q
  · rw [if_pos hb] at e; exact absurd e h
  · rw [if_neg hb] at e
    have hq0 : 0 < q := by
      apply Decidable.byContradiction
      intro hh
      have : q * c ≤ 0 := by
        have := Int.mul_le_mul_of_nonneg_right (show q ≤ 0 by omega) (show 0 ≤ c by omega)
        omega
      omega
    have e2 : ((cnt s c : Nat) : Int) = q := by omega
    rw [e2]; exact hq
/-- A manifest. -/
structure Man where
  size : Int
  chunk : Int
  ds : List (List Int)
  wh : List Int
def Man.bad (m : Man) : Prop := cnt m.size m.chunk = 0 ∨ m.ds.length ≠ cnt m.size m.chunk
instance (m : Man) : Decidable m.bad := inferInstanceAs (Decidable (_ ∨ _))
def chk (m : Man) : Int := if m.bad then 50 else 0
def off (m : Man) (i : Int) : Prop := m.bad ∨ i < 0 ∨ (m.ds.length : Int) ≤ i
instance (m : Man) (i : Int) : Decidable (off m i) := inferInstanceAs (Decidable (_ ∨ _))
/-- Where the chunk i begins, and ends. -/
def fr (m : Man) (i : Int) : Int := if off m i then 0 else i * m.chunk
def til (m : Man) (i : Int) : Int := if off m i then 0 else if m.size < (i + 1) * m.chunk then m.size else (i + 1) * m.chunk
/-- A chunk's digest. -/
def cdig (i : Int) (b : List Int) : List Int := Sm.dig (0 :: i :: b)
def ver (m : Man) (i : Int) (b : List Int) : Int :=
  if off m i then 1 else if (b.length : Int) ≠ til m i - fr m i ∨ cdig i b ≠ m.ds.getD i.toNat [] then 51 else 0
def who (m : Man) (b : List Int) : Int := if m.bad then 1 else if (b.length : Int) ≠ m.size ∨ Sm.dig b ≠ m.wh then 51 else 0
def body (m : Man) : List Int := Cd.num m.size ++ (Cd.num m.chunk ++ (m.ds.flatten ++ m.wh))
def root (m : Man) : List Int := Sm.tree (m.wh :: m.ds)
def zero32 : List Int := zs 32
def zero : Man := ⟨0, 0, [], zero32⟩
/-- The chunk i of an image. -/
def ck (img : List Int) (c i : Nat) : List Int := (img.drop (i * c)).take c
def digsTo (img : List Int) (c n : Nat) : List (List Int) := (List.range n).map fun i => cdig (i : Nat) (ck img c i)
def made (img : List Int) (c : Int) : Man := ⟨img.length, c, digsTo img c.toNat (cnt img.length c), Sm.dig img⟩
/-- The first n pieces of 32 bytes. -/
def cut (q : List Int) (n : Nat) : List (List Int) := (List.range n).map fun i => (q.drop (32 * i)).take 32
def decR (s c : Int) (q : List Int) : Option Man :=
  if cnt s c = 0 ∨ q.length ≠ 32 * (cnt s c + 1) then none else some ⟨s, c, cut q (cnt s c), q.drop (32 * cnt s c)⟩
def dec (b : List Int) : Option Man :=
  match Cd.get 1 65536 b with
  | none => none
  | some (s, r) => match Cd.get 1 4096 r with
    | none => none
    | some (c, q) => decR s c q
theorem digsTo_len (img : List Int) (c n : Nat) : (digsTo img c n).length = n := by simp [digsTo]
theorem digsTo_succ (img : List Int) (c n : Nat) : digsTo img c (n + 1) = digsTo img c n ++ [cdig (n : Nat) (ck img c n)] := by simp [digsTo, List.range_succ]
theorem cut_len (q : List Int) (n : Nat) : (cut q n).length = n := by simp [cut]
theorem cut_succ (q : List Int) (n : Nat) : cut q (n + 1) = cut q n ++ [(q.drop (32 * n)).take 32] := by simp [cut, List.range_succ]
theorem cdig_ok (i : Int) (b : List Int) : Dig (cdig i b) := dig_ok _
theorem digsTo_ok (img : List Int) (c n : Nat) : ∀ d ∈ digsTo img c n, Dig d := by
  intro d hd
  obtain ⟨i, _, rfl⟩ := List.mem_map.1 hd
  exact cdig_ok _ _
theorem cut_ok {q : List Int} {n : Nat} (hq : Byt q) (hl : 32 * n ≤ q.length) : ∀ d ∈ cut q n, Dig d := by
  intro d hd
  obtain ⟨i, hi, rfl⟩ := List.mem_map.1 hd
  have := List.mem_range.1 hi
  exact ⟨by simp; omega, byt_take (byt_drop hq _) _⟩
theorem cut_flatten (q : List Int) : ∀ n : Nat, 32 * n ≤ q.length → (cut q n).flatten = q.take (32 * n) := by
  intro n
  induction n with
  | zero => intro _; simp [cut]
  | succ n ih =>
    intro h
    rw [cut_succ, List.flatten_append, ih (by omega)]
    simp only [List.flatten_cons, List.flatten_nil, List.append_nil]
    rw [show 32 * (n + 1) = 32 * n + 32 by omega, List.take_add]
theorem flatten_len {ds : List (List Int)} (h : ∀ d ∈ ds, Dig d) : ds.flatten.length = 32 * ds.length := by
  induction ds with
  | nil => rfl
  | cons d ds ih =>
    rw [List.flatten_cons, List.length_append, ih (fun x hx => h x (by simp [hx])), (h d (by simp)).1, List.length_cons]
    omega
theorem byt_flatten {ds : List (List Int)} (h : ∀ d ∈ ds, Dig d) : Byt ds.flatten := by
  induction ds with
  | nil => exact byt_nil
  | cons d ds ih => rw [List.flatten_cons]; exact byt_append (h d (by simp)).2 (ih (fun x hx => h x (by simp [hx])))
theorem cut_of {ds : List (List Int)} (h : ∀ d ∈ ds, Dig d) (r : List Int) : cut (ds.flatten ++ r) ds.length = ds := by
  induction ds with
  | nil => rfl
  | cons d ds ih =>
    have hd := (h d (by simp)).1
    have ih' := ih (fun x hx => h x (by simp [hx]))
    unfold cut at ih' ⊢
    rw [List.length_cons, List.range_succ_eq_map, List.map_cons, List.map_map, List.flatten_cons]
    congr 1
    · simp only [Nat.mul_zero, List.drop_zero, List.append_assoc]
      rw [List.take_append_of_le_length (by omega), List.take_of_length_le (by omega)]
    · rw [← ih']
      rw [ih']
      refine Eq.trans (List.map_congr_left fun i _ => ?_) ih'
      simp only [Function.comp_apply, List.append_assoc]
      have e : (d ++ (ds.flatten ++ r)).drop 32 = ds.flatten ++ r := by rw [← hd]; exact List.drop_left
      rw [show 32 * Nat.succ i = 32 + 32 * i by omega, ← List.drop_drop, e]
theorem bad_made {img : List Int} {c : Int} (h : cnt img.length c ≠ 0) : ¬ (made img c).bad := by
  intro hb
  rcases hb with h1 | h1
  · exact h h1
  · exact h1 (digsTo_len _ _ _)
theorem body_len {m : Man} (h : ∀ d ∈ m.ds, Dig d) (hw : Dig m.wh) : (body m).length = (Cd.num m.size).length + (Cd.num m.chunk).length + 32 * (m.ds.length + 1) := by
  unfold body
  simp only [List.length_append, flatten_len h, hw.1]
  omega
/-- What is written is read. -/
theorem dec_body {m : Man} (hb : ¬ m.bad) (h : ∀ d ∈ m.ds, Dig d) (hw : Dig m.wh) : dec (body m) = some m := by
  have hn : cnt m.size m.chunk ≠ 0 := fun e => hb (Or.inl e)
  have hl : m.ds.length = cnt m.size m.chunk := Decidable.byContradiction fun e => hb (Or.inr e)
  obtain ⟨h1, h2, h3, h4⟩ := cnt_in hn
  unfold dec body
  rw [Cd.get_num (by omega) (by omega) h1 h2]
  simp only
  rw [Cd.get_num (by omega) (by omega) h3 h4]
  simp only
  unfold decR
  have hf := flatten_len h
  rw [if_neg (by rw [List.length_append, hf, hw.1]; intro hh; rcases hh with hh | hh; exact hn hh; omega)]
  rw [← hl, cut_of h, ← hf, List.drop_left]
theorem dec_some {b : List Int} {m : Man} (hb : Byt b) (h : dec b = some m) : ¬ m.bad ∧ body m = b ∧ (∀ d ∈ m.ds, Dig d) ∧ Dig m.wh := by
  unfold dec at h
  cases e1 : Cd.get 1 65536 b with
  | none => rw [e1] at h; cases h
  | some x =>
    obtain ⟨s, r⟩ := x
    rw [e1] at h
    simp only at h
    obtain ⟨_, _, _, _, hr⟩ := Cd.get_enc e1 hb
    cases e2 : Cd.get 1 4096 r with
    | none => rw [e2] at h; cases h
    | some y =>
      obtain ⟨c, q⟩ := y
      rw [e2] at h
      simp only at h
      have hbr : Byt r := byt_right (a := Cd.num s) (by rw [← hr]; exact hb)
      obtain ⟨_, _, _, _, hq⟩ := Cd.get_enc e2 hbr
      have hbq : Byt q := byt_right (a := Cd.num c) (by rw [← hq]; exact hbr)
      unfold decR at h
      split at h
      · cases h
      · rename_i hh
        injection h with h
        subst h
        have hn : cnt s c ≠ 0 := fun e => hh (Or.inl e)
        have hl : q.length = 32 * (cnt s c + 1) := Decidable.byContradiction fun e => hh (Or.inr e)
        refine ⟨?_, ?_, cut_ok hbq (by omega), ⟨by simp [List.length_drop]; omega, byt_drop hbq _⟩⟩
        · intro hbad
          rcases hbad with h1 | h1
          · exact hn h1
          · exact h1 (cut_len _ _)
        · unfold body
          simp only
          rw [cut_flatten _ _ (by omega), List.take_append_drop, ← hq, ← hr]
theorem chk_zero {m : Man} (h : ¬ m.bad) : chk m = 0 := by unfold chk; rw [if_neg h]
theorem chk_ne {m : Man} : chk m ≠ 0 ↔ m.bad := by
  unfold chk
  by_cases h : m.bad
  · rw [if_pos h]; exact ⟨fun _ => h, fun _ => by omega⟩
  · rw [if_neg h]; exact ⟨fun e => absurd rfl e, fun e => absurd e h⟩
theorem off_not {m : Man} {i : Int} (h : ¬ off m i) : ¬ m.bad ∧ 0 ≤ i ∧ i < m.ds.length ∧ (m.ds.length : Int) ≤ 64 ∧ 1 ≤ m.chunk ∧ m.chunk ≤ 4096 ∧ 1 ≤ m.size ∧ m.size ≤ 65536 ∧ 0 ≤ i * m.chunk ∧ i * m.chunk < m.size ∧ (i + 1) * m.chunk = i * m.chunk + m.chunk := by
  have hb : ¬ m.bad := fun e => h (Or.inl e)
  have h0 : 0 ≤ i := by
    apply Decidable.byContradiction
    intro e; exact h (Or.inr (Or.inl (by omega)))
  have h1 : i < m.ds.length := by
    apply Decidable.byContradiction
    intro e; exact h (Or.inr (Or.inr (by omega)))
  have hn : cnt m.size m.chunk ≠ 0 := fun e => hb (Or.inl e)
  have hl : m.ds.length = cnt m.size m.chunk := Decidable.byContradiction fun e => hb (Or.inr e)
  obtain ⟨a1, a2, a3, a4⟩ := cnt_in hn
  have hm := (cnt_mul hn).1
  have hle := cnt_le m.size m.chunk
  rw [← hl] at hm hle
  have b1 : 0 ≤ i * m.chunk := Int.mul_nonneg h0 (by omega)
  have b2 : i * m.chunk ≤ ((m.ds.length : Int) - 1) * m.chunk := Int.mul_le_mul_of_nonneg_right (by omega) (by omega)
  exact ⟨hb, h0, h1, by omega, a3, a4, a1, a2, b1, by omega, by rw [Int.add_mul, Int.one_mul]⟩
theorem til_ne {m : Man} {i : Int} (h : ¬ off m i) : til m i ≠ 0 ∧ fr m i < til m i ∧ til m i ≤ m.size ∧ til m i - fr m i ≤ m.chunk := by
  obtain ⟨_, h0, h1, h2, h3, h4, h5, h6, h7, h8, h9⟩ := off_not h
  unfold til fr
  rw [if_neg h, if_neg h, h9]
  split <;> omega
theorem til_off {m : Man} {i : Int} (h : off m i) : til m i = 0 ∧ fr m i = 0 := by unfold til fr; rw [if_pos h, if_pos h]; exact ⟨rfl, rfl⟩
end Mf
namespace Go.Proofs.YtiogfkhmigbgpaaDoor
set_option maxRecDepth 20000
open Go.RowKit
def In64 (n : Int) : Prop := -9223372036854775808 ≤ n ∧ n ≤ 9223372036854775807
theorem ret_i64 {a b : Int} (h : a = b) : Ending.returned (.int .i64 a) = .returned (.int .i64 b) := by rw [h]
theorem count_bad (s c : Int) (w : World) (hs : In64 s) (hc : In64 c) (h : s < 1 ∨ 65536 < s ∨ c < 1 ∨ 4096 < c) :
    Calls Tryd.prog 35 #[.int .i64 s, .int .i64 c] w fun e w' => e = .returned (.int .i64 0) ∧ w = w' := by
  obtain ⟨hs1, hs2⟩ := hs
  obtain ⟨hc1, hc2⟩ := hc
  by_cases c1 : s < 1
  · have d1 : decide (s < 1) = true := decide_eq_true c1
    clear h
    go_enter Tryd.func35, Tryd.ntmps35
    go_wp2
    go_ret
    exact ⟨rfl, rfl⟩
  have d1 : decide (s < 1) = false := decide_eq_false c1
  by_cases c2 : 65536 < s
  · have d2 : decide (65536 < s) = true := decide_eq_true c2
    clear h
    go_enter Tryd.func35, Tryd.ntmps35
    go_wp2
    go_ret
    exact ⟨rfl, rfl⟩
  have d2 : decide (65536 < s) = false := decide_eq_false c2
  by_cases c3 : c < 1
  · have d3 : decide (c < 1) = true := decide_eq_true c3
    clear h
    go_enter Tryd.func35, Tryd.ntmps35
    go_wp2
    go_ret
    exact ⟨rfl, rfl⟩
  have d3 : decide (c < 1) = false := decide_eq_false c3
  have c4 : 4096 < c := by omega
  have d4 : decide (4096 < c) = true := decide_eq_true c4
  clear h
  go_enter Tryd.func35, Tryd.ntmps35
  go_wp2
  go_ret
  exact ⟨rfl, rfl⟩
theorem count_good (s c : Int) (w : World) (h1 : 1 ≤ s) (h2 : s ≤ 65536) (h3 : 1 ≤ c) (h4 : c ≤ 4096) :
    Calls Tryd.prog 35 #[.int .i64 s, .int .i64 c] w fun e w' => e = .returned (.int .i64 (Mf.cnt s c : Nat)) ∧ w = w' := by
  have d1 : decide (s < 1) = false := decide_eq_false (by omega)
  have d2 : decide (65536 < s) = false := decide_eq_false (by omega)
  have d3 : decide (c < 1) = false := decide_eq_false (by omega)
  have d4 : decide (4096 < c) = false := decide_eq_false (by omega)
  have d5 : (c == 0) = false := by simp; omega
  have d6 : ¬ c = 0 := by omega
  obtain ⟨q, hq⟩ : ∃ q, (s + c - 1) / c = q := ⟨_, rfl⟩
  have ht : (s + c - 1).tdiv c = q := by rw [Int.tdiv_eq_ediv_of_nonneg (by omega)]; exact hq
  have hq1 : 0 ≤ q := by rw [← hq]; exact Int.ediv_nonneg (by omega) (by omega)
  have hq2 : q ≤ 70000 := by
    rw [← hq]
    have := Int.ediv_le_self c (show 0 ≤ s + c - 1 by omega)
    omega
  have hn : Mf.cnt s c = if 64 < q then 0 else q.toNat := by unfold Mf.cnt; rw [if_neg (by omega), hq]
  have HN := Lib.hid hn
  clear hn hq
  by_cases c5 : 64 < q
  · have d7 : decide (64 < q) = true := decide_eq_true c5
    have HE := Lib.hid (show Mf.cnt s c = 0 by rw [HN.out, if_pos c5])
    go_enter Tryd.func35, Tryd.ntmps35
    go_wp2
    go_ret
    exact ⟨by rw [HE.out]; rfl, rfl⟩
  · have d7 : decide (64 < q) = false := decide_eq_false c5
    have HE := Lib.hid (show Mf.cnt s c = q.toNat by rw [HN.out, if_neg c5])
    go_enter Tryd.func35, Tryd.ntmps35
    go_wp2
    go_ret
    exact ⟨ret_i64 (by rw [HE.out]; omega), rfl⟩
theorem count_any (s c : Int) (w : World) (hs : In64 s) (hc : In64 c) :
    Calls Tryd.prog 35 #[.int .i64 s, .int .i64 c] w fun e w' => e = .returned (.int .i64 (Mf.cnt s c : Nat)) ∧ w = w' := by
  by_cases h : s < 1 ∨ 65536 < s ∨ c < 1 ∨ 4096 < c
  · rw [Mf.cnt_bad h]; exact count_bad s c w hs hc h
  · exact count_good s c w (by omega) (by omega) (by omega) (by omega)
end Go.Proofs.YtiogfkhmigbgpaaDoor
namespace Go.Proofs.YtiogfkhmigbgpaaDoor
set_option maxRecDepth 20000
set_option linter.unusedSimpArgs false
open Go.RowKit
theorem chunks_bad (s c : Int) (w : World) (hs : In64 s) (hc : In64 c) (h : s < 1 ∨ 65536 < s ∨ c < 1 ∨ 4096 < c) :
    Calls Tryd.prog 41 #[.int .i64 s, .int .i64 c] w fun e w' => e = .returned (.int .i64 0) ∧ w = w' := by
  obtain ⟨hs1, hs2⟩ := hs
  obtain ⟨hc1, hc2⟩ := hc
  by_cases c1 : s < 1
  · have d1 : decide (s < 1) = true := decide_eq_true c1
    clear h
    go_enter Tryd.func41, Tryd.ntmps41
    go_wp2
    go_ret
    exact ⟨rfl, rfl⟩
  have d1 : decide (s < 1) = false := decide_eq_false c1
  by_cases c2 : 65536 < s
  · have d2 : decide (65536 < s) = true := decide_eq_true c2
    clear h
    go_enter Tryd.func41, Tryd.ntmps41
    go_wp2
    go_ret
    exact ⟨rfl, rfl⟩
  have d2 : decide (65536 < s) = false := decide_eq_false c2
  by_cases c3 : c < 1
  · have d3 : decide (c < 1) = true := decide_eq_true c3
    clear h
    go_enter Tryd.func41, Tryd.ntmps41
    go_wp2
    go_ret
    exact ⟨rfl, rfl⟩
  have d3 : decide (c < 1) = false := decide_eq_false c3
  have c4 : 4096 < c := by omega
  have d4 : decide (4096 < c) = true := decide_eq_true c4
  clear h
  go_enter Tryd.func41, Tryd.ntmps41
  go_wp2
  go_ret
  exact ⟨rfl, rfl⟩
theorem chunks_good (s c : Int) (w : World) (h1 : 1 ≤ s) (h2 : s ≤ 65536) (h3 : 1 ≤ c) (h4 : c ≤ 4096) :
    Calls Tryd.prog 41 #[.int .i64 s, .int .i64 c] w fun e w' => e = .returned (.int .i64 (Mf.cnt s c : Nat)) ∧ w = w' := by
  have d1 : decide (s < 1) = false := decide_eq_false (by omega)
  have d2 : decide (65536 < s) = false := decide_eq_false (by omega)
  have d3 : decide (c < 1) = false := decide_eq_false (by omega)
  have d4 : decide (4096 < c) = false := decide_eq_false (by omega)
  go_enter Tryd.func41, Tryd.ntmps41
  go_wp2
  go_loopw [5] (fun i wr => ∃ (k : Nat) (q : Int), i = .int .i64 (k : Int) ∧ k ≤ 65536 ∧ 0 ≤ q ∧ q < s + c ∧ Hid (q = (k : Int) * c ∧ (k : Int) ≤ q) ∧ wr = w) (fun i _ => 65537 - (intOf i).toNat)
  case atStart => exact ⟨0, 0, rfl, by omega, by omega, by omega, Lib.hid ⟨by simp, by omega⟩, rfl⟩
  case round =>
    obtain ⟨k, q, rfl, hk, hq0, hq1, HQ, rfl⟩ := hrel
    have hmul : (k : Int) * c = q := HQ.out.1.symm
    by_cases hlt : q < s
    · have d5 : decide (q < s) = true := decide_eq_true hlt
      have hk2 : k < 65536 := by have := HQ.out.2; omega
      go_wp2
      refine ⟨⟨k + 1, q + c, rfl, by omega, by omega, by omega, Lib.hid ⟨by have := HQ.out.1; rw [this]; push_cast; rw [Int.add_mul, Int.one_mul], by have := HQ.out.2; push_cast; omega⟩, (by first | rfl | trivial)⟩, by simp [intOf]; omega⟩
    · have d5 : decide (q < s) = false := decide_eq_false hlt
      have HN : Hid (Mf.cnt s c = if 64 < k then 0 else k) := Lib.hid (Mf.cnt_of h1 h2 h3 h4 (by have := HQ.out.1; rw [Int.sub_mul, ← this]; omega) (by have := HQ.out.1; omega))
      by_cases c5 : 64 < k
      · have d7 : decide ((64 : Int) < (k : Int)) = true := decide_eq_true (by omega)
        have HE := Lib.hid (show Mf.cnt s c = 0 by rw [HN.out, if_pos c5])
        go_wp2
        go_ret
        exact ⟨by rw [HE.out]; rfl, rfl⟩
      · have d7 : decide ((64 : Int) < (k : Int)) = false := decide_eq_false (by omega)
        have HE := Lib.hid (show Mf.cnt s c = k by rw [HN.out, if_neg c5])
        go_wp2
        go_ret
        exact ⟨ret_i64 (by rw [HE.out]), rfl⟩
theorem chunks_any (s c : Int) (w : World) (hs : In64 s) (hc : In64 c) :
    Calls Tryd.prog 41 #[.int .i64 s, .int .i64 c] w fun e w' => e = .returned (.int .i64 (Mf.cnt s c : Nat)) ∧ w = w' := by
  by_cases h : s < 1 ∨ 65536 < s ∨ c < 1 ∨ 4096 < c
  · rw [Mf.cnt_bad h]; exact chunks_bad s c w hs hc h
  · exact chunks_good s c w (by omega) (by omega) (by omega) (by omega)
/-- The 35 cells of a manifest. -/
def mcs (s c : Int) (v : Value) (h : List Int) : List Value := .int .i64 s :: .int .i64 c :: v :: nums h
/-- The value v is the manifest m; its digests lie in blocks of S. -/
def Mv (w : World) (S : Nat → Prop) (v : Value) (m : Mf.Man) : Prop :=
  ∃ a n c, v = .agg (mcs m.size m.chunk (.slice a n c) m.wh).toArray ∧ n ≤ c ∧ Digs w S a n m.ds ∧ Dig m.wh ∧ In64 m.size ∧ In64 m.chunk
section
variable {w w' : World} {S S' : Nat → Prop} {v : Value} {m : Mf.Man}
theorem Mv.keep (h : Mv w S v m) (hz : w.heap.size ≤ w'.heap.size) (hk : ∀ b, b < w.heap.size → S b → w'.heap[b]? = w.heap[b]?) : Mv w' S v m := by
  obtain ⟨a, n, c, e, h1, h2, h3⟩ := h
  exact ⟨a, n, c, e, h1, h2.keep hz hk, h3⟩
theorem Mv.weak (h : Mv w S v m) (hs : ∀ b, b < w.heap.size → S b → S' b) : Mv w S' v m := by
  obtain ⟨a, n, c, e, h1, h2, h3⟩ := h
  exact ⟨a, n, c, e, h1, h2.weak hs, h3⟩
theorem Mv.old (h : Mv w S v m) : Mv w (fun b => b < w.heap.size) v m := h.weak fun _ hb _ => hb
theorem Mv.below {B : Nat} (h : Mv w S v m) (hb : Below B w w') (hs : ∀ b, b < w.heap.size → S b → b < B) : Mv w' S v m :=
  h.keep hb.size fun b hlt hS => hb.block b (hs b hlt hS)
end
theorem mcs_len {s c : Int} {v : Value} {h : List Int} (hh : h.length = 32) : (mcs s c v h).length = 35 := by simp [mcs, nums_len, hh]
theorem msize {s c : Int} {v : Value} {h : List Int} (hh : h.length = 32) : (mcs s c v h).toArray.size = 35 := by rw [List.size_toArray, mcs_len hh]
theorem mcs_one {s c : Int} {v : Value} {h : List Int} (hv : v.oneCell' = true) : (mcs s c v h).toArray.all (·.oneCell') = true := by
  refine all_oneCell_toArray ?_
  intro u hu
  simp only [mcs, List.mem_cons] at hu
  rcases hu with rfl | rfl | rfl | hu
  · rfl
  · rfl
  · exact hv
  · exact nums_one h u hu
theorem info35 : (Tryd.prog.info? 34).map (·.size) = some 35 := by kernel_rfl
theorem bad_iff {m : Mf.Man} {n N : Nat} (hN : Mf.cnt m.size m.chunk = N) (hn : m.ds.length = n) : m.bad ↔ N = 0 ∨ n ≠ N := by
  unfold Mf.Man.bad; rw [hN, hn]
theorem chk_eq {m : Mf.Man} {n N : Nat} (hN : Mf.cnt m.size m.chunk = N) (hn : m.ds.length = n) : Mf.chk m = if N = 0 ∨ n ≠ N then 50 else 0 := by
  unfold Mf.chk
  by_cases h : m.bad
  · rw [if_pos h, if_pos ((bad_iff hN hn).1 h)]
  · rw [if_neg h, if_neg fun e => h ((bad_iff hN hn).2 e)]
set_option maxHeartbeats 1000000 in
theorem check_any {w : World} {S : Nat → Prop} {v : Value} {m : Mf.Man} (h : Mv w S v m) :
    Calls Tryd.prog 31 #[v] w fun e w' => e = .returned (.int .i64 (Mf.chk m)) ∧ Below w.heap.size w w' := by
  obtain ⟨a, n, c, rfl, hnc, hd, hw, hs, hc⟩ := h
  obtain ⟨N, hN⟩ : ∃ N, Mf.cnt m.size m.chunk = N := ⟨_, rfl⟩
  have HC := Lib.hid (chk_eq hN hd.1)
  have hle : N ≤ 64 := by rw [← hN]; exact Mf.cnt_le _ _
  have HS := Lib.hid hs
  have HK := Lib.hid hc
  have HN := Lib.hid hN
  have c0 : (mcs m.size m.chunk (.slice a n c) m.wh).toArray[0]? = some (.int .i64 m.size) := rfl
  have c1 : (mcs m.size m.chunk (.slice a n c) m.wh).toArray[1]? = some (.int .i64 m.chunk) := rfl
  have c2 : (mcs m.size m.chunk (.slice a n c) m.wh).toArray[2]? = some (.slice a n c) := rfl
  clear hd hw hs hc hnc hN
  generalize (mcs m.size m.chunk (.slice a n c) m.wh).toArray = P at *
  by_cases z : N = 0
  · have d1 : ((N : Int) == 0) = true := by simp [z]
    have HE := Lib.hid (show Mf.chk m = 50 by rw [HC.out, if_pos (Or.inl z)])
    go_enter Tryd.func31, Tryd.ntmps31
    go_wp2_with (go_at_call 35; refine (count_any _ _ _ HS.out HK.out).mono ?_; rintro e w' ⟨rfl, rfl⟩; rw [HN.out])
    go_ret
    exact ⟨ret_i64 HE.out.symm, below_alloc _ _⟩
  · have d1 : ((N : Int) == 0) = false := by simp [z]
    by_cases y : n = N
    · have d2 : ((n : Int) == (N : Int)) = true := by simp [y]
      have d3 : (n == N) = true := by simp [y]
      have HE := Lib.hid (show Mf.chk m = 0 by rw [HC.out, if_neg (by omega)])
      clear y
      go_enter Tryd.func31, Tryd.ntmps31
      go_wp2_with (go_at_call 35; refine (count_any _ _ _ HS.out HK.out).mono ?_; rintro e w' ⟨rfl, rfl⟩; rw [HN.out])
      go_ret
      exact ⟨ret_i64 HE.out.symm, below_alloc _ _⟩
    · have d2 : ((n : Int) == (N : Int)) = false := by simp; omega
      have d3 : (n == N) = false := by simp; omega
      have HE := Lib.hid (show Mf.chk m = 50 by rw [HC.out, if_pos (Or.inr y)])
      go_enter Tryd.func31, Tryd.ntmps31
      go_wp2_with (go_at_call 35; refine (count_any _ _ _ HS.out HK.out).mono ?_; rintro e w' ⟨rfl, rfl⟩; rw [HN.out])
      go_ret
      exact ⟨ret_i64 HE.out.symm, below_alloc _ _⟩
set_option maxHeartbeats 1000000 in
theorem rcheck_any {w : World} {S : Nat → Prop} {v : Value} {m : Mf.Man} (h : Mv w S v m) :
    Calls Tryd.prog 33 #[v] w fun e w' => e = .returned (.int .i64 (Mf.chk m)) ∧ Below w.heap.size w w' := by
  obtain ⟨a, n, c, rfl, hnc, hd, hw, hs, hc⟩ := h
  obtain ⟨N, hN⟩ : ∃ N, Mf.cnt m.size m.chunk = N := ⟨_, rfl⟩
  have HC := Lib.hid (chk_eq hN hd.1)
  have hle : N ≤ 64 := by rw [← hN]; exact Mf.cnt_le _ _
  have HS := Lib.hid hs
  have HK := Lib.hid hc
  have HN := Lib.hid hN
  have c0 : (mcs m.size m.chunk (.slice a n c) m.wh).toArray[0]? = some (.int .i64 m.size) := rfl
  have c1 : (mcs m.size m.chunk (.slice a n c) m.wh).toArray[1]? = some (.int .i64 m.chunk) := rfl
  have c2 : (mcs m.size m.chunk (.slice a n c) m.wh).toArray[2]? = some (.slice a n c) := rfl
  clear hd hw hs hc hnc hN
  generalize (mcs m.size m.chunk (.slice a n c) m.wh).toArray = P at *
  by_cases z : N = 0
  · have d1 : ((N : Int) == 0) = true := by simp [z]
    have HE := Lib.hid (show Mf.chk m = 50 by rw [HC.out, if_pos (Or.inl z)])
    go_enter Tryd.func33, Tryd.ntmps33
    go_wp2_with (go_at_call 41; refine (chunks_any _ _ _ HS.out HK.out).mono ?_; rintro e w' ⟨rfl, rfl⟩; rw [HN.out])
    go_ret
    exact ⟨ret_i64 HE.out.symm, below_alloc _ _⟩
  · have d1 : ((N : Int) == 0) = false := by simp [z]
    by_cases y : n = N
    · have d2 : ((n : Int) == (N : Int)) = true := by simp [y]
      have d3 : (n == N) = true := by simp [y]
      have HE := Lib.hid (show Mf.chk m = 0 by rw [HC.out, if_neg (by omega)])
      clear y
      go_enter Tryd.func33, Tryd.ntmps33
      go_wp2_with (go_at_call 41; refine (chunks_any _ _ _ HS.out HK.out).mono ?_; rintro e w' ⟨rfl, rfl⟩; rw [HN.out])
      go_ret
      exact ⟨ret_i64 HE.out.symm, below_alloc _ _⟩
    · have d2 : ((n : Int) == (N : Int)) = false := by simp; omega
      have d3 : (n == N) = false := by simp; omega
      have HE := Lib.hid (show Mf.chk m = 50 by rw [HC.out, if_pos (Or.inr y)])
      go_enter Tryd.func33, Tryd.ntmps33
      go_wp2_with (go_at_call 41; refine (chunks_any _ _ _ HS.out HK.out).mono ?_; rintro e w' ⟨rfl, rfl⟩; rw [HN.out])
      go_ret
      exact ⟨ret_i64 HE.out.symm, below_alloc _ _⟩
end Go.Proofs.YtiogfkhmigbgpaaDoor
namespace Go.Proofs.YtiogfkhmigbgpaaDoor
set_option maxRecDepth 20000
set_option linter.unusedSimpArgs false
open Go.RowKit
theorem ret_two {a b c d : Int} (h : a = c) (h' : b = d) : Ending.returned (.tuple #[.int .i64 a, .int .i64 b]) = .returned (.tuple #[.int .i64 c, .int .i64 d]) := by rw [h, h']
theorem below_box {w w1 : World} {o : Obj} (h : Below (w.alloc o).heap.size (w.alloc o) w1) : Below w.heap.size w w1 := (below_alloc w o).trans (h.mono (by simp))
theorem off_iff {m : Mf.Man} {i : Int} {n : Nat} (hn : m.ds.length = n) : Mf.off m i ↔ Mf.chk m ≠ 0 ∨ i < 0 ∨ (n : Int) ≤ i := by
  unfold Mf.off; rw [Mf.chk_ne, hn]
theorem chk_cases (m : Mf.Man) : Mf.chk m = 50 ∨ Mf.chk m = 0 := by
  unfold Mf.chk; split
  · exact Or.inl rfl
  · exact Or.inr rfl
set_option maxHeartbeats 2000000 in
theorem part_any {w : World} {S : Nat → Prop} {v : Value} {m : Mf.Man} {i : Int} (h : Mv w S v m) (hi : In64 i) :
    Calls Tryd.prog 21 #[v, .int .i64 i] w fun e w' => e = .returned (.tuple #[.int .i64 (Mf.fr m i), .int .i64 (Mf.til m i)]) ∧ Below w.heap.size w w' := by
  have HM := Lib.hid h
  obtain ⟨a, n, c, rfl, hnc, hd, hw, hs, hc⟩ := h
  have HOF := Lib.hid (off_iff (m := m) (i := i) hd.1)
  have HLN := Lib.hid hd.1
  have hsz := msize (s := m.size) (c := m.chunk) (v := .slice a n c) hw.1
  have c0 : (mcs m.size m.chunk (.slice a n c) m.wh).toArray[0]? = some (.int .i64 m.size) := rfl
  have c1 : (mcs m.size m.chunk (.slice a n c) m.wh).toArray[1]? = some (.int .i64 m.chunk) := rfl
  have c2 : (mcs m.size m.chunk (.slice a n c) m.wh).toArray[2]? = some (.slice a n c) := rfl
  obtain ⟨hi1, hi2⟩ := hi
  clear hd hw hs hc hnc
  generalize (mcs m.size m.chunk (.slice a n c) m.wh).toArray = P at *
  have HC := Lib.hid (show Mv (w.alloc (.cells P 34)) (fun b => b < w.heap.size) (.agg P) m from HM.out.old.keep (by simp) fun b hb _ => Below.heap_alloc _ _ _ hb)
  obtain ⟨sz, esz⟩ : ∃ sz, m.size = sz := ⟨_, rfl⟩
  obtain ⟨ch, ech⟩ : ∃ ch, m.chunk = ch := ⟨_, rfl⟩
  rw [esz] at c0
  rw [ech] at c1
  by_cases hoff : Mf.off m i
  · have HE := Lib.hid (show Mf.fr m i = 0 ∧ Mf.til m i = 0 from ⟨(Mf.til_off hoff).2, (Mf.til_off hoff).1⟩)
    have hoff' := HOF.out.1 hoff
    clear esz ech
    by_cases hk : Mf.chk m = 0
    · have d0 : (Mf.chk m == 0) = true := by simp [hk]
      by_cases hneg : i < 0
      · have d1 : decide (i < 0) = true := decide_eq_true hneg
        clear hoff hoff'
        go_enter Tryd.func21, Tryd.ntmps21
        go_wp2_with (first | ((with_reducible show wpList _ _ _ ((⟨_, Op.load 34 _, _, _, _, _⟩ : Oper) :: _) _ _); refine wpList_load_row rfl _ (.tmp 2) rfl w.heap.size rfl 34 P (0, 0) _ (Whole.new w _ _) Tryd.underlying34 rfl (by rw [hsz]; exact info35) ?_) | (go_at_call 31; refine (check_any HC.out).mono ?_; rintro e w1 ⟨rfl, hb1⟩; have HB1 := Lib.hid hb1; have K := Lib.hid ((Whole.new w 34 P).below hb1 (by simp)); have k0 : w1.cell? ⟨w.heap.size, 0, none⟩ = some (.int .i64 sz) := (by rw [K.out.cell]; exact c0); have k1 : w1.cell? ⟨w.heap.size, 1, none⟩ = some (.int .i64 ch) := (by rw [K.out.cell]; exact c1); have k2 : w1.cell? ⟨w.heap.size, 2, none⟩ = some (.slice a n c) := (by rw [K.out.cell]; exact c2); clear hb1))
        go_ret2
        exact ⟨ret_two HE.out.1.symm HE.out.2.symm, below_box HB1.out⟩
      · have d1 : decide (i < 0) = false := decide_eq_false hneg
        have hge : (n : Int) ≤ i := by omega
        have d2 : decide ((n : Int) ≤ i) = true := decide_eq_true hge
        clear hoff hoff'
        go_enter Tryd.func21, Tryd.ntmps21
        go_wp2_with (first | ((with_reducible show wpList _ _ _ ((⟨_, Op.load 34 _, _, _, _, _⟩ : Oper) :: _) _ _); refine wpList_load_row rfl _ (.tmp 2) rfl w.heap.size rfl 34 P (0, 0) _ (Whole.new w _ _) Tryd.underlying34 rfl (by rw [hsz]; exact info35) ?_) | (go_at_call 31; refine (check_any HC.out).mono ?_; rintro e w1 ⟨rfl, hb1⟩; have HB1 := Lib.hid hb1; have K := Lib.hid ((Whole.new w 34 P).below hb1 (by simp)); have k0 : w1.cell? ⟨w.heap.size, 0, none⟩ = some (.int .i64 sz) := (by rw [K.out.cell]; exact c0); have k1 : w1.cell? ⟨w.heap.size, 1, none⟩ = some (.int .i64 ch) := (by rw [K.out.cell]; exact c1); have k2 : w1.cell? ⟨w.heap.size, 2, none⟩ = some (.slice a n c) := (by rw [K.out.cell]; exact c2); clear hb1))
        go_ret2
        exact ⟨ret_two HE.out.1.symm HE.out.2.symm, below_box HB1.out⟩
    · have d0 : (Mf.chk m == 0) = false := by simp [hk]
      clear hoff hoff'
      go_enter Tryd.func21, Tryd.ntmps21
      go_wp2_with (first | ((with_reducible show wpList _ _ _ ((⟨_, Op.load 34 _, _, _, _, _⟩ : Oper) :: _) _ _); refine wpList_load_row rfl _ (.tmp 2) rfl w.heap.size rfl 34 P (0, 0) _ (Whole.new w _ _) Tryd.underlying34 rfl (by rw [hsz]; exact info35) ?_) | (go_at_call 31; refine (check_any HC.out).mono ?_; rintro e w1 ⟨rfl, hb1⟩; have HB1 := Lib.hid hb1; have K := Lib.hid ((Whole.new w 34 P).below hb1 (by simp)); have k0 : w1.cell? ⟨w.heap.size, 0, none⟩ = some (.int .i64 sz) := (by rw [K.out.cell]; exact c0); have k1 : w1.cell? ⟨w.heap.size, 1, none⟩ = some (.int .i64 ch) := (by rw [K.out.cell]; exact c1); have k2 : w1.cell? ⟨w.heap.size, 2, none⟩ = some (.slice a n c) := (by rw [K.out.cell]; exact c2); clear hb1))
      go_ret2
      exact ⟨ret_two HE.out.1.symm HE.out.2.symm, below_box HB1.out⟩
  · obtain ⟨hnb, hi0, hin, hn64, hc0, hc1, hs0, hs1, hp0, hp1, hp2⟩ := Mf.off_not hoff
    rw [HLN.out] at hin hn64
    have hk := Mf.chk_zero hnb
    have d0 : (Mf.chk m == 0) = true := by simp [hk]
    have d1 : decide (i < 0) = false := decide_eq_false (by omega)
    have d2 : decide ((n : Int) ≤ i) = false := decide_eq_false (by omega)
    obtain ⟨p, hp⟩ : ∃ p, i * m.chunk = p := ⟨_, rfl⟩
    rw [hp] at hp0 hp1 hp2
    have HF := Lib.hid (show Mf.fr m i = p by unfold Mf.fr; rw [if_neg hoff, hp])
    have HT := Lib.hid (show Mf.til m i = if m.size < p + m.chunk then m.size else p + m.chunk by unfold Mf.til; rw [if_neg hoff, hp2])
    clear hoff hnb hp2
    rw [esz, ech] at HT
    rw [esz] at hs0 hs1 hp1
    rw [ech] at hc0 hc1 hp
    clear esz ech
    by_cases hlt : sz < p + ch
    · have d3 : decide (sz < p + ch) = true := decide_eq_true hlt
      have HT' := Lib.hid (show Mf.til m i = sz by rw [HT.out, if_pos hlt])
      go_enter Tryd.func21, Tryd.ntmps21
      go_wp2_with (first | ((with_reducible show wpList _ _ _ ((⟨_, Op.load 34 _, _, _, _, _⟩ : Oper) :: _) _ _); refine wpList_load_row rfl _ (.tmp 2) rfl w.heap.size rfl 34 P (0, 0) _ (Whole.new w _ _) Tryd.underlying34 rfl (by rw [hsz]; exact info35) ?_) | (go_at_call 31; refine (check_any HC.out).mono ?_; rintro e w1 ⟨rfl, hb1⟩; have HB1 := Lib.hid hb1; have K := Lib.hid ((Whole.new w 34 P).below hb1 (by simp)); have k0 : w1.cell? ⟨w.heap.size, 0, none⟩ = some (.int .i64 sz) := (by rw [K.out.cell]; exact c0); have k1 : w1.cell? ⟨w.heap.size, 1, none⟩ = some (.int .i64 ch) := (by rw [K.out.cell]; exact c1); have k2 : w1.cell? ⟨w.heap.size, 2, none⟩ = some (.slice a n c) := (by rw [K.out.cell]; exact c2); clear hb1))
      go_region
      go_wp2
      go_ret2
      exact ⟨ret_two HF.out.symm HT'.out.symm, (below_box HB1.out).drew⟩
    · have d3 : decide (sz < p + ch) = false := decide_eq_false hlt
      have HT' := Lib.hid (show Mf.til m i = p + ch by rw [HT.out, if_neg hlt])
      go_enter Tryd.func21, Tryd.ntmps21
      go_wp2_with (first | ((with_reducible show wpList _ _ _ ((⟨_, Op.load 34 _, _, _, _, _⟩ : Oper) :: _) _ _); refine wpList_load_row rfl _ (.tmp 2) rfl w.heap.size rfl 34 P (0, 0) _ (Whole.new w _ _) Tryd.underlying34 rfl (by rw [hsz]; exact info35) ?_) | (go_at_call 31; refine (check_any HC.out).mono ?_; rintro e w1 ⟨rfl, hb1⟩; have HB1 := Lib.hid hb1; have K := Lib.hid ((Whole.new w 34 P).below hb1 (by simp)); have k0 : w1.cell? ⟨w.heap.size, 0, none⟩ = some (.int .i64 sz) := (by rw [K.out.cell]; exact c0); have k1 : w1.cell? ⟨w.heap.size, 1, none⟩ = some (.int .i64 ch) := (by rw [K.out.cell]; exact c1); have k2 : w1.cell? ⟨w.heap.size, 2, none⟩ = some (.slice a n c) := (by rw [K.out.cell]; exact c2); clear hb1))
      go_region
      go_wp2
      go_ret2
      exact ⟨ret_two HF.out.symm HT'.out.symm, (below_box HB1.out).drew⟩
set_option maxHeartbeats 2000000 in
theorem rpart_any {w : World} {S : Nat → Prop} {v : Value} {m : Mf.Man} {i : Int} (h : Mv w S v m) (hi : In64 i) :
    Calls Tryd.prog 34 #[v, .int .i64 i] w fun e w' => e = .returned (.tuple #[.int .i64 (Mf.fr m i), .int .i64 (Mf.til m i)]) ∧ Below w.heap.size w w' := by
  have HM := Lib.hid h
  obtain ⟨a, n, c, rfl, hnc, hd, hw, hs, hc⟩ := h
  have HOF := Lib.hid (off_iff (m := m) (i := i) hd.1)
  have HLN := Lib.hid hd.1
  have hsz := msize (s := m.size) (c := m.chunk) (v := .slice a n c) hw.1
  have c0 : (mcs m.size m.chunk (.slice a n c) m.wh).toArray[0]? = some (.int .i64 m.size) := rfl
  have c1 : (mcs m.size m.chunk (.slice a n c) m.wh).toArray[1]? = some (.int .i64 m.chunk) := rfl
  have c2 : (mcs m.size m.chunk (.slice a n c) m.wh).toArray[2]? = some (.slice a n c) := rfl
  obtain ⟨hi1, hi2⟩ := hi
  clear hd hw hs hc hnc
  generalize (mcs m.size m.chunk (.slice a n c) m.wh).toArray = P at *
  have HC := Lib.hid (show Mv (w.alloc (.cells P 34)) (fun b => b < w.heap.size) (.agg P) m from HM.out.old.keep (by simp) fun b hb _ => Below.heap_alloc _ _ _ hb)
  obtain ⟨sz, esz⟩ : ∃ sz, m.size = sz := ⟨_, rfl⟩
  obtain ⟨ch, ech⟩ : ∃ ch, m.chunk = ch := ⟨_, rfl⟩
  rw [esz] at c0
  rw [ech] at c1
  by_cases hoff : Mf.off m i
  · have HE := Lib.hid (show Mf.fr m i = 0 ∧ Mf.til m i = 0 from ⟨(Mf.til_off hoff).2, (Mf.til_off hoff).1⟩)
    have hoff' := HOF.out.1 hoff
    clear esz ech
    by_cases hk : Mf.chk m = 0
    · have d0 : (Mf.chk m == 0) = true := by simp [hk]
      by_cases hneg : i < 0
      · have d1 : decide (i < 0) = true := decide_eq_true hneg
        clear hoff hoff'
        go_enter Tryd.func34, Tryd.ntmps34
        go_wp2_with (first | ((with_reducible show wpList _ _ _ ((⟨_, Op.load 34 _, _, _, _, _⟩ : Oper) :: _) _ _); refine wpList_load_row rfl _ (.tmp 2) rfl w.heap.size rfl 34 P (0, 0) _ (Whole.new w _ _) Tryd.underlying34 rfl (by rw [hsz]; exact info35) ?_) | (go_at_call 33; refine (rcheck_any HC.out).mono ?_; rintro e w1 ⟨rfl, hb1⟩; have HB1 := Lib.hid hb1; have K := Lib.hid ((Whole.new w 34 P).below hb1 (by simp)); have k0 : w1.cell? ⟨w.heap.size, 0, none⟩ = some (.int .i64 sz) := (by rw [K.out.cell]; exact c0); have k1 : w1.cell? ⟨w.heap.size, 1, none⟩ = some (.int .i64 ch) := (by rw [K.out.cell]; exact c1); have k2 : w1.cell? ⟨w.heap.size, 2, none⟩ = some (.slice a n c) := (by rw [K.out.cell]; exact c2); clear hb1))
        go_ret2
        exact ⟨ret_two HE.out.1.symm HE.out.2.symm, below_box HB1.out⟩
      · have d1 : decide (i < 0) = false := decide_eq_false hneg
        have hge : (n : Int) ≤ i := by omega
        have d2 : decide ((n : Int) ≤ i) = true := decide_eq_true hge
        clear hoff hoff'
        go_enter Tryd.func34, Tryd.ntmps34
        go_wp2_with (first | ((with_reducible show wpList _ _ _ ((⟨_, Op.load 34 _, _, _, _, _⟩ : Oper) :: _) _ _); refine wpList_load_row rfl _ (.tmp 2) rfl w.heap.size rfl 34 P (0, 0) _ (Whole.new w _ _) Tryd.underlying34 rfl (by rw [hsz]; exact info35) ?_) | (go_at_call 33; refine (rcheck_any HC.out).mono ?_; rintro e w1 ⟨rfl, hb1⟩; have HB1 := Lib.hid hb1; have K := Lib.hid ((Whole.new w 34 P).below hb1 (by simp)); have k0 : w1.cell? ⟨w.heap.size, 0, none⟩ = some (.int .i64 sz) := (by rw [K.out.cell]; exact c0); have k1 : w1.cell? ⟨w.heap.size, 1, none⟩ = some (.int .i64 ch) := (by rw [K.out.cell]; exact c1); have k2 : w1.cell? ⟨w.heap.size, 2, none⟩ = some (.slice a n c) := (by rw [K.out.cell]; exact c2); clear hb1))
        go_ret2
        exact ⟨ret_two HE.out.1.symm HE.out.2.symm, below_box HB1.out⟩
    · have d0 : (Mf.chk m == 0) = false := by simp [hk]
      clear hoff hoff'
      go_enter Tryd.func34, Tryd.ntmps34
      go_wp2_with (first | ((with_reducible show wpList _ _ _ ((⟨_, Op.load 34 _, _, _, _, _⟩ : Oper) :: _) _ _); refine wpList_load_row rfl _ (.tmp 2) rfl w.heap.size rfl 34 P (0, 0) _ (Whole.new w _ _) Tryd.underlying34 rfl (by rw [hsz]; exact info35) ?_) | (go_at_call 33; refine (rcheck_any HC.out).mono ?_; rintro e w1 ⟨rfl, hb1⟩; have HB1 := Lib.hid hb1; have K := Lib.hid ((Whole.new w 34 P).below hb1 (by simp)); have k0 : w1.cell? ⟨w.heap.size, 0, none⟩ = some (.int .i64 sz) := (by rw [K.out.cell]; exact c0); have k1 : w1.cell? ⟨w.heap.size, 1, none⟩ = some (.int .i64 ch) := (by rw [K.out.cell]; exact c1); have k2 : w1.cell? ⟨w.heap.size, 2, none⟩ = some (.slice a n c) := (by rw [K.out.cell]; exact c2); clear hb1))
      go_ret2
      exact ⟨ret_two HE.out.1.symm HE.out.2.symm, below_box HB1.out⟩
  · obtain ⟨hnb, hi0, hin, hn64, hc0, hc1, hs0, hs1, hp0, hp1, hp2⟩ := Mf.off_not hoff
    rw [HLN.out] at hin hn64
    have hk := Mf.chk_zero hnb
    have d0 : (Mf.chk m == 0) = true := by simp [hk]
    have d1 : decide (i < 0) = false := decide_eq_false (by omega)
    have d2 : decide ((n : Int) ≤ i) = false := decide_eq_false (by omega)
    obtain ⟨p, hp⟩ : ∃ p, i * m.chunk = p := ⟨_, rfl⟩
    rw [hp] at hp0 hp1 hp2
    have HF := Lib.hid (show Mf.fr m i = p by unfold Mf.fr; rw [if_neg hoff, hp])
    have HT := Lib.hid (show Mf.til m i = if m.size < p + m.chunk then m.size else p + m.chunk by unfold Mf.til; rw [if_neg hoff, hp2])
    clear hoff hnb
    rw [esz, ech] at HT
    rw [esz] at hs0 hs1 hp1
    rw [ech] at hc0 hc1 hp hp2
    clear esz ech
    by_cases hlt : sz < p + ch
    · have d3 : decide (sz < p + ch) = true := decide_eq_true hlt
      have HT' := Lib.hid (show Mf.til m i = sz by rw [HT.out, if_pos hlt])
      go_enter Tryd.func34, Tryd.ntmps34
      go_wp2_with (first | ((with_reducible show wpList _ _ _ ((⟨_, Op.load 34 _, _, _, _, _⟩ : Oper) :: _) _ _); refine wpList_load_row rfl _ (.tmp 2) rfl w.heap.size rfl 34 P (0, 0) _ (Whole.new w _ _) Tryd.underlying34 rfl (by rw [hsz]; exact info35) ?_) | (go_at_call 33; refine (rcheck_any HC.out).mono ?_; rintro e w1 ⟨rfl, hb1⟩; have HB1 := Lib.hid hb1; have K := Lib.hid ((Whole.new w 34 P).below hb1 (by simp)); have k0 : w1.cell? ⟨w.heap.size, 0, none⟩ = some (.int .i64 sz) := (by rw [K.out.cell]; exact c0); have k1 : w1.cell? ⟨w.heap.size, 1, none⟩ = some (.int .i64 ch) := (by rw [K.out.cell]; exact c1); have k2 : w1.cell? ⟨w.heap.size, 2, none⟩ = some (.slice a n c) := (by rw [K.out.cell]; exact c2); clear hb1))
      go_ret2
      exact ⟨ret_two HF.out.symm HT'.out.symm, below_box HB1.out⟩
    · have d3 : decide (sz < p + ch) = false := decide_eq_false hlt
      have HT' := Lib.hid (show Mf.til m i = p + ch by rw [HT.out, if_neg hlt])
      go_enter Tryd.func34, Tryd.ntmps34
      go_wp2_with (first | ((with_reducible show wpList _ _ _ ((⟨_, Op.load 34 _, _, _, _, _⟩ : Oper) :: _) _ _); refine wpList_load_row rfl _ (.tmp 2) rfl w.heap.size rfl 34 P (0, 0) _ (Whole.new w _ _) Tryd.underlying34 rfl (by rw [hsz]; exact info35) ?_) | (go_at_call 33; refine (rcheck_any HC.out).mono ?_; rintro e w1 ⟨rfl, hb1⟩; have HB1 := Lib.hid hb1; have K := Lib.hid ((Whole.new w 34 P).below hb1 (by simp)); have k0 : w1.cell? ⟨w.heap.size, 0, none⟩ = some (.int .i64 sz) := (by rw [K.out.cell]; exact c0); have k1 : w1.cell? ⟨w.heap.size, 1, none⟩ = some (.int .i64 ch) := (by rw [K.out.cell]; exact c1); have k2 : w1.cell? ⟨w.heap.size, 2, none⟩ = some (.slice a n c) := (by rw [K.out.cell]; exact c2); clear hb1))
      go_ret2
      exact ⟨ret_two HF.out.symm HT'.out.symm, below_box HB1.out⟩
end Go.Proofs.YtiogfkhmigbgpaaDoor
namespace Go.Proofs.YtiogfkhmigbgpaaDoor
set_option maxRecDepth 20000
set_option linter.unusedSimpArgs false
open Go.RowKit
theorem cdig_eq (i : Int) (l : List Int) : Sm.dig ([[0, i], l].flatten) = Mf.cdig i l := by simp [Mf.cdig]
theorem dig_size {d : List Int} (h : Dig d) : (nums d).toArray.size = 32 := by simp [nums_len, h.1]
theorem below_two (w : World) (o o' : Obj) : Below w.heap.size w ((w.alloc o).alloc o') := (below_alloc w o).alloc (by rw [size_alloc]; omega) o'
/-- Three blocks of the call's own, one behind the other. -/
theorem three_new {w w3 : World} {T1 T2 T3 : TypeId} {c1 c2 c3 : Array Value} (e : ((w.alloc (.cells c1 T1)).alloc (.cells c2 T2)).alloc (.cells c3 T3) = w3) :
    Whole w3 w.heap.size T1 c1 ∧ Whole w3 (w.heap.size + 1) T2 c2 ∧ Whole w3 (w.heap.size + 1 + 1) T3 c3 ∧ Below w.heap.size w w3 := by
  subst e
  have k1 := Whole.new w T1 c1
  have k2 := Whole.new (w.alloc (.cells c1 T1)) T2 c2
  have k3 := Whole.new ((w.alloc (.cells c1 T1)).alloc (.cells c2 T2)) T3 c3
  rw [size_alloc] at k2
  rw [size_alloc, size_alloc] at k3
  exact ⟨(k1.alloc _).alloc _, k2.alloc _, k3, ((below_alloc w _).alloc (by simp) _).alloc (by simp; omega) _⟩
set_option maxHeartbeats 1000000 in
theorem cdig_any {w : World} {S : Nat → Prop} {a : Option Addr} {n c : Nat} {l : List Int} {i : Int} (h : Txt w S a n c l) (hR : Roots w) (h0 : 0 ≤ i) (h1 : i < 256) (hn : n ≤ 800000) :
    Calls Tryd.prog 38 #[.int .i64 i, .slice a n c] w fun e w' => e = .returned (.agg (nums (Mf.cdig i l)).toArray) ∧ Below w.heap.size w w' := by
  have H := Lib.hid h.old
  have HLN := Lib.hid h.1
  have HR := Lib.hid hR
  clear h hR
  have hm : i % 256 = i := by omega
  go_enter Tryd.func38, Tryd.ntmps38
  go_wp2_with fail
  rw [zero32z]
  generalize hw3 : (((w.alloc (Obj.cells (nums (zs 32)).toArray 32)).alloc (Obj.cells #[Value.int IntKind.u8 0, Value.int IntKind.u8 i] 5)).alloc (Obj.cells #[Value.slice (some ⟨w.heap.size + 1, 0, none⟩) 2 2, Value.slice a n c] 35)) = w3 at *
  obtain ⟨k, hd, q, b⟩ := three_new hw3
  clear hw3
  have t1 := txt_of_whole (l := [0, i]) (fun _ => True) trivial hd (byt_cons (by omega) (by omega) (byt_cons h0 h1 byt_nil)) 2 2 (by simp) (by omega)
  rw [List.take_of_length_le (by simp)] at t1
  have hp := parts_two (S := fun _ => True) q trivial t1 ((H.out.below b (fun b _ h => h)).weak (fun _ _ _ => trivial))
  refine (sum_any hp (HR.out.below b HR.out.two) (by simp [HLN.out]; omega) (by omega)).mono ?_
  rintro e w4 ⟨rfl, hb4⟩
  rw [cdig_eq]
  have hl := dig_size (Mf.cdig_ok i l)
  have HD := Lib.hid (And.intro (k.below hb4 k.lt) (b.trans (hb4.mono (Nat.le_of_lt k.lt))))
  have hNa := all_nums (Mf.cdig i l)
  clear k hd q b t1 hp hb4
  with_reducible generalize hN : (nums (Mf.cdig i l)).toArray = N at *
  have HZ : Hid ((nums (zs 32)).toArray.size = 32) := Lib.hid rfl
  go_wp2_with ((with_reducible show wpList _ _ _ ((⟨_, Op.store 32 _ _, _, _, _, _⟩ : Oper) :: _) _ _); refine wpList_store_row rfl _ (.tmp 4) (.tmp 10) rfl w.heap.size N rfl rfl 32 _ HD.out.1 (by rw [hl]; exact info32) (by rw [HZ.out, hl]) hNa ?_)
  refine bodyPost_ret (results_one_cell rfl _ _ _ _ rfl (run_loadVar_row _ _ _ _ _ (0, 0) _ (HD.out.1.row N) und32 rfl (by rw [hl]; exact info32))) rfl ?_
  exact ⟨by rw [hN], below_row HD.out.2 (Nat.le_refl _) N⟩
set_option maxHeartbeats 1000000 in
theorem rcdig_any {w : World} {S : Nat → Prop} {a : Option Addr} {n c : Nat} {l : List Int} {i : Int} (h : Txt w S a n c l) (h0 : 0 ≤ i) (h1 : i < 256) (hn : n ≤ 800000) :
    Calls Tryd.prog 40 #[.int .i64 i, .slice a n c] w fun e w' => e = .returned (.agg (nums (Mf.cdig i l)).toArray) ∧ Below w.heap.size w w' := by
  obtain ⟨j0, hj0, hz0, hz1, hz2⟩ := info_parts u8_info
  have HI := Lib.hid (And.intro hj0 (And.intro hz0 (And.intro hz1 hz2)))
  clear hj0 hz0 hz1 hz2
  have H := Lib.hid h.old
  have HLN := Lib.hid h.1
  have HBL := Lib.hid h.2.2.1
  clear h
  have hm : i % 256 = i := by omega
  go_enter Tryd.func40, Tryd.ntmps40
  go_wp2_with (at_builtin; refine wpList_append_txt _ rfl (.tmp 7) (.tmp 8) 35 rfl w.heap.size 5 j0 (.int .u8 0) 1 Tryd.underlying35 HI.out.1 HI.out.2.1 HI.out.2.2.1 HI.out.2.2.2 rfl _ 2 (nums [0, i]) rfl ?c1 (fun b => b < w.heap.size) a n c l rfl ?c2 ?c3 ?c4 ?c5 ?_)
  case c1 =>
    have h := World.ownsRow_lit (base := w.heap.size) (e := 5) (size := 1) (w.alloc (.cells (nums (zs 32)).toArray 32)) #[.int .u8 0, .int .u8 i] 2 (by rw [size_alloc]; omega) (by unfold maxLen; omega) rfl
    rw [size_alloc] at h
    exact h
  case c2 => exact H.out.below (below_two w _ _) (fun b _ h => h)
  case c3 => unfold maxLen; omega
  case c4 => omega
  case c5 => simp; omega
  rw [zero32z]
  intro v' w4 hown hg hat
  have hb4 : Below w.heap.size w w4 := (below_two w _ _).grown hg (by simp; omega) (by intro k hk; simp [Value.ownBlock] at hk; omega)
  have hk4 : Whole w4 w.heap.size 32 (nums (zs 32)).toArray := ((Whole.new w _ _).alloc _).grown hg (by simp [Value.ownBlock])
  rw [← nums_append] at hown
  have hbl : Byt ([0, i] ++ l) := byt_append (byt_cons (by omega) (by omega) (byt_cons h0 h1 byt_nil)) HBL.out
  obtain ⟨a1, c1, rfl, ht⟩ := Txt.own hown hbl
  have HT := Lib.hid ht
  have HB4 := Lib.hid hb4
  have HK4 := Lib.hid hk4
  clear hown hg hat hb4 hk4 hbl ht
  go_wp2_with fail
  refine (rsum_any HT.out (by omega)).mono ?_
  rintro e w5 ⟨rfl, hb5⟩
  have HB5 := Lib.hid hb5
  clear hb5
  rw [show [0, i] ++ l = 0 :: i :: l from rfl, show Sm.dig (0 :: i :: l) = Mf.cdig i l from rfl]
  have hl := dig_size (Mf.cdig_ok i l)
  have HD := Lib.hid (And.intro (HK4.out.below HB5.out HK4.out.lt) (HB4.out.trans (HB5.out.mono HB4.out.size)))
  have hNa := all_nums (Mf.cdig i l)
  with_reducible generalize hN : (nums (Mf.cdig i l)).toArray = N at *
  have HZ : Hid ((nums (zs 32)).toArray.size = 32) := Lib.hid rfl
  go_wp2_with ((with_reducible show wpList _ _ _ ((⟨_, Op.store 32 _ _, _, _, _, _⟩ : Oper) :: _) _ _); refine wpList_store_row rfl _ (.tmp 4) (.tmp 10) rfl w.heap.size N rfl rfl 32 _ HD.out.1 (by rw [hl]; exact info32) (by rw [HZ.out, hl]) hNa ?_)
  refine bodyPost_ret (results_one_cell rfl _ _ _ _ rfl (run_loadVar_row _ _ _ _ _ (0, 0) _ (HD.out.1.row N) und32 rfl (by rw [hl]; exact info32))) rfl ?_
  exact ⟨by rw [hN], below_row HD.out.2 (Nat.le_refl _) N⟩
end Go.Proofs.YtiogfkhmigbgpaaDoor
