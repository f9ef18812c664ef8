/-
  Plain facts on the bytes of numbers (no Go program): what a number's bytes are, what is read of bytes, and that each is the other's inverse.
  Plain facts on the document's Get: what is read of bytes up to some place.
  Words for memory: bytes that lie in a slice, blocks that are known whole, and what stays of them; slices.Clone.
  The walks of package code's Writer: its bytes, what is added, numbers, texts, hashes.
  More walks of package code's Writer: the first bytes, numbers, texts, hashes.
  The walks of package code's fold and of Writer's numbers, texts and hashes.
-/
import Derived.Test.YtcfchkffanfehaaRows
import Derived.WalkKit
import Derived.WalkSpells
import Derived.WalkLawsBesides
import Derived.Below
import Derived.Maps.AppendAt
import Derived.OwnWalk
import Derived.Deep.AppendLies
import Derived.Laws.Cover3
import Derived.Laws.BytesArg
import Derived.Lib.Hide
import Derived.Deep.RegionLaw
import Derived.Deep.QuietTactic
import Derived.BigQuiet
import Derived.StillTailTactics
import Derived.Laws.Pointers
import Derived.Laws.Rows
namespace Cd

/-- The digits of u, highest first, each with the bit 128; none of 0. -/
def tops (u : Nat) : List Int := if _h : u = 0 then [] else tops (u / 128) ++ [((u % 128 + 128 : Nat) : Int)]
termination_by u
decreasing_by omega

def encU (u : Nat) : List Int := tops (u / 128) ++ [((u % 128 : Nat) : Int)]
def fold (n : Int) : Nat := if n < 0 then (2 * (-(n + 1)) + 1).toNat else (2 * n).toNat
def unfold (u : Nat) : Int := if u % 2 = 1 then -((u / 2 : Nat) : Int) - 1 else ((u / 2 : Nat) : Int)
/-- A number's bytes. -/
def num (n : Int) : List Int := encU (fold n)

def top57 : Int := 144115188075855872

/-- What is read behind a first byte b with the bits u so far. -/
def go : List Int → Int → Int → Option (Int × List Int)
  | [], u, b => if b < 128 then some (u, []) else none
  | c :: r, u, b => if b < 128 then some (u, c :: r) else if u < top57 then go r (u * 128 + c % 128) c else none
def parse : List Int → Option (Int × List Int)
  | [] => none
  | b :: r => if b = 128 then none else go r (b % 128) b

theorem parse_cons (b : Int) (r : List Int) : parse (b :: r) = if b = 128 then none else go r (b % 128) b := rfl

def Byt (l : List Int) : Prop := ∀ x ∈ l, 0 ≤ x ∧ x < 256

theorem tops_zero : tops 0 = [] := by unfold tops; simp
theorem tops_pos {u : Nat} (h : u ≠ 0) : tops u = tops (u / 128) ++ [((u % 128 + 128 : Nat) : Int)] := by
  conv => lhs; unfold tops
  rw [dif_neg h]

theorem byt_append {a b : List Int} (ha : Byt a) (hb : Byt b) : Byt (a ++ b) := by
  intro x hx
  rcases List.mem_append.1 hx with h | h
  · exact ha x h
  · exact hb x h
theorem byt_left {a b : List Int} (h : Byt (a ++ b)) : Byt a := fun x hx => h x (List.mem_append_left _ hx)
theorem byt_right {a b : List Int} (h : Byt (a ++ b)) : Byt b := fun x hx => h x (List.mem_append_right _ hx)
theorem byt_drop {a : List Int} (h : Byt a) (k : Nat) : Byt (a.drop k) := fun x hx => h x (List.mem_of_mem_drop hx)
theorem byt_take {a : List Int} (h : Byt a) (k : Nat) : Byt (a.take k) := fun x hx => h x (List.mem_of_mem_take hx)
theorem byt_nil : Byt [] := fun x hx => by cases hx
theorem byt_cons {x : Int} {l : List Int} (h0 : 0 ≤ x) (h1 : x < 256) (h : Byt l) : Byt (x :: l) := by
  intro y hy
  rcases List.mem_cons.1 hy with h' | h'
  · subst h'; exact ⟨h0, h1⟩
  · exact h y h'
theorem byt_tops (u : Nat) : Byt (tops u) := by
  induction u using Nat.strongRecOn with
  | _ u ih =>
    by_cases h : u = 0
    · subst h; rw [tops_zero]; exact byt_nil
    · rw [tops_pos h]
      exact byt_append (ih _ (by omega)) (byt_cons (by omega) (by omega) byt_nil)
theorem byt_encU (u : Nat) : Byt (encU u) := byt_append (byt_tops _) (byt_cons (by omega) (by omega) byt_nil)
theorem byt_num (n : Int) : Byt (num n) := byt_encU _

theorem tops_len {k : Nat} : ∀ {u : Nat}, u < 128 ^ k → (tops u).length ≤ k := by
  induction k with
  | zero => intro u h; have : u = 0 := by simpa using h
            subst this; rw [tops_zero]; simp
  | succ k ih =>
    intro u h
    by_cases h0 : u = 0
    · subst h0; rw [tops_zero]; simp
    · rw [tops_pos h0]
      have : u / 128 < 128 ^ k := by
        rw [Nat.pow_succ] at h
        exact Nat.div_lt_of_lt_mul (by rw [Nat.mul_comm]; exact h)
      have := ih this
      simp; omega
theorem encU_len {u : Nat} (h : u < 18446744073709551616) : (encU u).length ≤ 10 := by
  have : (tops (u / 128)).length ≤ 9 := tops_len (by
    have e : (128 : Nat) ^ 9 = 9223372036854775808 := by decide
    rw [e]; omega)
  unfold encU; simp; omega
theorem encU_pos (u : Nat) : 0 < (encU u).length := by unfold encU; simp

theorem fold_lt {n : Int} (h0 : -9223372036854775808 ≤ n) (h1 : n ≤ 9223372036854775807) : fold n < 18446744073709551616 := by
  unfold fold; split <;> omega
theorem unfold_fold (n : Int) : unfold (fold n) = n := by
  unfold fold unfold
  by_cases h : n < 0
  · rw [if_pos h, if_pos (by omega)]; omega
  · rw [if_neg h, if_neg (by omega)]; omega
theorem fold_unfold (u : Nat) : fold (unfold u) = u := by
  unfold fold unfold
  by_cases h : u % 2 = 1
  · rw [if_pos h, if_pos (by omega)]; omega
  · rw [if_neg h, if_neg (by omega)]; omega
theorem unfold_range {u : Nat} (h : u < 18446744073709551616) : -9223372036854775808 ≤ unfold u ∧ unfold u ≤ 9223372036854775807 := by
  unfold unfold; split <;> omega
theorem num_len {n : Int} (h0 : -9223372036854775808 ≤ n) (h1 : n ≤ 9223372036854775807) : (num n).length ≤ 10 := encU_len (fold_lt h0 h1)
theorem num_pos (n : Int) : 0 < (num n).length := encU_pos _

theorem go_lt (r : List Int) (u b : Int) (h : b < 128) : go r u b = some (u, r) := by
  cases r <;> simp [go, h]
theorem go_ge (c : Int) (r : List Int) (u b : Int) (h : ¬ b < 128) (hu : u < top57) : go (c :: r) u b = go r (u * 128 + c % 128) c := by
  simp [go, h, hu]

theorem parse_tops (c : Int) (t : List Int) : ∀ v : Nat, v ≠ 0 → (v : Int) < top57 → parse (tops v ++ c :: t) = go t ((v : Int) * 128 + c % 128) c := by
  intro v
  induction v using Nat.strongRecOn generalizing c t with
  | _ v ih =>
    intro h0 h1
    by_cases hs : v < 128
    · rw [tops_pos h0, show v / 128 = 0 by omega, tops_zero, show v % 128 = v by omega]
      show parse (((v + 128 : Nat) : Int) :: c :: t) = _
      rw [parse_cons, if_neg (by omega), go_ge _ _ _ _ (by omega) (by unfold top57; omega), show ((v + 128 : Nat) : Int) % 128 = (v : Int) by omega]
    · rw [tops_pos h0, List.append_assoc]
      show parse (tops (v / 128) ++ ((v % 128 + 128 : Nat) : Int) :: c :: t) = _
      rw [ih (v / 128) (by omega) _ _ (by omega) (by unfold top57 at *; omega)]
      have e : ((v / 128 : Nat) : Int) * 128 + ((v % 128 + 128 : Nat) : Int) % 128 = (v : Int) := by omega
      rw [e, go_ge _ _ _ _ (by omega) h1]
theorem parse_encU {u : Nat} (h : u < 18446744073709551616) (r : List Int) : parse (encU u ++ r) = some ((u : Int), r) := by
  unfold encU
  by_cases hs : u < 128
  · rw [show u / 128 = 0 by omega, tops_zero, show u % 128 = u by omega]
    show parse ((u : Int) :: r) = _
    rw [parse_cons, if_neg (by omega), go_lt _ _ _ (by omega), show (u : Int) % 128 = (u : Int) by omega]
  · rw [List.append_assoc]
    show parse (tops (u / 128) ++ ((u % 128 : Nat) : Int) :: r) = _
    rw [parse_tops _ _ _ (by omega) (by unfold top57; omega), go_lt _ _ _ (by omega), show ((u / 128 : Nat) : Int) * 128 + ((u % 128 : Nat) : Int) % 128 = (u : Int) by omega]

theorem go_enc {r : List Int} {u' : Int} : ∀ (t : List Int) (u b : Int), go t u b = some (u', r) → Byt (b :: t) → 0 ≤ u → u < 18446744073709551616 → (1 ≤ u ∨ b < 128) → b % 128 = u % 128 →
    0 ≤ u' ∧ u' < 18446744073709551616 ∧ ∃ s, t = s ++ r ∧ tops (u.toNat / 128) ++ b :: s = encU u'.toNat := by
  intro t
  have last : ∀ (u b : Int), 0 ≤ u → 0 ≤ b → b < 128 → b % 128 = u % 128 → tops (u.toNat / 128) ++ [b] = encU u.toNat := by
    intro u b h0 h1 h2 h3
    unfold encU
    congr 2; omega
  induction t with
  | nil =>
    intro u b h hb h0 h1 hu he
    have hb0 := hb b (by simp)
    unfold go at h
    split at h
    · simp at h
      obtain ⟨rfl, rfl⟩ := h
      exact ⟨h0, h1, [], rfl, last u b h0 hb0.1 (by assumption) he⟩
    · simp at h
  | cons c t ih =>
    intro u b h hb h0 h1 hu he
    have hb0 := hb b (by simp)
    have hc0 := hb c (by simp)
    unfold go at h
    split at h
    · simp at h
      obtain ⟨rfl, rfl⟩ := h
      exact ⟨h0, h1, [], rfl, last u b h0 hb0.1 (by assumption) he⟩
    · split at h
      · rename_i h2 h3
        unfold top57 at h3
        obtain ⟨g0, g1, s, rfl, hs⟩ := ih (u * 128 + c % 128) c h (fun x hx => hb x (by simp at hx ⊢; right; exact hx)) (by omega) (by omega) (by omega) (by omega)
        refine ⟨g0, g1, c :: s, rfl, ?_⟩
        rw [← hs, show (u * 128 + c % 128).toNat / 128 = u.toNat by omega, tops_pos (u := u.toNat) (by omega), List.append_assoc]
        congr 1
        show b :: c :: s = ((u.toNat % 128 + 128 : Nat) : Int) :: c :: s
        congr 1
        omega
      · simp at h
theorem parse_enc {l r : List Int} {u : Int} (h : parse l = some (u, r)) (hb : Byt l) : 0 ≤ u ∧ u < 18446744073709551616 ∧ l = encU u.toNat ++ r := by
  cases l with
  | nil => simp [parse] at h
  | cons b t =>
    have hb0 := hb b (by simp)
    rw [parse_cons] at h
    split at h
    · simp at h
    · obtain ⟨g0, g1, s, rfl, hs⟩ := go_enc t (b % 128) b h hb (by omega) (by omega) (by omega) (by omega)
      refine ⟨g0, g1, ?_⟩
      rw [← hs, show (b % 128).toNat / 128 = 0 by omega, tops_zero]
      rfl

/-- What is read of a rest that a number of least to most begins. -/
def get (least most : Int) (l : List Int) : Option (Int × List Int) :=
  match parse l with
  | some (u, r) => if least ≤ unfold u.toNat ∧ unfold u.toNat ≤ most then some (unfold u.toNat, r) else none
  | none => none
theorem parse_num {n : Int} (h0 : -9223372036854775808 ≤ n) (h1 : n ≤ 9223372036854775807) (r : List Int) : parse (num n ++ r) = some ((fold n : Int), r) := parse_encU (fold_lt h0 h1) r
theorem get_num {n least most : Int} (h0 : -9223372036854775808 ≤ n) (h1 : n ≤ 9223372036854775807) (hl : least ≤ n) (hm : n ≤ most) (r : List Int) : get least most (num n ++ r) = some (n, r) := by
  unfold get
  rw [parse_num h0 h1]
  simp only [Int.toNat_natCast, unfold_fold]
  rw [if_pos ⟨hl, hm⟩]
theorem get_enc {least most n : Int} {l r : List Int} (h : get least most l = some (n, r)) (hb : Byt l) : -9223372036854775808 ≤ n ∧ n ≤ 9223372036854775807 ∧ least ≤ n ∧ n ≤ most ∧ l = num n ++ r := by
  unfold get at h
  split at h
  · rename_i u r' hp
    split at h
    · rename_i hh
      simp at h
      obtain ⟨rfl, rfl⟩ := h
      obtain ⟨g0, g1, g2⟩ := parse_enc hp hb
      have := unfold_range (u := u.toNat) (by omega)
      refine ⟨this.1, this.2, hh.1, hh.2, ?_⟩
      unfold num
      rw [fold_unfold]; exact g2
    · simp at h
  · simp at h
end Cd
set_option linter.unusedSimpArgs false
set_option linter.unusedVariables false
namespace Cd
/-- The number that bytes are, the high bit of each left out. -/
def acc (l : List Int) : Int := l.foldl (fun u b => u * 128 + b % 128) 0
theorem acc_snoc (l : List Int) (x : Int) : acc (l ++ [x]) = acc l * 128 + x % 128 := by simp [acc]
theorem fold_ge (l : List Int) : ∀ u : Int, 0 ≤ u → u ≤ l.foldl (fun u b => u * 128 + b % 128) u := by
  induction l with
  | nil => intro u _; exact Int.le_refl _
  | cons x l ih =>
    intro u h
    rw [List.foldl_cons]
    have := ih (u * 128 + x % 128) (by omega)
    omega
theorem acc_nonneg (l : List Int) : 0 ≤ acc l := fold_ge l 0 (Int.le_refl _)
theorem acc_le (a b : List Int) : acc a ≤ acc (a ++ b) := by
  unfold acc
  rw [List.foldl_append]
  exact fold_ge b _ (acc_nonneg a)
theorem acc_take (l : List Int) (k : Nat) : acc (l.take k) ≤ acc l := by
  have := acc_le (l.take k) (l.drop k)
  rwa [List.take_append_drop] at this
theorem acc_tops (u : Nat) : acc (tops u) = (u : Int) := by
  induction u using Nat.strongRecOn with
  | _ u ih =>
    by_cases h : u = 0
    · subst h; rw [tops_zero]; rfl
    · rw [tops_pos h, acc_snoc, ih _ (by omega)]
      omega
theorem acc_encU (u : Nat) : acc (encU u) = (u : Int) := by
  unfold encU
  rw [acc_snoc, acc_tops]
  omega
theorem tops_high (u : Nat) : ∀ x ∈ tops u, 128 ≤ x := by
  induction u using Nat.strongRecOn with
  | _ u ih =>
    by_cases h : u = 0
    · subst h; rw [tops_zero]; intro x hx; cases hx
    · rw [tops_pos h]
      intro x hx
      rcases List.mem_append.1 hx with hx | hx
      · exact ih _ (by omega) x hx
      · simp at hx; omega
/-- The first i bytes have the high bit. -/
def High (l : List Int) (i : Nat) : Prop := ∀ j, j < i → 128 ≤ l.getD j 0
theorem high_snoc {l : List Int} {i : Nat} (h : High l i) (hi : 128 ≤ l.getD i 0) : High l (i + 1) := by
  intro j hj
  by_cases e : j = i
  · subst e; exact hi
  · exact h j (by omega)
theorem enc_at (u : Nat) (r : List Int) : (encU u ++ r).getD (tops (u / 128)).length 0 = ((u % 128 : Nat) : Int) := by
  unfold encU
  rw [List.append_assoc]
  simp
theorem enc_high (u : Nat) (r : List Int) {j : Nat} (hj : j < (tops (u / 128)).length) : 128 ≤ (encU u ++ r).getD j 0 := by
  unfold encU
  rw [List.append_assoc, List.getD_eq_getElem?_getD, List.getElem?_append_left hj, List.getElem?_eq_getElem hj]
  exact tops_high _ _ (List.getElem_mem hj)
theorem high_le {u : Nat} {r : List Int} {i : Nat} (h : High (encU u ++ r) i) : i ≤ (tops (u / 128)).length := by
  apply Decidable.byContradiction
  intro hh
  have := h (tops (u / 128)).length (by omega)
  rw [enc_at] at this
  omega
theorem parse_big {l : List Int} (hb : Byt l) {i : Nat} (hh : High l i) (hu : 144115188075855872 ≤ acc (l.take i)) : parse l = none := by
  cases hp : parse l with
  | none => rfl
  | some o =>
    obtain ⟨u, r⟩ := o
    obtain ⟨h0, h1, e⟩ := parse_enc hp hb
    rw [e] at hh hu
    have hi := high_le hh
    have h2 : (encU u.toNat ++ r).take i = (tops (u.toNat / 128)).take i := by
      unfold encU
      rw [List.append_assoc, List.take_append_of_le_length hi]
    rw [h2] at hu
    have h3 := acc_take (tops (u.toNat / 128)) i
    rw [acc_tops] at h3
    omega
theorem parse_open {l : List Int} (hb : Byt l) {i : Nat} (hh : High l i) (hi : l.length ≤ i ∨ 10 ≤ i) : parse l = none := by
  cases hp : parse l with
  | none => rfl
  | some o =>
    obtain ⟨u, r⟩ := o
    obtain ⟨h0, h1, e⟩ := parse_enc hp hb
    rw [e] at hh
    have h2 := high_le hh
    have h3 : (encU u.toNat).length ≤ 10 := encU_len (by omega)
    have h4 : (encU u.toNat).length = (tops (u.toNat / 128)).length + 1 := by simp [encU]
    have h5 : l.length = (encU u.toNat).length + r.length := by rw [e, List.length_append]
    omega
/-- Where a byte has no high bit: the bytes are a number just if they are its. -/
theorem parse_here {l : List Int} (hb : Byt l) {i : Nat} (hi : i < l.length) (hh : High l i) (hl : l.getD i 0 < 128) (ha : acc (l.take (i + 1)) < 18446744073709551616) :
    parse l = if num (unfold (acc (l.take (i + 1))).toNat) = l.take (i + 1) then some (acc (l.take (i + 1)), l.drop (i + 1)) else none := by
  have h0 := acc_nonneg (l.take (i + 1))
  split
  · rename_i hn
    unfold num at hn
    rw [fold_unfold] at hn
    have := parse_encU (u := (acc (l.take (i + 1))).toNat) (by omega) (l.drop (i + 1))
    rw [hn, List.take_append_drop] at this
    rw [this]
    congr 2
    omega
  · rename_i hn
    cases hp : parse l with
    | none => rfl
    | some o =>
      exfalso
      obtain ⟨u, r⟩ := o
      obtain ⟨h1, h2, e⟩ := parse_enc hp hb
      apply hn
      have hi1 : i ≤ (tops (u.toNat / 128)).length := by rw [e] at hh; exact high_le hh
      have hi2 : i = (tops (u.toNat / 128)).length := by
        apply Decidable.byContradiction
        intro hne
        have := enc_high u.toNat r (j := i) (by omega)
        rw [← e] at this
        omega
      have h4 : (encU u.toNat).length = i + 1 := by simp [encU, hi2]
      have h5 : l.take (i + 1) = encU u.toNat := by rw [e, ← h4, List.take_left]
      rw [h5, acc_encU]
      unfold num
      rw [fold_unfold]
      congr 1
theorem acc_lt {l : List Int} {i : Nat} (hi : i < l.length) (hu : acc (l.take i) < 144115188075855872) : acc (l.take (i + 1)) = acc (l.take i) * 128 + l.getD i 0 % 128 ∧ acc (l.take (i + 1)) < 18446744073709551616 := by
  have e : l.take (i + 1) = l.take i ++ [l.getD i 0] := by
    rw [List.take_succ_eq_append_getElem hi]; simp [hi]
  rw [e, acc_snoc]
  refine ⟨rfl, by omega⟩
/-- The number that bytes begin with, and how many bytes it has. -/
def getN (l : List Int) : Int × Nat :=
  match parse l with
  | some (u, r) => (unfold u.toNat, l.length - r.length)
  | none => (0, 0)
theorem getN_none {l : List Int} (h : parse l = none) : getN l = (0, 0) := by unfold getN; rw [h]
theorem getN_here {l : List Int} (hb : Byt l) {i : Nat} (hi : i < l.length) (hh : High l i) (hl : l.getD i 0 < 128) (ha : acc (l.take (i + 1)) < 18446744073709551616) :
    getN l = if num (unfold (acc (l.take (i + 1))).toNat) = l.take (i + 1) then (unfold (acc (l.take (i + 1))).toNat, i + 1) else (0, 0) := by
  unfold getN
  rw [parse_here hb hi hh hl ha]
  by_cases hn : num (unfold (acc (l.take (i + 1))).toNat) = l.take (i + 1)
  · rw [if_pos hn, if_pos hn]
    simp only [List.length_drop]
    congr 1
    omega
  · rw [if_neg hn, if_neg hn]
end Cd
namespace Go.Proofs.Ytcfchkffanfehaa.Co
set_option maxRecDepth 20000
open Go.RowKit

def nums (l : List Int) : List Value := l.map (Value.int .u8)
theorem nums_len (l : List Int) : (nums l).length = l.length := by simp [nums]
theorem nums_get (l : List Int) (k : Nat) (h : k < l.length) : (nums l)[k]? = some (.int .u8 (l.getD k 0)) := by simp [nums, h]
theorem nums_append (a b : List Int) : nums (a ++ b) = nums a ++ nums b := by simp [nums]
theorem nums_one (l : List Int) : ∀ u ∈ nums l, u.oneCell' = true := ints_oneCell .u8 l

/-- The slice a, n, c holds the bytes l; where it has any its block is one of S. -/
def Txt (w : World) (S : Nat → Prop) (a : Option Addr) (n c : Nat) (l : List Int) : Prop :=
  l.length = n ∧ n ≤ c ∧ Cd.Byt l ∧ (l = [] ∨ ∃ b off, a = some ⟨b, off, none⟩ ∧ S b ∧ b < w.heap.size ∧ ∀ k, k < n → w.cell? ⟨b, off + k, none⟩ = some (.int .u8 (l.getD k 0)))

section
variable {w w' : World} {S S' : Nat → Prop} {a : Option Addr} {n c : Nat} {l : List Int}
theorem Txt.keep (h : Txt w S a n c l) (hz : w.heap.size ≤ w'.heap.size) (hk : ∀ b, b < w.heap.size → S b → w'.heap[b]? = w.heap[b]?) : Txt w' S a n c l := by
  obtain ⟨h1, h2, h3, h4⟩ := h
  refine ⟨h1, h2, h3, ?_⟩
  rcases h4 with h | ⟨b, off, rfl, hs, hb, hc⟩
  · exact Or.inl h
  · refine Or.inr ⟨b, off, rfl, hs, by omega, fun k hk' => ?_⟩
    rw [← hc k hk']
    exact World.cell?_of_block (w := w) (hk b hb hs)
theorem Txt.weak (h : Txt w S a n c l) (hs : ∀ b, b < w.heap.size → S b → S' b) : Txt w S' a n c l := by
  obtain ⟨h1, h2, h3, h4⟩ := h
  refine ⟨h1, h2, h3, ?_⟩
  rcases h4 with h | ⟨b, off, rfl, hs', hb, hc⟩
  · exact Or.inl h
  · exact Or.inr ⟨b, off, rfl, hs b hb hs', hb, hc⟩
theorem Txt.old (h : Txt w S a n c l) : Txt w (fun b => b < w.heap.size) a n c l := h.weak fun _ hb _ => hb
theorem Txt.below {B : Nat} (h : Txt w S a n c l) (hb : Below B w w') (hs : ∀ b, b < w.heap.size → S b → b < B) : Txt w' S a n c l :=
  h.keep hb.size fun b hlt hS => hb.block b (hs b hlt hS)
theorem Txt.grown {row : Option Nat} (h : Txt w S a n c l) (hg : w.grownBy w' row) (hs : ∀ b, b < w.heap.size → S b → some b ≠ row) : Txt w' S a n c l :=
  h.keep hg.size fun b hlt hS => hg.block b hlt (hs b hlt hS)
theorem Txt.nil (w : World) (S : Nat → Prop) (a : Option Addr) (c : Nat) : Txt w S a 0 c [] := ⟨rfl, Nat.zero_le _, Cd.byt_nil, Or.inl rfl⟩
theorem Txt.cell (h : Txt w S a n c l) {k : Nat} (hk : k < n) : ∃ b off, a = some ⟨b, off, none⟩ ∧ S b ∧ b < w.heap.size ∧ w.cell? ⟨b, off + k, none⟩ = some (.int .u8 (l.getD k 0)) := by
  obtain ⟨h1, h2, h3, h4⟩ := h
  rcases h4 with h | ⟨b, off, rfl, hs, hb, hc⟩
  · subst h; simp at h1; omega
  · exact ⟨b, off, rfl, hs, hb, hc k hk⟩
theorem Txt.byte (h : Txt w S a n c l) {k : Nat} (hk : k < n) : 0 ≤ l.getD k 0 ∧ l.getD k 0 < 256 := by
  have hl : k < l.length := by rw [h.1]; exact hk
  have : l.getD k 0 = l[k] := by simp [hl]
  rw [this]
  exact h.2.2.1 _ (List.getElem_mem hl)
theorem Txt.take (h : Txt w S a n c l) (k : Nat) (hk : k ≤ n) : Txt w S a k c (l.take k) := by
  obtain ⟨h1, h2, h3, h4⟩ := h
  refine ⟨by simp; omega, by omega, Cd.byt_take h3 k, ?_⟩
  rcases h4 with h | ⟨b, off, rfl, hs, hb, hc⟩
  · subst h; exact Or.inl (by simp)
  · refine Or.inr ⟨b, off, rfl, hs, hb, fun j hj => ?_⟩
    rw [hc j (by omega)]
    have : j < l.length := by omega
    simp [this, hj]
theorem Txt.drop (h : Txt w S a n c l) (k : Nat) (hk : k ≤ n) : Txt w S (if c = k then a else a.map (·.add k)) (n - k) (c - k) (l.drop k) := by
  obtain ⟨h1, h2, h3, h4⟩ := h
  refine ⟨by simp; omega, by omega, Cd.byt_drop h3 k, ?_⟩
  by_cases he : l.drop k = []
  · exact Or.inl he
  rcases h4 with h | ⟨b, off, rfl, hs, hb, hc⟩
  · subst h; exact Or.inl (by simp)
  · have hl : k < l.length := by
      apply Decidable.byContradiction
      intro hh
      exact he (List.drop_eq_nil_of_le (by omega))
    refine Or.inr ⟨b, off + k, ?_, hs, hb, fun j hj => ?_⟩
    · rw [if_neg (by omega)]
      simp [Addr.add_lit]
    · rw [Nat.add_assoc, hc (k + j) (by omega)]
      have : k + j < l.length := by omega
      simp [this]
theorem Txt.own {base : Nat} {v : Value} (h : w.ownsRow base 5 1 v n (nums l)) (hb : Cd.Byt l) : ∃ a c, v = .slice a n c ∧ Txt w (base ≤ ·) a n c l := by
  have hn : l.length = n := by have := h.1; rw [nums_len] at this; omega
  by_cases h0 : n = 0
  · have hl : l = [] := List.eq_nil_of_length_eq_zero (by omega)
    subst h0
    rcases h.2 with ⟨rfl, _⟩ | ⟨g, cap, cur, rfl, _, _, _, _⟩
    · exact ⟨_, _, rfl, hn, Nat.zero_le _, hb, Or.inl hl⟩
    · exact ⟨_, _, rfl, hn, Nat.zero_le _, hb, Or.inl hl⟩
  · obtain ⟨g, cap, rfl, hb', hlt⟩ := h.form (by omega)
    have hcap : n ≤ cap := by
      rcases h.2 with ⟨h', _⟩ | ⟨g', cap', cur, h', _, _, hnc, _⟩
      · simp at h'
      · simp only [Value.slice.injEq] at h'
        omega
    refine ⟨_, _, rfl, hn, hcap, hb, Or.inr ⟨g, 0, rfl, hb', hlt, fun k hk => ?_⟩⟩
    rw [Nat.zero_add, h.cellAt k (by omega), nums_get _ _ (by omega)]
end

/-- append onto a row of the call's own, from whatever slice. -/
theorem run_append_txt {P : Program} (w : World) (base : Nat) (t ty e : TypeId) (i : TypeInfo) (z : Value) (bytes : Nat) (ht : P.underlying t = some (.slice e)) (hi : P.info? e = some i) (hz : i.zero = some z)
    (hsize : i.size = 1) (hby : i.bytes = bytes) (hzs : z.cells.size = 1)
    (v : Value) (n : Nat) (xs : List Value) (hown : w.ownsRow base e 1 v n xs) (S : Nat → Prop) (A : Option Addr) (m c : Nat) (l : List Int) (hr : Txt w S A m c l)
    (h63 : n + m ≤ maxLen) (hbytes : (n + m) * bytes ≤ 140737488355328) (hbase : base ≤ w.heap.size) :
    ∃ v' w', (Builtin.append_ #[t, t] ty #[v, .slice A m c]).run P w = .ok v' w' ∧ w'.ownsRow base e 1 v' (n + m) (xs ++ nums l) ∧ w.grownBy w' v.ownBlock ∧
      (v'.ownBlock = v.ownBlock ∨ v'.ownBlock = some w.heap.size) := by
  cases A with
  | none =>
    have hl : l = [] := by
      rcases hr.2.2.2 with h | ⟨b, off, h, _⟩
      · exact h
      · cases h
    subst hl
    have hm : m = 0 := hr.1.symm
    subst hm
    refine ⟨v, w, ?_, by simpa [nums] using hown, World.grownBy.refl w _, .inl rfl⟩
    rcases hown.2 with ⟨rfl, rfl⟩ | ⟨g, cap, cur, rfl, _, _, hnc, _⟩
    · simp [Builtin.append_, run_underlying ht, sizeOf, typeInfo, hi, Builtin.lenOf, Builtin.firstCells]
    · simp [Builtin.append_, run_underlying ht, sizeOf, typeInfo, hi, Builtin.lenOf, Builtin.firstCells, hnc, storeCells]
  | some ad =>
    have hcells : ∀ j u, (nums l)[j]? = some u → w.cell? (ad.add j) = some u := by
      intro j u hu
      have hj : j < l.length := by
        have := (List.getElem?_eq_some_iff.1 hu).1
        rwa [nums_len] at this
      rw [nums_get _ _ hj] at hu
      obtain ⟨b, off, h, _, _, hc⟩ := hr.cell (k := j) (by rw [← hr.1]; exact hj)
      injection h with h
      subst h
      rw [Addr.add_lit, hc, hu]
    obtain ⟨v', w', hrun, h2, h3, _, h5⟩ := run_append_own_at (P := P) w base t ty e i z 1 bytes ht hi hz hsize hby hzs (by omega) v n xs hown ad m c (nums l) (by rw [nums_len, hr.1]; omega) hcells (nums_one l) h63 hbytes hbase
    exact ⟨v', w', hrun, h2, h3, h5⟩

theorem wp_append_txt {P : Program} (w : World) {o : Oper} {a : Act} {K : Act → World → Prop} {Q : Exit → Act → World → Prop} (s x : Operand) (t : TypeId)
    (ho : o.op = .call { callee := .builtin .append, args := #[s, x], argTypes := #[t, t] })
    (base : Nat) (e : TypeId) (i : TypeInfo) (z : Value) (bytes : Nat) (ht : P.underlying t = some (.slice e)) (hi : P.info? e = some i) (hz : i.zero = some z)
    (hsize : i.size = 1) (hby : i.bytes = bytes) (hzs : z.cells.size = 1)
    (v : Value) (n : Nat) (xs : List Value) (hs : a.eval s = v) (hown : w.ownsRow base e 1 v n xs)
    (S : Nat → Prop) (A : Option Addr) (m c : Nat) (l : List Int) (hx : a.eval x = .slice A m c) (hr : Txt w S A m c l)
    (h63 : n + m ≤ maxLen) (hbytes : (n + m) * bytes ≤ 140737488355328) (hbase : base ≤ w.heap.size)
    (h : ∀ v' w', w'.ownsRow base e 1 v' (n + m) (xs ++ nums l) → w.grownBy w' v.ownBlock → (v'.ownBlock = v.ownBlock ∨ v'.ownBlock = some w.heap.size) → K (a.put o.dst v') w') : o.wp P a w K Q := by
  obtain ⟨v', w', hrun, h2, h3, h4⟩ := run_append_txt (P := P) w base t o.type e i z bytes ht hi hz hsize hby hzs v n xs hown S A m c l hr h63 hbytes hbase
  unfold Oper.wp execOp
  simp only [ho, resolve, invoke, builtin, Sem.run_bind, Sem.run_pure, Result.andThen_ok, List.map_toArray, List.map_cons, List.map_nil, hs, hx, hrun]
  exact h v' w' h2 h3 h4
theorem wpList_append_txt {P : Program} (w : World) {ops : Array Oper} {rest : List Oper} {o : Oper} {a : Act} {Q : Exit → Act → World → Prop} (hgd : o.guard = none) (s x : Operand) (t : TypeId)
    (ho : o.op = .call { callee := .builtin .append, args := #[s, x], argTypes := #[t, t] })
    (base : Nat) (e : TypeId) (i : TypeInfo) (z : Value) (bytes : Nat) (ht : P.underlying t = some (.slice e)) (hi : P.info? e = some i) (hz : i.zero = some z)
    (hsize : i.size = 1) (hby : i.bytes = bytes) (hzs : z.cells.size = 1)
    (v : Value) (n : Nat) (xs : List Value) (hs : a.eval s = v) (hown : w.ownsRow base e 1 v n xs)
    (S : Nat → Prop) (A : Option Addr) (m c : Nat) (l : List Int) (hx : a.eval x = .slice A m c) (hr : Txt w S A m c l)
    (h63 : n + m ≤ maxLen) (hbytes : (n + m) * bytes ≤ 140737488355328) (hbase : base ≤ w.heap.size)
    (h : ∀ v' w', w'.ownsRow base e 1 v' (n + m) (xs ++ nums l) → w.grownBy w' v.ownBlock → (v'.ownBlock = v.ownBlock ∨ v'.ownBlock = some w.heap.size) → wpList P ops Q rest (a.put o.dst v') w') : wpList P ops Q (o :: rest) a w :=
  wpList_plain hgd fun _ hK => wp_append_txt w s x t ho base e i z bytes ht hi hz hsize hby hzs v n xs hs hown S A m c l hx hr h63 hbytes hbase fun v' w' h2 h3 h4 => hK _ _ (h v' w' h2 h3 h4)

theorem eql_nil (a : Option Addr) (n c : Nat) (w : World) : (binOp .eql 30 (.slice a n c) (.slice none 0 0)).run Try.prog w = .ok (.bool a.isNone) w := by
  simp only [binOp]
  simp [run_equal_slice_nil w 30 _ a n c Try.underlying30]
theorem u8_info : (Try.prog.info? 5).map (fun i => (i.zero, i.size, i.bytes)) = some (some (.int .u8 0), 1, 1) := by kernel_rfl

/-- A slice of the call's own, from base on, that holds l. -/
def Made (base : Nat) (w : World) (l : List Int) (e : Ending) (w' : World) : Prop :=
  ∃ v, e = .returned v ∧ w'.ownsRow base 5 1 v l.length (nums l) ∧ Below w.heap.size w w'

set_option maxHeartbeats 400000 in
theorem clone_any (S : Nat → Prop) (a : Option Addr) (n c : Nat) (l : List Int) (w : World) (h : Txt w S a n c l) (hn : n ≤ 1099511627776) :
    Calls Try.prog 48 #[.slice a n c] w (Made w.heap.size w l) := by
  obtain ⟨i0, hi0, hz0, hz1, hz2⟩ := info_parts u8_info
  have HI := Lib.hid (And.intro hi0 (And.intro hz0 (And.intro hz1 hz2)))
  clear hi0 hz0 hz1 hz2
  have H := Lib.hid h
  clear h
  have hq := eql_nil a n c
  cases a with
  | none =>
    go_enter Try.func48, Try.ntmps48
    go_wp2
    go_ret
    have hl : l = [] := by
      rcases H.out.2.2.2 with h | ⟨b, off, h, _⟩
      · exact h
      · cases h
    subst hl
    exact ⟨_, rfl, World.ownsRow_nil _ _ _ _, Below.refl _ _⟩
  | some ad =>
    go_enter Try.func48, Try.ntmps48
    go_wp2_with (at_builtin; refine wpList_append_txt _ rfl (.tmp 5) (.tmp 6) 30 rfl w.heap.size 5 i0 (.int .u8 0) 1 Try.underlying30 HI.out.1 HI.out.2.1 HI.out.2.2.1 HI.out.2.2.2 rfl _ 0 [] rfl ?c1 S (some ad) n c l rfl ?c2 ?c3 ?c4 ?c5 ?_)
    case c1 => exact World.ownsRow_lit w #[] 0 (Nat.le_refl _) (by unfold maxLen; omega) rfl
    case c2 => exact H.out.keep (by simp) fun b hb _ => Below.heap_alloc _ _ _ hb
    case c3 => unfold maxLen; omega
    case c4 => omega
    case c5 => simp
    intro v' w' hown hg _
    have HO := Lib.hid hown
    have HG := Lib.hid hg
    clear hown hg
    go_wp2
    go_ret
    refine ⟨v', rfl, ?_, ?_⟩
    · have := HO.out
      rw [← H.out.1] at this
      exact this
    · refine ((Below.refl _ _).alloc (Nat.le_refl _) _).grown HG.out (by simp) ?_
      intro k hk
      simp [Value.ownBlock] at hk
      omega
end Go.Proofs.Ytcfchkffanfehaa.Co
namespace Go.Proofs.Ytcfchkffanfehaa.Co
set_option maxRecDepth 20000
open Go.RowKit

/-- Block g is just the cells cs, of type t. -/
def Whole (w : World) (g : Nat) (t : TypeId) (cs : Array Value) : Prop := w.heap[g]? = some (.cells cs t (0, 0))

section
variable {w w' : World} {g : Nat} {t : TypeId} {cs : Array Value}
theorem Whole.lt (h : Whole w g t cs) : g < w.heap.size := (Array.getElem?_eq_some_iff.1 h).1
theorem Whole.cell (h : Whole w g t cs) (i : Nat) : w.cell? ⟨g, i, none⟩ = cs[i]? := cell_of_row w g i cs t (0, 0) h
theorem Whole.frozen (h : Whole w g t cs) (i : Nat) : w.frozen? ⟨g, i, none⟩ = false := frozen_of_row w g i cs t h
theorem Whole.keep (h : Whole w g t cs) (hk : w'.heap[g]? = w.heap[g]?) : Whole w' g t cs := hk.trans h
theorem Whole.new (w : World) (t : TypeId) (cs : Array Value) : Whole (w.alloc (.cells cs t)) w.heap.size t cs := heap_alloc_new w _
theorem Whole.alloc (h : Whole w g t cs) (o : Obj) : Whole (w.alloc o) g t cs := h.keep (Below.heap_alloc w o g h.lt)
theorem Whole.set (h : Whole w g t cs) (i : Nat) (u : Value) : Whole (w.setCell ⟨g, i, none⟩ u) g t (cs.setIfInBounds i u) := heap_setCell_same w g i cs t u h
theorem Whole.far (h : Whole w g t cs) {p : Addr} (hp : g ≠ p.block) (u : Value) : Whole (w.setCell p u) g t cs := h.keep (Below.heap_setCell w p u g hp)
theorem Whole.below {B : Nat} (h : Whole w g t cs) (hb : Below B w w') (hg : g < B) : Whole w' g t cs := h.keep (hb.block g hg)
theorem Whole.grown {row : Option Nat} (h : Whole w g t cs) (hb : w.grownBy w' row) (hg : some g ≠ row) : Whole w' g t cs := h.keep (hb.block g h.lt hg)
theorem Whole.ne {g' : Nat} {t' : TypeId} {cs' : Array Value} (h : Whole w g t cs) (h' : Whole w g' t' cs') (hne : t ≠ t') : g ≠ g' := by
  rintro rfl
  unfold Whole at h h'
  rw [h] at h'
  injection h' with h'
  injection h' with _ ht
  exact hne ht
theorem own_form {base e size n : Nat} {v : Value} {xs : List Value} (h : w.ownsRow base e size v n xs) : ∃ q cap, v = .slice q n cap := by
  rcases h.2 with ⟨rfl, h0⟩ | ⟨g', cap, _, rfl, _⟩
  · exact ⟨_, _, by rw [h0]⟩
  · exact ⟨_, _, rfl⟩
theorem own_ne {base e size n : Nat} {v : Value} {xs : List Value} (h : w.ownsRow base e size v n xs) (hg : Whole w g t cs) (hne : e ≠ t) : v.ownBlock ≠ some g := by
  rcases h.2 with ⟨rfl, _⟩ | ⟨g', cap, cur, rfl, _, hh, _⟩
  · simp [Value.ownBlock]
  · intro he
    have : g' = g := by simpa [Value.ownBlock] using he
    subst this
    exact Whole.ne (t := e) hh hg hne rfl
end

/-- The writer at block g, all of it from block B on, wrote l. -/
def Wr (w : World) (B g : Nat) (l : List Int) : Prop :=
  B ≤ g ∧ ((l = [] ∧ Whole w g 51 #[.pointer none, .int .i64 0]) ∨
    ∃ h v, B ≤ h ∧ Whole w g 51 #[.pointer (some ⟨h, 0, none⟩), .int .i64 l.length] ∧ Whole w h 78 #[v] ∧ w.ownsRow B 5 1 v l.length (nums l))

theorem bytes_none (g : Nat) (w : World) (h : w.cell? ⟨g, 0, none⟩ = some (.pointer none)) :
    Calls Try.prog 29 #[.pointer (some ⟨g, 0, none⟩)] w fun e w' => e = .returned (.slice none 0 0) ∧ w = w' := by
  go_enter Try.func29, Try.ntmps29
  go_wp2
  go_ret
  exact ⟨rfl, rfl⟩
theorem bytes_nil (w : World) :
    Calls Try.prog 29 #[.pointer none] w fun e w' => e = .returned (.slice none 0 0) ∧ w = w' := by
  go_enter Try.func29, Try.ntmps29
  go_wp2
  go_ret
  exact ⟨rfl, rfl⟩

theorem below_drew {w w1 : World} (h : Below w.drew.heap.size w.drew w1) : Below w.heap.size w w1 := ⟨h.os, h.tape, h.output, h.size, h.block⟩
set_option maxHeartbeats 1000000 in
theorem bytes_some (B g h : Nat) (v : Value) (l : List Int) (w : World) (h0 : w.cell? ⟨g, 0, none⟩ = some (.pointer (some ⟨h, 0, none⟩))) (h1 : w.cell? ⟨g, 1, none⟩ = some (.int .i64 l.length))
    (h2 : w.cell? ⟨h, 0, none⟩ = some v) (hown : w.ownsRow B 5 1 v l.length (nums l)) (hb : Cd.Byt l) (hl : l.length ≤ 1099511627776) :
    Calls Try.prog 29 #[.pointer (some ⟨g, 0, none⟩)] w (Made w.heap.size w l) := by
  obtain ⟨a, c, rfl, ht⟩ := Txt.own hown hb
  have hlc : l.length ≤ c := ht.2.1
  obtain ⟨n, hn⟩ : ∃ n, l.length = n := ⟨_, rfl⟩
  rw [hn] at h1 h2 ht hl hlc
  have HT := Lib.hid ht
  have HN := Lib.hid hn
  clear ht hown hn
  have hc0 : (n : Int) ≤ (c : Int) := by omega
  go_enter Try.func29, Try.ntmps29
  go_wp2
  go_still_tail 12, (by kernel_rfl)
  change wpList _ _ _ _ _ w.drew
  go_wp2_with fail
  refine (clone_any (fun x => B ≤ x) a n c l w.drew HT.out hl).mono ?_
  rintro e w1 ⟨v, rfl, hown, hbl⟩
  have HO := Lib.hid hown
  have HB := Lib.hid hbl
  clear hown hbl
  go_wp2
  go_ret
  exact ⟨v, rfl, HO.out, below_drew HB.out⟩

theorem bytes_any {B g : Nat} {l : List Int} {w : World} (h : Wr w B g l) (hb : Cd.Byt l) (hl : l.length ≤ 1099511627776) :
    Calls Try.prog 29 #[.pointer (some ⟨g, 0, none⟩)] w (Made w.heap.size w l) := by
  rcases h.2 with ⟨rfl, hw⟩ | ⟨k, v, _, hw, hp, hown⟩
  · refine (bytes_none g w (hw.cell 0)).mono ?_
    rintro e w' ⟨rfl, rfl⟩
    exact ⟨_, rfl, World.ownsRow_nil _ _ _ _, Below.refl _ _⟩
  · exact bytes_some B g k v l w (hw.cell 0) (hw.cell 1) (hp.cell 0) hown hb hl

theorem step_append_txt {P : Program} (w : World) {ops : Array Oper} {o : Oper} {a : Act} {K : Act → World → Prop} {Q : Exit → Act → World → Prop} {E : Prop} (hgd : o.guard = none) (s x : Operand) (t : TypeId)
    (ho : o.op = .call { callee := .builtin .append, args := #[s, x], argTypes := #[t, t] })
    (base : Nat) (e : TypeId) (i : TypeInfo) (z : Value) (bytes : Nat) (ht : P.underlying t = some (.slice e)) (hi : P.info? e = some i) (hz : i.zero = some z)
    (hsize : i.size = 1) (hby : i.bytes = bytes) (hzs : z.cells.size = 1)
    (v : Value) (n : Nat) (xs : List Value) (hs : a.eval s = v) (hown : w.ownsRow base e 1 v n xs)
    (S : Nat → Prop) (A : Option Addr) (m c : Nat) (l : List Int) (hx : a.eval x = .slice A m c) (hr : Txt w S A m c l)
    (h63 : n + m ≤ maxLen) (hbytes : (n + m) * bytes ≤ 140737488355328) (hbase : base ≤ w.heap.size)
    (h : ∀ v' w', w'.ownsRow base e 1 v' (n + m) (xs ++ nums l) → w.grownBy w' v.ownBlock → (v'.ownBlock = v.ownBlock ∨ v'.ownBlock = some w.heap.size) → K (a.put o.dst v') w') :
    if Region.wanted o (yielded ops a.tmps) = true then Oper.wp P o a w K Q else E := by
  have hw : Region.wanted o (yielded ops a.tmps) = true := by simp [Region.wanted, hgd]
  rw [if_pos hw]
  exact wp_append_txt w s x t ho base e i z bytes ht hi hz hsize hby hzs v n xs hs hown S A m c l hx hr h63 hbytes hbase h

theorem below_drewN {B : Nat} {a w : World} (h : Below B a w) (n : Nat) : Below B a (w.drewN n) := ⟨h.os, h.tape, h.output, h.size, h.block⟩
theorem own_ge {w : World} {base e size n : Nat} {v : Value} {xs : List Value} (h : w.ownsRow base e size v n xs) : ∀ k, v.ownBlock = some k → base ≤ k := fun k hk => (h.lt k hk).1
theorem own_set {w : World} {base e size n : Nat} {v : Value} {xs : List Value} (h : w.ownsRow base e size v n xs) {p : Addr} (hp : v.ownBlock ≠ some p.block) (u : Value) : (w.setCell p u).ownsRow base e size v n xs := by
  refine h.kept (row := some p.block) ⟨rfl, rfl, rfl, by simp [World.setCell], fun k _ hk => Below.heap_setCell w p u k (fun e => hk (by rw [e]))⟩ (Or.inr hp)
theorem add_end {w w1 : World} {B g h m n : Nat} {old v' : Value} {l t : List Int} (hg : B ≤ g) (hh : B ≤ h) (hl : l.length = m) (ht : t.length = n)
    (hw : Whole w1 g 51 #[.pointer (some ⟨h, 0, none⟩), .int .i64 m]) (hp : Whole w1 h 78 #[old]) (hown : w1.ownsRow B 5 1 v' (m + n) (nums l ++ nums t)) (hb : Below B w w1) :
    Wr ((w1.setCell ⟨h, 0, none⟩ v').setCell ⟨g, 1, none⟩ (.int .i64 ((m : Int) + (n : Int)))) B g (l ++ t) ∧ Below B w ((w1.setCell ⟨h, 0, none⟩ v').setCell ⟨g, 1, none⟩ (.int .i64 ((m : Int) + (n : Int)))) := by
  have hgh : g ≠ h := hw.ne hp (by decide)
  have hvg := own_ne hown hw (by decide)
  have hvh := own_ne hown hp (by decide)
  refine ⟨⟨hg, Or.inr ⟨h, v', hh, ?_, ?_, ?_⟩⟩, (hb.setCell hh _).setCell hg _⟩
  · have := (hw.far (p := ⟨h, 0, none⟩) hgh v').set 1 (.int .i64 ((m : Int) + (n : Int)))
    rw [List.length_append, hl, ht, Int.natCast_add]
    exact this
  · exact (hp.set 0 v').far (p := ⟨g, 1, none⟩) (Ne.symm hgh) _
  · rw [List.length_append, hl, ht, nums_append]
    exact own_set (own_set hown (p := ⟨h, 0, none⟩) hvh _) (p := ⟨g, 1, none⟩) hvg _

set_option maxHeartbeats 1000000 in
theorem add_some (B g h : Nat) (v : Value) (l t : List Int) (S : Nat → Prop) (a : Option Addr) (n c : Nat) (w : World) (hB : B ≤ w.heap.size) (hg : B ≤ g) (hh : B ≤ h)
    (hw : Whole w g 51 #[.pointer (some ⟨h, 0, none⟩), .int .i64 l.length]) (hp : Whole w h 78 #[v]) (hown : w.ownsRow B 5 1 v l.length (nums l))
    (ht : Txt w S a n c t) (hl : l.length ≤ 1099511627776) (hn : n ≤ 1099511627776) :
    Calls Try.prog 45 #[.pointer (some ⟨g, 0, none⟩), .slice a n c] w fun e w' => e = .returned (.tuple #[]) ∧ Wr w' B g (l ++ t) ∧ Below B w w' := by
  obtain ⟨i0, hi0, hz0, hz1, hz2⟩ := info_parts u8_info
  have HI := Lib.hid (And.intro hi0 (And.intro hz0 (And.intro hz1 hz2)))
  clear hi0 hz0 hz1 hz2
  have hgh : g ≠ h := hw.ne hp (by decide)
  have hvg := own_ne hown hw (by decide)
  have hvh := own_ne hown hp (by decide)
  obtain ⟨q, cap, rfl⟩ : ∃ q cap, v = .slice q l.length cap := by
    rcases hown.2 with ⟨rfl, h0⟩ | ⟨g', cap, _, rfl, _⟩
    · exact ⟨_, _, by rw [h0]⟩
    · exact ⟨_, _, rfl⟩
  have c0 := hw.cell 0
  have c1 := hw.cell 1
  have c2 := hp.cell 0
  have f1 := hw.frozen 1
  have f2 := hp.frozen 0
  simp only [List.getElem?_toArray, List.getElem?_cons_zero, List.getElem?_cons_succ] at c0 c1 c2
  have HW := Lib.hid hw
  have HP := Lib.hid hp
  have HO := Lib.hid hown
  have HT := Lib.hid ht
  obtain ⟨m, hm⟩ : ∃ m, l.length = m := ⟨_, rfl⟩
  rw [hm] at c1 c2 hl hvg hvh HO HP HW
  have HM := Lib.hid hm
  clear hw hp hown ht hm
  have hgt : decide ((m : Int) < (m : Int)) = false := by simp
  go_enter Try.func45, Try.ntmps45
  go_wp2
  go_quiet (fail)
  go_wp2
  go_region_law
    ((refine step_append_txt _ (by rfl) _ _ _ (by rfl) B 5 i0 (.int .u8 0) 1 Try.underlying30 HI.out.1 HI.out.2.1 HI.out.2.2.1 HI.out.2.2.2 rfl (.slice q m cap) m (nums l) (by rfl) (by exact HO.out) S a n c t (by rfl) (by exact HT.out) (by unfold maxLen; omega) (by omega) (by exact hB) ?_
      intro v' w1 hown1 hgrow _
      obtain ⟨q', cap', rfl⟩ := own_form hown1
      have k0 := Whole.grown (by exact HW.out) hgrow (Ne.symm hvg)
      have k2 := Whole.grown (by exact HP.out) hgrow (Ne.symm hvh)
      have d0 := k0.cell 0
      have d1 := k0.cell 1
      have d2 := k2.cell 0
      have e1 := k0.frozen 1
      have e2 := k2.frozen 0
      simp only [List.getElem?_toArray, List.getElem?_cons_zero, List.getElem?_cons_succ] at d0 d1 d2
      have K0 := Lib.hid k0
      have K2 := Lib.hid k2
      have HO1 := Lib.hid hown1
      have HG1 := Lib.hid hgrow
      clear k0 k2 hown1 hgrow))
  all_goals
    go_wp2
    go_end0
    exact ⟨rfl, add_end hg hh HM.out HT.out.1 K0.out K2.out HO1.out ((below_drewN (Below.refl _ _) _).grown HG1.out (by exact hB) (own_ge HO.out))⟩

end Go.Proofs.Ytcfchkffanfehaa.Co
namespace Go.Proofs.Ytcfchkffanfehaa.Co
set_option maxRecDepth 20000
open Go.RowKit

/-- What stands behind the making of the first page. -/
theorem first_page {w : World} {B g : Nat} {t : List Int} {S : Nat → Prop} {a : Option Addr} {n c : Nat} (k : Nat) (hB : B ≤ w.heap.size) (hg : B ≤ g)
    (hw : Whole w g 51 #[.pointer none, .int .i64 0]) (ht : Txt w S a n c t) (hs : ∀ b, S b → b ≠ g) :
    B ≤ w.heap.size ∧ B ≤ (((w.drewN k).alloc (Obj.cells #[.slice none 0 0] 78)).setCell ⟨g, 0, none⟩ (.pointer (some ⟨w.heap.size, 0, none⟩))).heap.size ∧
    Whole (((w.drewN k).alloc (Obj.cells #[.slice none 0 0] 78)).setCell ⟨g, 0, none⟩ (.pointer (some ⟨w.heap.size, 0, none⟩))) g 51 #[.pointer (some ⟨w.heap.size, 0, none⟩), .int .i64 0] ∧
    Whole (((w.drewN k).alloc (Obj.cells #[.slice none 0 0] 78)).setCell ⟨g, 0, none⟩ (.pointer (some ⟨w.heap.size, 0, none⟩))) w.heap.size 78 #[.slice none 0 0] ∧
    Txt (((w.drewN k).alloc (Obj.cells #[.slice none 0 0] 78)).setCell ⟨g, 0, none⟩ (.pointer (some ⟨w.heap.size, 0, none⟩))) S a n c t ∧
    Below B w (((w.drewN k).alloc (Obj.cells #[.slice none 0 0] 78)).setCell ⟨g, 0, none⟩ (.pointer (some ⟨w.heap.size, 0, none⟩))) := by
  have hlt := hw.lt
  have hw' : Whole (w.drewN k) g 51 #[.pointer none, .int .i64 0] := hw
  have hn := Whole.new (w.drewN k) 78 #[.slice none 0 0]
  have hbl : Below B w (((w.drewN k).alloc (Obj.cells #[.slice none 0 0] 78)).setCell ⟨g, 0, none⟩ (.pointer (some ⟨w.heap.size, 0, none⟩))) :=
    ((below_drewN (Below.refl _ _) k).alloc (by exact hB) _).setCell hg _
  refine ⟨hB, Nat.le_trans hB hbl.size, (hw'.alloc _).set 0 _, hn.far (p := ⟨g, 0, none⟩) (by show w.heap.size ≠ g; omega) _, ?_, hbl⟩
  refine Txt.keep (w := w) ht hbl.size fun b hb hS => ?_
  rw [Below.heap_setCell _ _ _ _ (by exact hs b hS), Below.heap_alloc _ _ _ (by exact hb)]
  rfl

theorem add_end0 {w w1 : World} {B g h n : Nat} {old v' : Value} {t : List Int} (hg : B ≤ g) (hh : B ≤ h) (ht : t.length = n)
    (hw : Whole w1 g 51 #[.pointer (some ⟨h, 0, none⟩), .int .i64 0]) (hp : Whole w1 h 78 #[old]) (hown : w1.ownsRow B 5 1 v' n (nums t)) (hb : Below B w w1) :
    Wr ((w1.setCell ⟨h, 0, none⟩ v').setCell ⟨g, 1, none⟩ (.int .i64 (n : Int))) B g t ∧ Below B w ((w1.setCell ⟨h, 0, none⟩ v').setCell ⟨g, 1, none⟩ (.int .i64 (n : Int))) := by
  have h := add_end (l := []) (t := t) (m := 0) (n := n) (v' := v') hg hh rfl ht hw hp (by rw [Nat.zero_add]; exact hown) hb
  rw [List.nil_append, show ((0 : Nat) : Int) + (n : Int) = (n : Int) by omega] at h
  exact h

set_option maxHeartbeats 1000000 in
theorem add_none (B g : Nat) (t : List Int) (S : Nat → Prop) (a : Option Addr) (n c : Nat) (w : World) (hB : B ≤ w.heap.size) (hg : B ≤ g)
    (hw : Whole w g 51 #[.pointer none, .int .i64 0]) (ht : Txt w S a n c t) (hs : ∀ b, S b → b ≠ g) (hn : n ≤ 1099511627776) :
    Calls Try.prog 45 #[.pointer (some ⟨g, 0, none⟩), .slice a n c] w fun e w' => e = .returned (.tuple #[]) ∧ Wr w' B g t ∧ Below B w w' := by
  obtain ⟨i0, hi0, hz0, hz1, hz2⟩ := info_parts u8_info
  have HI := Lib.hid (And.intro hi0 (And.intro hz0 (And.intro hz1 hz2)))
  clear hi0 hz0 hz1 hz2
  have c0 := hw.cell 0
  have f0 := hw.frozen 0
  have hgs := hw.lt
  simp only [List.getElem?_toArray, List.getElem?_cons_zero] at c0
  have HW := Lib.hid hw
  have HT := Lib.hid ht
  have HF := Lib.hid (fun k => first_page k hB hg hw ht hs)
  have a0 : ∀ k o, ((w.drewN k).alloc o).cell? ⟨g, 0, none⟩ = some (.pointer none) := fun k o => (Whole.alloc (w := w.drewN k) (by exact hw) o).cell 0
  have z0 : ∀ k o, ((w.drewN k).alloc o).frozen? ⟨g, 0, none⟩ = false := fun k o => (Whole.alloc (w := w.drewN k) (by exact hw) o).frozen 0
  clear hw ht hs
  go_enter Try.func45, Try.ntmps45
  go_wp2
  go_quiet (fail)
  go_wp2_with (go_at_call 29; refine (bytes_none _ _ (by exact c0)).mono ?_; rintro e w' ⟨rfl, rfl⟩)
  obtain ⟨hh, hB2, hw2, hp2, ht2, hb2⟩ := HF.out nq
  clear HF a0 z0 HW HT c0 f0
  generalize ((w.drewN nq).alloc (Obj.cells #[.slice none 0 0] 78)).setCell ⟨g, 0, none⟩ (.pointer (some ⟨w.heap.size, 0, none⟩)) = w2 at *
  clear hB hgs
  generalize w.heap.size = h at *
  have hgh : g ≠ h := hw2.ne hp2 (by decide)
  have hown : w2.ownsRow B 5 1 (.slice none 0 0) 0 [] := World.ownsRow_nil _ _ _ _
  have c0 := hw2.cell 0
  have c1 := hw2.cell 1
  have c2 := hp2.cell 0
  have f1 := hw2.frozen 1
  have f2 := hp2.frozen 0
  simp only [List.getElem?_toArray, List.getElem?_cons_zero, List.getElem?_cons_succ] at c0 c1 c2
  have HW := Lib.hid hw2
  have HP := Lib.hid hp2
  have HO := Lib.hid hown
  have HT := Lib.hid ht2
  have HB2 := Lib.hid hb2
  clear hw2 hp2 hown ht2 hb2
  go_region_law
    ((refine step_append_txt _ (by rfl) _ _ _ (by rfl) B 5 i0 (.int .u8 0) 1 Try.underlying30 HI.out.1 HI.out.2.1 HI.out.2.2.1 HI.out.2.2.2 rfl (.slice none 0 0) 0 [] (by rfl) (by exact HO.out) S a n c t (by rfl) (by exact HT.out) (by unfold maxLen; omega) (by omega) (by exact hB2) ?_
      intro v' w1 hown1 hgrow _
      obtain ⟨q', cap', rfl⟩ := own_form hown1
      have k0 := Whole.grown (by exact HW.out) hgrow (by simp [Value.ownBlock])
      have k2 := Whole.grown (by exact HP.out) hgrow (by simp [Value.ownBlock])
      have d0 := k0.cell 0
      have d1 := k0.cell 1
      have d2 := k2.cell 0
      have e1 := k0.frozen 1
      have e2 := k2.frozen 0
      simp only [List.getElem?_toArray, List.getElem?_cons_zero, List.getElem?_cons_succ] at d0 d1 d2
      have K0 := Lib.hid k0
      have K2 := Lib.hid k2
      have HO1 := Lib.hid hown1
      have HG1 := Lib.hid hgrow
      clear k0 k2 hown1 hgrow))
  all_goals
    go_wp2
    go_end0
    exact ⟨rfl, add_end0 hg hh HT.out.1 K0.out K2.out (by have := HO1.out; rw [Nat.zero_add, List.nil_append] at this; exact this) (HB2.out.trans ((Below.refl _ _).drew.grown HG1.out (by exact hB2) (own_ge HO.out)))⟩

theorem add_any {B g : Nat} {l t : List Int} {S : Nat → Prop} {a : Option Addr} {n c : Nat} {w : World} (hB : B ≤ w.heap.size) (hw : Wr w B g l) (ht : Txt w S a n c t) (hs : ∀ b, S b → b ≠ g) (hl : l.length ≤ 1099511627776) (hn : n ≤ 1099511627776) :
    Calls Try.prog 45 #[.pointer (some ⟨g, 0, none⟩), .slice a n c] w fun e w' => e = .returned (.tuple #[]) ∧ Wr w' B g (l ++ t) ∧ Below B w w' := by
  rcases hw.2 with ⟨rfl, h⟩ | ⟨k, v, hk, h, hp, hown⟩
  · exact add_none B g t S a n c w hB hw.1 h ht hs hn
  · exact add_some B g k v l t S a n c w hB hw.1 hk h hp hown ht hl hn
theorem add_nil (v : Value) (w : World) : Calls Try.prog 45 #[.pointer none, v] w fun e w' => e = .returned (.tuple #[]) ∧ w = w' := by
  go_enter Try.func45, Try.ntmps45
  go_wp2
  first | go_end0 | refine bodyPost_ret (results_none rfl _ _ _) rfl ?_
  exact ⟨rfl, rfl⟩
end Go.Proofs.Ytcfchkffanfehaa.Co
namespace Go.Proofs.Ytcfchkffanfehaa.Co
set_option maxRecDepth 20000
open Go.RowKit

theorem fold_neg {n : Int} (h : n < 0) : ((Cd.fold n : Nat) : Int) = 2 * (-(n + 1)) + 1 := by unfold Cd.fold; rw [if_pos h]; omega
theorem fold_pos {n : Int} (h : ¬ n < 0) : ((Cd.fold n : Nat) : Int) = 2 * n := by unfold Cd.fold; rw [if_neg h]; omega
theorem ret_u64 {a b : Int} (h : a = b) : Ending.returned (.int .u64 a) = .returned (.int .u64 b) := by rw [h]

set_option maxHeartbeats 400000 in
theorem fold_any (n : Int) (w : World) (h0 : -9223372036854775808 ≤ n) (h1 : n ≤ 9223372036854775807) :
    Calls Try.prog 44 #[.int .i64 n] w fun e w' => e = .returned (.int .u64 (Cd.fold n : Nat)) ∧ w = w' := by
  by_cases h : n < 0
  · have HV := Lib.hid (fold_neg h)
    go_enter Try.func44, Try.ntmps44
    go_wp2
    go_ret
    exact ⟨ret_u64 HV.out.symm, rfl⟩
  · have HV := Lib.hid (fold_pos h)
    go_enter Try.func44, Try.ntmps44
    go_wp2
    go_ret
    exact ⟨ret_u64 HV.out.symm, rfl⟩

/-- What holds at the head of each round of Int's loop: k is where the bytes so far begin, r what is left. -/
def IntRel (w : World) (u : Nat) (s5 s6 : Value) (wr : World) : Prop :=
  ∃ (k : Nat) (r : Int) (cs : Array Value) (suf : List Int), s5 = .int .u64 r ∧ s6 = .int .i64 k ∧ k ≤ 9 ∧ 0 ≤ r ∧ r ≤ 18446744073709551615 ∧ r.toNat < 128 ^ k ∧
    Whole wr w.heap.size 73 cs ∧ cs.size = 10 ∧ cs.toList.drop k = nums suf ∧ Cd.Byt suf ∧ Cd.tops r.toNat ++ suf = Cd.encU u ∧ Below w.heap.size w wr
theorem intRel_start (w : World) (u : Int) (h0 : 0 ≤ u) (h1 : u ≤ 18446744073709551615) :
    IntRel w u.toNat (.int .u64 (u / 128)) (.int .i64 9) (w.alloc (Obj.cells #[.int .u8 0, .int .u8 0, .int .u8 0, .int .u8 0, .int .u8 0, .int .u8 0, .int .u8 0, .int .u8 0, .int .u8 0, .int .u8 (u % 128)] 73)) := by
  refine ⟨9, u / 128, _, [u % 128], rfl, rfl, by omega, by omega, by omega, ?_, Whole.new _ _ _, rfl, rfl, Cd.byt_cons (by omega) (by omega) Cd.byt_nil, ?_, (Below.refl _ _).alloc (Nat.le_refl _) _⟩
  · have e : (128 : Nat) ^ 9 = 9223372036854775808 := by decide
    rw [e]; omega
  · unfold Cd.encU
    rw [show (u / 128).toNat = u.toNat / 128 by omega, show ((u.toNat % 128 : Nat) : Int) = u % 128 by omega]
theorem intRel_step {w wr : World} {u j : Nat} {r : Int} {cs : Array Value} {suf : List Int} (hj : j + 1 ≤ 9) (hr : 0 < r) (hr1 : r ≤ 18446744073709551615) (hp : r.toNat < 128 ^ (j + 1))
    (hw : Whole wr w.heap.size 73 cs) (hs : cs.size = 10) (hd : cs.toList.drop (j + 1) = nums suf) (hb : Cd.Byt suf) (ht : Cd.tops r.toNat ++ suf = Cd.encU u) (hbl : Below w.heap.size w wr) :
    IntRel w u (.int .u64 (r / 128)) (.int .i64 j) (wr.setCell ⟨w.heap.size, j, none⟩ (.int .u8 (128 + r % 128))) := by
  refine ⟨j, r / 128, _, (128 + r % 128) :: suf, rfl, rfl, by omega, by omega, by omega, ?_, hw.set j _, by simpa using hs, ?_, Cd.byt_cons (by omega) (by omega) hb, ?_, hbl.setCell (Nat.le_refl _) _⟩
  · rw [show (r / 128).toNat = r.toNat / 128 by omega]
    rw [Nat.pow_succ] at hp
    exact Nat.div_lt_of_lt_mul (by rw [Nat.mul_comm]; exact hp)
  · have hl : j < cs.toList.length := by simp; omega
    rw [Array.toList_setIfInBounds, List.drop_eq_getElem_cons (by simp; omega), List.getElem_set_self, List.drop_set_of_lt (by omega), hd]
    rfl
  · rw [← ht, Cd.tops_pos (u := r.toNat) (by omega), show (r / 128).toNat = r.toNat / 128 by omega, List.append_assoc]
    congr 1
    show _ = ((r.toNat % 128 + 128 : Nat) : Int) :: suf
    congr 1
    omega
/-- The bytes that stand in an array from k on. -/
theorem txt_array {wr : World} {b k : Nat} {t : TypeId} {cs : Array Value} {suf : List Int} (hw : Whole wr b t cs) (hs : cs.size = 10) (hk : k ≤ 9) (hd : cs.toList.drop k = nums suf) (hb : Cd.Byt suf) :
    Txt wr (· = b) (some ⟨b, k, none⟩) (10 - k) (10 - k) suf := by
  have hl : suf.length = 10 - k := by
    have := congrArg List.length hd
    rw [nums_len] at this
    simp at this; omega
  refine ⟨hl, Nat.le_refl _, hb, Or.inr ⟨b, k, rfl, rfl, hw.lt, fun i hi => ?_⟩⟩
  rw [hw.cell, ← nums_get suf i (by omega), ← hd, List.getElem?_drop]
  simp
theorem Wr.below {w w' : World} {B g : Nat} {l : List Int} (h : Wr w B g l) (hb : Below w.heap.size w w') : Wr w' B g l := by
  refine ⟨h.1, ?_⟩
  rcases h.2 with ⟨hl, hw⟩ | ⟨k, v, hk, hw, hp, hown⟩
  · exact Or.inl ⟨hl, hw.below hb hw.lt⟩
  · refine Or.inr ⟨k, v, hk, hw.below hb hw.lt, hp.below hb hp.lt, ?_⟩
    exact hown.kept (row := none) ⟨hb.os, hb.tape, hb.output, hb.size, fun i hi _ => hb.block i hi⟩ (by cases hv : v.ownBlock <;> simp)
theorem Wr.lt {w : World} {B g : Nat} {l : List Int} (h : Wr w B g l) : g < w.heap.size := by
  rcases h.2 with ⟨_, hw⟩ | ⟨k, v, hk, hw, hp, hown⟩
  · exact hw.lt
  · exact hw.lt

theorem sz_u8 (W : World) : (sizeOf 5).run Try.prog W = .ok 1 W := by
  obtain ⟨i0, hi0, _, hz1, _⟩ := info_parts u8_info
  simp [sizeOf, typeInfo, hi0, hz1]
theorem slice_ten (b k : Nat) (hk : k ≤ 9) (W : World) :
    (Instr.sliceAt 73 (.pointer (some ⟨b, 0, none⟩)) (some (.int .i64 (k : Int))) none none).run Try.prog W = .ok (.slice (some ⟨b, k, none⟩) (10 - k) (10 - k)) W := by
  have hn : Try.prog.arrayLen 73 = 10 := by kernel_rfl
  have he : Try.prog.elem 73 = 5 := by kernel_rfl
  have hu : Try.prog.underlying 73 = some (.array (Try.prog.arrayLen 73) (Try.prog.elem 73)) := by kernel_rfl
  rw [run_sliceAt_array_l W 73 ⟨b, 0, none⟩ hu .i64 (k : Int) (by omega) (by rw [hn]; omega), he, sz_u8, hn]
  have h10 : ¬ 10 = k := by omega
  simp [Result.andThen, slicedAt, h10, Addr.add_lit]

set_option maxHeartbeats 1000000 in
theorem int_any {B g : Nat} {l : List Int} {w : World} (n : Int) (hB : B ≤ w.heap.size) (hw : Wr w B g l) (hl : l.length ≤ 1000000000000) (h0 : -9223372036854775808 ≤ n) (h1 : n ≤ 9223372036854775807) :
    Calls Try.prog 26 #[.pointer (some ⟨g, 0, none⟩), .int .i64 n] w fun e w' => e = .returned (.tuple #[]) ∧ Wr w' B g (l ++ Cd.num n) ∧ Below B w w' := by
  go_enter Try.func26, Try.ntmps26
  go_wp2_with fail
  refine (fold_any n _ h0 h1).mono ?_; rintro e w' ⟨rfl, rfl⟩
  obtain ⟨u, hu⟩ : ∃ u : Int, ((Cd.fold n : Nat) : Int) = u := ⟨_, rfl⟩
  have hu0 : 0 ≤ u := by omega
  have hu1 : u ≤ 18446744073709551615 := by have := Cd.fold_lt h0 h1; omega
  rw [hu]
  have HU := Lib.hid hu
  clear hu
  have HS := Lib.hid (intRel_start w u hu0 hu1)
  have HW := Lib.hid hw
  have HN : Hid (u.toNat = Cd.fold n) := Lib.hid (by have := HU.out; omega)
  obtain ⟨U, hU⟩ : ∃ U, u.toNat = U := ⟨_, rfl⟩
  rw [hU] at HS HN
  clear hw hU
  go_wp2
  go_loopw [5, 6] (fun s5 s6 wr => IntRel w U s5 s6 wr) (fun _ i _ => (intOf i).toNat)
  case atStart => exact HS.out
  case round =>
    obtain ⟨k, r, cs, suf, rfl, rfl, hk, hr0, hr1, hp, hwh, hsz, hd, hb, ht, hbl⟩ := hrel
    have HP := Lib.hid hp
    have HWH := Lib.hid hwh
    have HSZ := Lib.hid hsz
    have HD := Lib.hid hd
    have HB := Lib.hid hb
    have HT := Lib.hid ht
    have HBL := Lib.hid hbl
    clear hp hwh hsz hd hb ht hbl
    by_cases c : 0 < r
    · obtain ⟨j, rfl⟩ : ∃ j, k = j + 1 := by
        cases k with
        | zero => have := HP.out; rw [Nat.pow_zero] at this; omega
        | succ j => exact ⟨j, rfl⟩
      have hc : wr.cell? ⟨w.heap.size, j, none⟩ = some (cs[j]'(by rw [HSZ.out]; omega)) := by rw [HWH.out.cell]; simp [show j < cs.size by rw [HSZ.out]; omega]
      have hf := HWH.out.frozen j
      have hj0 : (0 : Int) ≤ (j : Int) := by omega
      have hj1 : (j : Int) < 10 := by omega
      go_wp2
      exact ⟨intRel_step hk c hr1 HP.out HWH.out HSZ.out HD.out HB.out HT.out HBL.out, by simp [intOf]⟩
    · have hr : r = 0 := by omega
      have hsl := slice_ten w.heap.size k hk
      have HX : Hid (Txt wr (· = w.heap.size) (some ⟨w.heap.size, k, none⟩) (10 - k) (10 - k) (Cd.num n)) := Lib.hid (by
        have h1 := HT.out
        rw [hr, show (0 : Int).toNat = 0 by rfl, Cd.tops_zero, List.nil_append, HN.out] at h1
        have h2 := HD.out
        have h3 := HB.out
        rw [h1] at h2 h3
        exact txt_array HWH.out HSZ.out hk h2 h3)
      have HW2 : Hid (Wr wr B g l) := Lib.hid (HW.out.below HBL.out)
      have HG : Hid (∀ b, b = w.heap.size → b ≠ g) := Lib.hid (by have := HW.out.lt; intro b hb; omega)
      have hBr : B ≤ wr.heap.size := by have := HBL.out.size; omega
      clear HP HWH HSZ HD HB HT
      go_wp2_with (go_at_call 45; refine (add_any hBr HW2.out HX.out HG.out (by omega) (by omega)).mono ?_; rintro e w2 ⟨rfl, hw2, hb2⟩)
      go_end0
      exact ⟨rfl, hw2, (HBL.out.mono hB).trans hb2⟩

theorem int_nil (n : Int) (w : World) (h0 : -9223372036854775808 ≤ n) (h1 : n ≤ 9223372036854775807) :
    Calls Try.prog 26 #[.pointer none, .int .i64 n] w fun e w' => e = .returned (.tuple #[]) ∧ Below w.heap.size w w' := by
  go_enter Try.func26, Try.ntmps26
  go_wp2_with fail
  refine (fold_any n _ h0 h1).mono ?_; rintro e w' ⟨rfl, rfl⟩
  obtain ⟨u, hu⟩ : ∃ u : Int, ((Cd.fold n : Nat) : Int) = u := ⟨_, rfl⟩
  have hu0 : 0 ≤ u := by omega
  have hu1 : u ≤ 18446744073709551615 := by have := Cd.fold_lt h0 h1; omega
  rw [hu]
  clear hu
  have HS := Lib.hid (intRel_start w u hu0 hu1)
  obtain ⟨U, hU⟩ : ∃ U, u.toNat = U := ⟨_, rfl⟩
  rw [hU] at HS
  clear hU
  go_wp2
  go_loopw [5, 6] (fun s5 s6 wr => IntRel w U s5 s6 wr) (fun _ i _ => (intOf i).toNat)
  case atStart => exact HS.out
  case round =>
    obtain ⟨k, r, cs, suf, rfl, rfl, hk, hr0, hr1, hp, hwh, hsz, hd, hb, ht, hbl⟩ := hrel
    have HP := Lib.hid hp
    have HWH := Lib.hid hwh
    have HSZ := Lib.hid hsz
    have HD := Lib.hid hd
    have HB := Lib.hid hb
    have HT := Lib.hid ht
    have HBL := Lib.hid hbl
    clear hp hwh hsz hd hb ht hbl
    by_cases c : 0 < r
    · obtain ⟨j, rfl⟩ : ∃ j, k = j + 1 := by
        cases k with
        | zero => have := HP.out; rw [Nat.pow_zero] at this; omega
        | succ j => exact ⟨j, rfl⟩
      have hc : wr.cell? ⟨w.heap.size, j, none⟩ = some (cs[j]'(by rw [HSZ.out]; omega)) := by rw [HWH.out.cell]; simp [show j < cs.size by rw [HSZ.out]; omega]
      have hf := HWH.out.frozen j
      have hj0 : (0 : Int) ≤ (j : Int) := by omega
      have hj1 : (j : Int) < 10 := by omega
      go_wp2
      exact ⟨intRel_step hk c hr1 HP.out HWH.out HSZ.out HD.out HB.out HT.out HBL.out, by simp [intOf]⟩
    · have hr : r = 0 := by omega
      have hsl := slice_ten w.heap.size k hk
      clear HP HWH HSZ HD HB HT
      go_wp2_with (go_at_call 45; refine (add_nil _ _).mono ?_; rintro e w2 ⟨rfl, rfl⟩)
      go_end0
      exact ⟨rfl, HBL.out⟩

set_option maxHeartbeats 400000 in
theorem text_any {B g : Nat} {l t : List Int} {S : Nat → Prop} {a : Option Addr} {n c : Nat} {w : World} (hB : B ≤ w.heap.size) (hw : Wr w B g l) (ht : Txt w S a n c t) (hs : ∀ b, S b → b < B) (hl : l.length ≤ 900000000000) (hn : n ≤ 1099511627776) :
    Calls Try.prog 28 #[.pointer (some ⟨g, 0, none⟩), .slice a n c] w fun e w' => e = .returned (.tuple #[]) ∧ Wr w' B g (l ++ (Cd.num t.length ++ t)) ∧ Below B w w' := by
  have hlen := ht.1
  rw [hlen]
  have HW := Lib.hid hw
  have HT := Lib.hid ht
  have HS := Lib.hid hs
  clear hw ht hs hlen
  go_enter Try.func28, Try.ntmps28
  go_wp2_with fail
  refine (int_any (n : Int) hB HW.out (by omega) (by omega) (by omega)).mono ?_; rintro e w1 ⟨rfl, hw1, hb1⟩
  have HW1 := Lib.hid hw1
  have HB1 := Lib.hid hb1
  clear hw1 hb1
  go_wp2_with fail
  have hz := HB1.out.size
  have hnl : (Cd.num (n : Int)).length ≤ 10 := Cd.num_len (by omega) (by omega)
  refine (add_any (by omega) HW1.out (HT.out.below HB1.out (fun b _ h => HS.out b h)) (fun b h => by have := HS.out b h; have := HW.out.1; omega) (by simp; omega) hn).mono ?_; rintro e w2 ⟨rfl, hw2, hb2⟩
  have HW2 := Lib.hid hw2
  have HB2 := Lib.hid hb2
  clear hw2 hb2 hnl hz
  go_wp2
  go_end0
  exact ⟨rfl, by have := HW2.out; rw [List.append_assoc] at this; exact this, HB1.out.trans HB2.out⟩

set_option maxHeartbeats 400000 in
theorem hash_any {B g : Nat} {l t : List Int} {w : World} (hB : B ≤ w.heap.size) (hw : Wr w B g l) (ht : t.length = 32) (hb : Cd.Byt t) (hl : l.length ≤ 900000000000) :
    Calls Try.prog 47 #[.pointer (some ⟨g, 0, none⟩), .agg (nums t).toArray] w fun e w' => e = .returned (.tuple #[]) ∧ Wr w' B g (l ++ t) ∧ Below B w w' := by
  have HW := Lib.hid hw
  have HT := Lib.hid (And.intro ht hb)
  clear hw ht hb
  go_enter Try.func47, Try.ntmps47
  have HX : Hid (Txt (w.alloc (.cells (nums t).toArray 24)) (· = w.heap.size) (some ⟨w.heap.size, 0, none⟩) 32 32 t) := Lib.hid (by
    obtain ⟨ht, hb⟩ := HT.out
    have hn := Whole.new w 24 (nums t).toArray
    refine ⟨ht, Nat.le_refl _, hb, Or.inr ⟨w.heap.size, 0, rfl, rfl, hn.lt, fun i hi => ?_⟩⟩
    rw [Nat.zero_add, hn.cell, List.getElem?_toArray, nums_get t i (by omega)])
  have HB : Hid (Below w.heap.size w (w.alloc (.cells (nums t).toArray 24))) := Lib.hid ((Below.refl _ _).alloc (Nat.le_refl _) _)
  have HW2 : Hid (Wr (w.alloc (.cells (nums t).toArray 24)) B g l) := Lib.hid (HW.out.below HB.out)
  go_wp2_with fail
  refine (add_any (by simp; omega) HW2.out HX.out (fun b h => by have := HW.out.lt; omega) (by omega) (by omega)).mono ?_; rintro e w2 ⟨rfl, hw2, hb2⟩
  have HW3 := Lib.hid hw2
  have HB3 := Lib.hid hb2
  clear hw2 hb2
  go_wp2
  go_end0
  exact ⟨rfl, HW3.out, (HB.out.mono hB).trans HB3.out⟩

set_option maxHeartbeats 400000 in
theorem text_nil (a : Option Addr) (n c : Nat) (w : World) (hn : n ≤ 1099511627776) :
    Calls Try.prog 28 #[.pointer none, .slice a n c] w fun e w' => e = .returned (.tuple #[]) ∧ Below w.heap.size w w' := by
  go_enter Try.func28, Try.ntmps28
  go_wp2_with fail
  refine (int_nil (n : Int) w (by omega) (by omega)).mono ?_; rintro e w1 ⟨rfl, hb1⟩
  have HB1 := Lib.hid hb1
  clear hb1
  go_wp2_with (go_at_call 45; refine (add_nil _ _).mono ?_; rintro e w2 ⟨rfl, rfl⟩)
  go_end0
  exact ⟨rfl, HB1.out⟩
set_option maxHeartbeats 400000 in
theorem hash_nil (cs : Array Value) (w : World) :
    Calls Try.prog 47 #[.pointer none, .agg cs] w fun e w' => e = .returned (.tuple #[]) ∧ Below w.heap.size w w' := by
  go_enter Try.func47, Try.ntmps47
  go_wp2_with (go_at_call 45; refine (add_nil _ _).mono ?_; rintro e w2 ⟨rfl, rfl⟩)
  go_end0
  exact ⟨rfl, (Below.refl _ _).alloc (Nat.le_refl _) _⟩
end Go.Proofs.Ytcfchkffanfehaa.Co
