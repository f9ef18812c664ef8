/-
  Plain facts on the bytes of numbers (no Go program): what a number's bytes are, what is read of bytes, and that each is the other's inverse.
-/
namespace Cd

/-- The digits of u, highest first, each with the bit 128; none of 0. -/
def tops (u : Nat) : List Int := if _h : u = 0 then [] else tops (u / 128) ++ [((u % 128 + 128 : Nat) : Int)]
termination_by u
decreasing_by omega

def encU (u : Nat) : List Int := tops (u / 128) ++ [((u % 128 : Nat) : Int)]
def fold (n : Int) : Nat := if n < 0 then (2 * (-(n + 1)) + 1).toNat else (2 * n).toNat
def unfold (u : Nat) : Int := if u % 2 = 1 then -((u / 2 : Nat) : Int) - 1 else ((u / 2 : Nat) : Int)
/-- A number's bytes. -/
def num (n : Int) : List Int := encU (fold n)

def top57 : Int := 144115188075855872

/-- What is read behind a first byte b with the bits u so far. -/
def go : List Int → Int → Int → Option (Int × List Int)
  | [], u, b => if b < 128 then some (u, []) else none
  | c :: r, u, b => if b < 128 then some (u, c :: r) else if u < top57 then go r (u * 128 + c % 128) c else none
def parse : List Int → Option (Int × List Int)
  | [] => none
  | b :: r => if b = 128 then none else go r (b % 128) b

theorem parse_cons (b : Int) (r : List Int) : parse (b :: r) = if b = 128 then none else go r (b % 128) b := rfl

def Byt (l : List Int) : Prop := ∀ x ∈ l, 0 ≤ x ∧ x < 256

theorem tops_zero : tops 0 = [] := by unfold tops; simp
theorem tops_pos {u : Nat} (h : u ≠ 0) : tops u = tops (u / 128) ++ [((u % 128 + 128 : Nat) : Int)] := by
  conv => lhs; unfold tops
  rw [dif_neg h]

theorem byt_append {a b : List Int} (ha : Byt a) (hb : Byt b) : Byt (a ++ b) := by
  intro x hx
  rcases List.mem_append.1 hx with h | h
  · exact ha x h
  · exact hb x h
theorem byt_left {a b : List Int} (h : Byt (a ++ b)) : Byt a := fun x hx => h x (List.mem_append_left _ hx)
theorem byt_right {a b : List Int} (h : Byt (a ++ b)) : Byt b := fun x hx => h x (List.mem_append_right _ hx)
theorem byt_drop {a : List Int} (h : Byt a) (k : Nat) : Byt (a.drop k) := fun x hx => h x (List.mem_of_mem_drop hx)
theorem byt_take {a : List Int} (h : Byt a) (k : Nat) : Byt (a.take k) := fun x hx => h x (List.mem_of_mem_take hx)
theorem byt_nil : Byt [] := fun x hx => by cases hx
theorem byt_cons {x : Int} {l : List Int} (h0 : 0 ≤ x) (h1 : x < 256) (h : Byt l) : Byt (x :: l) := by
  intro y hy
  rcases List.mem_cons.1 hy with h' | h'
  · subst h'; exact ⟨h0, h1⟩
  · exact h y h'
theorem byt_tops (u : Nat) : Byt (tops u) := by
  induction u using Nat.strongRecOn with
  | _ u ih =>
    by_cases h : u = 0
    · subst h; rw [tops_zero]; exact byt_nil
    · rw [tops_pos h]
      exact byt_append (ih _ (by omega)) (byt_cons (by omega) (by omega) byt_nil)
theorem byt_encU (u : Nat) : Byt (encU u) := byt_append (byt_tops _) (byt_cons (by omega) (by omega) byt_nil)
theorem byt_num (n : Int) : Byt (num n) := byt_encU _

theorem tops_len {k : Nat} : ∀ {u : Nat}, u < 128 ^ k → (tops u).length ≤ k := by
  induction k with
  | zero => intro u h; have : u = 0 := by simpa using h
            subst this; rw [tops_zero]; simp
  | succ k ih =>
    intro u h
    by_cases h0 : u = 0
    · subst h0; rw [tops_zero]; simp
    · rw [tops_pos h0]
      have : u / 128 < 128 ^ k := by
        rw [Nat.pow_succ] at h
        exact Nat.div_lt_of_lt_mul (by rw [Nat.mul_comm]; exact h)
      have := ih this
      simp; omega
theorem encU_len {u : Nat} (h : u < 18446744073709551616) : (encU u).length ≤ 10 := by
  have : (tops (u / 128)).length ≤ 9 := tops_len (by
    have e : (128 : Nat) ^ 9 = 9223372036854775808 := by decide
    rw [e]; omega)
  unfold encU; simp; omega
theorem encU_pos (u : Nat) : 0 < (encU u).length := by unfold encU; simp

theorem fold_lt {n : Int} (h0 : -9223372036854775808 ≤ n) (h1 : n ≤ 9223372036854775807) : fold n < 18446744073709551616 := by
  unfold fold; split <;> omega
theorem unfold_fold (n : Int) : unfold (fold n) = n := by
  unfold fold unfold
  by_cases h : n < 0
  · rw [if_pos h, if_pos (by omega)]; omega
  · rw [if_neg h, if_neg (by omega)]; omega
theorem fold_unfold (u : Nat) : fold (unfold u) = u := by
  unfold fold unfold
  by_cases h : u % 2 = 1
  · rw [if_pos h, if_pos (by omega)]; omega
  · rw [if_neg h, if_neg (by omega)]; omega
theorem unfold_range {u : Nat} (h : u < 18446744073709551616) : -9223372036854775808 ≤ unfold u ∧ unfold u ≤ 9223372036854775807 := by
  unfold unfold; split <;> omega
theorem num_len {n : Int} (h0 : -9223372036854775808 ≤ n) (h1 : n ≤ 9223372036854775807) : (num n).length ≤ 10 := encU_len (fold_lt h0 h1)
theorem num_pos (n : Int) : 0 < (num n).length := encU_pos _

theorem go_lt (r : List Int) (u b : Int) (h : b < 128) : go r u b = some (u, r) := by
  cases r <;> simp [go, h]
theorem go_ge (c : Int) (r : List Int) (u b : Int) (h : ¬ b < 128) (hu : u < top57) : go (c :: r) u b = go r (u * 128 + c % 128) c := by
  simp [go, h, hu]

theorem parse_tops (c : Int) (t : List Int) : ∀ v : Nat, v ≠ 0 → (v : Int) < top57 → parse (tops v ++ c :: t) = go t ((v : Int) * 128 + c % 128) c := by
  intro v
  induction v using Nat.strongRecOn generalizing c t with
  | _ v ih =>
    intro h0 h1
    by_cases hs : v < 128
    · rw [tops_pos h0, show v / 128 = 0 by omega, tops_zero, show v % 128 = v by omega]
      show parse (((v + 128 : Nat) : Int) :: c :: t) = _
      rw [parse_cons, if_neg (by omega), go_ge _ _ _ _ (by omega) (by unfold top57; omega), show ((v + 128 : Nat) : Int) % 128 = (v : Int) by omega]
    · rw [tops_pos h0, List.append_assoc]
      show parse (tops (v / 128) ++ ((v % 128 + 128 : Nat) : Int) :: c :: t) = _
      rw [ih (v / 128) (by omega) _ _ (by omega) (by unfold top57 at *; omega)]
      have e : ((v / 128 : Nat) : Int) * 128 + ((v % 128 + 128 : Nat) : Int) % 128 = (v : Int) := by omega
      rw [e, go_ge _ _ _ _ (by omega) h1]
theorem parse_encU {u : Nat} (h : u < 18446744073709551616) (r : List Int) : parse (encU u ++ r) = some ((u : Int), r) := by
  unfold encU
  by_cases hs : u < 128
  · rw [show u / 128 = 0 by omega, tops_zero, show u % 128 = u by omega]
    show parse ((u : Int) :: r) = _
    rw [parse_cons, if_neg (by omega), go_lt _ _ _ (by omega), show (u : Int) % 128 = (u : Int) by omega]
  · rw [List.append_assoc]
    show parse (tops (u / 128) ++ ((u % 128 : Nat) : Int) :: r) = _
    rw [parse_tops _ _ _ (by omega) (by unfold top57; omega), go_lt _ _ _ (by omega), show ((u / 128 : Nat) : Int) * 128 + ((u % 128 : Nat) : Int) % 128 = (u : Int) by omega]

theorem go_enc {r : List Int} {u' : Int} : ∀ (t : List Int) (u b : Int), go t u b = some (u', r) → Byt (b :: t) → 0 ≤ u → u < 18446744073709551616 → (1 ≤ u ∨ b < 128) → b % 128 = u % 128 →
    0 ≤ u' ∧ u' < 18446744073709551616 ∧ ∃ s, t = s ++ r ∧ tops (u.toNat / 128) ++ b :: s = encU u'.toNat := by
  intro t
  have last : ∀ (u b : Int), 0 ≤ u → 0 ≤ b → b < 128 → b % 128 = u % 128 → tops (u.toNat / 128) ++ [b] = encU u.toNat := by
    intro u b h0 h1 h2 h3
    unfold encU
    congr 2; omega
  induction t with
  | nil =>
    intro u b h hb h0 h1 hu he
    have hb0 := hb b (by simp)
    unfold go at h
    split at h
    · simp at h
      obtain ⟨rfl, rfl⟩ := h
      exact ⟨h0, h1, [], rfl, last u b h0 hb0.1 (by assumption) he⟩
    · simp at h
  | cons c t ih =>
    intro u b h hb h0 h1 hu he
    have hb0 := hb b (by simp)
    have hc0 := hb c (by simp)
    unfold go at h
    split at h
    · simp at h
      obtain ⟨rfl, rfl⟩ := h
      exact ⟨h0, h1, [], rfl, last u b h0 hb0.1 (by assumption) he⟩
    · split at h
      · rename_i h2 h3
        unfold top57 at h3
        obtain ⟨g0, g1, s, rfl, hs⟩ := ih (u * 128 + c % 128) c h (fun x hx => hb x (by simp at hx ⊢; right; exact hx)) (by omega) (by omega) (by omega) (by omega)
        refine ⟨g0, g1, c :: s, rfl, ?_⟩
        rw [← hs, show (u * 128 + c % 128).toNat / 128 = u.toNat by omega, tops_pos (u := u.toNat) (by omega), List.append_assoc]
        congr 1
        show b :: c :: s = ((u.toNat % 128 + 128 : Nat) : Int) :: c :: s
        congr 1
        omega
      · simp at h
theorem parse_enc {l r : List Int} {u : Int} (h : parse l = some (u, r)) (hb : Byt l) : 0 ≤ u ∧ u < 18446744073709551616 ∧ l = encU u.toNat ++ r := by
  cases l with
  | nil => simp [parse] at h
  | cons b t =>
    have hb0 := hb b (by simp)
    rw [parse_cons] at h
    split at h
    · simp at h
    · obtain ⟨g0, g1, s, rfl, hs⟩ := go_enc t (b % 128) b h hb (by omega) (by omega) (by omega) (by omega)
      refine ⟨g0, g1, ?_⟩
      rw [← hs, show (b % 128).toNat / 128 = 0 by omega, tops_zero]
      rfl

/-- What is read of a rest that a number of least to most begins. -/
def get (least most : Int) (l : List Int) : Option (Int × List Int) :=
  match parse l with
  | some (u, r) => if least ≤ unfold u.toNat ∧ unfold u.toNat ≤ most then some (unfold u.toNat, r) else none
  | none => none
theorem parse_num {n : Int} (h0 : -9223372036854775808 ≤ n) (h1 : n ≤ 9223372036854775807) (r : List Int) : parse (num n ++ r) = some ((fold n : Int), r) := parse_encU (fold_lt h0 h1) r
theorem get_num {n least most : Int} (h0 : -9223372036854775808 ≤ n) (h1 : n ≤ 9223372036854775807) (hl : least ≤ n) (hm : n ≤ most) (r : List Int) : get least most (num n ++ r) = some (n, r) := by
  unfold get
  rw [parse_num h0 h1]
  simp only [Int.toNat_natCast, unfold_fold]
  rw [if_pos ⟨hl, hm⟩]
theorem get_enc {least most n : Int} {l r : List Int} (h : get least most l = some (n, r)) (hb : Byt l) : -9223372036854775808 ≤ n ∧ n ≤ 9223372036854775807 ∧ least ≤ n ∧ n ≤ most ∧ l = num n ++ r := by
  unfold get at h
  split at h
  · rename_i u r' hp
    split at h
    · rename_i hh
      simp at h
      obtain ⟨rfl, rfl⟩ := h
      obtain ⟨g0, g1, g2⟩ := parse_enc hp hb
      have := unfold_range (u := u.toNat) (by omega)
      refine ⟨this.1, this.2, hh.1, hh.2, ?_⟩
      unfold num
      rw [fold_unfold]; exact g2
    · simp at h
  · simp at h
end Cd
