/-
  The mathematics of CRC-32C over words of 32 bits: one bit's step, four bits' and a byte's, that each is linear and tells words apart, and what follows for texts.
-/
import Derived.Test.YtiagblmnmknnfaaRows
namespace Go.Proofs.Ytiagblmnmknnfaa
namespace Cm
def P : BitVec 32 := 0x82F63B78#32
/-- One bit's step. -/
def sh (x : BitVec 32) : BitVec 32 := if x.getLsbD 0 then (x >>> 1) ^^^ P else x >>> 1
def shn : Nat → BitVec 32 → BitVec 32
  | 0, x => x
  | n + 1, x => sh (shn n x)
def byt (c : Int) : BitVec 32 := BitVec.ofInt 32 c
/-- What becomes of a word behind a text's bytes. -/
def raw (s : BitVec 32) (l : List Int) : BitVec 32 := l.foldl (fun n c => shn 8 (n ^^^ byt c)) s
def more (s : BitVec 32) (l : List Int) : BitVec 32 := ~~~ raw (~~~ s) l
theorem sh_get (x : BitVec 32) (i : Nat) : (sh x).getLsbD i = (x.getLsbD (1 + i) ^^ (x.getLsbD 0 && P.getLsbD i)) := by
  unfold sh
  cases h : x.getLsbD 0 <;> simp
theorem sh_xor (x y : BitVec 32) : sh (x ^^^ y) = sh x ^^^ sh y := by
  apply BitVec.eq_of_getLsbD_eq
  intro i hi
  simp only [sh_get, BitVec.getLsbD_xor]
  cases x.getLsbD (1 + i) <;> cases y.getLsbD (1 + i) <;> cases x.getLsbD 0 <;> cases y.getLsbD 0 <;> cases P.getLsbD i <;> rfl
theorem sh_zero : sh 0#32 = 0#32 := by decide +kernel
theorem sh_top (x : BitVec 32) : (sh x).getLsbD 31 = x.getLsbD 0 := by
  rw [sh_get]
  have h : x.getLsbD (1 + 31) = false := by simp
  have hp : P.getLsbD 31 = true := by decide +kernel
  rw [h, hp]; simp
theorem sh_inj0 {x : BitVec 32} (h : sh x = 0#32) : x = 0#32 := by
  have h0 : x.getLsbD 0 = false := by rw [← sh_top, h]; simp
  apply BitVec.eq_of_getLsbD_eq
  intro i hi
  rw [BitVec.getLsbD_zero]
  match i with
  | 0 => exact h0
  | j + 1 =>
    have := sh_get x j
    rw [h, h0] at this
    simp at this
    rw [Nat.add_comm]; exact this
theorem xor_zero_iff {x y : BitVec 32} : x ^^^ y = 0#32 ↔ x = y := by
  constructor
  · intro h
    have : x ^^^ y ^^^ y = y := by rw [h]; simp
    rwa [BitVec.xor_assoc, BitVec.xor_self, BitVec.xor_zero] at this
  · intro h; subst h; simp
theorem sh_inj {x y : BitVec 32} (h : sh x = sh y) : x = y := by
  apply xor_zero_iff.1
  apply sh_inj0
  rw [sh_xor]; exact xor_zero_iff.2 h
theorem shn_xor (n : Nat) (x y : BitVec 32) : shn n (x ^^^ y) = shn n x ^^^ shn n y := by
  induction n with
  | zero => rfl
  | succ n ih => simp only [shn, ih, sh_xor]
theorem shn_inj {n : Nat} {x y : BitVec 32} (h : shn n x = shn n y) : x = y := by
  induction n with
  | zero => exact h
  | succ n ih => exact ih (sh_inj h)
theorem shn_add (n m : Nat) (x : BitVec 32) : shn (n + m) x = shn n (shn m x) := by
  induction n with
  | zero => rw [Nat.zero_add]; rfl
  | succ n ih => rw [Nat.succ_add]; simp only [shn, ih]
theorem shn_zero (n : Nat) : shn n 0#32 = 0#32 := by
  induction n with
  | zero => rfl
  | succ n ih => simp only [shn, ih, sh_zero]
/-- Where the bits that go out are 0 a step only shifts. -/
theorem shn_low (n : Nat) (x : BitVec 32) (h : ∀ i, i < n → x.getLsbD i = false) : shn n x = x >>> n := by
  induction n with
  | zero => simp [shn]
  | succ n ih =>
    rw [shn, ih (fun i hi => h i (by omega))]
    have : (x >>> n).getLsbD 0 = false := by simp; exact h n (by omega)
    unfold sh
    rw [this]
    simp [BitVec.shiftRight_add]
theorem split4 (x : BitVec 32) : x = ((x >>> 4) <<< 4) ^^^ (x &&& 15#32) := by
  apply BitVec.eq_of_getLsbD_eq
  intro i hi
  have h15 : ∀ i : Nat, (15#32).getLsbD i = decide (i < 4) := by
    intro i
    by_cases hi : i < 32
    · revert hi; revert i; decide +kernel
    · rw [BitVec.getLsbD_of_ge _ _ (by omega)]; simp; omega
  simp only [BitVec.getLsbD_xor, BitVec.getLsbD_and, BitVec.getLsbD_shiftLeft, BitVec.getLsbD_ushiftRight, h15]
  by_cases h : i < 4
  · simp [h, hi]
  · simp [h, hi]
    rw [show 4 + (i - 4) = i by omega, BitVec.getLsbD_eq_getElem hi]
theorem shn4 (x : BitVec 32) : shn 4 x = (x >>> 4) ^^^ shn 4 (x &&& 15#32) := by
  conv => lhs; rw [split4 x]
  rw [shn_xor, shn_low 4 ((x >>> 4) <<< 4) (fun i hi => by simp [hi])]
  congr 1
  apply BitVec.eq_of_getLsbD_eq
  intro i hi
  by_cases h : i < 28
  · simp; omega
  · simp
    intro h2
    rw [BitVec.getLsbD_of_ge _ _ (by omega)] at h2
    cases h2
theorem shn8 (x : BitVec 32) : shn 8 x = shn 4 (shn 4 x) := shn_add 4 4 x
/-- The steps' table. -/
def tabTo (k : Nat) : List (BitVec 32) := (List.range k).map fun i => shn 4 (BitVec.ofNat 32 i)
def tab : List (BitVec 32) := tabTo 16
theorem tab_get (x : BitVec 32) : tab.getD (x.toNat % 16) 0 = shn 4 (x &&& 15#32) := by
  have h : x.toNat % 16 < 16 := Nat.mod_lt _ (by omega)
  have e : x &&& 15#32 = BitVec.ofNat 32 (x.toNat % 16) := by
    apply BitVec.eq_of_toNat_eq
    rw [BitVec.toNat_and, show (15#32).toNat = 2 ^ 4 - 1 from rfl, Nat.and_two_pow_sub_one_eq_mod, BitVec.toNat_ofNat, Nat.mod_eq_of_lt (a := x.toNat % 16) (by omega)]
  rw [e]
  simp [tab, tabTo, h]
theorem raw_nil (s : BitVec 32) : raw s [] = s := rfl
theorem raw_cons (s : BitVec 32) (c : Int) (l : List Int) : raw s (c :: l) = raw (shn 8 (s ^^^ byt c)) l := rfl
theorem raw_append (s : BitVec 32) (a b : List Int) : raw s (a ++ b) = raw (raw s a) b := List.foldl_append
theorem raw_snoc (s : BitVec 32) (a : List Int) (c : Int) : raw s (a ++ [c]) = shn 8 (raw s a ^^^ byt c) := by rw [raw_append]; rfl
theorem more_nil (s : BitVec 32) : more s [] = s := by simp [more, raw_nil]
theorem more_append (s : BitVec 32) (a b : List Int) : more (more s a) b = more s (a ++ b) := by simp [more, raw_append]
theorem raw_inj {l : List Int} {x y : BitVec 32} (h : raw x l = raw y l) : x = y := by
  induction l generalizing x y with
  | nil => exact h
  | cons c l ih =>
    have := shn_inj (ih h)
    have h2 : x ^^^ byt c ^^^ byt c = y ^^^ byt c ^^^ byt c := by rw [this]
    simpa [BitVec.xor_assoc] using h2
theorem not_inj {x y : BitVec 32} (h : ~~~ x = ~~~ y) : x = y := by
  have : ~~~ (~~~ x) = ~~~ (~~~ y) := by rw [h]
  simpa using this
theorem more_inj {l : List Int} {x y : BitVec 32} (h : more x l = more y l) : x = y := not_inj (raw_inj (not_inj h))
/-- Texts whose bytes are one another's, changed. -/
def Chg (a b c : List Int) : Prop := a.length = c.length ∧ b.length = c.length ∧ ∀ k, k < c.length → byt (c.getD k 0) = byt (a.getD k 0) ^^^ byt (b.getD k 0)
theorem chg_tail {x y z : Int} {a b c : List Int} (h : Chg (x :: a) (y :: b) (z :: c)) : byt z = byt x ^^^ byt y ∧ Chg a b c := by
  obtain ⟨h1, h2, h3⟩ := h
  refine ⟨h3 0 (by simp), by simpa using h1, by simpa using h2, fun k hk => ?_⟩
  have := h3 (k + 1) (by simp; omega)
  simpa using this
theorem raw_chg {a b c : List Int} (x y : BitVec 32) (h : Chg a b c) : raw (x ^^^ y) c = raw x a ^^^ raw y b := by
  induction c generalizing a b x y with
  | nil =>
    have ha : a = [] := List.eq_nil_of_length_eq_zero (by simpa using h.1)
    have hb : b = [] := List.eq_nil_of_length_eq_zero (by simpa using h.2.1)
    subst ha hb; rfl
  | cons z c ih =>
    match a, b, h with
    | [], _, h => have := h.1; simp at this
    | x' :: a, [], h => have := h.2.1; simp at this
    | x' :: a, y' :: b, h =>
      obtain ⟨hz, ht⟩ := chg_tail h
      rw [raw_cons, raw_cons, raw_cons, hz, ← ih _ _ ht, ← shn_xor]
      congr 2
      simp only [BitVec.xor_assoc]
      congr 1
      rw [← BitVec.xor_assoc, ← BitVec.xor_assoc, BitVec.xor_comm y]
theorem chg_zeros (a : List Int) : Chg a (List.replicate a.length 0) a := by
  refine ⟨rfl, by simp, fun k hk => ?_⟩
  have : (List.replicate a.length (0 : Int)).getD k 0 = 0 := by simp [hk]
  rw [this, show byt 0 = 0#32 by decide +kernel, BitVec.xor_zero]
theorem adds {a b c : List Int} (h : Chg a b c) : more 0#32 c = more 0#32 a ^^^ more 0#32 b ^^^ more 0#32 (List.replicate c.length 0) := by
  have h1 := raw_chg (~~~ 0#32) (~~~ 0#32 ^^^ ~~~ 0#32) (chg_zeros c)
  have h2 := raw_chg (~~~ 0#32) (~~~ 0#32) h
  have hz : Chg (List.replicate c.length 0) (List.replicate c.length 0) (List.replicate c.length 0) := by
    refine ⟨rfl, rfl, fun k hk => ?_⟩
    have : (List.replicate c.length (0 : Int)).getD k 0 = 0 := by simp at hk; simp [hk]
    rw [this]; decide +kernel
  have h3 := raw_chg (~~~ 0#32) (~~~ 0#32) hz
  have n : ∀ x y z : BitVec 32, ~~~ (x ^^^ y ^^^ z) = ~~~ x ^^^ ~~~ y ^^^ ~~~ z := by
    intro x y z
    apply BitVec.eq_of_getLsbD_eq
    intro i hi
    simp only [BitVec.getLsbD_not, BitVec.getLsbD_xor, hi, decide_true, Bool.true_and]
    cases x.getLsbD i <;> cases y.getLsbD i <;> cases z.getLsbD i <;> rfl
  unfold more
  rw [← n]
  congr 1
  rw [← h2, show ~~~ 0#32 = (~~~ 0#32 ^^^ ~~~ 0#32) ^^^ ~~~ 0#32 by simp]
  rw [raw_chg _ _ (show Chg c (List.replicate c.length 0) c from chg_zeros c)]
  simp
/-- Up to four bytes as one word. -/
def word : List Int → BitVec 32
  | [] => 0#32
  | c :: l => byt c ^^^ (word l <<< 8)
def Byt (l : List Int) : Prop := ∀ x ∈ l, 0 ≤ x ∧ x < 256
theorem byt_get (c : Int) (h : 0 ≤ c) (h2 : c < 256) (i : Nat) : (byt c).getLsbD i = c.toNat.testBit i := by
  obtain ⟨n, rfl⟩ := Int.eq_ofNat_of_zero_le h
  unfold byt
  rw [BitVec.ofInt_natCast, BitVec.getLsbD_ofNat, Int.toNat_natCast]
  by_cases hi : i < 32
  · simp [hi]
  · have : n.testBit i = false := Nat.testBit_lt_two_pow (Nat.lt_of_lt_of_le (show n < 2 ^ 8 by omega) (Nat.pow_le_pow_right (by omega) (by omega)))
    simp [hi, this]
theorem byt_hi (c : Int) (h : 0 ≤ c) (h2 : c < 256) (i : Nat) (hi : 8 ≤ i) : (byt c).getLsbD i = false := by
  rw [byt_get c h h2]
  obtain ⟨n, rfl⟩ := Int.eq_ofNat_of_zero_le h
  exact Nat.testBit_lt_two_pow (Nat.lt_of_lt_of_le (show n < 2 ^ 8 by omega) (Nat.pow_le_pow_right (by omega) hi))
theorem word_get {l : List Int} (hl : Byt l) (i : Nat) (hi : i < 32) : (word l).getLsbD i = (l.getD (i / 8) 0).toNat.testBit (i % 8) := by
  induction l generalizing i with
  | nil => simp [word]
  | cons c l ih =>
    have hc := hl c (by simp)
    have hl' : Byt l := fun x hx => hl x (by simp [hx])
    unfold word
    rw [BitVec.getLsbD_xor, BitVec.getLsbD_shiftLeft]
    by_cases h8 : i < 8
    · rw [byt_get c hc.1 hc.2, show i / 8 = 0 by omega, show i % 8 = i by omega]
      simp [h8]
    · rw [byt_hi c hc.1 hc.2 i (by omega), ih hl' (i - 8) (by omega), show i / 8 = (i - 8) / 8 + 1 by omega, show (i - 8) % 8 = i % 8 by omega]
      simp [h8, hi]
theorem word_hi {l : List Int} (hl : Byt l) (i : Nat) (h : 8 * l.length ≤ i) : (word l).getLsbD i = false := by
  by_cases hi : i < 32
  · rw [word_get hl i hi]
    have : l.length ≤ i / 8 := by omega
    simp [this]
  · exact BitVec.getLsbD_of_ge _ _ (by omega)
theorem word_out {l : List Int} (hl : Byt l) (h : l.length ≤ 3) : shn 8 (word l <<< 8) = word l := by
  rw [shn_low 8 _ (fun i hi => by simp [hi])]
  apply BitVec.eq_of_getLsbD_eq
  intro i hi
  rw [BitVec.getLsbD_ushiftRight, BitVec.getLsbD_shiftLeft]
  by_cases h2 : 8 + i < 32
  · simp [h2]
  · rw [word_hi hl i (by omega)]; simp [h2]
theorem raw_word {l : List Int} (hl : Byt l) (h : l.length ≤ 4) (x : BitVec 32) : raw x l = shn (8 * l.length) (x ^^^ word l) := by
  induction l generalizing x with
  | nil => simp [raw_nil, word, shn]
  | cons c l ih =>
    have hl' : Byt l := fun x hx => hl x (by simp [hx])
    have h3 : l.length ≤ 3 := by simp at h; omega
    rw [raw_cons, ih hl' (by omega)]
    have : shn 8 (x ^^^ byt c) ^^^ word l = shn 8 (x ^^^ word (c :: l)) := by
      conv => lhs; rw [← word_out hl' h3]
      rw [← shn_xor, BitVec.xor_assoc]; rfl
    rw [this, ← shn_add, List.length_cons, Nat.mul_add]
theorem word_inj {l k : List Int} (hl : Byt l) (hk : Byt k) (hn : l.length = k.length) (h4 : l.length ≤ 4) (h : word l = word k) : l = k := by
  apply List.ext_getElem hn
  intro j h1 h2
  have a1 := hl _ (List.getElem_mem h1)
  have a2 := hk _ (List.getElem_mem h2)
  have : (l[j]).toNat = (k[j]).toNat := by
    apply Nat.eq_of_testBit_eq
    intro i
    by_cases hi : i < 8
    · have e1 := word_get hl (8 * j + i) (by omega)
      have e2 := word_get hk (8 * j + i) (by omega)
      rw [h, e2, show (8 * j + i) / 8 = j by omega, show (8 * j + i) % 8 = i by omega] at e1
      simpa [h1, h2] using e1.symm
    · rw [Nat.testBit_lt_two_pow (Nat.lt_of_lt_of_le (show (l[j]).toNat < 2 ^ 8 by omega) (Nat.pow_le_pow_right (by omega) (by omega))),
        Nat.testBit_lt_two_pow (Nat.lt_of_lt_of_le (show (k[j]).toNat < 2 ^ 8 by omega) (Nat.pow_le_pow_right (by omega) (by omega)))]
  omega
theorem turns {b c : List Int} (hb : Byt b) (hc : Byt c) (hn : c.length = b.length) (a : Nat) (h1 : c.take a = b.take a) (h2 : c.drop (a + 4) = b.drop (a + 4)) : more 0#32 c = more 0#32 b ↔ c = b := by
  constructor
  · intro h
    have e : ∀ l : List Int, l = l.take a ++ ((l.drop a).take 4 ++ l.drop (a + 4)) := by
      intro l
      rw [← List.drop_drop, List.take_append_drop, List.take_append_drop]
    have h := not_inj h
    rw [e c, e b, h1, h2, raw_append, raw_append, raw_append, raw_append] at h
    have h := raw_inj h
    have m1 : Byt ((c.drop a).take 4) := fun x hx => hc x (List.mem_of_mem_drop (List.mem_of_mem_take hx))
    have m2 : Byt ((b.drop a).take 4) := fun x hx => hb x (List.mem_of_mem_drop (List.mem_of_mem_take hx))
    have hl : ((c.drop a).take 4).length = ((b.drop a).take 4).length := by simp [hn]
    have h4 : ((c.drop a).take 4).length ≤ 4 := by simp; omega
    rw [raw_word m1 h4, raw_word m2 (by omega), hl] at h
    have h := shn_inj h
    have hw : word ((c.drop a).take 4) = word ((b.drop a).take 4) := by
      have h' := congrArg (fun z => raw (~~~ 0#32) (b.take a) ^^^ z) h
      simpa [← BitVec.xor_assoc] using h'
    have := word_inj m1 m2 hl h4 hw
    rw [e c, e b, h1, h2, this]
  · intro h; rw [h]
def bytes (s : BitVec 32) : List Int := [(s.toNat : Int) % 256, (s.toNat : Int) / 256 % 256, (s.toNat : Int) / 65536 % 256, (s.toNat : Int) / 16777216 % 256]
theorem bytes_byt (s : BitVec 32) : Byt (bytes s) := by
  intro x hx
  simp only [bytes, List.mem_cons, List.not_mem_nil, or_false] at hx
  omega
theorem word_bytes (s : BitVec 32) : word (bytes s) = s := by
  apply BitVec.eq_of_getLsbD_eq
  intro i hi
  rw [word_get (bytes_byt s) i hi]
  have hk : i / 8 < 4 := by omega
  have e : ((bytes s).getD (i / 8) 0).toNat = s.toNat / 2 ^ (8 * (i / 8)) % 2 ^ 8 := by
    generalize i / 8 = k at *
    match k, hk with
    | 0, _ => simp [bytes]; omega
    | 1, _ => simp [bytes]; omega
    | 2, _ => simp [bytes]; omega
    | 3, _ => simp [bytes]; omega
  rw [e, Nat.testBit_mod_two_pow, Nat.testBit_div_two_pow, show i % 8 + 8 * (i / 8) = i by omega]
  have : i % 8 < 8 := by omega
  simp [this, BitVec.getLsbD]
theorem ends (b : List Int) : more 0#32 (b ++ bytes (more 0#32 b)) = more 0#32 (List.replicate 4 0) := by
  have z : Byt (List.replicate 4 (0 : Int)) := fun x hx => by have := (List.mem_replicate.1 hx).2; omega
  unfold more
  rw [raw_append, raw_word (bytes_byt _) (by simp [bytes]), raw_word z (by simp), word_bytes, show word (List.replicate 4 0) = 0#32 by decide +kernel]
  congr 2
  generalize raw (~~~ 0#32) b = x
  apply BitVec.eq_of_getLsbD_eq
  intro i hi
  simp only [BitVec.getLsbD_xor, BitVec.getLsbD_not, BitVec.getLsbD_zero, hi, decide_true, Bool.true_and]
  cases x.getLsbD i <;> rfl
end Cm
end Go.Proofs.Ytiagblmnmknnfaa
