/-
  Plain mathematics of rounds: draws, orders, turns.
-/
set_option linter.unusedVariables false
namespace Rn
def dr (d : Int) : Int := (d * 6364136223846793005 + 1442695040888963407) % 18446744073709551616
def U64 (d : Int) : Prop := 0 ≤ d ∧ d < 18446744073709551616
/-- All numbers below i but me. -/
def oth : Nat → Int → List Int
  | 0, _ => []
  | i + 1, me => if (i : Int) = me then oth i me else oth i me ++ [(i : Int)]
def swap (l : List Int) (i j : Nat) : List Int := (l.set i (l.getD j 0)).set j (l.getD i 0)
def pick (d : Int) (i : Nat) : Nat := ((d / 8589934592) % ((i : Int) + 1)).toNat
def mix : Nat → List Int → Int → List Int × Int
  | 0, l, d => (l, d)
  | i + 1, l, d => mix i (swap l (i + 1) (pick (dr d) (i + 1))) (dr d)
theorem mix_step {p : Nat} (hp : 1 ≤ p) (l : List Int) (d : Int) : mix p l d = mix (p - 1) (swap l p (pick (dr d) p)) (dr d) := by
  obtain ⟨i, rfl⟩ : ∃ i, p = i + 1 := ⟨p - 1, by omega⟩
  rfl
def Bad (n me : Int) : Prop := n < 1 ∨ 9 < n ∨ me < 0 ∨ n ≤ me
instance (n me : Int) : Decidable (Bad n me) := inferInstanceAs (Decidable (_ ∨ _))
def ord (n me d : Int) : List Int × Int := if Bad n me then ([], d) else mix (n.toNat - 2) (oth n.toNat me) d
/-- The draw behind q rounds. -/
def itd (n me : Int) : Nat → Int → Int
  | 0, d => d
  | q + 1, d => itd n me q (ord n me d).2
def trn (n me d t : Int) : Int := if (ord n me d).1 = [] ∨ t < 0 ∨ 1048576 < t then -1 else (ord n me (itd n me (t.toNat / (n.toNat - 1)) d)).1.getD (t.toNat % (n.toNat - 1)) 0
theorem dr_in (d : Int) : U64 (dr d) := ⟨Int.emod_nonneg _ (by decide), Int.emod_lt_of_pos _ (by decide)⟩
theorem inv_key (x q K V M t : Int) (h : x * K = M * q) (hK : K * V = 1 + M * t) : x = M * (q * V - x * t) := by
  have h3 : x * (K * V) = M * (q * V) := by rw [← Int.mul_assoc, h, Int.mul_assoc]
  rw [hK, Int.mul_add, Int.mul_one] at h3
  rw [Int.mul_sub, ← h3, ← Int.mul_assoc M x t, Int.mul_comm M x, Int.mul_assoc]
  omega
theorem near_same (d e z : Int) (hd : 0 ≤ d ∧ d < 18446744073709551616) (he : 0 ≤ e ∧ e < 18446744073709551616) (h : d - e = 18446744073709551616 * z) : d = e := by omega
theorem dr_inj {d e : Int} (hd : U64 d) (he : U64 e) : (dr d = dr e) ↔ d = e := by
  refine ⟨fun h => ?_, fun h => by rw [h]⟩
  unfold dr at h
  have h1 : (18446744073709551616 : Int) ∣ (d * 6364136223846793005 + 1442695040888963407) - (e * 6364136223846793005 + 1442695040888963407) := Int.dvd_of_emod_eq_zero (by rw [Int.sub_emod, h, Int.sub_self]; rfl)
  obtain ⟨q, hq⟩ := h1
  have h2 : (d - e) * 6364136223846793005 = 18446744073709551616 * q := by rw [Int.sub_mul, ← hq, Int.add_sub_add_right]
  exact near_same _ _ _ hd he (inv_key _ _ _ 13877824140714322085 _ 4787856489426250814 h2 (by decide +kernel))
theorem oth_mem : ∀ (i : Nat) (me x : Int), x ∈ oth i me ↔ 0 ≤ x ∧ x < i ∧ x ≠ me
  | 0, me, x => by simp [oth]; omega
  | i + 1, me, x => by
    unfold oth
    have ih := oth_mem i me x
    split
    · rename_i h
      rw [ih]
      constructor <;> intro ⟨h1, h2, h3⟩ <;> refine ⟨h1, ?_, h3⟩ <;> omega
    · rename_i h
      rw [List.mem_append, ih, List.mem_singleton]
      constructor
      · rintro (⟨h1, h2, h3⟩ | rfl)
        · exact ⟨h1, by omega, h3⟩
        · exact ⟨by omega, by omega, h⟩
      · rintro ⟨h1, h2, h3⟩
        by_cases e : x = (i : Int)
        · exact Or.inr e
        · exact Or.inl ⟨h1, by omega, h3⟩
theorem oth_nodup : ∀ (i : Nat) (me : Int), (oth i me).Nodup
  | 0, me => List.nodup_nil
  | i + 1, me => by
    unfold oth
    split
    · exact oth_nodup i me
    · rw [List.nodup_append]
      refine ⟨oth_nodup i me, by simp, fun a ha b hb => ?_⟩
      have h1 := (oth_mem i me a).1 ha
      rw [List.mem_singleton.1 hb]
      omega
theorem oth_len : ∀ (i : Nat) (me : Int), 0 ≤ me → (oth i me).length = if me < i then i - 1 else i
  | 0, me, h => by simp [oth]
  | i + 1, me, h => by
    unfold oth
    have ih := oth_len i me h
    split
    · rename_i e
      rw [ih, if_neg (by omega), if_pos (by omega)]
      omega
    · rename_i e
      rw [List.length_append, ih, List.length_singleton]
      by_cases h1 : me < (i : Int)
      · rw [if_pos h1, if_pos (by omega)]
        omega
      · rw [if_neg h1, if_neg (by omega)]
theorem oth_le (i : Nat) (me : Int) : (oth i me).length ≤ i := by
  induction i with
  | zero => simp [oth]
  | succ i ih =>
    unfold oth
    split
    · omega
    · rw [List.length_append, List.length_singleton]; omega
theorem swap_len (l : List Int) (i j : Nat) : (swap l i j).length = l.length := by simp [swap]
theorem swap_perm (l : List Int) {i j : Nat} (hi : i < l.length) (hj : j < l.length) : (swap l i j).Perm l := by
  unfold swap
  have e1 : l.getD j 0 = l[j] := by simp [hj]
  have e2 : l.getD i 0 = l[i] := by simp [hi]
  rw [e1, e2]
  exact List.set_set_perm hi hj
theorem pick_le (d : Int) (i : Nat) : pick d i ≤ i := by
  unfold pick
  have := Int.emod_lt_of_pos (d / 8589934592) (show (0 : Int) < (i : Int) + 1 by omega)
  omega
theorem mix_perm : ∀ (k : Nat) (l : List Int) (d : Int), (k < l.length ∨ k = 0) → (mix k l d).1.Perm l
  | 0, l, d, _ => List.Perm.refl _
  | k + 1, l, d, h => by
    unfold mix
    have hk : k + 1 < l.length := by omega
    have hp := pick_le (dr d) (k + 1)
    exact (mix_perm k _ _ (by rw [swap_len]; omega)).trans (swap_perm l hk (by omega))
theorem mix_in : ∀ (k : Nat) (l : List Int) (d : Int), U64 d → U64 (mix k l d).2
  | 0, l, d, h => h
  | k + 1, l, d, h => mix_in k _ _ (dr_in d)
theorem ord_in {n me d : Int} (h : U64 d) : U64 (ord n me d).2 := by
  unfold ord
  split
  · exact h
  · exact mix_in _ _ _ h
theorem ord_perm {n me d : Int} (h : ¬ Bad n me) : (ord n me d).1.Perm (oth n.toNat me) := by
  unfold ord
  rw [if_neg h]
  unfold Bad at h
  refine mix_perm _ _ _ ?_
  rw [oth_len _ _ (by omega), if_pos (by omega)]
  omega
theorem ord_len {n me d : Int} (h : ¬ Bad n me) : (ord n me d).1.length = n.toNat - 1 := by
  rw [(ord_perm h).length_eq]
  unfold Bad at h
  rw [oth_len _ _ (by omega), if_pos (by omega)]
theorem ord_mem {n me d x : Int} (h : ¬ Bad n me) : x ∈ (ord n me d).1 ↔ 0 ≤ x ∧ x < n ∧ x ≠ me := by
  rw [(ord_perm h).mem_iff, oth_mem]
  unfold Bad at h
  constructor <;> intro ⟨h1, h2, h3⟩ <;> refine ⟨h1, ?_, h3⟩ <;> omega
theorem ord_nodup {n me d : Int} (h : ¬ Bad n me) : (ord n me d).1.Nodup := (ord_perm h).nodup_iff.2 (oth_nodup _ _)
theorem ord_le (n me d : Int) : (ord n me d).1.length ≤ 8 := by
  by_cases h : Bad n me
  · unfold ord; rw [if_pos h]; simp
  · rw [ord_len h]; unfold Bad at h; omega
theorem ord_bad {n me d : Int} (h : Bad n me) : ord n me d = ([], d) := by unfold ord; rw [if_pos h]
theorem ord_i64 {n me d x : Int} (h : x ∈ (ord n me d).1) : -9223372036854775808 ≤ x ∧ x ≤ 9223372036854775807 := by
  by_cases hb : Bad n me
  · rw [ord_bad hb] at h; cases h
  · have := (ord_mem hb).1 h
    unfold Bad at hb
    omega
theorem itd_succ (n me : Int) : ∀ (q : Nat) (d : Int), (ord n me (itd n me q d)).2 = itd n me (q + 1) d
  | 0, d => rfl
  | q + 1, d => itd_succ n me q (ord n me d).2
theorem itd_in {n me : Int} : ∀ (q : Nat) {d : Int}, U64 d → U64 (itd n me q d)
  | 0, d, h => h
  | q + 1, d, h => itd_in q (ord_in h)
/-- The row of the round q. -/
def row (n me d : Int) (q : Nat) : List Int := (ord n me (itd n me q d)).1
theorem trn_at {n me d : Int} (h : ¬ Bad n me) (hn : 2 ≤ n) {t : Int} (h0 : 0 ≤ t) (h1 : t ≤ 1048576) : trn n me d t = (row n me d (t.toNat / (n.toNat - 1))).getD (t.toNat % (n.toNat - 1)) 0 := by
  unfold trn row
  rw [if_neg]
  rintro (h2 | h2 | h2)
  · have := ord_len (d := d) h
    rw [h2] at this
    simp at this
    omega
  · omega
  · omega
theorem trn_next {n me d : Int} (h : ¬ Bad n me) (hn : 2 ≤ n) {t : Nat} (h1 : t ≤ 1000) : trn n me d ((t + (n.toNat - 1) : Nat) : Int) = trn n me (ord n me d).2 (t : Int) := by
  have hb := h
  unfold Bad at hb
  have hk : 0 < n.toNat - 1 := by omega
  rw [trn_at h hn (by omega) (by omega), trn_at h hn (by omega) (by omega)]
  have e1 : ((t + (n.toNat - 1) : Nat) : Int).toNat = t + (n.toNat - 1) := by omega
  have e2 : ((t : Nat) : Int).toNat = t := by omega
  rw [e1, e2, Nat.add_mod_right, Nat.add_div_right _ hk]
  rfl
theorem trn_first {n me d : Int} (h : ¬ Bad n me) (hn : 2 ≤ n) {t : Nat} (h1 : t < n.toNat - 1) : trn n me d (t : Int) = (ord n me d).1.getD t 0 := by
  have hb := h
  unfold Bad at hb
  rw [trn_at h hn (by omega) (by omega)]
  have e2 : ((t : Nat) : Int).toNat = t := by omega
  rw [e2, Nat.div_eq_of_lt h1, Nat.mod_eq_of_lt h1]
  rfl
/-- The last turn of x ahead of t, -1 where there was none. -/
def lst (f : Nat → Int) (x : Int) : Nat → Int
  | 0 => -1
  | t + 1 => if f t = x then (t : Int) else lst f x t
theorem lst_lo (f : Nat → Int) (x : Int) : ∀ t, -1 ≤ lst f x t ∧ lst f x t < t
  | 0 => by simp [lst]
  | t + 1 => by
    have := lst_lo f x t
    unfold lst
    split <;> omega
theorem lst_at (f : Nat → Int) (x : Int) : ∀ t, 0 ≤ lst f x t → f (lst f x t).toNat = x
  | 0, h => by simp [lst] at h
  | t + 1, h => by
    unfold lst at h ⊢
    split
    · rename_i e; simpa using e
    · rename_i e
      rw [if_neg e] at h
      exact lst_at f x t h
theorem lst_last (f : Nat → Int) (x : Int) : ∀ t j, j < t → f j = x → (j : Int) ≤ lst f x t
  | 0, j, h, _ => by omega
  | t + 1, j, h, e => by
    unfold lst
    split
    · omega
    · rename_i e'
      have : j ≠ t := fun h => e' (h ▸ e)
      exact lst_last f x t j (by omega) e
/-- What RoundFair says. -/
theorem fair {n me d : Int} (h : ¬ Bad n me) (hn : 2 ≤ n) {t : Nat} (ht : t < 1000) (L : Int) (hL : lst (fun j => trn n me d (j : Int)) (trn n me d (t : Int)) t = L) :
    (0 ≤ trn n me d (t : Int) ∧ trn n me d (t : Int) < n ∧ trn n me d (t : Int) ≠ me) ∧ (-1 ≤ L ∧ L < t) ∧ ¬ (0 ≤ L ∧ L / (n - 1) = (t : Int) / (n - 1)) ∧ ¬ (0 ≤ L ∧ (t : Int) - L - 1 > 2 * (n - 1) - 2) := by
  have hb := h
  unfold Bad at hb
  obtain ⟨k, hk⟩ : ∃ k, n.toNat - 1 = k := ⟨_, rfl⟩
  have hk0 : 0 < k := by omega
  have hnk : n - 1 = (k : Int) := by omega
  have hrow : ∀ q, (row n me d q).length = k := fun q => by rw [← hk]; exact ord_len h
  have hat : ∀ j : Nat, j ≤ 1000 → trn n me d (j : Int) = (row n me d (j / k)).getD (j % k) 0 := fun j hj => by
    have := trn_at (d := d) h hn (t := (j : Int)) (by omega) (by omega)
    rw [hk] at this
    simpa using this
  have hmem : ∀ j : Nat, j ≤ 1000 → trn n me d (j : Int) ∈ row n me d (j / k) := fun j hj => by
    rw [hat j hj]
    have hlt : j % k < (row n me d (j / k)).length := by rw [hrow]; exact Nat.mod_lt _ hk0
    have : (row n me d (j / k)).getD (j % k) 0 = (row n me d (j / k))[j % k] := by simp [hlt]
    rw [this]
    exact List.getElem_mem hlt
  have hx := (ord_mem h).1 (hmem t (by omega))
  have hlo := lst_lo (fun j => trn n me d (j : Int)) (trn n me d (t : Int)) t
  rw [hL] at hlo
  refine ⟨hx, hlo, ?_⟩
  by_cases hL0 : 0 ≤ L
  case neg => exact ⟨fun h => hL0 h.1, fun h => hL0 h.1⟩
  have hLat := lst_at (fun j => trn n me d (j : Int)) (trn n me d (t : Int)) t (by rw [hL]; exact hL0)
  rw [hL] at hLat
  obtain ⟨m, hm⟩ : ∃ m : Nat, L = (m : Int) := ⟨L.toNat, by omega⟩
  subst hm
  simp only [Int.toNat_natCast] at hLat
  have hne : ¬ (m / k = t / k) := fun e => by
    rw [hat m (by omega), hat t (by omega), e] at hLat
    have h1 : m % k < (row n me d (t / k)).length := by rw [hrow]; exact Nat.mod_lt _ hk0
    have h2 : t % k < (row n me d (t / k)).length := by rw [hrow]; exact Nat.mod_lt _ hk0
    have e1 : (row n me d (t / k)).getD (m % k) 0 = (row n me d (t / k))[m % k] := by simp [h1]
    have e2 : (row n me d (t / k)).getD (t % k) 0 = (row n me d (t / k))[t % k] := by simp [h2]
    rw [e1, e2] at hLat
    have h3 : m % k = t % k := (List.getElem_inj (ord_nodup h)).1 hLat
    have h4 := Nat.div_add_mod m k
    have h5 := Nat.div_add_mod t k
    rw [e, h3] at h4
    omega
  rw [hnk]
  refine ⟨fun ⟨_, e⟩ => hne (by rw [← Int.natCast_ediv, ← Int.natCast_ediv] at e; exact Int.natCast_inj.1 e), fun ⟨_, e⟩ => ?_⟩
  have hq : 1 ≤ t / k := by
    apply Decidable.byContradiction
    intro hq
    have h0 : t / k = 0 := Nat.lt_one_iff.1 (Nat.lt_of_not_le hq)
    have hmt : m / k ≤ t / k := Nat.div_le_div_right (by omega)
    rw [h0] at hmt hne
    exact hne (Nat.le_zero.1 hmt)
  obtain ⟨q, hq'⟩ : ∃ q, t / k = q + 1 := ⟨t / k - 1, (Nat.sub_add_cancel hq).symm⟩
  have hin : trn n me d (t : Int) ∈ row n me d q := (ord_mem h).2 hx
  obtain ⟨r, hr, er⟩ := List.getElem_of_mem hin
  have hr' : r < k := by rw [← hrow q]; exact hr
  have h5 := Nat.div_add_mod t k
  have h6 := Nat.mod_lt t hk0
  rw [hq', Nat.mul_add, Nat.mul_one] at h5
  have hj : k * q + r < t := by omega
  have hfj : trn n me d ((k * q + r : Nat) : Int) = trn n me d (t : Int) := by
    rw [hat _ (by omega), Nat.mul_add_div hk0, Nat.div_eq_of_lt hr', Nat.add_zero, Nat.mul_add_mod, Nat.mod_eq_of_lt hr', ← er]
    simp [hr]
  have := lst_last (fun j => trn n me d (j : Int)) (trn n me d (t : Int)) t (k * q + r) hj hfj
  rw [hL] at this
  omega
end Rn
