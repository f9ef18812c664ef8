/-
  Mathematics of boot blocks: what they tell, which of two a machine starts, and what a torn one is.
-/
import Derived.Test.YtjpgepodkeccmaaDoorUb
namespace Go.Proofs.YtjpgepodkeccmaaDoor
open Go.RowKit
set_option linter.unusedVariables false
set_option linter.unusedSimpArgs false
set_option maxRecDepth 20000
namespace Im
structure Bt where
  area : Int
  epoch : Int
  size : Int
  whole : List Int
def Z : Bt := ⟨0, 0, 0, List.replicate 32 0⟩
def May (b : Bt) : Prop := (b.area = 0 ∨ b.area = 1) ∧ 0 ≤ b.epoch ∧ b.epoch ≤ 1099511627776 ∧ 1 ≤ b.size ∧ b.size ≤ 65536
instance (b : Bt) : Decidable (May b) := by unfold May; infer_instance
def W32 (b : Bt) : Prop := b.whole.length = 32 ∧ Byt b.whole
def sgn (n : Nat) : Int := if n < 9223372036854775808 then (n : Int) else (n : Int) - 18446744073709551616
def bt (l : List Int) : Bt := ⟨l.getD 8 0, sgn (Jl.num ((l.drop 9).take 8)), (Jl.num ((l.drop 17).take 4) : Nat), (l.drop 21).take 32⟩
def hd (l : List Int) : Nat := Jl.num ((l.drop 0).take 8)
def tl (l : List Int) : Nat := Jl.num ((l.drop 56).take 8)
def bl (l : List Int) : Nat := Jl.num ((l.drop 53).take 3)
def cnt (l : List Int) : Nat := if hd l ≠ tl l ∨ 1099511627776 < hd l ∨ bl l ≠ 0 ∨ ¬ May (bt l) then 0 else hd l
def blkOf (b : Bt) (c : Nat) : List Int := low 8 c ++ (b.area :: (low 8 b.epoch.toNat ++ (low 4 b.size.toNat ++ (b.whole ++ ([0, 0, 0] ++ low 8 c)))))
/-- What is found in the first k blocks. -/
def pk (f : Nat → List Int) : Nat → Bt × Nat
  | 0 => (Z, 0)
  | k + 1 => if (pk f k).2 < cnt (f k) then (bt (f k), cnt (f k)) else pk f k

theorem cnt_le (l : List Int) : cnt l ≤ 1099511627776 := by unfold cnt; split <;> omega
theorem blk_len {b : Bt} {c : Nat} (h : b.whole.length = 32) : (blkOf b c).length = 64 := by
  unfold blkOf
  simp [low_len, h]
theorem blk_byt {b : Bt} {c : Nat} (h : Byt b.whole) (ha : b.area = 0 ∨ b.area = 1) : Byt (blkOf b c) := by
  unfold blkOf
  refine byt_append (low_byt _ _) (byt_cons (by omega) (by omega) (byt_append (low_byt _ _) (byt_append (low_byt _ _) (byt_append h (byt_append ?_ (low_byt _ _))))))
  exact byt_zeros 3
theorem part_at {α : Type} (a b c : List α) {i k : Nat} (hi : a.length = i) (hk : b.length = k) : ((a ++ (b ++ c)).drop i).take k = b := by
  subst hi hk
  simp
theorem hd_blk {b : Bt} {c : Nat} (hc : c ≤ 1099511627776) : hd (blkOf b c) = c := by
  unfold hd blkOf
  rw [List.drop_zero, List.take_left' (low_len 8 c), num_low]
  omega
theorem tl_blk {b : Bt} {c : Nat} (h : b.whole.length = 32) (hc : c ≤ 1099511627776) : tl (blkOf b c) = c := by
  unfold tl
  have e : blkOf b c = (low 8 c ++ (b.area :: (low 8 b.epoch.toNat ++ (low 4 b.size.toNat ++ (b.whole ++ [0, 0, 0]))))) ++ (low 8 c ++ []) := by unfold blkOf; simp
  rw [e, part_at _ _ _ (by simp [low_len, h]) (low_len 8 c), num_low]
  omega
theorem bl_blk {b : Bt} {c : Nat} (h : b.whole.length = 32) : bl (blkOf b c) = 0 := by
  unfold bl
  have e : blkOf b c = (low 8 c ++ (b.area :: (low 8 b.epoch.toNat ++ (low 4 b.size.toNat ++ b.whole)))) ++ ([0, 0, 0] ++ low 8 c) := by unfold blkOf; simp
  rw [e, part_at (k := 3) _ [0, 0, 0] _ (by simp [low_len, h]) rfl]
  rfl
theorem bt_blk {b : Bt} {c : Nat} (h : b.whole.length = 32) (hm : May b) : bt (blkOf b c) = b := by
  obtain ⟨hm1, hm2, hm3, hm4, hm5⟩ := hm
  have e1 : (blkOf b c).getD 8 0 = b.area := by unfold blkOf; simp [List.getD, low_len]
  have e2 : ((blkOf b c).drop 9).take 8 = low 8 b.epoch.toNat := by
    have e : blkOf b c = (low 8 c ++ [b.area]) ++ (low 8 b.epoch.toNat ++ (low 4 b.size.toNat ++ (b.whole ++ ([0, 0, 0] ++ low 8 c)))) := by unfold blkOf; simp
    rw [e, part_at _ _ _ (by simp [low_len]) (low_len _ _)]
  have e3 : ((blkOf b c).drop 17).take 4 = low 4 b.size.toNat := by
    have e : blkOf b c = (low 8 c ++ (b.area :: low 8 b.epoch.toNat)) ++ (low 4 b.size.toNat ++ (b.whole ++ ([0, 0, 0] ++ low 8 c))) := by unfold blkOf; simp
    rw [e, part_at _ _ _ (by simp [low_len]) (low_len _ _)]
  have e4 : ((blkOf b c).drop 21).take 32 = b.whole := by
    have e : blkOf b c = (low 8 c ++ (b.area :: (low 8 b.epoch.toNat ++ low 4 b.size.toNat))) ++ (b.whole ++ ([0, 0, 0] ++ low 8 c)) := by unfold blkOf; simp
    rw [e, part_at _ _ _ (by simp [low_len]) h]
  unfold bt
  rw [e1, e2, e3, e4, num_low, num_low]
  have p8 : 256 ^ 8 = 18446744073709551616 := by decide
  have p4 : 256 ^ 4 = 4294967296 := by decide
  have g1 : b.epoch.toNat % 256 ^ 8 = b.epoch.toNat := Nat.mod_eq_of_lt (by omega)
  have g2 : b.size.toNat % 256 ^ 4 = b.size.toNat := Nat.mod_eq_of_lt (by omega)
  rw [g1, g2]
  have g3 : sgn b.epoch.toNat = b.epoch := by unfold sgn; rw [if_pos (by omega)]; omega
  have g4 : ((b.size.toNat : Nat) : Int) = b.size := by omega
  rw [g3, g4]
theorem cnt_blk {b : Bt} {c : Nat} (h : b.whole.length = 32) (hm : May b) (hc : c ≤ 1099511627776) : cnt (blkOf b c) = c := by
  unfold cnt
  rw [hd_blk hc, tl_blk h hc, bl_blk h, bt_blk h hm, if_neg]
  rintro (h | h | h | h)
  · exact h rfl
  · omega
  · exact h rfl
  · exact h hm
theorem cnt_zeros : cnt (List.replicate 64 0) = 0 := by decide +kernel
theorem cnt_differ {l : List Int} (h : hd l ≠ tl l) : cnt l = 0 := by unfold cnt; rw [if_pos (Or.inl h)]
theorem mix_get {N X : List Int} {m : Nat} (hN : N.length = 64) (hm : m ≤ 64) (i : Nat) : (N.take m ++ X.drop m)[i]? = if i < m then N[i]? else X[i]? := by
  have e : (N.take m).length = m := by simp; omega
  by_cases h : i < m
  · rw [if_pos h, List.getElem?_append_left (by omega), List.getElem?_take, if_pos h]
  · rw [if_neg h, List.getElem?_append_right (by omega), List.getElem?_drop, e]
    congr 1; omega
theorem ends_at {l : List Int} (h : l.take 8 = l.drop 56) {i : Nat} (hi : i < 8) : l[i]? = l[56 + i]? := by
  have := congrArg (·[i]?) h
  simpa [hi] using this
/-- A torn block is the old one, or the new one, or its ends differ. -/
theorem torn {N X : List Int} {m : Nat} (hN : N.length = 64) (hX : X.length = 64) (bN : Byt N) (bX : Byt X) (eN : N.take 8 = N.drop 56) (eX : X.take 8 = X.drop 56) (hne : N.take 8 ≠ X.take 8) (hm : m ≤ 64) :
    N.take m ++ X.drop m = X ∨ N.take m ++ X.drop m = N ∨ cnt (N.take m ++ X.drop m) = 0 := by
  have hget := fun i => mix_get (X := X) hN hm i
  have hl : (N.take m ++ X.drop m).length = 64 := by simp; omega
  have hb : Byt (N.take m ++ X.drop m) := byt_append (byt_take bN _) (byt_drop bX _)
  generalize N.take m ++ X.drop m = T at *
  by_cases h : hd T = tl T
  · have h8 : (T.drop 0).take 8 = (T.drop 56).take 8 := num_inj (by simp; omega) (byt_take (byt_drop hb _) _) (byt_take (byt_drop hb _) _) h
    rw [List.drop_zero, List.take_of_length_le (l := T.drop 56) (by simp; omega)] at h8
    have hT := fun i (hi : i < 8) => ends_at h8 hi
    by_cases h1 : m ≤ 8
    · left
      apply List.ext_getElem?
      intro i
      by_cases hi : i < m
      · rw [hT i (by omega), hget, if_neg (by omega), ← ends_at eX (by omega)]
      · rw [hget, if_neg hi]
    · by_cases h2 : m ≤ 56
      · exfalso
        apply hne
        apply List.ext_getElem?
        intro i
        rw [List.getElem?_take, List.getElem?_take]
        by_cases hi : i < 8
        · rw [if_pos hi, if_pos hi]
          have := hT i hi
          rw [hget, hget, if_pos (by omega), if_neg (by omega)] at this
          rw [this, ends_at eX hi]
        · rw [if_neg hi, if_neg hi]
      · right; left
        apply List.ext_getElem?
        intro i
        by_cases hi : i < m
        · rw [hget, if_pos hi]
        · by_cases h3 : i < 64
          · obtain ⟨j, rfl⟩ : ∃ j, i = 56 + j := ⟨i - 56, by omega⟩
            rw [← hT j (by omega), hget, if_pos (by omega), ends_at eN (by omega)]
          · rw [List.getElem?_eq_none (by omega), List.getElem?_eq_none (by omega)]
  · right; right
    exact cnt_differ h
theorem blk_ends {b : Bt} {c : Nat} (h : b.whole.length = 32) : (blkOf b c).take 8 = (blkOf b c).drop 56 := by
  have e : blkOf b c = (low 8 c ++ (b.area :: (low 8 b.epoch.toNat ++ (low 4 b.size.toNat ++ (b.whole ++ [0, 0, 0]))))) ++ low 8 c := by unfold blkOf; simp
  have e1 : (blkOf b c).drop 56 = low 8 c := by rw [e, List.drop_left' (by simp [low_len, h])]
  rw [e1]
  unfold blkOf
  rw [List.take_left' (low_len _ _)]
theorem blk_head (b : Bt) (c : Nat) : (blkOf b c).take 8 = low 8 c := by
  unfold blkOf
  rw [List.take_left' (low_len _ _)]
theorem low8_ne {c d : Nat} (hc : c ≤ 1099511627776) (hd : d ≤ 1099511627776) (h : c ≠ d) : low 8 c ≠ low 8 d := by
  intro e
  have := congrArg Jl.num e
  rw [num_low, num_low] at this
  omega
/-- A boot block whose head is changed is none. -/
theorem cnt_head {l : List Int} {i : Nat} {x : Int} (hl : l.length = 64) (hb : Byt l) (hx : 0 ≤ x ∧ x < 256) (he : l.take 8 = l.drop 56) (hi : i < 8) (hne : x ≠ l.getD i 0) : cnt (l.set i x) = 0 := by
  refine cnt_differ fun h => hne ?_
  have hb2 : Byt (l.set i x) := fun y hy => by
    rcases List.mem_or_eq_of_mem_set hy with h | h
    · exact hb y h
    · subst h; exact hx
  have hl2 : (l.set i x).length = 64 := by rw [List.length_set, hl]
  generalize hT : l.set i x = T at *
  have h8 : (T.drop 0).take 8 = (T.drop 56).take 8 := num_inj (by simp; omega) (byt_take (byt_drop hb2 _) _) (byt_take (byt_drop hb2 _) _) h
  rw [List.drop_zero, List.take_of_length_le (l := T.drop 56) (by simp; omega)] at h8
  have h1 := ends_at h8 hi
  have h2 := ends_at he hi
  subst hT
  rw [List.getElem?_set_self (by omega), List.getElem?_set_ne (by omega), ← h2] at h1
  simp [List.getD, ← h1]
end Im
end Go.Proofs.YtjpgepodkeccmaaDoor
