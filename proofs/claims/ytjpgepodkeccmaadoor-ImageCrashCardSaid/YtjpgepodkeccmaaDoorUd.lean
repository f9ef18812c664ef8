/-
  Mathematics of areas: bytes that are laid over blocks, piece by piece, and read from them.
-/
import Derived.Test.YtjpgepodkeccmaaDoorUc
namespace Go.Proofs.YtjpgepodkeccmaaDoor
open Go.RowKit
set_option linter.unusedVariables false
set_option linter.unusedSimpArgs false
set_option maxRecDepth 20000
namespace Dm
theorem put_nil (l : List Int) (o : Nat) (h : o ≤ l.length) : put l o [] = l := by unfold put; simp
theorem put_more {C x y : List Int} {s : Nat} (h : s + x.length + y.length ≤ C.length) : put (put C s x) (s + x.length) y = put C s (x ++ y) := by
  have h1 : (put C s x).length = C.length := put_len (by omega)
  apply List.ext_getElem?
  intro i
  rw [put_get (by omega), put_get (by omega), put_get (by simp; omega)]
  simp only [List.length_append]
  by_cases e1 : i < s
  · rw [if_neg (by omega), if_neg (by omega), if_neg (by omega)]
  · by_cases e2 : i < s + x.length
    · rw [if_neg (by omega), if_pos (by omega), if_pos (by omega), List.getElem?_append_left (by omega)]
    · by_cases e3 : i < s + x.length + y.length
      · rw [if_pos (by omega), if_pos (by omega), List.getElem?_append_right (by omega)]
        congr 1; omega
      · rw [if_neg (by omega), if_neg (by omega), if_neg (by omega)]
theorem put_blk {C r : List Int} {n j o : Nat} (hC : C.length = 64 * n) (hj : j < n) (h : o + r.length ≤ 64) : put C (64 * j) (put (blk C j) o r) = put C (64 * j + o) r := by
  have hb : (blk C j).length = 64 := blk_len hC hj
  have h1 : (put (blk C j) o r).length = 64 := by rw [put_len (by omega), hb]
  apply List.ext_getElem?
  intro i
  rw [put_get (l := C) (b := put (blk C j) o r) (o := 64 * j) (by omega), put_get (l := C) (b := r) (o := 64 * j + o) (by omega), h1]
  by_cases e1 : 64 * j ≤ i ∧ i < 64 * j + 64
  · rw [if_pos e1, put_get (by omega), blk_get]
    by_cases e2 : o ≤ i - 64 * j ∧ i - 64 * j < o + r.length
    · rw [if_pos e2, if_pos (by omega)]
      congr 1; omega
    · rw [if_neg e2, if_pos (by omega), if_neg (by omega)]
      congr 1; omega
  · rw [if_neg e1, if_neg (by omega)]
/-- How many bytes are laid behind k blocks, the first of which is laid from its byte o on. -/
def wk (o len k : Nat) : Nat := if k = 0 then 0 else min (64 * k - o) len
def ah (o k : Nat) : Nat := if k = 0 then o else 0
theorem wk_zero (o len : Nat) : wk o len 0 = 0 := rfl
theorem ah_lt {o : Nat} (h : o < 64) (k : Nat) : ah o k < 64 := by unfold ah; split <;> omega
theorem wk_le (o len k : Nat) : wk o len k ≤ len := by unfold wk; split <;> omega
theorem wk_step {o len k : Nat} (ho : o < 64) (hk : 64 * k < o + len) : wk o len (k + 1) = wk o len k + min (64 - ah o k) (len - wk o len k) := by
  unfold wk ah
  rw [if_neg (by omega)]
  by_cases h : k = 0
  · subst h
    rw [if_pos rfl, if_pos rfl]
    omega
  · rw [if_neg h, if_neg h]
    omega
theorem wk_place {o len k : Nat} (ho : o < 64) (hk : 64 * k < o + len) : 64 * k + ah o k = o + wk o len k := by
  unfold wk ah
  by_cases h : k = 0
  · subst h
    rw [if_pos rfl, if_pos rfl]
    omega
  · rw [if_neg h, if_neg h]
    omega
theorem wk_end {o len k : Nat} (ho : o < 64) (hl : 0 < len) (hk : o + len ≤ 64 * k) : wk o len k = len := by
  unfold wk
  rw [if_neg (by omega)]
  omega
/-- The block that Put writes. -/
def pblk (a : A) (j o : Nat) (r : List Int) : List Int := put (read a j) o (r.take (64 - o))
theorem pblk_ok {a : A} {n j o : Nat} {r : List Int} (h : Ok a n) (hj : j < n) (ho : o ≤ 64) (hr : Byt r) : (pblk a j o r).length = 64 ∧ Byt (pblk a j o r) := by
  obtain ⟨h1, h2⟩ := read_len h hj
  unfold pblk
  exact ⟨by rw [put_len (by simp; omega), h1], put_byt h2 (byt_take hr _)⟩
theorem put_step {a : A} {n first at_ k : Nat} {C b : List Int} (h : Ok a n) (o : Nat) (ho : o < 64) (hs : 64 * first + o = at_) (hk : 64 * k < o + b.length) (hn : first + k < n) (hfit : at_ + b.length ≤ 64 * n) (hC : C.length = 64 * n) (hB : Byt b)
    (he : now a = put C at_ (b.take (wk o b.length k))) :
    now (write a (first + k) (pblk a (first + k) (ah o k) (b.drop (wk o b.length k)))) = put C at_ (b.take (wk o b.length (k + 1))) ∧ (b.drop (wk o b.length k)).drop (min (64 - ah o k) (b.length - wk o b.length k)) = b.drop (wk o b.length (k + 1)) := by
  have hg := now_get h
  have hw := wk_le o b.length k
  have ha := ah_lt ho k
  have hst := wk_step (len := b.length) ho hk
  have hpl := wk_place (len := b.length) ho hk
  refine ⟨?_, by rw [List.drop_drop, hst]⟩
  generalize hr : (b.drop (wk o b.length k)).take (64 - ah o k) = r
  have hrl : r.length = min (64 - ah o k) (b.length - wk o b.length k) := by rw [← hr]; simp
  have hbl : (read a (first + k)).length = 64 := (read_len h hn).1
  have hlen : (put (read a (first + k)) (ah o k) r).length = 64 := by rw [put_len (by omega), hbl]
  unfold pblk
  rw [hr]
  have e1 : now (write a (first + k) (put (read a (first + k)) (ah o k) r)) = put (now a) (64 * (first + k)) (put (read a (first + k)) (ah o k) r) := now_write h hn hlen (put_byt (read_len h hn).2 (by rw [← hr]; exact byt_take (byt_drop hB _) _))
  rw [e1, ← hg.2.2, put_blk hg.1 hn (by omega), he]
  have e2 : 64 * (first + k) + ah o k = at_ + (b.take (wk o b.length k)).length := by
    rw [List.length_take, Nat.min_eq_left hw]; omega
  rw [e2, put_more (by rw [List.length_take, Nat.min_eq_left hw]; omega), hst, ← hr]
  congr 1
  rw [List.take_add]
  congr 1
  rw [List.take_eq_take_iff]
  simp
end Dm
/-- What Get has behind k blocks. -/
def gk (X : List Int) (k : Nat) : List Int := X.take (64 * k) ++ List.replicate (X.length - 64 * k) 0
theorem gk_len (X : List Int) (k : Nat) : (gk X k).length = X.length := by unfold gk; simp; omega
theorem gk_zero (X : List Int) : gk X 0 = List.replicate X.length 0 := by unfold gk; simp
theorem gk_end {X : List Int} {k : Nat} (h : X.length ≤ 64 * k) : gk X k = X := by
  unfold gk
  rw [List.take_of_length_le h, show X.length - 64 * k = 0 by omega]
  simp
theorem gk_byt {X : List Int} (h : Byt X) (k : Nat) : Byt (gk X k) := byt_append (byt_take h _) (byt_zeros _)
def area (C : List Int) (fr size : Nat) : List Int := (C.drop (64 * fr)).take size
theorem area_len {C : List Int} {n fr size : Nat} (hC : C.length = 64 * n) (h : 64 * fr + size ≤ 64 * n) : (area C fr size).length = size := by unfold area; simp; omega
theorem area_get (C : List Int) (fr size i : Nat) : (area C fr size)[i]? = if i < size then C[64 * fr + i]? else none := by
  unfold area
  rw [List.getElem?_take]
  split
  · rw [List.getElem?_drop]
  · rfl
theorem gk_step {C : List Int} {n fr size k : Nat} (hC : C.length = 64 * n) (h : 64 * fr + size ≤ 64 * n) (hk : 64 * k < size) :
    Dm.put (gk (area C fr size) k) (64 * k) ((Dm.blk C (fr + k)).take (size - 64 * k)) = gk (area C fr size) (k + 1) := by
  have hl := area_len hC h
  have hb : (Dm.blk C (fr + k)).length = 64 := Dm.blk_len hC (by omega)
  have hg := gk_len (area C fr size) k
  apply List.ext_getElem?
  intro i
  rw [Dm.put_get (by simp; omega)]
  have hm : ((Dm.blk C (fr + k)).take (size - 64 * k)).length = min (size - 64 * k) 64 := by simp [hb]
  rw [hm]
  unfold gk
  rw [hl]
  by_cases e1 : i < 64 * k
  · rw [if_neg (by omega), List.getElem?_append_left (by simp; omega), List.getElem?_append_left (by simp; omega), List.getElem?_take, List.getElem?_take, if_pos e1, if_pos (by omega)]
  · by_cases e2 : i < min (64 * (k + 1)) size
    · rw [if_pos (by omega), List.getElem?_append_left (by simp; omega), List.getElem?_take, List.getElem?_take, if_pos (by omega), if_pos (by omega), Dm.blk_get, if_pos (by omega), area_get, if_pos (by omega)]
      congr 1; omega
    · rw [if_neg (by omega), List.getElem?_append_right (by simp; omega), List.getElem?_append_right (by simp; omega), List.getElem?_replicate, List.getElem?_replicate]
      simp only [List.length_take, hl]
      by_cases e3 : i < size
      · rw [if_pos (by omega), if_pos (by omega)]
      · rw [if_neg (by omega), if_neg (by omega)]
end Go.Proofs.YtjpgepodkeccmaaDoor
