/-
  Mathematics of a journal on a disk.
-/
import Derived.Test.YtfecobkpdmjaeaaQl
namespace Go.Proofs.Ytfecobkpdmjaeaa
set_option linter.unusedVariables false
set_option maxRecDepth 20000
theorem read_wrs (A : Dm.A) (next : Nat) (r : List Int) (life : Nat) : ∀ (K x : Nat), Dm.read (wrs A next r life K) x = if next ≤ x ∧ x < next + K then Jl.block r (x - next) life else Dm.read A x := by
  intro K
  induction K with
  | zero => intro x; rw [wrs_zero, if_neg (by omega)]
  | succ K ih =>
    intro x
    rw [wrs_succ, Dm.read_write]
    by_cases h : next + K = x
    · rw [if_pos h, if_pos (by omega)]
      congr 1
      omega
    · rw [if_neg h, ih]
      by_cases h2 : next ≤ x ∧ x < next + K
      · rw [if_pos h2, if_pos (by omega)]
      · rw [if_neg h2, if_neg (by omega)]
theorem bsOf_len (A : Dm.A) (fr m : Nat) : (bsOf A fr m).length = m := by simp [bsOf]
theorem bsOf_get (A : Dm.A) (fr m i : Nat) : (bsOf A fr m)[i]? = if i < m then some (Dm.read A (fr + i)) else none := by
  unfold bsOf
  by_cases h : i < m
  · simp [h]
  · simp [h]
theorem pieces_len (r : List Int) (l : Nat) : (Jl.pieces r l).length = Jl.need r := by simp [Jl.pieces]
theorem bsOf_wrs (A : Dm.A) (fr m u : Nat) (r : List Int) (l : Nat) (h : u + Jl.need r ≤ m) : bsOf (wrs A (fr + u) r l (Jl.need r)) fr m = (bsOf A fr m).take u ++ (Jl.pieces r l ++ (bsOf A fr m).drop (u + Jl.need r)) := by
  apply List.ext_getElem?
  intro i
  rw [bsOf_get]
  have hu : ((bsOf A fr m).take u).length = u := by rw [List.length_take, bsOf_len]; omega
  by_cases h1 : i < u
  · rw [List.getElem?_append_left (by omega), List.getElem?_take, if_pos h1, bsOf_get, if_pos (by omega), if_pos (by omega), read_wrs, if_neg (by omega)]
  · rw [List.getElem?_append_right (by omega), hu]
    by_cases h2 : i - u < Jl.need r
    · rw [List.getElem?_append_left (by rw [pieces_len]; exact h2), if_pos (by omega), read_wrs, if_pos (by omega)]
      unfold Jl.pieces
      rw [List.getElem?_map, List.getElem?_range h2]
      show some _ = some _
      congr 2
      omega
    · rw [List.getElem?_append_right (by rw [pieces_len]; omega), pieces_len, List.getElem?_drop, bsOf_get]
      by_cases h3 : i < m
      · rw [if_pos h3, if_pos (by omega), read_wrs, if_neg (by omega)]
        congr 2
        omega
      · rw [if_neg h3, if_neg (by omega)]
theorem z64_bad (s : Jl.S) : ¬ Jl.good s z64 := by
  intro h
  have h1 := h.1
  have : Jl.lf z64 0 = 0 := by decide +kernel
  exact h1 this
theorem go_bad (s : Jl.S) (b : List Int) (t : List (List Int)) (h : ¬ Jl.good s b) : Jl.go (b :: t) s = s := by
  show (if Jl.good s b then _ else s) = s
  rw [if_neg h]
theorem go_zeros (s : Jl.S) (n : Nat) : Jl.go (List.replicate n z64) s = s := by
  cases n with
  | zero => rfl
  | succ n => rw [List.replicate_succ]; exact go_bad _ _ _ (z64_bad s)
theorem grt_fold (bs : List (List Int)) : ∀ m, bs.foldl (fun m b => max m (max (cap (hd b)) (cap (tl b)))) m = max m (grt bs) := by
  induction bs with
  | nil => intro m; simp [grt]
  | cons b bs ih =>
    intro m
    have h1 := ih (max m (max (cap (hd b)) (cap (tl b))))
    have h2 := ih (max 0 (max (cap (hd b)) (cap (tl b))))
    unfold grt
    rw [List.foldl_cons, List.foldl_cons, h1, h2]
    omega
theorem grt_app (a b : List (List Int)) : grt (a ++ b) = max (grt a) (grt b) := by
  unfold grt
  rw [List.foldl_append, grt_fold]
  rfl
theorem grt_cons (b : List Int) (bs : List (List Int)) : grt (b :: bs) = max (max (cap (hd b)) (cap (tl b))) (grt bs) := by
  have := grt_app [b] bs
  rw [List.singleton_append] at this
  rw [this]
  congr 1
theorem grt_all {bs : List (List Int)} {l : Nat} (h : ∀ b ∈ bs, cap (hd b) = l ∧ cap (tl b) = l) (hne : bs ≠ []) : grt bs = l := by
  induction bs with
  | nil => exact absurd rfl hne
  | cons b bs ih =>
    rw [grt_cons, (h b (by simp)).1, (h b (by simp)).2]
    cases bs with
    | nil => simp [grt]
    | cons c cs => rw [ih (fun x hx => h x (by simp [hx])) (by simp)]; omega
theorem grt_zeros (n : Nat) : grt (List.replicate n z64) = 0 := by
  cases n with
  | zero => rfl
  | succ n => exact grt_all (fun b hb => by rw [(List.mem_replicate.1 hb).2]; decide +kernel) (by simp)
theorem block_ends {r : List Int} {i l : Nat} (h : l ≤ 2 ^ 40) : cap (hd (Jl.block r i l)) = l ∧ cap (tl (Jl.block r i l)) = l := by
  have := Jl.block_lf (r := r) (i := i) h
  rw [lf_hd, lf_tl] at this
  exact this
theorem need_pos {r : List Int} (h : r ≠ []) : 0 < Jl.need r := by
  have := List.length_pos_iff.2 h
  unfold Jl.need
  omega
theorem grt_pieces {r : List Int} {l : Nat} (hr : r ≠ []) (h : l ≤ 2 ^ 40) : grt (Jl.pieces r l) = l := by
  refine grt_all (fun b hb => ?_) (fun e => by have := pieces_len r l; rw [e] at this; have := need_pos hr; simp at *; omega)
  obtain ⟨i, _, rfl⟩ := List.mem_map.1 hb
  exact block_ends h
/-- A journal whose other blocks are 0. -/
structure Clean (A : Dm.A) (fr m : Nat) (L : List (List Int)) (u top : Nat) : Prop where
  le : u ≤ m
  is : ∃ bk a, bsOf A fr m = bk ++ List.replicate (m - u) z64 ∧ bk.length = u ∧ a ≤ top ∧ Jl.thru bk (J0 0) = some ⟨a, [], L, u, u⟩ ∧ grt bk = top
theorem Clean.reads {A : Dm.A} {fr m u top : Nat} {L : List (List Int)} (h : Clean A fr m L u top) : (Jl.go (bsOf A fr m) (J0 0)).used = u ∧ (Jl.go (bsOf A fr m) (J0 0)).recs = L ∧ grt (bsOf A fr m) = top := by
  obtain ⟨bk, a, h1, h2, h3, h4, h5⟩ := h.is
  have e : Jl.go (bsOf A fr m) (J0 0) = ⟨a, [], L, u, u⟩ := by rw [h1, Jl.go_thru _ _ _ _ h4, go_zeros]
  rw [e, h1, grt_app, h5, grt_zeros]
  exact ⟨rfl, rfl, by omega⟩
theorem clean_fresh (n fr m : Nat) (h : fr + m ≤ n) : Clean (fresh n) fr m [] 0 0 := by
  refine ⟨Nat.zero_le _, [], 0, ?_, rfl, Nat.le_refl _, rfl, rfl⟩
  rw [List.nil_append, Nat.sub_zero]
  apply List.ext_getElem?
  intro i
  rw [bsOf_get]
  by_cases hi : i < m
  · rw [if_pos hi, List.getElem?_replicate, if_pos hi]
    congr 1
    unfold Dm.read fresh
    show Dm.blk (zeros (64 * n)) (fr + i) = z64
    unfold Dm.blk zeros z64
    rw [List.drop_replicate, List.take_replicate]
    congr 1
    omega
  · rw [if_neg hi, List.getElem?_replicate, if_neg hi]
theorem Clean.more {A : Dm.A} {fr m u top l : Nat} {L : List (List Int)} {r : List Int} (h : Clean A fr m L u top) (hr : r ≠ []) (hn : u + Jl.need r ≤ m) (h1 : 1 ≤ l) (h2 : top ≤ l) (h3 : l ≤ 2 ^ 40) :
    Clean (wrs A (fr + u) r l (Jl.need r)) fr m (L ++ [r]) (u + Jl.need r) l := by
  obtain ⟨bk, a, e1, e2, e3, e4, e5⟩ := h.is
  refine ⟨hn, bk ++ Jl.pieces r l, l, ?_, by rw [List.length_append, e2, pieces_len], Nat.le_refl _, ?_, ?_⟩
  · rw [bsOf_wrs A fr m u r l hn, e1, List.take_left' e2, List.append_assoc]
    congr 2
    rw [List.drop_append, List.drop_of_length_le (by omega), List.nil_append, List.drop_replicate]
    congr 1
    omega
  · rw [Jl.thru_app _ _ _ _ e4]
    exact Jl.pieces_thru hr h1 h3 (s := ⟨a, [], L, u, u⟩) (by show a ≤ l; omega) rfl
  · rw [grt_app, e5, grt_pieces hr h3]; omega
end Go.Proofs.Ytfecobkpdmjaeaa
