/-
  Mathematics of journals: records in blocks, read until one is not good; what a crash leaves of them.
-/
import Derived.Test.YtfecobkpdmjaeaaZa
namespace Go.Proofs.Ytfecobkpdmjaeaa.Jl
open Go.Proofs.Ytfecobkpdmjaeaa
set_option linter.unusedVariables false
set_option maxRecDepth 20000

def num (l : List Int) : Nat := l.foldl (fun a x => a * 256 + x.toNat) 0
def lf (b : List Int) (k : Nat) : Nat := if 2 ^ 40 < num ((b.drop k).take 8) then 0 else num ((b.drop k).take 8)
def byt (b : List Int) (k : Nat) : Nat := (b.getD k 0).toNat
def cnt (b : List Int) : Nat := byt b 8 * 256 + byt b 9
def body (b : List Int) : List Int := (b.drop 12).take (cnt b)
/-- How far reading has come: the life so far, the bytes of a record that has no last block yet, the records, how many blocks they have, how many were read. -/
structure S where
  least : Nat
  part : List Int
  recs : List (List Int)
  used : Nat
  pos : Nat
def good (s : S) (b : List Int) : Prop := lf b 0 ≠ 0 ∧ lf b 0 = lf b 56 ∧ s.least ≤ lf b 0 ∧ (s.part ≠ [] → lf b 0 = s.least) ∧ (cnt b = 44 ∨ (byt b 10 = 1 ∧ 1 ≤ cnt b ∧ cnt b ≤ 44)) ∧ byt b 10 ≤ 1 ∧ byt b 11 = 0
instance (s : S) (b : List Int) : Decidable (good s b) := by unfold good; infer_instance
def step (s : S) (b : List Int) : S := if byt b 10 = 1 then ⟨lf b 0, [], s.recs ++ [s.part ++ body b], s.pos + 1, s.pos + 1⟩ else ⟨lf b 0, s.part ++ body b, s.recs, s.used, s.pos + 1⟩
def go : List (List Int) → S → S
  | [], s => s
  | b :: t, s => if good s b then go t (step s b) else s
def thru : List (List Int) → S → Option S
  | [], s => some s
  | b :: t, s => if good s b then thru t (step s b) else none
def S0 : S := ⟨1, [], [], 0, 0⟩
def lives (bs : List (List Int)) : Nat := bs.foldl (fun m b => max m (max (lf b 0 + 1) (lf b 56 + 1))) 1

theorem go_thru : ∀ (xs ys : List (List Int)) (s s' : S), thru xs s = some s' → go (xs ++ ys) s = go ys s' := by
  intro xs
  induction xs with
  | nil => intro ys s s' h; cases h; rfl
  | cons b t ih =>
    intro ys s s' h
    unfold thru at h
    split at h
    · rename_i hg
      rw [List.cons_append]
      show (if good s b then go (t ++ ys) (step s b) else s) = _
      rw [if_pos hg]
      exact ih ys _ _ h
    · cases h
theorem thru_app : ∀ (xs ys : List (List Int)) (s s' : S), thru xs s = some s' → thru (xs ++ ys) s = thru ys s' := by
  intro xs
  induction xs with
  | nil => intro ys s s' h; cases h; rfl
  | cons b t ih =>
    intro ys s s' h
    unfold thru at h
    split at h
    · rename_i hg
      rw [List.cons_append]
      show (if good s b then thru (t ++ ys) (step s b) else none) = _
      rw [if_pos hg]
      exact ih ys _ _ h
    · cases h
theorem step_recs (s : S) (b : List Int) : ∃ e, (step s b).recs = s.recs ++ e ∧ (byt b 10 = 1 → e.length = 1) := by
  unfold step
  split
  · exact ⟨_, rfl, fun _ => rfl⟩
  · rename_i h; exact ⟨[], by simp, fun e => absurd e h⟩
theorem go_recs : ∀ (xs : List (List Int)) (s : S), ∃ e, (go xs s).recs = s.recs ++ e := by
  intro xs
  induction xs with
  | nil => intro s; exact ⟨[], by simp [go]⟩
  | cons b t ih =>
    intro s
    unfold go
    split
    · obtain ⟨e, he⟩ := ih (step s b)
      obtain ⟨f, hf, _⟩ := step_recs s b
      exact ⟨f ++ e, by rw [he, hf, List.append_assoc]⟩
    · exact ⟨[], by simp⟩
theorem go_more {s : S} {b : List Int} {t : List (List Int)} (hg : good s b) (hl : byt b 10 = 1) : (go (b :: t) s).recs.length > s.recs.length := by
  unfold go
  rw [if_pos hg]
  obtain ⟨e, he⟩ := go_recs t (step s b)
  obtain ⟨f, hf, hf1⟩ := step_recs s b
  rw [he, hf]
  have := hf1 hl
  simp
  omega
theorem body_some {s : S} {b : List Int} (hg : good s b) (hb : b.length = 64) : body b ≠ [] := by
  intro e
  have h1 : (body b).length = 0 := by rw [e]; rfl
  unfold body at h1
  rw [List.length_take, List.length_drop, hb] at h1
  have := hg.2.2.2.2.1
  omega

/-! What is written -/
def big (l : Nat) : List Int := [((l / 72057594037927936 % 256 : Nat) : Int), ((l / 281474976710656 % 256 : Nat) : Int), ((l / 1099511627776 % 256 : Nat) : Int), ((l / 4294967296 % 256 : Nat) : Int), ((l / 16777216 % 256 : Nat) : Int), ((l / 65536 % 256 : Nat) : Int), ((l / 256 % 256 : Nat) : Int), ((l % 256 : Nat) : Int)]
def cut (r : List Int) (i : Nat) : List Int := (r.drop (44 * i)).take 44
def isLast (r : List Int) (i : Nat) : Nat := if r.length ≤ 44 * i + 44 then 1 else 0
def block (r : List Int) (i l : Nat) : List Int := (big l ++ ([((0 : Nat) : Int), (((cut r i).length : Nat) : Int), ((isLast r i : Nat) : Int), 0] ++ (cut r i ++ List.replicate (44 - (cut r i).length) 0))) ++ big l
def need (r : List Int) : Nat := (r.length + 43) / 44
def pieces (r : List Int) (l : Nat) : List (List Int) := (List.range (need r)).map fun i => block r i l
theorem num_big {l : Nat} (h : l ≤ 2 ^ 41) : num (big l) = l := by
  unfold num big
  simp only [List.foldl_cons, List.foldl_nil, Int.toNat_natCast]
  omega
theorem cut_len (r : List Int) (i : Nat) : (cut r i).length ≤ 44 := by unfold cut; simp; omega
theorem block_len (r : List Int) (i l : Nat) : (block r i l).length = 64 := by
  have := cut_len r i
  unfold block big; simp; omega
theorem block_tail (r : List Int) (i l : Nat) : (block r i l).drop 56 = big l := by
  have := cut_len r i
  unfold block
  rw [List.drop_left']
  unfold big; simp; omega
theorem block_head (r : List Int) (i l : Nat) : (block r i l).take 8 = big l := by
  unfold block
  rw [List.append_assoc, List.take_left']
  rfl
theorem block_lf {r : List Int} {i l : Nat} (h : l ≤ 2 ^ 40) : lf (block r i l) 0 = l ∧ lf (block r i l) 56 = l := by
  unfold lf
  rw [List.drop_zero, block_tail, block_head, show (big l).take 8 = big l by rfl, num_big (by omega), if_neg (by omega)]
  exact ⟨rfl, rfl⟩
theorem block_byt (r : List Int) (i l : Nat) : byt (block r i l) 8 = 0 ∧ byt (block r i l) 9 = (cut r i).length ∧ byt (block r i l) 10 = isLast r i ∧ byt (block r i l) 11 = 0 := by
  unfold byt block big
  simp
theorem block_body (r : List Int) (i l : Nat) : body (block r i l) = cut r i := by
  unfold body cnt
  rw [(block_byt r i l).1, (block_byt r i l).2.1]
  have e : block r i l = (big l ++ [((0 : Nat) : Int), (((cut r i).length : Nat) : Int), ((isLast r i : Nat) : Int), 0]) ++ (cut r i ++ (List.replicate (44 - (cut r i).length) 0 ++ big l)) := by unfold block; simp only [List.append_assoc]
  rw [e, List.drop_left' (by rfl), Nat.zero_mul, Nat.zero_add, List.take_left' rfl]
theorem big_byt (l : Nat) : Byt (big l) := by
  intro x hx
  unfold big at hx
  simp only [List.mem_cons, List.not_mem_nil, or_false] at hx
  omega
theorem cut_byt {r : List Int} (i : Nat) (h : Byt r) : Byt (cut r i) := byt_take (byt_drop h _) _
theorem block_bytes {r : List Int} (i l : Nat) (h : Byt r) : Byt (block r i l) := by
  have h1 := cut_len r i
  have h2 : isLast r i ≤ 1 := by unfold isLast; split <;> omega
  refine byt_append (byt_append (big_byt l) (byt_append ?_ (byt_append (cut_byt i h) (byt_zeros _)))) (big_byt l)
  exact byt_cons (by omega) (by omega) (byt_cons (by omega) (by omega) (byt_cons (by omega) (by omega) (byt_cons (by omega) (by omega) byt_nil)))
theorem cut_take (r : List Int) (i : Nat) : r.take (44 * i) ++ cut r i = r.take (44 * (i + 1)) := by
  unfold cut
  rw [Nat.mul_add, Nat.mul_one, List.take_add]
theorem pieces_from {r : List Int} {l : Nat} (hr : r ≠ []) (hl : 1 ≤ l) (hl2 : l ≤ 2 ^ 40) (recs : List (List Int)) (used : Nat) :
    ∀ (d i : Nat) (least pos : Nat), i + d = need r → 0 < d → least ≤ l → (i ≠ 0 → least = l) →
      thru ((List.range' i d).map fun i => block r i l) ⟨least, r.take (44 * i), recs, used, pos⟩ = some ⟨l, [], recs ++ [r], pos + d, pos + d⟩ := by
  have hn : 0 < r.length := List.length_pos_iff.2 hr
  intro d
  induction d with
  | zero => intro i least pos h h0; omega
  | succ d ih =>
    intro i least pos hd _ h1 h2
    have hneed : need r = (r.length + 43) / 44 := rfl
    have hc : (cut r i).length = min 44 (r.length - 44 * i) := by unfold cut; simp
    have hlf := block_lf (r := r) (i := i) hl2
    obtain ⟨b8, b9, b10, b11⟩ := block_byt r i l
    have hcnt : cnt (block r i l) = (cut r i).length := by unfold cnt; rw [b8, b9, Nat.zero_mul, Nat.zero_add]
    have hg : good ⟨least, r.take (44 * i), recs, used, pos⟩ (block r i l) := by
      unfold good
      rw [hlf.1, hlf.2, hcnt, b10, b11]
      refine ⟨by omega, rfl, h1, fun h => ?_, ?_, ?_, rfl⟩
      · refine (h2 ?_).symm
        rintro rfl
        exact h (by simp)
      · unfold isLast
        split <;> omega
      · unfold isLast
        split <;> omega
    rw [List.range'_succ, List.map_cons]
    unfold thru
    rw [if_pos hg]
    unfold step
    rw [b10, hlf.1, block_body]
    simp only
    rw [cut_take]
    cases d with
    | zero =>
      have hlast : isLast r i = 1 := by unfold isLast; rw [if_pos (by omega)]
      rw [if_pos hlast, List.take_of_length_le (by omega)]
      rfl
    | succ d =>
      have hlast : isLast r i ≠ 1 := by unfold isLast; rw [if_neg (by omega)]; omega
      rw [if_neg hlast, ih (i + 1) l (pos + 1) (by omega) (by omega) (Nat.le_refl _) (fun _ => rfl), Nat.add_assoc pos, Nat.add_comm 1]
theorem pieces_thru {r : List Int} {l : Nat} (hr : r ≠ []) (hl : 1 ≤ l) (hl2 : l ≤ 2 ^ 40) {s : S} (hs : s.least ≤ l) (hp : s.part = []) : thru (pieces r l) s = some ⟨l, [], s.recs ++ [r], s.pos + need r, s.pos + need r⟩ := by
  have hn : 0 < r.length := List.length_pos_iff.2 hr
  obtain ⟨a, p, c, d, e⟩ := s
  simp only at hs hp
  subst hp
  unfold pieces
  rw [List.range_eq_range']
  have h0 : 0 < need r := by unfold need; omega
  have := pieces_from hr hl hl2 c d (need r) 0 a e (Nat.zero_add _) h0 hs (fun h => absurd rfl h)
  rw [Nat.mul_zero, List.take_zero] at this
  exact this
end Go.Proofs.Ytfecobkpdmjaeaa.Jl
