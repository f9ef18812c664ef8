/-
  The pair of boot blocks: what a machine starts, what Point makes of it, what a crash leaves.
-/
import Derived.Test.YtjpgepodkeccmaaDoorUm
namespace Go.Proofs.YtjpgepodkeccmaaDoor
open Go.RowKit
set_option linter.unusedVariables false
set_option linter.unusedSimpArgs false
set_option maxRecDepth 20000
theorem read_flush {a : Dm.A} {n : Nat} (h : Dm.Ok a n) (m : Nat) : Dm.read (Dm.flush a) m = Dm.read a m := by
  rw [← (Dm.now_get h).2.2 m]
  rfl
theorem read_fresh {n m : Nat} (hm : m < n) : Dm.read (fresh n) m = z64 := by
  show Dm.blk (zeros (64 * n)) m = z64
  unfold Dm.blk zeros z64
  rw [List.drop_replicate, List.take_replicate]
  congr 1
  omega
namespace Im
def Pr (f : Nat → List Int) (n : Nat) (was : Bt) : Prop :=
  (n = 0 ∧ was = Z ∧ f 0 = z64 ∧ f 1 = z64) ∨ (1 ≤ n ∧ May was ∧ W32 was ∧ f (1 - n % 2) = blkOf was n ∧ (f (n % 2) = z64 ∨ ∃ o, May o ∧ W32 o ∧ f (n % 2) = blkOf o (n - 1)))
theorem cnt_z : cnt z64 = 0 := cnt_zeros
theorem old_cnt {x : List Int} {n : Nat} (hn : n ≤ 1099511627776) (h : x = z64 ∨ ∃ o, May o ∧ W32 o ∧ x = blkOf o (n - 1)) : cnt x ≤ n - 1 := by
  rcases h with rfl | ⟨o, h1, h2, rfl⟩
  · rw [cnt_z]; omega
  · rw [cnt_blk h2.1 h1 (by omega)]; omega
theorem pk_two (f : Nat → List Int) : pk f 2 = if (if 0 < cnt (f 0) then cnt (f 0) else 0) < cnt (f 1) then (bt (f 1), cnt (f 1)) else if 0 < cnt (f 0) then (bt (f 0), cnt (f 0)) else (Z, 0) := by
  show (if (pk f 1).2 < cnt (f 1) then (bt (f 1), cnt (f 1)) else pk f 1) = _
  have e : pk f 1 = if 0 < cnt (f 0) then (bt (f 0), cnt (f 0)) else (Z, 0) := rfl
  rw [e]
  by_cases h : 0 < cnt (f 0)
  · rw [if_pos h, if_pos h]
  · rw [if_neg h, if_neg h]
/-- The block of a count, and another one whose count is smaller. -/
theorem pk_pair {f : Nat → List Int} {n : Nat} {was : Bt} (hn1 : 1 ≤ n) (hn : n ≤ 1099511627776) (hm : May was) (hw : W32 was) (h1 : f (1 - n % 2) = blkOf was n) (h2 : cnt (f (n % 2)) < n) : pk f 2 = (was, n) := by
  have hc := cnt_blk hw.1 hm hn
  have hb := bt_blk (c := n) hw.1 hm
  rw [pk_two]
  rcases Nat.mod_two_eq_zero_or_one n with h | h
  · rw [h] at h1 h2
    rw [h1, hc, hb, if_pos (by split <;> omega)]
  · rw [h] at h1 h2
    have h1 : f 0 = blkOf was n := h1
    rw [h1, hc, hb, if_pos (show 0 < n by omega), if_neg (by omega), if_pos (show 0 < n by omega)]
theorem Pr.pk {f : Nat → List Int} {n : Nat} {was : Bt} (h : Pr f n was) (hn : n ≤ 1099511627776) : pk f 2 = (was, n) := by
  rcases h with ⟨rfl, rfl, h0, h1⟩ | ⟨h1, hm, hw, hb, ho⟩
  · rw [pk_two, h0, h1, cnt_z]; rfl
  · exact pk_pair h1 hn hm hw hb (by have := old_cnt hn ho; omega)
theorem Pr.next {f f' : Nat → List Int} {n : Nat} {was b : Bt} (h : Pr f n was) (hm : May b) (hw : W32 b) (he : ∀ m, m < 2 → f' m = if m = 1 - (n + 1) % 2 then blkOf b (n + 1) else f m) : Pr f' (n + 1) b := by
  refine Or.inr ⟨by omega, hm, hw, by rw [he _ (by omega), if_pos rfl], ?_⟩
  rw [he _ (by omega), if_neg (by omega)]
  rcases h with ⟨rfl, rfl, h0, h1⟩ | ⟨h1, hm', hw', hb, ho⟩
  · exact Or.inl h1
  · refine Or.inr ⟨was, hm', hw', ?_⟩
    rw [show (n + 1) % 2 = 1 - n % 2 by omega, hb]
    rfl
theorem Pr.congr {f f' : Nat → List Int} {n : Nat} {was : Bt} (h : Pr f n was) (he : ∀ m, m < 2 → f' m = f m) : Pr f' n was := by
  rcases h with ⟨h1, h2, h3, h4⟩ | ⟨h1, h2, h3, h4, h5⟩
  · exact Or.inl ⟨h1, h2, by rw [he _ (by omega), h3], by rw [he _ (by omega), h4]⟩
  · exact Or.inr ⟨h1, h2, h3, by rw [he _ (by omega), h4], by rw [he _ (by omega)]; exact h5⟩
theorem z64_ends : z64.take 8 = z64.drop 56 := rfl
theorem z64_head : z64.take 8 = low 8 0 := by decide
/-- What a crash within Point leaves. -/
theorem Pr.torn {f f' : Nat → List Int} {n m : Nat} {was b : Bt} (h : Pr f n was) (h1 : 1 ≤ n) (hn : n < 1099511627776) (hm : May b) (hw : W32 b) (hm64 : m ≤ 64)
    (h2 : f' (1 - (n + 1) % 2) = (blkOf b (n + 1)).take m ++ (f (1 - (n + 1) % 2)).drop m) (h3 : f' (1 - n % 2) = f (1 - n % 2)) :
    Im.pk f' 2 = (was, n) ∨ Im.pk f' 2 = (b, n + 1) := by
  rcases h with ⟨h0, _⟩ | ⟨_, hm', hw', hb, ho⟩
  · omega
  have e1 : 1 - (n + 1) % 2 = n % 2 := by omega
  rw [e1] at h2
  have hX : (f (n % 2)).length = 64 ∧ Byt (f (n % 2)) ∧ (f (n % 2)).take 8 = (f (n % 2)).drop 56 ∧ (blkOf b (n + 1)).take 8 ≠ (f (n % 2)).take 8 := by
    rw [blk_head]
    rcases ho with ho | ⟨o, g1, g2, ho⟩
    · rw [ho]
      exact ⟨rfl, byt_zeros 64, z64_ends, by rw [z64_head]; exact low8_ne (by omega) (by omega) (by omega)⟩
    · rw [ho]
      exact ⟨blk_len g2.1, blk_byt g2.2 g1.1, blk_ends g2.1, by rw [blk_head]; exact low8_ne (by omega) (by omega) (by omega)⟩
  have hold : cnt (f (n % 2)) ≤ n - 1 := old_cnt (by omega) ho
  rcases Im.torn (blk_len (c := n + 1) hw.1) hX.1 (blk_byt hw.2 hm.1) hX.2.1 (blk_ends hw.1) hX.2.2.1 hX.2.2.2 hm64 with h | h | h
  · left
    exact pk_pair h1 (by omega) hm' hw' (by rw [h3, hb]) (by rw [h2, h]; omega)
  · right
    rw [h] at h2
    refine pk_pair (by omega) (by omega) hm hw (by rw [e1]; exact h2) ?_
    rw [show (n + 1) % 2 = 1 - n % 2 by omega, h3, hb, cnt_blk hw'.1 hm' (by omega)]
    omega
  · left
    exact pk_pair h1 (by omega) hm' hw' (by rw [h3, hb]) (by rw [h2, h]; omega)
end Im
theorem fresh_pr (n : Nat) (h : 2 ≤ n) : Im.Pr (fun i => Dm.read (fresh n) (0 + i)) 0 Im.Z := Or.inl ⟨rfl, rfl, by simp only [Nat.zero_add]; exact read_fresh (by omega), by simp only [Nat.zero_add]; exact read_fresh (by omega)⟩
theorem zb_kc : KC zbt Im.Z := zbt_kc
section
variable {p bb mb n : Nat} {A : Dm.A} {w : World}
theorem istart_pr {c : Nat} {was : Im.Bt} (h : Dk w p bb mb A n) (hd : A.down = false) (hn : 2 ≤ n) (hp : Im.Pr (Dm.read A) c was) (hc : c ≤ 1099511627776) :
    Calls Tryd.prog 18 #[.pointer (some ⟨p, 0, none⟩), .int .i64 0] w fun e w' => ∃ D, e = .returned (.tuple #[.agg D, .int .i64 (c : Int), .int .i64 (if c = 0 then 81 else 0)]) ∧ KC D was ∧ Below w.heap.size w w' := by
  have hs := istart_ok (at_ := 0) h hd (by omega)
  have e : Im.pk (fun i => Dm.read A (0 + i)) 2 = (was, c) := (hp.congr (f' := fun i => Dm.read A (0 + i)) (fun m _ => by simp only [Nat.zero_add])).pk hc
  rw [e] at hs
  exact hs
theorem ipoint_pr {c : Nat} {was b : Im.Bt} {C : Array Value} (h : Dk w p bb mb A n) (hd : A.down = false) (hn : 2 ≤ n) (hp : Im.Pr (Dm.read A) c was) (hc : c < 1099511627776) (hC : KC C b) (hm : Im.May b) :
    Calls Tryd.prog 17 #[.pointer (some ⟨p, 0, none⟩), .int .i64 0, .agg C] w fun e w' => e = .returned (.int .i64 0) ∧ ∃ A', Dk w' p bb mb A' n ∧ A'.down = false ∧ Im.Pr (Dm.read A') (c + 1) b ∧ (∀ m, Dm.read A' m = if m = 1 - (c + 1) % 2 then Im.blkOf b (c + 1) else Dm.read A m) ∧ Only [p, bb, mb] w w' := by
  have e : Im.pk (fun i => Dm.read A (0 + i)) 2 = (was, c) := (hp.congr (f' := fun i => Dm.read A (0 + i)) (fun m _ => by simp only [Nat.zero_add])).pk (by omega)
  have hs := ipoint_ok (at_ := 0) (c := c) h hd (by omega) hC hm (by rw [e]) hc
  refine hs.mono fun e w' ⟨h1, h2, h3⟩ => ⟨h1, _, h2, hd, ?_, ?_, h3⟩
  · have hr : ∀ m, Dm.read (Dm.flush (Dm.write A (0 + 1 - (c + 1) % 2) (Im.blkOf b (c + 1)))) m = if m = 1 - (c + 1) % 2 then Im.blkOf b (c + 1) else Dm.read A m := fun m => by
      rw [read_flush (Dm.write_ok h.ok (by omega) (Im.blk_len hC.2.1) (Im.blk_byt hC.2.2 hm.1)), Dm.read_write, Nat.zero_add]
      by_cases e : m = 1 - (c + 1) % 2
      · rw [if_pos e, if_pos e.symm]
      · rw [if_neg e, if_neg (fun h => e h.symm)]
    exact hp.next hm hC.2 (fun m _ => hr m)
  · intro m
    rw [read_flush (Dm.write_ok h.ok (by omega) (Im.blk_len hC.2.1) (Im.blk_byt hC.2.2 hm.1)), Dm.read_write, Nat.zero_add]
    by_cases e : m = 1 - (c + 1) % 2
    · rw [if_pos e, if_pos e.symm]
    · rw [if_neg e, if_neg (fun h => e h.symm)]
theorem ipoint_no {C : Array Value} {b : Im.Bt} (h : Dk w p bb mb A n) (hn : 2 ≤ n) (hC : KC C b) (hm : ¬ Im.May b) :
    Calls Tryd.prog 17 #[.pointer (some ⟨p, 0, none⟩), .int .i64 0, .agg C] w fun e w' => e = .returned (.int .i64 1) ∧ Below w.heap.size w w' := ipoint_may (at_ := 0) h (by omega) hC hm
end
end Go.Proofs.YtjpgepodkeccmaaDoor
