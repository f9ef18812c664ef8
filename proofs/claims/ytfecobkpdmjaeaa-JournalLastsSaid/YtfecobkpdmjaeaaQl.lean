/-
  The walk of Append.
-/
import Derived.Test.YtfecobkpdmjaeaaQj
namespace Go.Proofs.Ytfecobkpdmjaeaa
open Go.RowKit
set_option linter.unusedVariables false
set_option linter.unusedSimpArgs false
set_option maxRecDepth 20000
/-- What is written of a record. -/
def wrs (A : Dm.A) (next : Nat) (r : List Int) (life i : Nat) : Dm.A := (List.range i).foldl (fun A k => Dm.write A (next + k) (Jl.block r k life)) A
theorem wrs_zero (A : Dm.A) (next : Nat) (r : List Int) (life : Nat) : wrs A next r life 0 = A := rfl
theorem wrs_succ (A : Dm.A) (next : Nat) (r : List Int) (life i : Nat) : wrs A next r life (i + 1) = Dm.write (wrs A next r life i) (next + i) (Jl.block r i life) := by
  unfold wrs; rw [List.range_succ, List.foldl_append]; rfl
theorem wrs_down (A : Dm.A) (next : Nat) (r : List Int) (life i : Nat) : (wrs A next r life i).down = A.down := by
  induction i with
  | zero => rfl
  | succ i ih => rw [wrs_succ]; exact ih
theorem blk_is (r : List Int) (i l : Nat) : blk1 ((r.drop (44 * i)).take 44) (if (r.drop (44 * i)).length ≤ 44 then 1 else 0) l = Jl.block r i l := by
  rw [blk1_block]
  have e : Jl.isLast r i = if (r.drop (44 * i)).length ≤ 44 then 1 else 0 := by
    unfold Jl.isLast
    rw [List.length_drop]
    by_cases h : r.length ≤ 44 * i + 44
    · rw [if_pos h, if_pos (by omega)]
    · rw [if_neg h, if_neg (by omega)]
  rw [e]
  rfl
section
variable {w : World} {B j p bb mb N : Nat} {v : Value} {next room life : Nat} {L : List (List Int)} {A : Dm.A} {S : Nat → Prop} {a : Option Addr} {n c : Nat} {r : List Int}
theorem jAppend_nil : Calls Try.prog 15 #[.pointer none, .slice a n c] w fun e w' => e = .returned (.int .i64 1) ∧ w = w' := by
  go_enter Try.func15, Try.ntmps15
  go_wp2
  go_ret
  exact ⟨rfl, rfl⟩
theorem jAppend_rec (h : n = 0 ∨ 2000 < n) : Calls Try.prog 15 #[.pointer (some ⟨j, 0, none⟩), .slice a n c] w fun e w' => e = .returned (.int .i64 71) ∧ w = w' := by
  by_cases h0 : n = 0
  · subst h0
    clear h
    go_enter Try.func15, Try.ntmps15
    go_wp2
    go_ret
    exact ⟨rfl, rfl⟩
  · have h1 : (2000 : Int) < (n : Int) := by omega
    have h2 : ((n : Int) == 0) = false := by simp; omega
    clear h h0
    go_enter Try.func15, Try.ntmps15
    go_wp2
    go_ret
    exact ⟨rfl, rfl⟩
theorem jAppend_full (h : Jr w B j p v next room life L) (h0 : 0 < n) (h1 : n ≤ 2000) (hf : room < (n + 43) / 44) : Calls Try.prog 15 #[.pointer (some ⟨j, 0, none⟩), .slice a n c] w fun e w' => e = .returned (.int .i64 70) ∧ w = w' := by
  have c2 := h.c2
  obtain ⟨M, hM⟩ : ∃ M, (n + 43) / 44 = M := ⟨_, rfl⟩
  rw [hM] at hf
  have h2 : ((n : Int) == 0) = false := by simp; omega
  have h3 : ¬ (2000 : Int) < (n : Int) := by omega
  have h4 : ((n : Int) + 44 - 1) / 44 = (M : Int) := by omega
  have h5 : (room : Int) < (M : Int) := by omega
  clear h h0 hM hf
  go_enter Try.func15, Try.ntmps15
  go_wp2
  go_ret
  exact ⟨rfl, rfl⟩
theorem own_form {w : World} {base e size n : Nat} {v : Value} {xs : List Value} (h : w.ownsRow base e size v n xs) : ∃ q cap, v = .slice q n cap := by
  rcases h.2 with ⟨rfl, h0⟩ | ⟨g', cap, _, rfl, _⟩
  · exact ⟨_, _, by rw [h0]⟩
  · exact ⟨_, _, rfl⟩
/-- Appending, up to the loop. -/
structure Un (w : World) (W : World) (B j p bb mb N : Nat) (v : Value) (next room life : Nat) (L : List (List Int)) (A : Dm.A) (S : Nat → Prop) (n : Nat) (r : List Int) (qp ql i : Nat) : Prop where
  dk : Dk w p bb mb (wrs A next r life i) N
  rest : ∃ a' c', Whole w qp 37 #[.slice a' (n - 44 * i) c'] ∧ Txt w S a' (n - 44 * i) c' (r.drop (44 * i))
  life : Whole w ql 2 #[.int .i64 (life : Int)]
  only : Only [p, bb, mb] W w
theorem Only.more {S T : List Nat} {a b c : World} (h : Only S a b) (k : Only T b c) (ht : ∀ x ∈ T, x ∈ S ∨ a.heap.size ≤ x) : Only S a c :=
  ⟨k.os.trans h.os, k.tape.trans h.tape, k.output.trans h.output, Nat.le_trans h.size k.size, fun i hi hn => (k.block i (Nat.lt_of_lt_of_le hi h.size) (fun hit => by rcases ht i hit with h1 | h1; exact hn h1; omega)).trans (h.block i hi hn)⟩
theorem blk_byt {r : List Int} (i l : Nat) (h : Byt r) : Blk (Jl.block r i l) := ⟨Jl.block_len r i l, Jl.block_bytes i l h⟩
set_option maxHeartbeats 8000000 in
theorem jAppend_ok (h : Jr w B j p v next room life L) (hd : Dk w p bb mb A N) (hB : bb < B) (hup : A.down = false) (ht : Txt w S a n c r) (hS : ∀ b, S b → b < w.heap.size ∧ b ≠ p ∧ b ≠ bb ∧ b ≠ mb ∧ b ≠ j) (h0 : 0 < n) (h1 : n ≤ 2000) (hf : Jl.need r ≤ room) (hN : next + room ≤ N) (hsh : Short L) (hlf : life ≤ 9223372036854775807) (hBy : B ≤ w.heap.size) :
    Calls Try.prog 15 #[.pointer (some ⟨j, 0, none⟩), .slice a n c] w fun e w' => ∃ v', e = .returned (.int .i64 0) ∧ Jr w' B j p v' (next + Jl.need r) (room - Jl.need r) life (L ++ [r]) ∧ Dk w' p bb mb (wrs A next r life (Jl.need r)) N ∧ Only [p, bb, mb, j] w w' ∧ (∀ g, v'.ownBlock = some g → w.heap.size ≤ g) := by
  have c2 := h.c2
  have c3 := h.c3
  have hsm := hd.ok.small
  have hrn := ht.1
  obtain ⟨M, hM⟩ : ∃ M, Jl.need r = M := ⟨_, rfl⟩
  have hMn : M = (n + 43) / 44 := by rw [← hM, ← hrn]; rfl
  rw [hM] at hf
  have h2 : ((n : Int) == 0) = false := by simp; omega
  have h3 : ¬ (2000 : Int) < (n : Int) := by omega
  have h4 : ((n : Int) + 44 - 1) / 44 = (M : Int) := by omega
  have h5 : ¬ (room : Int) < (M : Int) := by omega
  have HH := Lib.hid (And.intro h (And.intro hd (And.intro hB (And.intro hup (And.intro ht (And.intro hS (And.intro hsh (And.intro hBy (And.intro hrn hMn)))))))))
  have HM := Lib.hid hM
  clear h hd hB hup ht hS hsh hBy hrn hMn hM
  go_enter Try.func15, Try.ntmps15
  go_wp2_with fail
  refine blocksOf_any.mono ?_
  rintro e w1 ⟨rfl, hw1⟩
  have H1 : Hid (Un w1 w B j p bb mb N v next room life L A S n r (w.heap.size + 1) w.heap.size 0) := Lib.hid (by
    have hb : Below w.heap.size w w1 := by rw [hw1]; exact (below_alloc _ _).alloc (by simp) _
    refine ⟨HH.out.2.1.old hb, ⟨a, c, ?_, ?_⟩, ?_, Only.of_below hb⟩
    · rw [hw1]
      have := Whole.new (w.alloc (.cells #[.int .i64 (life : Int)] 2)) 37 #[.slice a n c]
      rw [size_alloc] at this
      exact this
    · rw [Nat.mul_zero, Nat.sub_zero, List.drop_zero]
      exact HH.out.2.2.2.2.1.keep hb.size (fun b hb' _ => hb.block b hb')
    · rw [hw1]; exact (Whole.new _ _ _).alloc _)
  obtain ⟨Q, hQ⟩ : ∃ Q, w.heap.size = Q := ⟨_, rfl⟩
  rw [hQ] at H1 ⊢
  have HQ := Lib.hid hQ
  clear hw1 hQ c2 c3 h2 h3 h4
  go_wp2
  go_loopw [37] (fun vi wr => ∃ i : Nat, i ≤ M ∧ vi = .int .i64 (i : Int) ∧ Hid (Un wr w B j p bb mb N v next room life L A S n r (Q + 1) Q i)) (fun vi _ => M - (intOf vi).toNat)
  case atStart => exact ⟨0, Nat.zero_le _, rfl, H1⟩
  case round =>
    clear H1
    obtain ⟨i, hi, rfl, HB⟩ := hrel
    by_cases hlt : i < M
    · have q1 : (i : Int) < (M : Int) := by omega
      have hjr := HH.out.1.only HH.out.2.1 HH.out.2.2.1 HB.out.only
      have cj : wr.cell? ⟨j, 0, none⟩ = some (.pointer (some ⟨p, 0, none⟩)) ∧ wr.cell? ⟨j, 1, none⟩ = some (.int .i64 (next : Int)) := ⟨hjr.c0, hjr.c1⟩
      obtain ⟨a1, cc1, hq1, ht1⟩ := HB.out.rest
      have HR := Lib.hid (And.intro hq1 ht1)
      have hsum : IntKind.i64.wrap ((next : Int) + (i : Int)) = (next : Int) + (i : Int) := IntWalk.i64_in _ (by omega)
      clear hq1 ht1 hjr
      go_upto_region 12 with fail
      refine wp_region_held_drew (S := fun w' => w'.cell? ⟨j, 0, none⟩ = some (.pointer (some ⟨p, 0, none⟩)) ∧ w'.cell? ⟨j, 1, none⟩ = some (.int .i64 (next : Int))) (by kernel_rfl) cj (fun hHeld => ?_)
      refine wpAnyH_take (i := 0) (v := .pointer (some ⟨j, 0, none⟩)) rfl (by kernel_rfl) (by kernel_rfl) (by kernel_rfl) (fun _ _ _ h => h) (Or.inl ⟨by rfl, (by intro w hSw; (try dsimp only at hSw); go_simp)⟩) (by assumption) ?_
      try simp only [Act.put, List.getElem_toArray, List.getElem_cons_zero, List.getElem_cons_succ, List.setIfInBounds_toArray, List.set_cons_zero, List.set_cons_succ]
      refine wpAnyH_take (i := 1) (v := .pointer (some ⟨j, 0, none⟩)) rfl (by kernel_rfl) (by kernel_rfl) (by kernel_rfl) (fun _ _ _ h => h) (Or.inl ⟨by rfl, (by intro w hSw; (try dsimp only at hSw); go_simp)⟩) (by assumption) ?_
      try simp only [Act.put, List.getElem_toArray, List.getElem_cons_zero, List.getElem_cons_succ, List.setIfInBounds_toArray, List.set_cons_zero, List.set_cons_succ]
      refine wpAnyH_take (i := 2) (v := .pointer (some ⟨j, 0, none⟩)) rfl (by kernel_rfl) (by kernel_rfl) (by kernel_rfl) (fun _ _ _ h => h) (Or.inl ⟨by rfl, (by intro w hSw; (try dsimp only at hSw); go_simp)⟩) (by assumption) ?_
      try simp only [Act.put, List.getElem_toArray, List.getElem_cons_zero, List.getElem_cons_succ, List.setIfInBounds_toArray, List.set_cons_zero, List.set_cons_succ]
      refine wpAnyH_take (i := 3) (v := .pointer (some ⟨p, 0, none⟩)) rfl (by kernel_rfl) (by kernel_rfl) (by kernel_rfl) (fun _ _ _ h => h) (Or.inl ⟨by rfl, (by intro w hSw; (try dsimp only at hSw); go_simp)⟩) (by assumption) ?_
      try simp only [Act.put, List.getElem_toArray, List.getElem_cons_zero, List.getElem_cons_succ, List.setIfInBounds_toArray, List.set_cons_zero, List.set_cons_succ]
      refine wpAnyH_take (i := 4) (v := .pointer (some ⟨j, 0, none⟩)) rfl (by kernel_rfl) (by kernel_rfl) (by kernel_rfl) (fun _ _ _ h => h) (Or.inl ⟨by rfl, (by intro w hSw; (try dsimp only at hSw); go_simp)⟩) (by assumption) ?_
      try simp only [Act.put, List.getElem_toArray, List.getElem_cons_zero, List.getElem_cons_succ, List.setIfInBounds_toArray, List.set_cons_zero, List.set_cons_succ]
      refine wpAnyH_take (i := 5) (v := .pointer (some ⟨j, 0, none⟩)) rfl (by kernel_rfl) (by kernel_rfl) (by kernel_rfl) (fun _ _ _ h => h) (Or.inl ⟨by rfl, (by intro w hSw; (try dsimp only at hSw); go_simp)⟩) (by assumption) ?_
      try simp only [Act.put, List.getElem_toArray, List.getElem_cons_zero, List.getElem_cons_succ, List.setIfInBounds_toArray, List.set_cons_zero, List.set_cons_succ]
      refine wpAnyH_take (i := 6) (v := .pointer (some ⟨j, 1, none⟩)) rfl (by kernel_rfl) (by kernel_rfl) (by kernel_rfl) (fun _ _ _ h => h) (Or.inl ⟨by rfl, (by intro w hSw; (try dsimp only at hSw); go_simp)⟩) (by assumption) ?_
      try simp only [Act.put, List.getElem_toArray, List.getElem_cons_zero, List.getElem_cons_succ, List.setIfInBounds_toArray, List.set_cons_zero, List.set_cons_succ]
      refine wpAnyH_take (i := 7) (v := .int .i64 (next : Int)) rfl (by kernel_rfl) (by kernel_rfl) (by kernel_rfl) (fun _ _ _ h => h) (Or.inl ⟨by rfl, (by intro w hSw; (try dsimp only at hSw); go_simp)⟩) (by assumption) ?_
      try simp only [Act.put, List.getElem_toArray, List.getElem_cons_zero, List.getElem_cons_succ, List.setIfInBounds_toArray, List.set_cons_zero, List.set_cons_succ]
      refine wpAnyH_take (i := 8) (v := .int .i64 (i : Int)) rfl (by kernel_rfl) (by kernel_rfl) (by kernel_rfl) (fun _ _ _ h => h) (Or.inl ⟨by rfl, (by intro w hSw; (try dsimp only at hSw); go_simp)⟩) (by assumption) ?_
      try simp only [Act.put, List.getElem_toArray, List.getElem_cons_zero, List.getElem_cons_succ, List.setIfInBounds_toArray, List.set_cons_zero, List.set_cons_succ]
      refine wpAnyH_take (i := 9) (v := .int .i64 ((next : Int) + (i : Int))) rfl (by kernel_rfl) (by kernel_rfl) (by kernel_rfl) (fun _ _ _ h => h) (Or.inl ⟨by rfl, (by intro w hSw; (try dsimp only at hSw); go_simp)⟩) (by assumption) ?_
      try simp only [Act.put, List.getElem_toArray, List.getElem_cons_zero, List.getElem_cons_succ, List.setIfInBounds_toArray, List.set_cons_zero, List.set_cons_succ]
      refine wpAnyH_take (i := 10) (v := .func (Fn.func 55) #[] #[.pointer (some ⟨Q + 1, 0, none⟩), .pointer (some ⟨Q, 0, none⟩)]) rfl (by kernel_rfl) (by kernel_rfl) (by kernel_rfl) (fun _ _ _ h => h) (Or.inl ⟨by rfl, (by intro w hSw; (try dsimp only at hSw); go_simp)⟩) (by assumption) ?_
      try simp only [Act.put, List.getElem_toArray, List.getElem_cons_zero, List.getElem_cons_succ, List.setIfInBounds_toArray, List.set_cons_zero, List.set_cons_succ]
      clear hsum
      refine wpAnyH_ready (rs := [11]) (by kernel_rfl) (by simp) (AllReadyH.cons rfl (fun K hK => ?_) AllReadyH.nil)
      try simp only [List.getElem_toArray, List.getElem_cons_zero, List.getElem_cons_succ]
      go_simp
      have hQ : w.heap.size = Q := HQ.out
      have hws : Q ≤ wr.heap.size := by have := HB.out.only.size; omega
      refine (hand_any (w := wr.drew) (HR.out.1.keep rfl) (HB.out.life.keep rfl) (by omega) (HR.out.2.keep (Nat.le_refl _) (fun _ _ _ => rfl)) (fun b hb => ⟨by have := (HH.out.2.2.2.2.2.1 b hb).1; omega, by have := (HH.out.2.2.2.2.2.1 b hb).1; show b < wr.heap.size; omega⟩) hlf (by unfold maxLen; omega)).mono ?_
      rintro e w3 ⟨rfl, ⟨a3, c3, hq3, ht3⟩, ho3⟩
      rw [blk_is]
      have H3 : Hid (Dk w3 p bb mb (wrs A next r life i) N ∧ (∃ a' c', Whole w3 (Q + 1) 37 #[.slice a' (n - 44 * (i + 1)) c'] ∧ Txt w3 S a' (n - 44 * (i + 1)) c' (r.drop (44 * (i + 1)))) ∧ Whole w3 Q 2 #[.int .i64 (life : Int)] ∧ Only [p, bb, mb] w w3) := Lib.hid (by
        have hne : ∀ x, x < Q → x ∉ [Q + 1] := fun x hx => by simp; omega
        have hd := HB.out.dk
        have e1 : n - 44 * i - 44 = n - 44 * (i + 1) := by omega
        have e2 : (r.drop (44 * i)).drop 44 = r.drop (44 * (i + 1)) := by rw [List.drop_drop]; congr 1
        rw [e1] at hq3 ht3
        rw [e2] at ht3
        have hp := HH.out.2.1.cells.lt
        have hbb := HH.out.2.1.bytes.lt
        have hmb := HH.out.2.1.map.lt
        refine ⟨hd.keep (ho3.block p hd.cells.lt (hne p (by omega))) (ho3.block bb hd.bytes.lt (hne bb (by omega))) (ho3.block mb hd.map.lt (hne mb (by omega))), ⟨a3, c3, hq3, ht3⟩, HB.out.life.keep (ho3.block Q HB.out.life.lt (by simp)), ?_⟩
        exact Only.more HB.out.only (c := w3) ⟨ho3.os, ho3.tape, ho3.output, ho3.size, ho3.block⟩ (fun x hx => Or.inr (by simp at hx; omega)))
      have hj3 := HH.out.1.only HH.out.2.1 HH.out.2.2.1 H3.out.2.2.2
      have cj3 : w3.cell? ⟨j, 0, none⟩ = some (.pointer (some ⟨p, 0, none⟩)) ∧ w3.cell? ⟨j, 1, none⟩ = some (.int .i64 (next : Int)) := ⟨hj3.c0, hj3.c1⟩
      obtain ⟨bk, hbk⟩ : ∃ bk, Jl.block r i life = bk := ⟨_, rfl⟩
      have HBK : Hid (Jl.block r i life = bk ∧ Blk bk) := Lib.hid ⟨hbk, by rw [← hbk]; exact blk_byt i life HH.out.2.2.2.2.1.2.2.1⟩
      rw [hbk]
      clear hq3 ht3 ho3 hj3 hbk hHeld cj hQ HR HB
      go_wp2_with fail
      refine hK.out _ _ cj3 (fun hHeld => ?_)
      clear hK K hHeld
      try simp only [Act.put, List.getElem_toArray, List.getElem_cons_zero, List.getElem_cons_succ, List.setIfInBounds_toArray, List.set_cons_zero, List.set_cons_succ]
      have hHeld := cj3
      refine wpAnyH_ready (rs := [12]) (by kernel_rfl) (by simp) (AllReadyH.cons rfl (fun K hK => ?_) AllReadyH.nil)
      try simp only [List.getElem_toArray, List.getElem_cons_zero, List.getElem_cons_succ]
      go_simp
      refine (write_at (z := (next : Int) + (i : Int)) (b := bk) H3.out.1 (by rw [wrs_down]; exact HH.out.2.2.2.1) (by omega) (by omega) HBK.out.2.1 HBK.out.2.2).mono ?_
      rintro e w4 ⟨rfl, hd4, ho4⟩
      have H4 : Hid (Un w4 w B j p bb mb N v next room life L A S n r (Q + 1) Q (i + 1)) := Lib.hid (by
        have e1 : ((next : Int) + (i : Int)).toNat = next + i := by omega
        rw [e1, ← HBK.out.1, ← wrs_succ] at hd4
        have hQ := HQ.out
        have hp := HH.out.2.1.cells.lt
        have hbb := HH.out.2.1.bytes.lt
        have hmb := HH.out.2.1.map.lt
        obtain ⟨a5, c5, hq5, ht5⟩ := H3.out.2.1
        refine ⟨hd4, ⟨a5, c5, hq5.keep (ho4.block _ hq5.lt (by simp; omega)), ht5.keep ho4.size (fun b hb hs => ho4.block b hb (by have := HH.out.2.2.2.2.2.1 b hs; simp; omega))⟩, H3.out.2.2.1.keep (ho4.block _ H3.out.2.2.1.lt (by simp; omega)), H3.out.2.2.2.trans ho4⟩)
      have hj4 := HH.out.1.only HH.out.2.1 HH.out.2.2.1 H4.out.only
      have cj4 : w4.cell? ⟨j, 0, none⟩ = some (.pointer (some ⟨p, 0, none⟩)) ∧ w4.cell? ⟨j, 1, none⟩ = some (.int .i64 (next : Int)) := ⟨hj4.c0, hj4.c1⟩
      clear hd4 ho4 hj4 hHeld cj3 H3
      go_wp2_with fail
      refine hK.out _ _ cj4 (fun hHeld => ?_)
      clear hK K hHeld
      try simp only [Act.put, List.getElem_toArray, List.getElem_cons_zero, List.getElem_cons_succ, List.setIfInBounds_toArray, List.set_cons_zero, List.set_cons_succ]
      have hHeld := cj4
      refine wpAnyH_take (i := 13) (v := .int .i64 0) rfl (by kernel_rfl) (by kernel_rfl) (by kernel_rfl) (fun _ _ _ h => h) (Or.inl ⟨by rfl, (by intro w hSw; (try dsimp only at hSw); go_simp)⟩) (by assumption) ?_
      try simp only [Act.put, List.getElem_toArray, List.getElem_cons_zero, List.getElem_cons_succ, List.setIfInBounds_toArray, List.set_cons_zero, List.set_cons_succ]
      refine wpAnyH_done (by kernel_rfl) ?_ _
      clear cj4 hHeld
      go_wp2
      go_roundw
      case rel => exact ⟨i + 1, by omega, by go_num, H4⟩
      case measure => simp [intOf]; omega
    · obtain rfl : i = M := by omega
      have q1 : ¬ (i : Int) < (i : Int) := by omega
      have H5 : Hid (Jr wr B j p v next room life L ∧ Dk wr p bb mb (wrs A next r life i) N ∧ Only [p, bb, mb] w wr ∧ Txt wr S a n c r) := Lib.hid ⟨HH.out.1.only HH.out.2.1 HH.out.2.2.1 HB.out.only, HB.out.dk, HB.out.only, HH.out.2.2.2.2.1.keep HB.out.only.size (fun b hb hs => HB.out.only.block b hb (by have := HH.out.2.2.2.2.2.1 b hs; simp; omega))⟩
      clear HB
      have c1 := H5.out.1.c1
      have c2 := H5.out.1.c2
      have c4 := H5.out.1.c4
      have f1 := H5.out.1.cells.frozen 1
      have f2 := H5.out.1.cells.frozen 2
      have f4 := H5.out.1.cells.frozen 4
      go_upto_region 18 with fail
      obtain ⟨q, cp, rfl⟩ := H5.out.1.recs.form
      obtain ⟨N0, hN0⟩ : ∃ N0, L.length = N0 := ⟨_, rfl⟩
      obtain ⟨w5, hw5⟩ : ∃ w5, (wr.setCell ⟨j, 1, none⟩ (.int .i64 ((next : Int) + (i : Int)))).setCell ⟨j, 2, none⟩ (.int .i64 ((room : Int) - (i : Int))) = w5 := ⟨_, rfl⟩
      have H6 : Hid (Whole w5 j 74 #[.pointer (some ⟨p, 0, none⟩), .int .i64 ((next : Int) + (i : Int)), .int .i64 ((room : Int) - (i : Int)), .int .i64 (life : Int), .slice q L.length cp] ∧ Recs w5 B (.slice q L.length cp) L ∧ Dk w5 p bb mb (wrs A next r life i) N ∧ Only [p, bb, mb, j] w w5 ∧ Txt w5 S a n c r) := Lib.hid (by
        have ho : Only [j] wr w5 := by rw [← hw5]; exact (only_set _ _ _ _).trans (only_set _ _ _ _)
        have hj := H5.out.1.cells
        have ht := fun {g : Nat} {cur : Array Value} {t : TypeId} (h : wr.heap[g]? = some (.cells cur t (0, 0))) (hne : t ≠ 74) => show g ∉ [j] from by
          simp only [List.mem_cons, List.not_mem_nil, or_false]
          intro e
          subst e
          unfold Whole at hj
          rw [hj] at h
          injection h with h3
          injection h3 with _ h4
          exact hne h4.symm
        obtain ⟨d1, d2, d3⟩ := dk_types H5.out.2.1 hj
        refine ⟨?_, H5.out.1.recs.keep (fun g cur t _ htt hc => ho.block g (Array.getElem?_eq_some_iff.1 hc).1 (ht hc (by rcases htt with rfl | rfl <;> decide))), H5.out.2.1.keep (ho.block p H5.out.2.1.cells.lt (by simp; exact fun e => d1 (by decide) e.symm)) (ho.block bb H5.out.2.1.bytes.lt (by simp; exact fun e => d2 (by decide) e.symm)) (ho.block mb H5.out.2.1.map.lt (by simp; exact fun e => d3 e.symm)), ?_, H5.out.2.2.2.keep ho.size (fun b hb hs => ho.block b hb (by have := HH.out.2.2.2.2.2.1 b hs; simp; omega))⟩
        · rw [← hw5]
          exact (hj.set 1 _).set 2 _
        · exact ⟨ho.os.trans H5.out.2.2.1.os, ho.tape.trans H5.out.2.2.1.tape, ho.output.trans H5.out.2.2.1.output, Nat.le_trans H5.out.2.2.1.size ho.size, fun x hx hn => by
            simp only [List.mem_cons, List.not_mem_nil, or_false, not_or] at hn
            exact (ho.block x (Nat.lt_of_lt_of_le hx H5.out.2.2.1.size) (by simp; exact hn.2.2.2)).trans (H5.out.2.2.1.block x hx (by simp; exact ⟨hn.1, hn.2.1, hn.2.2.1⟩))⟩)
      rw [hw5]
      clear hw5 H5 c1 c2 c4 f1 f2 f4
      have hcl : L.length ≤ cp ∧ cp ≤ maxLen ∧ (q = none → cp = 0) := by
        obtain ⟨vs, hv, _⟩ := H6.out.2.1
        rcases hv.2 with ⟨e, h0⟩ | ⟨g, cap, cur, e, _, _, h3, h4, _⟩
        · injection e with e1 e2 e3
          exact ⟨by omega, by omega, fun _ => e3⟩
        · injection e with e1 e2 e3
          subst e3
          exact ⟨h3, h4, fun e => by rw [e1] at e; cases e⟩
      have c4 : w5.cell? ⟨j, 4, none⟩ = some (.slice q L.length cp) := H6.out.1.cell 4
      have HCL := Lib.hid hcl
      clear hcl
      rw [hN0] at c4 H6
      rw [hN0] at HCL
      have HN0 := Lib.hid hN0
      clear hN0
      go_wp2_with (first | (go_at_call 40; refine (clip_any HCL.out.1 HCL.out.2.1 HCL.out.2.2).mono ?_; rintro e w6 ⟨rfl, rfl⟩) | fail)
      refine (clone_any H6.out.2.2.2.2 (by omega)).mono ?_
      rintro e w6 ⟨u, rfl, hu6, hb6⟩
      obtain ⟨ua, uc, rfl, _, _⟩ := hu6.form
      have hb7 : Below w5.heap.size w5 (w6.alloc (.cells #[.slice ua r.length uc] 37)) := hb6.alloc hb6.size _
      have hr7 : RowU (w6.alloc (.cells #[.slice ua r.length uc] 37)) B (.slice ua r.length uc) r := (hu6.below (below_alloc _ _)).base (by have := H6.out.2.2.2.1.size; have := HH.out.2.2.2.2.2.2.2.1; omega)
      obtain ⟨vs, hv1, hv2⟩ := H6.out.2.1.below hb7
      have hvl : vs.length = N0 * 1 := by rw [hv1.1, HN0.out]
      have hcells : ∀ b, q = some b → ∀ j u, vs[j]? = some u → (w6.alloc (.cells #[.slice ua r.length uc] 37)).cell? (b.add j) = some u := by
        rcases hv1.2 with ⟨e, _⟩ | ⟨g, cap, cur, e, _⟩
        · injection e with e1 _ _
          subst e1
          intro b hb; cases hb
        · injection e with e1 e2 e3
          subst e1
          intro b hb j u hu
          injection hb with hb
          subst hb
          exact hv1.cells rfl j u hu
      have hN01 : N0 ≤ 100000 := by have := HH.out.2.2.2.2.2.2.1.1; have := HN0.out; omega
      obtain ⟨is, hs1, hs2, hs3, hs4⟩ := info_parts sl_info
      have HV := Lib.hid (And.intro hb7 (And.intro hr7 (And.intro hv1 (And.intro hv2 (And.intro hvl (And.intro hcells (And.intro hs1 (And.intro hs2 (And.intro hs3 hs4)))))))))
      clear hu6 hb6 hb7 hr7 hv1 hv2 hvl hcells hs1 hs2 hs3 hs4 c4
      go_wp2_with (first | (at_builtin; refine wpList_append_grows _ rfl (.tmp 78) (.tmp 81) 48 rfl 37 is (.slice none 0 0) 1 24 Try.underlying48 HV.out.2.2.2.2.2.2.1 HV.out.2.2.2.2.2.2.2.1 HV.out.2.2.2.2.2.2.2.2.1 HV.out.2.2.2.2.2.2.2.2.2 rfl (by omega) q N0 N0 vs rfl (fun e => by have := HCL.out.2.2 e; have := HCL.out.1; omega) HV.out.2.2.2.2.1 HV.out.2.2.2.2.2.1 ⟨w6.heap.size, 0, none⟩ 1 1 [.slice ua r.length uc] rfl rfl (fun j u hu => by rw [Addr.add_lit, Nat.zero_add, (Whole.new w6 _ _).cell, List.getElem?_toArray]; exact hu) (by intro t ht; simp at ht; rw [ht]; rfl) (by omega) (by unfold maxLen; omega) (by omega) ?_; intro v8 w8 ho8 hg8; obtain ⟨q8, p8, rfl⟩ := own_form ho8; have hj8 := (H6.out.1.below HV.out.1 H6.out.1.lt).grown hg8 (by simp); have c48 : w8.cell? ⟨j, 4, none⟩ = some (.slice q N0 cp) := hj8.cell 4; have f48 := hj8.frozen 4) | fail)
      go_ret
      refine ⟨.slice q8 (N0 + 1) p8, rfl, ⟨?_, ?_⟩, ?_, ?_, fun g hg => by have h1 := (row_block ho8 hg).choose_spec.1; have h2 := HV.out.1.size; have h3 := H6.out.2.2.2.1.size; omega⟩
      · rw [HM.out]
        have := hj8.set 4 (.slice q8 (N0 + 1) p8)
        have e1 : ((next + i : Nat) : Int) = (next : Int) + (i : Int) := by omega
        have e2 : ((room - i : Nat) : Int) = (room : Int) - (i : Int) := by omega
        rw [e1, e2]
        exact this
      · have hg8' : (w6.alloc (.cells #[.slice ua r.length uc] 37)).grownBy w8 (Value.slice q N0 cp).ownBlock := ⟨hg8.os, hg8.tape, hg8.output, hg8.size, fun k hk _ => hg8.block k hk (by simp)⟩
        have hbs := HV.out.1.size
        have hsz := H6.out.2.2.2.1.size
        have hBy := HH.out.2.2.2.2.2.2.2.1
        have ho9 := own_base (b2 := B) ho8 (by omega)
        have hv := HV.out.2.2.1
        rw [← HN0.out] at ho9
        have hR := Recs.more HV.out.2.2.2.1 hv HV.out.2.1 ho9 hg8'
        rw [HN0.out] at hR
        exact hR.keep fun g cur t _ htt hc => Below.heap_setCell w8 ⟨j, 4, none⟩ _ g (fun e => by
          have e' : g = j := e
          subst e'
          unfold Whole at hj8
          rw [hj8] at hc
          injection hc with h3
          injection h3 with _ h4
          rcases htt with rfl | rfl <;> exact absurd h4 (by decide))
      · rw [HM.out]
        have hd8 := (H6.out.2.2.1.old HV.out.1)
        have hd9 : Dk w8 p bb mb (wrs A next r life i) N := hd8.keep (hg8.block p hd8.cells.lt (by simp)) (hg8.block bb hd8.bytes.lt (by simp)) (hg8.block mb hd8.map.lt (by simp))
        obtain ⟨d1, d2, d3⟩ := dk_types hd9 hj8
        exact hd9.keep (Below.heap_setCell w8 ⟨j, 4, none⟩ _ p (fun e => d1 (by decide) e.symm)) (Below.heap_setCell w8 ⟨j, 4, none⟩ _ bb (fun e => d2 (by decide) e.symm)) (Below.heap_setCell w8 ⟨j, 4, none⟩ _ mb (fun e => d3 e.symm))
      · have h1 := H6.out.2.2.2.1
        have h2 : Only [p, bb, mb, j] w5 (w6.alloc (.cells #[.slice ua r.length uc] 37)) := Only.of_below HV.out.1
        have h3 : Only [p, bb, mb, j] (w6.alloc (.cells #[.slice ua r.length uc] 37)) w8 := ⟨hg8.os, hg8.tape, hg8.output, hg8.size, fun k hk _ => hg8.block k hk (by simp)⟩
        have h4 := only_set w8 j 4 (.slice q8 (N0 + 1) p8)
        have h5 : Only [p, bb, mb, j] w8 (w8.setCell ⟨j, 4, none⟩ (.slice q8 (N0 + 1) p8)) := ⟨h4.os, h4.tape, h4.output, h4.size, fun k hk hn => h4.block k hk (by simp at hn ⊢; exact hn.2.2.2)⟩
        exact (h1.trans h2).trans (h3.trans h5)
end
end Go.Proofs.Ytfecobkpdmjaeaa
