/-
  The journal's Append on a disk that is down.
-/
import Derived.Test.YtfecobkpdmjaeaaQl
namespace Go.Proofs.Ytfecobkpdmjaeaa
open Go.RowKit
set_option linter.unusedVariables false
set_option linter.unusedSimpArgs false
set_option maxRecDepth 20000
section
variable {w : World} {B j p bb mb N : Nat} {v : Value} {next room life : Nat} {L : List (List Int)} {A : Dm.A} {S : Nat → Prop} {a : Option Addr} {n c : Nat} {r : List Int}
set_option maxHeartbeats 8000000 in
theorem jAppend_down (h : Jr w B j p v next room life L) (hd : Dk w p bb mb A N) (hB : bb < B) (hup : A.down = true) (ht : Txt w S a n c r) (hS : ∀ b, S b → b < w.heap.size ∧ b ≠ p ∧ b ≠ bb ∧ b ≠ mb ∧ b ≠ j) (h0 : 0 < n) (h1 : n ≤ 2000) (hf : Jl.need r ≤ room) (hN : next + room ≤ N) (hsh : Short L) (hlf : life ≤ 9223372036854775807) (hBy : B ≤ w.heap.size) :
    Calls Try.prog 15 #[.pointer (some ⟨j, 0, none⟩), .slice a n c] w fun e w' => e = .returned (.int .i64 60) ∧ Jr w' B j p v next room life L ∧ Dk w' p bb mb A N ∧ Only [p, bb, mb] w w' := by
  have c2 := h.c2
  have c3 := h.c3
  have hsm := hd.ok.small
  have hrn := ht.1
  obtain ⟨M, hM⟩ : ∃ M, Jl.need r = M := ⟨_, rfl⟩
  have hMn : M = (n + 43) / 44 := by rw [← hM, ← hrn]; rfl
  rw [hM] at hf
  have HM0 : Hid (0 < M) := Lib.hid (by omega)
  have h2 : ((n : Int) == 0) = false := by simp; omega
  have h3 : ¬ (2000 : Int) < (n : Int) := by omega
  have h4 : ((n : Int) + 44 - 1) / 44 = (M : Int) := by omega
  have h5 : ¬ (room : Int) < (M : Int) := by omega
  have HH := Lib.hid (And.intro h (And.intro hd (And.intro hB (And.intro hup (And.intro ht (And.intro hS (And.intro hsh (And.intro hBy (And.intro hrn hMn)))))))))
  have HM := Lib.hid hM
  clear h hd hB hup ht hS hsh hBy hrn hMn hM
  go_enter Try.func15, Try.ntmps15
  go_wp2_with fail
  refine blocksOf_any.mono ?_
  rintro e w1 ⟨rfl, hw1⟩
  have H1 : Hid (Un w1 w B j p bb mb N v next room life L A S n r (w.heap.size + 1) w.heap.size 0) := Lib.hid (by
    have hb : Below w.heap.size w w1 := by rw [hw1]; exact (below_alloc _ _).alloc (by simp) _
    refine ⟨HH.out.2.1.old hb, ⟨a, c, ?_, ?_⟩, ?_, Only.of_below hb⟩
    · rw [hw1]
      have := Whole.new (w.alloc (.cells #[.int .i64 (life : Int)] 2)) 37 #[.slice a n c]
      rw [size_alloc] at this
      exact this
    · rw [Nat.mul_zero, Nat.sub_zero, List.drop_zero]
      exact HH.out.2.2.2.2.1.keep hb.size (fun b hb' _ => hb.block b hb')
    · rw [hw1]; exact (Whole.new _ _ _).alloc _)
  obtain ⟨Q, hQ⟩ : ∃ Q, w.heap.size = Q := ⟨_, rfl⟩
  rw [hQ] at H1 ⊢
  have HQ := Lib.hid hQ
  clear hw1 hQ c2 c3 h2 h3 h4
  go_wp2
  go_loopw [37] (fun vi wr => ∃ i : Nat, i = 0 ∧ vi = .int .i64 (i : Int) ∧ Hid (Un wr w B j p bb mb N v next room life L A S n r (Q + 1) Q i)) (fun vi _ => M - (intOf vi).toNat)
  case atStart => exact ⟨0, rfl, rfl, H1⟩
  case round =>
    clear H1
    obtain ⟨i, hi0, rfl, HB⟩ := hrel
    have HI := Lib.hid hi0
    have hi1 : i ≤ 1 := by omega
    clear hi0
    by_cases hlt : i < M
    · have q1 : (i : Int) < (M : Int) := by omega
      have hjr := HH.out.1.only HH.out.2.1 HH.out.2.2.1 HB.out.only
      have cj : wr.cell? ⟨j, 0, none⟩ = some (.pointer (some ⟨p, 0, none⟩)) ∧ wr.cell? ⟨j, 1, none⟩ = some (.int .i64 (next : Int)) := ⟨hjr.c0, hjr.c1⟩
      obtain ⟨a1, cc1, hq1, ht1⟩ := HB.out.rest
      have HR := Lib.hid (And.intro hq1 ht1)
      have hsum : IntKind.i64.wrap ((next : Int) + (i : Int)) = (next : Int) + (i : Int) := IntWalk.i64_in _ (by omega)
      clear hq1 ht1 hjr
      go_upto_region 12 with fail
      refine wp_region_held_drew (S := fun w' => w'.cell? ⟨j, 0, none⟩ = some (.pointer (some ⟨p, 0, none⟩)) ∧ w'.cell? ⟨j, 1, none⟩ = some (.int .i64 (next : Int))) (by kernel_rfl) cj (fun hHeld => ?_)
      refine wpAnyH_take (i := 0) (v := .pointer (some ⟨j, 0, none⟩)) rfl (by kernel_rfl) (by kernel_rfl) (by kernel_rfl) (fun _ _ _ h => h) (Or.inl ⟨by rfl, (by intro w hSw; (try dsimp only at hSw); go_simp)⟩) (by assumption) ?_
      try simp only [Act.put, List.getElem_toArray, List.getElem_cons_zero, List.getElem_cons_succ, List.setIfInBounds_toArray, List.set_cons_zero, List.set_cons_succ]
      refine wpAnyH_take (i := 1) (v := .pointer (some ⟨j, 0, none⟩)) rfl (by kernel_rfl) (by kernel_rfl) (by kernel_rfl) (fun _ _ _ h => h) (Or.inl ⟨by rfl, (by intro w hSw; (try dsimp only at hSw); go_simp)⟩) (by assumption) ?_
      try simp only [Act.put, List.getElem_toArray, List.getElem_cons_zero, List.getElem_cons_succ, List.setIfInBounds_toArray, List.set_cons_zero, List.set_cons_succ]
      refine wpAnyH_take (i := 2) (v := .pointer (some ⟨j, 0, none⟩)) rfl (by kernel_rfl) (by kernel_rfl) (by kernel_rfl) (fun _ _ _ h => h) (Or.inl ⟨by rfl, (by intro w hSw; (try dsimp only at hSw); go_simp)⟩) (by assumption) ?_
      try simp only [Act.put, List.getElem_toArray, List.getElem_cons_zero, List.getElem_cons_succ, List.setIfInBounds_toArray, List.set_cons_zero, List.set_cons_succ]
      refine wpAnyH_take (i := 3) (v := .pointer (some ⟨p, 0, none⟩)) rfl (by kernel_rfl) (by kernel_rfl) (by kernel_rfl) (fun _ _ _ h => h) (Or.inl ⟨by rfl, (by intro w hSw; (try dsimp only at hSw); go_simp)⟩) (by assumption) ?_
      try simp only [Act.put, List.getElem_toArray, List.getElem_cons_zero, List.getElem_cons_succ, List.setIfInBounds_toArray, List.set_cons_zero, List.set_cons_succ]
      refine wpAnyH_take (i := 4) (v := .pointer (some ⟨j, 0, none⟩)) rfl (by kernel_rfl) (by kernel_rfl) (by kernel_rfl) (fun _ _ _ h => h) (Or.inl ⟨by rfl, (by intro w hSw; (try dsimp only at hSw); go_simp)⟩) (by assumption) ?_
      try simp only [Act.put, List.getElem_toArray, List.getElem_cons_zero, List.getElem_cons_succ, List.setIfInBounds_toArray, List.set_cons_zero, List.set_cons_succ]
      refine wpAnyH_take (i := 5) (v := .pointer (some ⟨j, 0, none⟩)) rfl (by kernel_rfl) (by kernel_rfl) (by kernel_rfl) (fun _ _ _ h => h) (Or.inl ⟨by rfl, (by intro w hSw; (try dsimp only at hSw); go_simp)⟩) (by assumption) ?_
      try simp only [Act.put, List.getElem_toArray, List.getElem_cons_zero, List.getElem_cons_succ, List.setIfInBounds_toArray, List.set_cons_zero, List.set_cons_succ]
      refine wpAnyH_take (i := 6) (v := .pointer (some ⟨j, 1, none⟩)) rfl (by kernel_rfl) (by kernel_rfl) (by kernel_rfl) (fun _ _ _ h => h) (Or.inl ⟨by rfl, (by intro w hSw; (try dsimp only at hSw); go_simp)⟩) (by assumption) ?_
      try simp only [Act.put, List.getElem_toArray, List.getElem_cons_zero, List.getElem_cons_succ, List.setIfInBounds_toArray, List.set_cons_zero, List.set_cons_succ]
      refine wpAnyH_take (i := 7) (v := .int .i64 (next : Int)) rfl (by kernel_rfl) (by kernel_rfl) (by kernel_rfl) (fun _ _ _ h => h) (Or.inl ⟨by rfl, (by intro w hSw; (try dsimp only at hSw); go_simp)⟩) (by assumption) ?_
      try simp only [Act.put, List.getElem_toArray, List.getElem_cons_zero, List.getElem_cons_succ, List.setIfInBounds_toArray, List.set_cons_zero, List.set_cons_succ]
      refine wpAnyH_take (i := 8) (v := .int .i64 (i : Int)) rfl (by kernel_rfl) (by kernel_rfl) (by kernel_rfl) (fun _ _ _ h => h) (Or.inl ⟨by rfl, (by intro w hSw; (try dsimp only at hSw); go_simp)⟩) (by assumption) ?_
      try simp only [Act.put, List.getElem_toArray, List.getElem_cons_zero, List.getElem_cons_succ, List.setIfInBounds_toArray, List.set_cons_zero, List.set_cons_succ]
      refine wpAnyH_take (i := 9) (v := .int .i64 ((next : Int) + (i : Int))) rfl (by kernel_rfl) (by kernel_rfl) (by kernel_rfl) (fun _ _ _ h => h) (Or.inl ⟨by rfl, (by intro w hSw; (try dsimp only at hSw); go_simp)⟩) (by assumption) ?_
      try simp only [Act.put, List.getElem_toArray, List.getElem_cons_zero, List.getElem_cons_succ, List.setIfInBounds_toArray, List.set_cons_zero, List.set_cons_succ]
      refine wpAnyH_take (i := 10) (v := .func (Fn.func 55) #[] #[.pointer (some ⟨Q + 1, 0, none⟩), .pointer (some ⟨Q, 0, none⟩)]) rfl (by kernel_rfl) (by kernel_rfl) (by kernel_rfl) (fun _ _ _ h => h) (Or.inl ⟨by rfl, (by intro w hSw; (try dsimp only at hSw); go_simp)⟩) (by assumption) ?_
      try simp only [Act.put, List.getElem_toArray, List.getElem_cons_zero, List.getElem_cons_succ, List.setIfInBounds_toArray, List.set_cons_zero, List.set_cons_succ]
      clear hsum
      refine wpAnyH_ready (rs := [11]) (by kernel_rfl) (by simp) (AllReadyH.cons rfl (fun K hK => ?_) AllReadyH.nil)
      try simp only [List.getElem_toArray, List.getElem_cons_zero, List.getElem_cons_succ]
      go_simp
      have hQ : w.heap.size = Q := HQ.out
      have hws : Q ≤ wr.heap.size := by have := HB.out.only.size; omega
      refine (hand_any (w := wr.drew) (HR.out.1.keep rfl) (HB.out.life.keep rfl) (by omega) (HR.out.2.keep (Nat.le_refl _) (fun _ _ _ => rfl)) (fun b hb => ⟨by have := (HH.out.2.2.2.2.2.1 b hb).1; omega, by have := (HH.out.2.2.2.2.2.1 b hb).1; show b < wr.heap.size; omega⟩) hlf (by unfold maxLen; omega)).mono ?_
      rintro e w3 ⟨rfl, ⟨a3, c3, hq3, ht3⟩, ho3⟩
      rw [blk_is]
      have H3 : Hid (Dk w3 p bb mb (wrs A next r life i) N ∧ (∃ a' c', Whole w3 (Q + 1) 37 #[.slice a' (n - 44 * (i + 1)) c'] ∧ Txt w3 S a' (n - 44 * (i + 1)) c' (r.drop (44 * (i + 1)))) ∧ Whole w3 Q 2 #[.int .i64 (life : Int)] ∧ Only [p, bb, mb] w w3) := Lib.hid (by
        have hne : ∀ x, x < Q → x ∉ [Q + 1] := fun x hx => by simp; omega
        have hd := HB.out.dk
        have e1 : n - 44 * i - 44 = n - 44 * (i + 1) := by omega
        have e2 : (r.drop (44 * i)).drop 44 = r.drop (44 * (i + 1)) := by rw [List.drop_drop]; congr 1
        rw [e1] at hq3 ht3
        rw [e2] at ht3
        have hp := HH.out.2.1.cells.lt
        have hbb := HH.out.2.1.bytes.lt
        have hmb := HH.out.2.1.map.lt
        refine ⟨hd.keep (ho3.block p hd.cells.lt (hne p (by omega))) (ho3.block bb hd.bytes.lt (hne bb (by omega))) (ho3.block mb hd.map.lt (hne mb (by omega))), ⟨a3, c3, hq3, ht3⟩, HB.out.life.keep (ho3.block Q HB.out.life.lt (by simp)), ?_⟩
        exact Only.more HB.out.only (c := w3) ⟨ho3.os, ho3.tape, ho3.output, ho3.size, ho3.block⟩ (fun x hx => Or.inr (by simp at hx; omega)))
      have hj3 := HH.out.1.only HH.out.2.1 HH.out.2.2.1 H3.out.2.2.2
      have cj3 : w3.cell? ⟨j, 0, none⟩ = some (.pointer (some ⟨p, 0, none⟩)) ∧ w3.cell? ⟨j, 1, none⟩ = some (.int .i64 (next : Int)) := ⟨hj3.c0, hj3.c1⟩
      obtain ⟨bk, hbk⟩ : ∃ bk, Jl.block r i life = bk := ⟨_, rfl⟩
      have HBK : Hid (Jl.block r i life = bk ∧ Blk bk) := Lib.hid ⟨hbk, by rw [← hbk]; exact blk_byt i life HH.out.2.2.2.2.1.2.2.1⟩
      rw [hbk]
      clear hq3 ht3 ho3 hj3 hbk hHeld cj hQ HR HB
      go_wp2_with fail
      refine hK.out _ _ cj3 (fun hHeld => ?_)
      clear hK K hHeld
      try simp only [Act.put, List.getElem_toArray, List.getElem_cons_zero, List.getElem_cons_succ, List.setIfInBounds_toArray, List.set_cons_zero, List.set_cons_succ]
      have hHeld := cj3
      refine wpAnyH_ready (rs := [12]) (by kernel_rfl) (by simp) (AllReadyH.cons rfl (fun K hK => ?_) AllReadyH.nil)
      try simp only [List.getElem_toArray, List.getElem_cons_zero, List.getElem_cons_succ]
      go_simp
      have hbd : bad (wrs A next r life i) N ((next : Int) + (i : Int)) = 60 := by unfold bad; rw [wrs_down, if_pos HH.out.2.2.2.1]
      refine (write_z (z := (next : Int) + (i : Int)) (b := bk) H3.out.1 HBK.out.2.1 HBK.out.2.2).mono ?_
      rintro e w4 ⟨rfl, hd4, ho4⟩
      unfold wrz at hd4
      rw [hbd, if_neg (by decide), HI.out] at hd4
      rw [hbd]
      have ho5 := H3.out.2.2.2.trans ho4
      have hj4 := HH.out.1.only HH.out.2.1 HH.out.2.2.1 ho5
      have H4 := Lib.hid (And.intro hj4 (And.intro hd4 ho5))
      have cj4 : w4.cell? ⟨j, 0, none⟩ = some (.pointer (some ⟨p, 0, none⟩)) ∧ w4.cell? ⟨j, 1, none⟩ = some (.int .i64 (next : Int)) := ⟨hj4.c0, hj4.c1⟩
      clear hd4 ho4 ho5 hj4 hHeld cj3 H3 hbd
      go_wp2_with fail
      refine hK.out _ _ cj4 (fun hHeld => ?_)
      clear hK K hHeld
      try simp only [Act.put, List.getElem_toArray, List.getElem_cons_zero, List.getElem_cons_succ, List.setIfInBounds_toArray, List.set_cons_zero, List.set_cons_succ]
      have hHeld := cj4
      refine wpAnyH_take (i := 13) (v := .int .i64 60) rfl (by kernel_rfl) (by kernel_rfl) (by kernel_rfl) (fun _ _ _ h => h) (Or.inl ⟨by rfl, (by intro w hSw; (try dsimp only at hSw); go_simp)⟩) (by assumption) ?_
      try simp only [Act.put, List.getElem_toArray, List.getElem_cons_zero, List.getElem_cons_succ, List.setIfInBounds_toArray, List.set_cons_zero, List.set_cons_succ]
      refine wpAnyH_done (by kernel_rfl) ?_ _
      clear cj4 hHeld
      go_wp2
      go_ret
      exact ⟨rfl, H4.out.1, H4.out.2.1, H4.out.2.2⟩
    · have := HI.out; have := HM0.out; omega
end
end Go.Proofs.Ytfecobkpdmjaeaa
