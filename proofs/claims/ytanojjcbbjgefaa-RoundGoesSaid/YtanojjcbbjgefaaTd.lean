/-
  The walks of the document's Turn and Same, where two rows are one.
-/
import Derived.Test.YtanojjcbbjgefaaTc
namespace Go.Proofs.Ytanojjcbbjgefaa
open Go.RowKit Go.Great
set_option maxRecDepth 20000
set_option linter.unusedVariables false
set_option linter.unusedSimpArgs false
open Rn
set_option maxHeartbeats 4000000 in
theorem rsame_any {S S' : Nat → Prop} {a b : Option Addr} {n c d : Nat} {l : List Int} {w : World} (h : Ns w S a n l) (h' : Ns w S' b n l) (hn : n ≤ 1000000) :
    Calls Try.prog 10 #[.slice a n c, .slice b n d] w fun e w' => e = .returned (.bool true) ∧ Below w.heap.size w w' := by
  have H0 : Hid (Ns w S a n l ∧ Ns w S' b n l ∧ ∃ q, w = w.drewN q) := Lib.hid ⟨h, h', 0, rfl⟩
  clear h h'
  have q0 : (n != n) = false := by simp
  have q0' : ((n : Int) != (n : Int)) = false := by simp
  go_enter Try.func10, Try.ntmps10
  go_wp2
  go_loopw [5] (fun v wr => ∃ k : Nat, k ≤ n ∧ v = .int .i64 (k : Int) ∧ Hid (Ns wr S a n l ∧ Ns wr S' b n l ∧ ∃ q, wr = w.drewN q)) (fun v _ => n - (intOf v).toNat)
  case atStart => exact ⟨0, Nat.zero_le _, rfl, H0⟩
  case round =>
    clear H0
    obtain ⟨k, hk, rfl, HB⟩ := hrel
    by_cases hlt : k < n
    · obtain ⟨x, hx⟩ : ∃ x, l.getD k 0 = x := ⟨_, rfl⟩
      obtain ⟨ga, oa, ha, _, _, ca⟩ := HB.out.1.cells (by omega)
      obtain ⟨gb, ob, hb, _, _, cb⟩ := HB.out.2.1.cells (by omega)
      have ca' : wr.cell? ⟨ga, oa + k, none⟩ = some (.int .i64 x) := by rw [ca k hlt, hx]
      have cb' : wr.cell? ⟨gb, ob + k, none⟩ = some (.int .i64 x) := by rw [cb k hlt, hx]
      subst ha hb
      have q1 : (k : Int) < (n : Int) := by omega
      have q2 : (x != x) = false := by simp
      clear ca cb hx
      go_wp2
      go_quiet (fail)
      go_wp2
      go_roundw
      case rel => exact ⟨k + 1, by omega, by go_num, Lib.hid ⟨HB.out.1.keep (Nat.le_refl _) (fun _ _ _ => rfl), HB.out.2.1.keep (Nat.le_refl _) (fun _ _ _ => rfl), by obtain ⟨q, hq⟩ := HB.out.2.2; exact ⟨q + nq, by rw [hq]; simp [World.drewN, Nat.add_assoc]⟩⟩⟩
      case measure => simp [intOf]; omega
    · have q1 : ¬ ((k : Int) < (n : Int)) := by omega
      go_wp2
      go_ret
      obtain ⟨q, hq⟩ := HB.out.2.2
      exact ⟨rfl, by rw [hq]; exact ⟨rfl, rfl, rfl, Nat.le_refl _, fun _ _ => rfl⟩⟩
set_option maxHeartbeats 4000000 in
theorem rturn_any (n me d t : Int) (hd : U64 d) (w : World) : Calls Try.prog 14 #[.int .i64 n, .int .i64 me, .int .u64 d, .int .i64 t] w fun e w' => e = .returned (.int .i64 (trn n me d t)) ∧ Below w.heap.size w w' := by
  obtain ⟨r, hr⟩ : ∃ r, trn n me d t = r := ⟨_, rfl⟩
  rw [hr]
  have HR := Lib.hid hr
  have HD := Lib.hid hd
  clear hr hd
  go_enter Try.func14, Try.ntmps14
  go_wp2_with fail
  refine (rorder_any n me d HD.out w).mono ?_
  rintro e w1 ⟨a1, n1, c1, rfl, hm1, hb1⟩
  have H1 := Lib.hid (And.intro hm1 hb1)
  have hn1 : n1 ≤ 8 := by rw [← hm1.len]; exact ord_le n me d
  have HN1 := Lib.hid hm1.len
  clear hm1 hb1
  by_cases z0 : n1 = 0
  · subst z0
    have HE : Hid (r = -1) := Lib.hid (by rw [← HR.out]; unfold trn; rw [if_pos (Or.inl (List.eq_nil_of_length_eq_zero HN1.out))])
    go_wp2
    go_ret
    exact ⟨ret_i64 HE.out.symm, H1.out.2⟩
  have q0 : ((n1 : Int) == 0) = false := by simp; omega
  by_cases z1 : t < 0
  · have HE : Hid (r = -1) := Lib.hid (by rw [← HR.out]; unfold trn; rw [if_pos (Or.inr (Or.inl z1))])
    go_wp2
    go_ret
    exact ⟨ret_i64 HE.out.symm, H1.out.2⟩
  by_cases z2 : t > 1048576
  · have HE : Hid (r = -1) := Lib.hid (by rw [← HR.out]; unfold trn; rw [if_pos (Or.inr (Or.inr z2))])
    go_wp2
    go_ret
    exact ⟨ret_i64 HE.out.symm, H1.out.2⟩
  have hbad : ¬ Bad n me := fun hb => by have := HN1.out; rw [ord_bad hb] at this; simp at this; omega
  have hk : n.toNat - 1 = n1 := by rw [← HN1.out, ord_len hbad]
  obtain ⟨T, hT⟩ : ∃ T : Nat, t = (T : Int) := ⟨t.toNat, by omega⟩
  subst hT
  have HE : Hid (∀ q s, q * n1 + s = T → s < n1 → r = (row n me d q).getD s 0) := Lib.hid (fun q s h1 h2 => by
    rw [← HR.out]
    unfold trn row
    rw [if_neg (by
      rintro (h | h | h)
      · have := HN1.out; rw [h] at this; simp at this; omega
      · omega
      · omega), hk]
    have e1 : ((T : Nat) : Int).toNat = T := by omega
    rw [e1, ← h1, Nat.mul_comm q n1, Nat.mul_add_div (by omega), Nat.div_eq_of_lt h2, Nat.add_zero, Nat.mul_add_mod, Nat.mod_eq_of_lt h2])
  have HL : Hid (∀ q, (row n me d q).length = n1) := Lib.hid (fun q => by rw [← hk]; exact ord_len hbad)
  have H0 : Hid (Nw w1 w.heap.size a1 n1 c1 (row n me d 0) ∧ Below w.heap.size w w1) := Lib.hid ⟨H1.out.1, H1.out.2⟩
  have hT20 : T ≤ 1048576 := by omega
  clear hbad hk HR HN1 H1 z1 z2
  go_wp2
  go_loopw [3, 9, 10, 11, 12] (fun v x y _ _ wr => ∃ (q s c : Nat) (a : Option Addr), q * n1 + s = T ∧ v = .int .i64 (s : Int) ∧ x = .slice a n1 c ∧ y = .int .u64 (itd n me (q + 1) d) ∧ Hid (Nw wr w.heap.size a n1 c (row n me d q) ∧ Below w.heap.size w wr)) (fun v _ _ _ _ _ => (intOf v).toNat)
  case atStart => exact ⟨0, T, c1, a1, by omega, rfl, rfl, rfl, H0⟩
  case round =>
    clear H0
    obtain ⟨q, s, c, a, hs, rfl, rfl, rfl, HJ⟩ := hrel
    by_cases hge : n1 ≤ s
    · have q1 : (s : Int) ≥ (n1 : Int) := by omega
      have e1 : IntKind.i64.wrap ((s : Int) - (n1 : Int)) = ((s - n1 : Nat) : Int) := by rw [IntKind.wrap_i64]; omega
      obtain ⟨D, hD⟩ : ∃ D, itd n me (q + 1) d = D := ⟨_, rfl⟩
      have HDD : Hid (U64 D) := Lib.hid (by rw [← hD]; exact itd_in _ HD.out)
      have HRW : Hid ((ord n me D).1 = row n me d (q + 1) ∧ (ord n me D).2 = itd n me (q + 1 + 1) d) := Lib.hid ⟨by rw [← hD]; rfl, by rw [← hD]; exact itd_succ n me (q + 1) d⟩
      rw [hD]
      clear hD
      go_wp2_with fail
      refine (rorder_any n me D HDD.out wr).mono ?_
      rintro e w2 ⟨a2, n2, c2, rfl, hm2, hb2⟩
      rw [HRW.out.1] at hm2
      rw [HRW.out.2]
      have hl2 : n2 = n1 := by rw [← hm2.len]; exact HL.out (q + 1)
      subst hl2
      have HJ2 : Hid (Nw w2 w.heap.size a2 n2 c2 (row n me d (q + 1)) ∧ Below w.heap.size w w2) := Lib.hid ⟨hm2.mono HJ.out.2.size, HJ.out.2.trans (hb2.mono HJ.out.2.size)⟩
      clear hm2 hb2 HRW HDD
      go_wp2
      exact ⟨⟨q + 1, s - n2, c2, a2, by rw [Nat.add_mul]; omega, rfl, rfl, rfl, HJ2⟩, by simp [intOf]; omega⟩
    · have q1 : ¬ ((s : Int) ≥ (n1 : Int)) := by omega
      obtain ⟨g, rfl, _, _, _, hcell⟩ := HJ.out.1.form (by omega)
      have hx := HE.out q s hs (by omega)
      have c1 := (hcell s (by omega)).1
      rw [← hx] at c1
      clear hcell hx
      go_wp2
      go_ret
      exact ⟨rfl, HJ.out.2⟩
end Go.Proofs.Ytanojjcbbjgefaa
