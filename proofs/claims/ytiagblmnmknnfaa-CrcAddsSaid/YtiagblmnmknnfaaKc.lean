/-
  The walks of More and Sum, of the program and of the document.
-/
import Derived.Test.YtiagblmnmknnfaaKb
namespace Go.Proofs.Ytiagblmnmknnfaa
open Go.RowKit
theorem tab_len : (wds Cm.tab).toArray.size = 16 := by simp [wds_len, Cm.tab, Cm.tabTo]
theorem tab_cell {w : World} {B : Nat} (h : Whole w B 35 (wds Cm.tab).toArray) (x : BitVec 32) : w.cell? ⟨B, (num x % 16).toNat, none⟩ = some (.int .u32 (num (Cm.shn 4 (x &&& 15#32)))) := by
  have e : (num x % 16).toNat = x.toNat % 16 := by unfold num; omega
  rw [e, h.cell, List.getElem?_toArray, wds_get _ _ (by simp [Cm.tab, Cm.tabTo]; omega), Cm.tab_get]
theorem step4 (x : BitVec 32) : bits .xor .u32 (num x / 16) (num (Cm.shn 4 (x &&& 15#32))) = num (Cm.shn 4 x) := by
  rw [Cm.shn4 x, ← num_xor]
  exact congrArg (fun z => bits .xor .u32 z _) (num_shr x 4)
set_option maxHeartbeats 1000000 in
theorem more_any {w : World} {S : Nat → Prop} {a : Option Addr} {n c : Nat} {l : List Int} (s : BitVec 32) (hl : Txt w S a n c l) (hn : n ≤ 4611686018427387904) :
    Calls Try.prog 10 #[.int .u32 (num s), .slice a n c] w fun e w' => e = .returned (.int .u32 (num (Cm.more s l))) ∧ Below w.heap.size w w' := by
  have HT := Lib.hid hl.old
  clear hl
  have hnot : bits .xor .u32 (if IntKind.u32.signed = true then -1 else IntKind.u32.max) (num s) = num (~~~s) := num_not s
  go_enter Try.func10, Try.ntmps10
  go_wp2_with fail
  refine (table_any w).mono ?_
  rintro e w1 ⟨rfl, hb1⟩
  have HB1 := Lib.hid hb1
  have hz := hb1.size
  clear hb1
  have hNs := tab_len
  have HNS := Lib.hid hNs
  have hNa := all_wds Cm.tab
  clear hNs
  with_reducible generalize hN : (wds Cm.tab).toArray = N at *
  have HN := Lib.hid hN
  clear hN
  go_wp2_with (first
    | ((with_reducible show wpList _ _ _ ((⟨_, Op.store 35 _ _, _, _, _, _⟩ : Oper) :: _) _ _); refine wpList_store_row rfl _ (.tmp 5) (.tmp 9) rfl w1.heap.size _ rfl rfl 35 _ (Whole.new _ _ _) (by rw [HNS.out]; exact info16) (by rw [HNS.out]; rfl) hNa ?_)
    | fail)
  rw [zero16]
  have k0 : Whole ((w1.alloc (.cells (wds (zeros32 16)).toArray 35)).setRow w1.heap.size N) w1.heap.size 35 N := (Whole.new w1 _ _).row N
  have b0 : Below w.heap.size w ((w1.alloc (.cells (wds (zeros32 16)).toArray 35)).setRow w1.heap.size N) := below_row (HB1.out.alloc hz _) hz N
  have HBZ := Lib.hid (show w.heap.size ≤ w1.heap.size from hz)
  clear hnot hz
  generalize (w1.alloc (.cells (wds (zeros32 16)).toArray 35)).setRow w1.heap.size N = w2 at *
  generalize w1.heap.size = B at *
  have H0 := Lib.hid (And.intro k0 b0)
  clear k0 b0 HB1 hNa
  go_loop [6, 14] (fun x i => ∃ k : Nat, k ≤ n ∧ i = .int .i64 k ∧ x = .int .u32 (num (Cm.raw (~~~ s) (l.take k)))) (fun _ i => n - (intOf i).toNat)
  case atStart => exact ⟨0, Nat.zero_le _, rfl, rfl⟩
  case round =>
    obtain ⟨k, hk, rfl, rfl⟩ := hrel
    by_cases hlt : k < n
    · obtain ⟨b, off, rfl, hb, _, hc⟩ := HT.out.cell hlt
      have hd := HT.out.byte k
      have hcell : w2.cell? ⟨b, off + k, none⟩ = some (.int .u8 (l.getD k 0)) := by
        rw [← hc]; exact World.cell?_of_block (w := w) (H0.out.2.block b hb)
      have hby := num_byt (l.getD k 0) hd.1 hd.2
      have EV : Hid (Cm.raw (~~~ s) (l.take (k + 1)) = Cm.shn 8 (Cm.raw (~~~ s) (l.take k) ^^^ Cm.byt (l.getD k 0))) := Lib.hid (by
        have hlen := HT.out.1
        rw [← Cm.raw_snoc, List.take_add_one]
        have : l[k]? = some (l.getD k 0) := by simp [show k < l.length by omega]
        rw [this]; rfl)
      have hx := num_xor (Cm.raw (~~~ s) (l.take k)) (Cm.byt (l.getD k 0))
      clear hc
      generalize Cm.raw (~~~ s) (l.take k) = x at *
      generalize l.getD k 0 = y at *
      generalize Cm.byt y = z at *
      have t1 := tab_cell (by rw [HN.out]; exact H0.out.1) (x ^^^ z)
      have t2 := tab_cell (by rw [HN.out]; exact H0.out.1) (Cm.shn 4 (x ^^^ z))
      have s1 := step4 (x ^^^ z)
      have s2 := step4 (Cm.shn 4 (x ^^^ z))
      generalize x ^^^ z = v at *
      have m1 : (num v).tmod 16 = num v % 16 := num_mod v 16
      have m2 : (num (Cm.shn 4 v)).tmod 16 = num (Cm.shn 4 v) % 16 := num_mod _ 16
      go_wp2
      exact ⟨⟨k + 1, by omega, by go_num, by rw [EV.out, Cm.shn8]⟩, by simp [intOf]; omega⟩
    · obtain rfl : k = n := by omega
      have hT : l.take k = l := by rw [← HT.out.1]; exact List.take_length
      rw [hT]
      have hnot : bits .xor .u32 (if IntKind.u32.signed = true then -1 else IntKind.u32.max) (num (Cm.raw (~~~ s) l)) = num (Cm.more s l) := num_not _
      clear hT
      generalize Cm.raw (~~~ s) l = x at *
      go_wp2
      go_ret
      exact ⟨rfl, H0.out.2⟩
theorem sum_any {w : World} {S : Nat → Prop} {a : Option Addr} {n c : Nat} {l : List Int} (hl : Txt w S a n c l) (hn : n ≤ 4611686018427387904) :
    Calls Try.prog 12 #[.slice a n c] w fun e w' => e = .returned (.int .u32 (num (Cm.more 0#32 l))) ∧ Below w.heap.size w w' := by
  have h0 : (0 : Int) = num 0#32 := rfl
  go_enter Try.func12, Try.ntmps12
  go_wp2_with (go_at_call 10; refine (more_any 0#32 hl hn).mono ?_; rintro e w' ⟨rfl, hb⟩)
  go_ret
  exact ⟨rfl, hb⟩
theorem half (x : BitVec 32) : num x / 2 = num (x >>> 1) := num_shr x 1
theorem low_bit (x : BitVec 32) : x.getLsbD 0 = decide (num x % 2 = 1) := by
  unfold num
  rw [← BitVec.testBit_toNat, Nat.testBit_zero]
  simp only [decide_eq_decide]
  omega
set_option maxHeartbeats 1000000 in
theorem rmore_any {w : World} {S : Nat → Prop} {a : Option Addr} {n c : Nat} {l : List Int} (s : BitVec 32) (hl : Txt w S a n c l) (hn : n ≤ 4611686018427387904) :
    Calls Try.prog 11 #[.int .u32 (num s), .slice a n c] w fun e w' => e = .returned (.int .u32 (num (Cm.more s l))) ∧ w = w' := by
  have HT := Lib.hid hl
  clear hl
  have hnot : bits .xor .u32 (if IntKind.u32.signed = true then -1 else IntKind.u32.max) (num s) = num (~~~s) := num_not s
  go_enter Try.func11, Try.ntmps11
  go_wp2
  clear hnot
  go_loop [5, 6] (fun x i => ∃ k : Nat, k ≤ n ∧ i = .int .i64 k ∧ x = .int .u32 (num (Cm.raw (~~~ s) (l.take k)))) (fun _ i => n - (intOf i).toNat)
  case atStart => exact ⟨0, Nat.zero_le _, rfl, rfl⟩
  case round =>
    obtain ⟨k, hk, rfl, rfl⟩ := hrel
    by_cases hlt : k < n
    · obtain ⟨b, off, rfl, _, hb, hcell⟩ := HT.out.cell hlt
      have hd := HT.out.byte k
      have hby := num_byt (l.getD k 0) hd.1 hd.2
      have EV : Hid (Cm.raw (~~~ s) (l.take (k + 1)) = Cm.shn 8 (Cm.raw (~~~ s) (l.take k) ^^^ Cm.byt (l.getD k 0))) := Lib.hid (by
        have hlen := HT.out.1
        rw [← Cm.raw_snoc, List.take_add_one]
        have : l[k]? = some (l.getD k 0) := by simp [show k < l.length by omega]
        rw [this]; rfl)
      have hx := num_xor (Cm.raw (~~~ s) (l.take k)) (Cm.byt (l.getD k 0))
      generalize Cm.raw (~~~ s) (l.take k) = x at *
      generalize l.getD k 0 = y at *
      generalize Cm.byt y = z at *
      generalize x ^^^ z = v at *
      go_wp2
      clear hx hby hcell
      go_loop [5, 7] (fun x i => ∃ j : Nat, j ≤ 8 ∧ i = .int .i64 j ∧ x = .int .u32 (num (Cm.shn j v))) (fun _ i => 8 - (intOf i).toNat)
      case atStart => exact ⟨0, Nat.zero_le _, rfl, rfl⟩
      case round =>
        obtain ⟨j, hj, rfl, rfl⟩ := hrel
        by_cases hlj : j < 8
        · have E2 : Hid (Cm.shn (j + 1) v = Cm.sh (Cm.shn j v)) := Lib.hid rfl
          generalize Cm.shn j v = q at *
          have h2 : (num q).tdiv 2 = num q / 2 := Int.tdiv_eq_ediv_of_nonneg (num_lo q)
          have ew : num q / 2 % 4294967296 = num q / 2 := by have := num_hi q; have := num_lo q; omega
          by_cases hq : num q % 2 = 1
          · have h1 : ((num q).tmod 2 == 1) = true := by rw [num_mod]; simpa using hq
            have h3 : (num q % 2 == 1) = true := by simpa using hq
            have E3 : Hid (bits .xor .u32 (num q / 2) 2197175160 = num (Cm.sh q)) := Lib.hid (by
              rw [Cm.sh, low_bit, decide_eq_true hq, if_pos rfl, ← num_xor]
              exact congrArg (fun z => bits .xor .u32 z 2197175160) (num_shr q 1))
            clear hq
            go_wp2
            exact ⟨⟨j + 1, by omega, by go_num, by rw [E3.out, E2.out]⟩, by simp [intOf]; omega⟩
          · have h1 : ((num q).tmod 2 == 1) = false := by rw [num_mod]; simpa using hq
            have h3 : (num q % 2 == 1) = false := by simpa using hq
            have E3 : Hid (num q / 2 = num (Cm.sh q)) := Lib.hid (by
              rw [Cm.sh, low_bit, decide_eq_false hq, if_neg (by simp)]
              exact num_shr q 1)
            clear hq
            go_wp2
            exact ⟨⟨j + 1, by omega, by go_num, by rw [E3.out, E2.out]⟩, by simp [intOf]; omega⟩
        · obtain rfl : j = 8 := by omega
          go_wp2
          exact ⟨⟨k + 1, by omega, by go_num, by rw [EV.out]⟩, by simp [intOf]; omega⟩
    · obtain rfl : k = n := by omega
      have hT : l.take k = l := by rw [← HT.out.1]; exact List.take_length
      rw [hT]
      have hnot : bits .xor .u32 (if IntKind.u32.signed = true then -1 else IntKind.u32.max) (num (Cm.raw (~~~ s) l)) = num (Cm.more s l) := num_not _
      clear hT
      generalize Cm.raw (~~~ s) l = x at *
      go_wp2
      go_ret
      exact ⟨rfl, rfl⟩
end Go.Proofs.Ytiagblmnmknnfaa
