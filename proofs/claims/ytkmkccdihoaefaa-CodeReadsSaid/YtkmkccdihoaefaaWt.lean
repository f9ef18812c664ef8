/-
  The walks of package code's fold and of Writer's numbers, texts and hashes.
-/
import Derived.Test.YtkmkccdihoaefaaWs
namespace Go.Proofs.Ytkmkccdihoaefaa
open Go.RowKit

theorem fold_neg {n : Int} (h : n < 0) : ((Cd.fold n : Nat) : Int) = 2 * (-(n + 1)) + 1 := by unfold Cd.fold; rw [if_pos h]; omega
theorem fold_pos {n : Int} (h : ¬ n < 0) : ((Cd.fold n : Nat) : Int) = 2 * n := by unfold Cd.fold; rw [if_neg h]; omega
theorem ret_u64 {a b : Int} (h : a = b) : Ending.returned (.int .u64 a) = .returned (.int .u64 b) := by rw [h]

set_option maxHeartbeats 400000 in
theorem fold_any (n : Int) (w : World) (h0 : -9223372036854775808 ≤ n) (h1 : n ≤ 9223372036854775807) :
    Calls Try.prog 34 #[.int .i64 n] w fun e w' => e = .returned (.int .u64 (Cd.fold n : Nat)) ∧ w = w' := by
  by_cases h : n < 0
  · have HV := Lib.hid (fold_neg h)
    go_enter Try.func34, Try.ntmps34
    go_wp2
    go_ret
    exact ⟨ret_u64 HV.out.symm, rfl⟩
  · have HV := Lib.hid (fold_pos h)
    go_enter Try.func34, Try.ntmps34
    go_wp2
    go_ret
    exact ⟨ret_u64 HV.out.symm, rfl⟩

/-- What holds at the head of each round of Int's loop: k is where the bytes so far begin, r what is left. -/
def IntRel (w : World) (u : Nat) (s5 s6 : Value) (wr : World) : Prop :=
  ∃ (k : Nat) (r : Int) (cs : Array Value) (suf : List Int), s5 = .int .u64 r ∧ s6 = .int .i64 k ∧ k ≤ 9 ∧ 0 ≤ r ∧ r ≤ 18446744073709551615 ∧ r.toNat < 128 ^ k ∧
    Whole wr w.heap.size 67 cs ∧ cs.size = 10 ∧ cs.toList.drop k = nums suf ∧ Cd.Byt suf ∧ Cd.tops r.toNat ++ suf = Cd.encU u ∧ Below w.heap.size w wr
theorem intRel_start (w : World) (u : Int) (h0 : 0 ≤ u) (h1 : u ≤ 18446744073709551615) :
    IntRel w u.toNat (.int .u64 (u / 128)) (.int .i64 9) (w.alloc (Obj.cells #[.int .u8 0, .int .u8 0, .int .u8 0, .int .u8 0, .int .u8 0, .int .u8 0, .int .u8 0, .int .u8 0, .int .u8 0, .int .u8 (u % 128)] 67)) := by
  refine ⟨9, u / 128, _, [u % 128], rfl, rfl, by omega, by omega, by omega, ?_, Whole.new _ _ _, rfl, rfl, Cd.byt_cons (by omega) (by omega) Cd.byt_nil, ?_, (Below.refl _ _).alloc (Nat.le_refl _) _⟩
  · have e : (128 : Nat) ^ 9 = 9223372036854775808 := by decide
    rw [e]; omega
  · unfold Cd.encU
    rw [show (u / 128).toNat = u.toNat / 128 by omega, show ((u.toNat % 128 : Nat) : Int) = u % 128 by omega]
theorem intRel_step {w wr : World} {u j : Nat} {r : Int} {cs : Array Value} {suf : List Int} (hj : j + 1 ≤ 9) (hr : 0 < r) (hr1 : r ≤ 18446744073709551615) (hp : r.toNat < 128 ^ (j + 1))
    (hw : Whole wr w.heap.size 67 cs) (hs : cs.size = 10) (hd : cs.toList.drop (j + 1) = nums suf) (hb : Cd.Byt suf) (ht : Cd.tops r.toNat ++ suf = Cd.encU u) (hbl : Below w.heap.size w wr) :
    IntRel w u (.int .u64 (r / 128)) (.int .i64 j) (wr.setCell ⟨w.heap.size, j, none⟩ (.int .u8 (128 + r % 128))) := by
  refine ⟨j, r / 128, _, (128 + r % 128) :: suf, rfl, rfl, by omega, by omega, by omega, ?_, hw.set j _, by simpa using hs, ?_, Cd.byt_cons (by omega) (by omega) hb, ?_, hbl.setCell (Nat.le_refl _) _⟩
  · rw [show (r / 128).toNat = r.toNat / 128 by omega]
    rw [Nat.pow_succ] at hp
    exact Nat.div_lt_of_lt_mul (by rw [Nat.mul_comm]; exact hp)
  · have hl : j < cs.toList.length := by simp; omega
    rw [Array.toList_setIfInBounds, List.drop_eq_getElem_cons (by simp; omega), List.getElem_set_self, List.drop_set_of_lt (by omega), hd]
    rfl
  · rw [← ht, Cd.tops_pos (u := r.toNat) (by omega), show (r / 128).toNat = r.toNat / 128 by omega, List.append_assoc]
    congr 1
    show _ = ((r.toNat % 128 + 128 : Nat) : Int) :: suf
    congr 1
    omega
/-- The bytes that stand in an array from k on. -/
theorem txt_array {wr : World} {b k : Nat} {t : TypeId} {cs : Array Value} {suf : List Int} (hw : Whole wr b t cs) (hs : cs.size = 10) (hk : k ≤ 9) (hd : cs.toList.drop k = nums suf) (hb : Cd.Byt suf) :
    Txt wr (· = b) (some ⟨b, k, none⟩) (10 - k) (10 - k) suf := by
  have hl : suf.length = 10 - k := by
    have := congrArg List.length hd
    rw [nums_len] at this
    simp at this; omega
  refine ⟨hl, Nat.le_refl _, hb, Or.inr ⟨b, k, rfl, rfl, hw.lt, fun i hi => ?_⟩⟩
  rw [hw.cell, ← nums_get suf i (by omega), ← hd, List.getElem?_drop]
  simp
theorem Wr.below {w w' : World} {B g : Nat} {l : List Int} (h : Wr w B g l) (hb : Below w.heap.size w w') : Wr w' B g l := by
  refine ⟨h.1, ?_⟩
  rcases h.2 with ⟨hl, hw⟩ | ⟨k, v, hk, hw, hp, hown⟩
  · exact Or.inl ⟨hl, hw.below hb hw.lt⟩
  · refine Or.inr ⟨k, v, hk, hw.below hb hw.lt, hp.below hb hp.lt, ?_⟩
    exact hown.kept (row := none) ⟨hb.os, hb.tape, hb.output, hb.size, fun i hi _ => hb.block i hi⟩ (by cases hv : v.ownBlock <;> simp)
theorem Wr.lt {w : World} {B g : Nat} {l : List Int} (h : Wr w B g l) : g < w.heap.size := by
  rcases h.2 with ⟨_, hw⟩ | ⟨k, v, hk, hw, hp, hown⟩
  · exact hw.lt
  · exact hw.lt

theorem sz_u8 (W : World) : (sizeOf 5).run Try.prog W = .ok 1 W := by
  obtain ⟨i0, hi0, _, hz1, _⟩ := info_parts u8_info
  simp [sizeOf, typeInfo, hi0, hz1]
theorem slice_ten (b k : Nat) (hk : k ≤ 9) (W : World) :
    (Instr.sliceAt 67 (.pointer (some ⟨b, 0, none⟩)) (some (.int .i64 (k : Int))) none none).run Try.prog W = .ok (.slice (some ⟨b, k, none⟩) (10 - k) (10 - k)) W := by
  have hn : Try.prog.arrayLen 67 = 10 := by kernel_rfl
  have he : Try.prog.elem 67 = 5 := by kernel_rfl
  have hu : Try.prog.underlying 67 = some (.array (Try.prog.arrayLen 67) (Try.prog.elem 67)) := by kernel_rfl
  rw [run_sliceAt_array_l W 67 ⟨b, 0, none⟩ hu .i64 (k : Int) (by omega) (by rw [hn]; omega), he, sz_u8, hn]
  have h10 : ¬ 10 = k := by omega
  simp [Result.andThen, slicedAt, h10, Addr.add_lit]

set_option maxHeartbeats 1000000 in
theorem int_any {B g : Nat} {l : List Int} {w : World} (n : Int) (hB : B ≤ w.heap.size) (hw : Wr w B g l) (hl : l.length ≤ 1000000000000) (h0 : -9223372036854775808 ≤ n) (h1 : n ≤ 9223372036854775807) :
    Calls Try.prog 20 #[.pointer (some ⟨g, 0, none⟩), .int .i64 n] w fun e w' => e = .returned (.tuple #[]) ∧ Wr w' B g (l ++ Cd.num n) ∧ Below B w w' := by
  go_enter Try.func20, Try.ntmps20
  go_wp2_with fail
  refine (fold_any n _ h0 h1).mono ?_; rintro e w' ⟨rfl, rfl⟩
  obtain ⟨u, hu⟩ : ∃ u : Int, ((Cd.fold n : Nat) : Int) = u := ⟨_, rfl⟩
  have hu0 : 0 ≤ u := by omega
  have hu1 : u ≤ 18446744073709551615 := by have := Cd.fold_lt h0 h1; omega
  rw [hu]
  have HU := Lib.hid hu
  clear hu
  have HS := Lib.hid (intRel_start w u hu0 hu1)
  have HW := Lib.hid hw
  have HN : Hid (u.toNat = Cd.fold n) := Lib.hid (by have := HU.out; omega)
  obtain ⟨U, hU⟩ : ∃ U, u.toNat = U := ⟨_, rfl⟩
  rw [hU] at HS HN
  clear hw hU
  go_wp2
  go_loopw [5, 6] (fun s5 s6 wr => IntRel w U s5 s6 wr) (fun _ i _ => (intOf i).toNat)
  case atStart => exact HS.out
  case round =>
    obtain ⟨k, r, cs, suf, rfl, rfl, hk, hr0, hr1, hp, hwh, hsz, hd, hb, ht, hbl⟩ := hrel
    have HP := Lib.hid hp
    have HWH := Lib.hid hwh
    have HSZ := Lib.hid hsz
    have HD := Lib.hid hd
    have HB := Lib.hid hb
    have HT := Lib.hid ht
    have HBL := Lib.hid hbl
    clear hp hwh hsz hd hb ht hbl
    by_cases c : 0 < r
    · obtain ⟨j, rfl⟩ : ∃ j, k = j + 1 := by
        cases k with
        | zero => have := HP.out; rw [Nat.pow_zero] at this; omega
        | succ j => exact ⟨j, rfl⟩
      have hc : wr.cell? ⟨w.heap.size, j, none⟩ = some (cs[j]'(by rw [HSZ.out]; omega)) := by rw [HWH.out.cell]; simp [show j < cs.size by rw [HSZ.out]; omega]
      have hf := HWH.out.frozen j
      have hj0 : (0 : Int) ≤ (j : Int) := by omega
      have hj1 : (j : Int) < 10 := by omega
      go_wp2
      exact ⟨intRel_step hk c hr1 HP.out HWH.out HSZ.out HD.out HB.out HT.out HBL.out, by simp [intOf]⟩
    · have hr : r = 0 := by omega
      have hsl := slice_ten w.heap.size k hk
      have HX : Hid (Txt wr (· = w.heap.size) (some ⟨w.heap.size, k, none⟩) (10 - k) (10 - k) (Cd.num n)) := Lib.hid (by
        have h1 := HT.out
        rw [hr, show (0 : Int).toNat = 0 by rfl, Cd.tops_zero, List.nil_append, HN.out] at h1
        have h2 := HD.out
        have h3 := HB.out
        rw [h1] at h2 h3
        exact txt_array HWH.out HSZ.out hk h2 h3)
      have HW2 : Hid (Wr wr B g l) := Lib.hid (HW.out.below HBL.out)
      have HG : Hid (∀ b, b = w.heap.size → b ≠ g) := Lib.hid (by have := HW.out.lt; intro b hb; omega)
      have hBr : B ≤ wr.heap.size := by have := HBL.out.size; omega
      clear HP HWH HSZ HD HB HT
      go_wp2_with (go_at_call 33; refine (add_any hBr HW2.out HX.out HG.out (by omega) (by omega)).mono ?_; rintro e w2 ⟨rfl, hw2, hb2⟩)
      go_end0
      exact ⟨rfl, hw2, (HBL.out.mono hB).trans hb2⟩

theorem int_nil (n : Int) (w : World) (h0 : -9223372036854775808 ≤ n) (h1 : n ≤ 9223372036854775807) :
    Calls Try.prog 20 #[.pointer none, .int .i64 n] w fun e w' => e = .returned (.tuple #[]) ∧ Below w.heap.size w w' := by
  go_enter Try.func20, Try.ntmps20
  go_wp2_with fail
  refine (fold_any n _ h0 h1).mono ?_; rintro e w' ⟨rfl, rfl⟩
  obtain ⟨u, hu⟩ : ∃ u : Int, ((Cd.fold n : Nat) : Int) = u := ⟨_, rfl⟩
  have hu0 : 0 ≤ u := by omega
  have hu1 : u ≤ 18446744073709551615 := by have := Cd.fold_lt h0 h1; omega
  rw [hu]
  clear hu
  have HS := Lib.hid (intRel_start w u hu0 hu1)
  obtain ⟨U, hU⟩ : ∃ U, u.toNat = U := ⟨_, rfl⟩
  rw [hU] at HS
  clear hU
  go_wp2
  go_loopw [5, 6] (fun s5 s6 wr => IntRel w U s5 s6 wr) (fun _ i _ => (intOf i).toNat)
  case atStart => exact HS.out
  case round =>
    obtain ⟨k, r, cs, suf, rfl, rfl, hk, hr0, hr1, hp, hwh, hsz, hd, hb, ht, hbl⟩ := hrel
    have HP := Lib.hid hp
    have HWH := Lib.hid hwh
    have HSZ := Lib.hid hsz
    have HD := Lib.hid hd
    have HB := Lib.hid hb
    have HT := Lib.hid ht
    have HBL := Lib.hid hbl
    clear hp hwh hsz hd hb ht hbl
    by_cases c : 0 < r
    · obtain ⟨j, rfl⟩ : ∃ j, k = j + 1 := by
        cases k with
        | zero => have := HP.out; rw [Nat.pow_zero] at this; omega
        | succ j => exact ⟨j, rfl⟩
      have hc : wr.cell? ⟨w.heap.size, j, none⟩ = some (cs[j]'(by rw [HSZ.out]; omega)) := by rw [HWH.out.cell]; simp [show j < cs.size by rw [HSZ.out]; omega]
      have hf := HWH.out.frozen j
      have hj0 : (0 : Int) ≤ (j : Int) := by omega
      have hj1 : (j : Int) < 10 := by omega
      go_wp2
      exact ⟨intRel_step hk c hr1 HP.out HWH.out HSZ.out HD.out HB.out HT.out HBL.out, by simp [intOf]⟩
    · have hr : r = 0 := by omega
      have hsl := slice_ten w.heap.size k hk
      clear HP HWH HSZ HD HB HT
      go_wp2_with (go_at_call 33; refine (add_nil _ _).mono ?_; rintro e w2 ⟨rfl, rfl⟩)
      go_end0
      exact ⟨rfl, HBL.out⟩

set_option maxHeartbeats 400000 in
theorem text_any {B g : Nat} {l t : List Int} {S : Nat → Prop} {a : Option Addr} {n c : Nat} {w : World} (hB : B ≤ w.heap.size) (hw : Wr w B g l) (ht : Txt w S a n c t) (hs : ∀ b, S b → b < B) (hl : l.length ≤ 900000000000) (hn : n ≤ 1099511627776) :
    Calls Try.prog 19 #[.pointer (some ⟨g, 0, none⟩), .slice a n c] w fun e w' => e = .returned (.tuple #[]) ∧ Wr w' B g (l ++ (Cd.num t.length ++ t)) ∧ Below B w w' := by
  have hlen := ht.1
  rw [hlen]
  have HW := Lib.hid hw
  have HT := Lib.hid ht
  have HS := Lib.hid hs
  clear hw ht hs hlen
  go_enter Try.func19, Try.ntmps19
  go_wp2_with fail
  refine (int_any (n : Int) hB HW.out (by omega) (by omega) (by omega)).mono ?_; rintro e w1 ⟨rfl, hw1, hb1⟩
  have HW1 := Lib.hid hw1
  have HB1 := Lib.hid hb1
  clear hw1 hb1
  go_wp2_with fail
  have hz := HB1.out.size
  have hnl : (Cd.num (n : Int)).length ≤ 10 := Cd.num_len (by omega) (by omega)
  refine (add_any (by omega) HW1.out (HT.out.below HB1.out (fun b _ h => HS.out b h)) (fun b h => by have := HS.out b h; have := HW.out.1; omega) (by simp; omega) hn).mono ?_; rintro e w2 ⟨rfl, hw2, hb2⟩
  have HW2 := Lib.hid hw2
  have HB2 := Lib.hid hb2
  clear hw2 hb2 hnl hz
  go_wp2
  go_end0
  exact ⟨rfl, by have := HW2.out; rw [List.append_assoc] at this; exact this, HB1.out.trans HB2.out⟩

set_option maxHeartbeats 400000 in
theorem hash_any {B g : Nat} {l t : List Int} {w : World} (hB : B ≤ w.heap.size) (hw : Wr w B g l) (ht : t.length = 32) (hb : Cd.Byt t) (hl : l.length ≤ 900000000000) :
    Calls Try.prog 27 #[.pointer (some ⟨g, 0, none⟩), .agg (nums t).toArray] w fun e w' => e = .returned (.tuple #[]) ∧ Wr w' B g (l ++ t) ∧ Below B w w' := by
  have HW := Lib.hid hw
  have HT := Lib.hid (And.intro ht hb)
  clear hw ht hb
  go_enter Try.func27, Try.ntmps27
  have HX : Hid (Txt (w.alloc (.cells (nums t).toArray 26)) (· = w.heap.size) (some ⟨w.heap.size, 0, none⟩) 32 32 t) := Lib.hid (by
    obtain ⟨ht, hb⟩ := HT.out
    have hn := Whole.new w 26 (nums t).toArray
    refine ⟨ht, Nat.le_refl _, hb, Or.inr ⟨w.heap.size, 0, rfl, rfl, hn.lt, fun i hi => ?_⟩⟩
    rw [Nat.zero_add, hn.cell, List.getElem?_toArray, nums_get t i (by omega)])
  have HB : Hid (Below w.heap.size w (w.alloc (.cells (nums t).toArray 26))) := Lib.hid ((Below.refl _ _).alloc (Nat.le_refl _) _)
  have HW2 : Hid (Wr (w.alloc (.cells (nums t).toArray 26)) B g l) := Lib.hid (HW.out.below HB.out)
  go_wp2_with fail
  refine (add_any (by simp; omega) HW2.out HX.out (fun b h => by have := HW.out.lt; omega) (by omega) (by omega)).mono ?_; rintro e w2 ⟨rfl, hw2, hb2⟩
  have HW3 := Lib.hid hw2
  have HB3 := Lib.hid hb2
  clear hw2 hb2
  go_wp2
  go_end0
  exact ⟨rfl, HW3.out, (HB.out.mono hB).trans HB3.out⟩

set_option maxHeartbeats 400000 in
theorem text_nil (a : Option Addr) (n c : Nat) (w : World) (hn : n ≤ 1099511627776) :
    Calls Try.prog 19 #[.pointer none, .slice a n c] w fun e w' => e = .returned (.tuple #[]) ∧ Below w.heap.size w w' := by
  go_enter Try.func19, Try.ntmps19
  go_wp2_with fail
  refine (int_nil (n : Int) w (by omega) (by omega)).mono ?_; rintro e w1 ⟨rfl, hb1⟩
  have HB1 := Lib.hid hb1
  clear hb1
  go_wp2_with (go_at_call 33; refine (add_nil _ _).mono ?_; rintro e w2 ⟨rfl, rfl⟩)
  go_end0
  exact ⟨rfl, HB1.out⟩
set_option maxHeartbeats 400000 in
theorem hash_nil (cs : Array Value) (w : World) :
    Calls Try.prog 27 #[.pointer none, .agg cs] w fun e w' => e = .returned (.tuple #[]) ∧ Below w.heap.size w w' := by
  go_enter Try.func27, Try.ntmps27
  go_wp2_with (go_at_call 33; refine (add_nil _ _).mono ?_; rintro e w2 ⟨rfl, rfl⟩)
  go_end0
  exact ⟨rfl, (Below.refl _ _).alloc (Nat.le_refl _) _⟩
end Go.Proofs.Ytkmkccdihoaefaa
