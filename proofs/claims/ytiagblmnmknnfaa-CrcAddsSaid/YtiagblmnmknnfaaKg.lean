/-
  The walk of CrcAdds.
-/
import Derived.Test.YtiagblmnmknnfaaKf
import Derived.Deep.OwnRows
import Derived.BigQuiet
import Derived.StillTailTactics
namespace Go.Proofs.Ytiagblmnmknnfaa
open Go.RowKit
theorem make_zeros (n : Nat) (hn : n ≤ 1000000) (w : World) : (Instr.makeSlice 23 (.int .i64 (n : Int)) (.int .i64 (n : Int))).run Try.prog w = .ok (.slice (some ⟨w.heap.size, 0, none⟩) n n) (w.alloc (.cells (nums (zeros n)).toArray 5)) := by
  have h := run_make_row' (P := Try.prog) 23 5 (.int .u8 0) 1 Try.underlying23 u8_info rfl .i64 .i64 n (by omega) (by omega) w
  have e : madeCells #[Value.int .u8 0] n = (nums (zeros n)).toArray := by
    apply Array.ext
    · simp [nums, zeros, size_madeCells]
    · intro i h1 h2
      simp [madeCells, nums, zeros, Nat.mod_one]
  rw [← e]
  exact h
theorem zeros_len (n : Nat) : (zeros n).length = n := by simp [zeros]
theorem sz_8 (w : World) : (sizeOf 5).run Try.prog w = .ok 1 w := by
  obtain ⟨i, hi, _, h1, _⟩ := u8_infos
  simp [sizeOf, typeInfo, hi, h1]
theorem slice_hi8 {a : Option Addr} {n c k : Nat} (h1 : k ≤ c) (w : World) : (Instr.slice 23 (.slice a n c) none (some (.int .i64 (k : Int))) none).run Try.prog w = .ok (.slice a k c) w := by
  have hb : (0 : Int) ≤ (k : Int) ∧ (k : Int) ≤ (c : Int) := by omega
  have e : (if c = 0 then a else Option.map (fun x => x.add (0 * 1)) a) = a := by
    split
    · rfl
    · cases a <;> simp [Addr.add]
  simp only [Instr.slice, Instr.sliceBounds, Instr.sliceBound, Sem.run_bind, Sem.run_pure, Result.andThen_ok, run_underlying Try.underlying23, asIntOf, if_pos hb, sz_8, Int.toNat_natCast, e, Nat.sub_zero]
def chg (a b : List Int) (k : Nat) : List Int := (List.range k).map fun j => bits .xor .u8 (a.getD j 0) (b.getD j 0)
theorem chg_len (a b : List Int) (k : Nat) : (chg a b k).length = k := by simp [chg]
theorem byte_xor (x y : Int) (hx : 0 ≤ x ∧ x < 256) (hy : 0 ≤ y ∧ y < 256) : (0 ≤ bits .xor .u8 x y ∧ bits .xor .u8 x y < 256) ∧ Cm.byt (bits .xor .u8 x y) = Cm.byt x ^^^ Cm.byt y := by
  obtain ⟨m, rfl⟩ := Int.eq_ofNat_of_zero_le hx.1
  obtain ⟨n, rfl⟩ := Int.eq_ofNat_of_zero_le hy.1
  have hm : m < 2 ^ 8 := by omega
  have hn : n < 2 ^ 8 := by omega
  have hz := Nat.xor_lt_two_pow hm hn
  have e : bits .xor .u8 (m : Int) (n : Int) = ((m ^^^ n : Nat) : Int) := by
    show IntKind.u8.wrap ((BitVec.ofInt 8 (m : Int) ^^^ BitVec.ofInt 8 (n : Int)).toNat : Int) = _
    rw [IntKind.wrap_u8', BitVec.ofInt_natCast, BitVec.ofInt_natCast, BitVec.toNat_xor, BitVec.toNat_ofNat, BitVec.toNat_ofNat]
    rw [Nat.mod_eq_of_lt hm, Nat.mod_eq_of_lt hn]
    omega
  rw [e]
  refine ⟨by omega, ?_⟩
  unfold Cm.byt
  rw [BitVec.ofInt_natCast, BitVec.ofInt_natCast, BitVec.ofInt_natCast]
  apply BitVec.eq_of_toNat_eq
  rw [BitVec.toNat_xor, BitVec.toNat_ofNat, BitVec.toNat_ofNat, BitVec.toNat_ofNat, Nat.mod_eq_of_lt (by omega), Nat.mod_eq_of_lt (by omega), Nat.mod_eq_of_lt (by omega)]
theorem chg_byt {a b : List Int} (ha : Byt a) (hb : Byt b) (k : Nat) : Byt (chg a b k) := by
  intro x hx
  obtain ⟨j, _, rfl⟩ := List.mem_map.1 hx
  exact (byte_xor _ _ (byt_getD ha j) (byt_getD hb j)).1
theorem chg_chg {a b : List Int} (ha : Byt a) (hb : Byt b) (n : Nat) (h1 : n ≤ a.length) (h2 : n ≤ b.length) : Cm.Chg (a.take n) (b.take n) (chg a b n) := by
  refine ⟨by simp [chg]; omega, by simp [chg]; omega, fun k hk => ?_⟩
  rw [chg_len] at hk
  have e : (chg a b n).getD k 0 = bits .xor .u8 (a.getD k 0) (b.getD k 0) := by simp [chg, hk]
  have e1 : (a.take n).getD k 0 = a.getD k 0 := by simp [hk]
  have e2 : (b.take n).getD k 0 = b.getD k 0 := by simp [hk]
  rw [e, e1, e2]
  exact (byte_xor _ _ (byt_getD ha k) (byt_getD hb k)).2
theorem nums_set (l r : List Int) (x y : Int) (k : Nat) (hk : l.length = k) : (nums (l ++ y :: r)).toArray.setIfInBounds k (.int .u8 x) = (nums (l ++ x :: r)).toArray := by
  subst hk
  simp [nums]
theorem chg_set (a b : List Int) (n k : Nat) (hk : k < n) : (nums (chg a b k ++ zeros (n - k))).toArray.setIfInBounds k (.int .u8 (bits .xor .u8 (a.getD k 0) (b.getD k 0))) = (nums (chg a b (k + 1) ++ zeros (n - (k + 1)))).toArray := by
  have e : zeros (n - k) = 0 :: zeros (n - (k + 1)) := by
    unfold zeros
    rw [show n - k = (n - (k + 1)) + 1 by omega, List.replicate_succ]
  rw [e, nums_set _ _ _ _ _ (chg_len a b k)]
  congr 2
  simp [chg, List.range_succ]
set_option linter.unusedSimpArgs false in
set_option maxHeartbeats 4000000 in
theorem adds_walk (a0 : Option Addr) (n0 c0 : Nat) (l0 : List Int) (a1 : Option Addr) (n1 c1 : Nat) (l1 : List Int) (w : World) (h0 : Txt w (· < w.heap.size) a0 n0 c0 l0) (h1 : Txt w (· < w.heap.size) a1 n1 c1 l1) :
    Calls Try.prog 5 #[.slice a0 n0 c0, .slice a1 n1 c1] w fun e w' => e = .returned (.bool true) ∧ Below w.heap.size w w' := by
  have H0 := Lib.hid h0
  have H1 := Lib.hid h1
  clear h0 h1
  obtain ⟨n, hn⟩ : ∃ n, min n0 n1 = n := ⟨_, rfl⟩
  have hni : (if n1 < n0 then (n1 : Int) else (n0 : Int)) = (n : Int) := by rw [← hn]; split <;> omega
  have HN := Lib.hid hn
  clear hn
  by_cases g1 : 500 < n
  · have d1 : decide ((500 : Int) < (n : Int)) = true := by simp; omega
    go_enter Try.func5, Try.ntmps5
    go_wp2_with (go_at_call 9; refine (awake_any _).mono ?_; rintro e w' ⟨rfl, hb⟩; have HB := Lib.hid hb; clear hb)
    go_ret
    exact ⟨rfl, HB.out⟩
  have d1 : decide ((500 : Int) < (n : Int)) = false := by simp; omega
  have hmk := make_zeros n (by omega)
  go_enter Try.func5, Try.ntmps5
  go_wp2_with (go_at_call 9; refine (awake_any _).mono ?_; rintro e w1 ⟨rfl, hb⟩; have HB := Lib.hid hb; clear hb)
  have HN2 : Hid (n ≤ n0 ∧ n ≤ n1) := Lib.hid (by have := HN.out; omega)
  clear hni HN
  clear hmk
  have kc := Whole.new w1 5 (nums (zeros n)).toArray
  have bc := HB.out.alloc HB.out.size (.cells (nums (zeros n)).toArray 5)
  have zC := HB.out.size
  generalize w1.alloc (.cells (nums (zeros n)).toArray 5) = w2 at *
  generalize w1.heap.size = C at *
  have H2 := Lib.hid (And.intro kc bc)
  clear kc bc HB
  go_loopw [8] (fun i wr => ∃ k : Nat, k ≤ n ∧ i = .int .i64 k ∧ Hid (Whole wr C 5 (nums (chg l0 l1 k ++ zeros (n - k))).toArray ∧ Below w.heap.size w wr)) (fun i _ => n - (intOf i).toNat)
  case atStart => exact ⟨0, Nat.zero_le _, rfl, Lib.hid H2.out⟩
  case round =>
    clear H2
    obtain ⟨k, hk, rfl, HK⟩ := hrel
    by_cases hlt : k < n
    · obtain ⟨b0, o0, rfl, hb0, _, hc0⟩ := H0.out.cell (k := k) (by have := HN2.out; omega)
      obtain ⟨b1, o1, rfl, hb1, _, hc1⟩ := H1.out.cell (k := k) (by have := HN2.out; omega)
      have d0 : wr.cell? ⟨b0, o0 + k, none⟩ = some (.int .u8 (l0.getD k 0)) := (World.cell?_of_block (w := w) (HK.out.2.block b0 hb0)).trans hc0
      have d1 : wr.cell? ⟨b1, o1 + k, none⟩ = some (.int .u8 (l1.getD k 0)) := (World.cell?_of_block (w := w) (HK.out.2.block b1 hb1)).trans hc1
      clear hc0 hc1 hb0 hb1
      have HS := Lib.hid (chg_set l0 l1 n k hlt)
      have cw : ∃ old, wr.cell? ⟨C, k, none⟩ = some (.int .u8 old) := ⟨_, (HK.out.1.cell k).trans (by rw [List.getElem?_toArray, nums_get _ _ (by simp [chg, zeros]; omega)])⟩
      obtain ⟨old, cw⟩ := cw
      have fw : wr.frozen? ⟨C, k, none⟩ = false := HK.out.1.frozen k
      have l0' : k < n0 := by have := HN2.out; omega
      have l1' : k < n1 := by have := HN2.out; omega
      generalize l0.getD k 0 = x0 at *
      generalize l1.getD k 0 = x1 at *
      go_wp2
      go_still_tail 11, (by kernel_rfl)
      change wpList _ _ _ _ _ wr.drew
      go_wp2
      exact ⟨⟨k + 1, by omega, by go_num, Lib.hid ⟨by rw [← HS.out]; exact HK.out.1.set k _, (HK.out.2.setCell (by show w.heap.size ≤ C; exact zC) _).drew⟩⟩, by simp [intOf]; omega⟩
    · obtain rfl : k = n := by omega
      have HK2 : Hid (Whole wr C 5 (nums (chg l0 l1 k)).toArray ∧ Below w.heap.size w wr) := Lib.hid (by have := HK.out; simpa [zeros] using this)
      clear HK
      have hs0 := slice_hi8 (a := a0) (n := n0) (c := c0) (k := k) (by have := HN2.out.1; have := H0.out.2.1; omega)
      have hs1 := slice_hi8 (a := a1) (n := n1) (c := c1) (k := k) (by have := HN2.out.2; have := H1.out.2.1; omega)
      have hmk := make_zeros k (by omega)
      obtain ⟨eC, eA, eB, eZ, HX, hE⟩ : ∃ eC eA eB eZ : BitVec 32, Hid (Byt (chg l0 l1 k) ∧ Cm.more 0#32 (chg l0 l1 k) = eC ∧ Cm.more 0#32 (l0.take k) = eA ∧ Cm.more 0#32 (l1.take k) = eB ∧ Cm.more 0#32 (zeros k) = eZ) ∧ (num eC == bits .xor .u32 (bits .xor .u32 (num eA) (num eB)) (num eZ)) = true := by
        refine ⟨_, _, _, _, Lib.hid ⟨chg_byt H0.out.2.2.1 H1.out.2.2.1 k, rfl, rfl, rfl, rfl⟩, ?_⟩
        have h := Cm.adds (chg_chg H0.out.2.2.1 H1.out.2.2.1 k (by rw [H0.out.1]; exact HN2.out.1) (by rw [H1.out.1]; exact HN2.out.2))
        rw [chg_len] at h
        rw [num_xor, num_xor, beq_iff_eq, h]
        rfl
      go_wp2_with fail
      refine wp_region_held_drew (S := fun _ => True) (by kernel_rfl) trivial (fun hHeld => ?_)
      have HB0 : Hid (Below w.heap.size w wr.drew) := Lib.hid HK2.out.2.drew
      have HC0 : Hid (Whole wr.drew C 5 (nums (chg l0 l1 k)).toArray) := Lib.hid HK2.out.1
      generalize hBe : w.heap.size = B at *
      have HBE := Lib.hid hBe
      clear hBe
      have zB0 : B ≤ wr.drew.heap.size := by have := HB0.out.size; have := HBE.out; omega
      clear HK2
      generalize wr.drew = v0 at *
      generalize k = n at *
      refine wpAnyH_take (i := 0) (v := .bool true) rfl (by kernel_rfl) (by kernel_rfl) (by kernel_rfl) (fun _ _ _ h => h) (Or.inl ⟨by rfl, (by intro w hSw; (try dsimp only at hSw); go_simp)⟩) (by assumption) ?_
      try simp only [Act.put, List.getElem_toArray, List.getElem_cons_zero, List.getElem_cons_succ, List.setIfInBounds_toArray, List.set_cons_zero, List.set_cons_succ]
      refine wpAnyH_take (i := 1) (v := .bool true) rfl (by kernel_rfl) (by kernel_rfl) (by kernel_rfl) (fun _ _ _ h => h) (Or.inl ⟨by rfl, (by intro w hSw; (try dsimp only at hSw); go_simp)⟩) (by assumption) ?_
      try simp only [Act.put, List.getElem_toArray, List.getElem_cons_zero, List.getElem_cons_succ, List.setIfInBounds_toArray, List.set_cons_zero, List.set_cons_succ]
      refine wpAnyH_take (i := 2) (v := .slice (some ⟨C, 0, none⟩) n n) rfl (by kernel_rfl) (by kernel_rfl) (by kernel_rfl) (fun _ _ _ h => h) (Or.inl ⟨by rfl, (by intro w hSw; (try dsimp only at hSw); go_simp)⟩) (by assumption) ?_
      try simp only [Act.put, List.getElem_toArray, List.getElem_cons_zero, List.getElem_cons_succ, List.setIfInBounds_toArray, List.set_cons_zero, List.set_cons_succ]
      refine wpAnyH_take (i := 4) (v := .slice a0 n0 c0) rfl (by kernel_rfl) (by kernel_rfl) (by kernel_rfl) (fun _ _ _ h => h) (Or.inl ⟨by rfl, (by intro w hSw; (try dsimp only at hSw); go_simp)⟩) (by assumption) ?_
      try simp only [Act.put, List.getElem_toArray, List.getElem_cons_zero, List.getElem_cons_succ, List.setIfInBounds_toArray, List.set_cons_zero, List.set_cons_succ]
      refine wpAnyH_take (i := 5) (v := .int .i64 (n : Int)) rfl (by kernel_rfl) (by kernel_rfl) (by kernel_rfl) (fun _ _ _ h => h) (Or.inl ⟨by rfl, (by intro w hSw; (try dsimp only at hSw); go_simp)⟩) (by assumption) ?_
      try simp only [Act.put, List.getElem_toArray, List.getElem_cons_zero, List.getElem_cons_succ, List.setIfInBounds_toArray, List.set_cons_zero, List.set_cons_succ]
      refine wpAnyH_take (i := 6) (v := .slice a0 n c0) rfl (by kernel_rfl) (by kernel_rfl) (by kernel_rfl) (fun _ _ _ h => h) (Or.inl ⟨by rfl, (by intro w hSw; (try dsimp only at hSw); go_simp)⟩) (by assumption) ?_
      try simp only [Act.put, List.getElem_toArray, List.getElem_cons_zero, List.getElem_cons_succ, List.setIfInBounds_toArray, List.set_cons_zero, List.set_cons_succ]
      refine wpAnyH_take (i := 8) (v := .slice a1 n1 c1) rfl (by kernel_rfl) (by kernel_rfl) (by kernel_rfl) (fun _ _ _ h => h) (Or.inl ⟨by rfl, (by intro w hSw; (try dsimp only at hSw); go_simp)⟩) (by assumption) ?_
      try simp only [Act.put, List.getElem_toArray, List.getElem_cons_zero, List.getElem_cons_succ, List.setIfInBounds_toArray, List.set_cons_zero, List.set_cons_succ]
      refine wpAnyH_take (i := 9) (v := .int .i64 (n : Int)) rfl (by kernel_rfl) (by kernel_rfl) (by kernel_rfl) (fun _ _ _ h => h) (Or.inl ⟨by rfl, (by intro w hSw; (try dsimp only at hSw); go_simp)⟩) (by assumption) ?_
      try simp only [Act.put, List.getElem_toArray, List.getElem_cons_zero, List.getElem_cons_succ, List.setIfInBounds_toArray, List.set_cons_zero, List.set_cons_succ]
      refine wpAnyH_take (i := 10) (v := .slice a1 n c1) rfl (by kernel_rfl) (by kernel_rfl) (by kernel_rfl) (fun _ _ _ h => h) (Or.inl ⟨by rfl, (by intro w hSw; (try dsimp only at hSw); go_simp)⟩) (by assumption) ?_
      try simp only [Act.put, List.getElem_toArray, List.getElem_cons_zero, List.getElem_cons_succ, List.setIfInBounds_toArray, List.set_cons_zero, List.set_cons_succ]
      refine wpAnyH_take (i := 13) (v := .int .i64 (n : Int)) rfl (by kernel_rfl) (by kernel_rfl) (by kernel_rfl) (fun _ _ _ h => h) (Or.inl ⟨by rfl, (by intro w hSw; (try dsimp only at hSw); go_simp)⟩) (by assumption) ?_
      try simp only [Act.put, List.getElem_toArray, List.getElem_cons_zero, List.getElem_cons_succ, List.setIfInBounds_toArray, List.set_cons_zero, List.set_cons_succ]
      refine wpAnyH_ready (rs := [3, 14]) (by kernel_rfl) (by simp) (AllReadyH.cons rfl (fun K hK => ?_) (AllReadyH.cons rfl (fun K hK => ?_) AllReadyH.nil))
      · skip
        try simp only [List.getElem_toArray, List.getElem_cons_zero, List.getElem_cons_succ]
        go_simp
        have ht := txt_whole HC0.out HX.out.1
        rw [chg_len] at ht
        go_at_call 12
        refine (sum_any ht (by omega)).mono ?_
        rintro e v1 ⟨rfl, hb0⟩
        rw [HX.out.2.1]
        have HC1 := Lib.hid (HC0.out.below hb0 HC0.out.lt)
        have HB1 : Hid (Below B w v1) := Lib.hid (HB0.out.trans (hb0.mono zB0))
        have zB1 : B ≤ v1.heap.size := Nat.le_trans zB0 hb0.size
        clear ht
        clear HB0 HC0 hb0
        go_wp2_with fail
        refine hK.out _ _ trivial (fun hHeld => ?_)
        clear hK K
        try simp only [Act.put, List.getElem_toArray, List.getElem_cons_zero, List.getElem_cons_succ, List.setIfInBounds_toArray, List.set_cons_zero, List.set_cons_succ]
        refine wpAnyH_ready (rs := [7, 14]) (by kernel_rfl) (by simp) (AllReadyH.cons rfl (fun K hK => ?_) (AllReadyH.cons rfl (fun K hK => ?_) AllReadyH.nil))
        · skip
          try simp only [List.getElem_toArray, List.getElem_cons_zero, List.getElem_cons_succ]
          go_simp
          have ht := (H0.out.take n HN2.out.1).below HB1.out (fun _ _ h => h)
          go_at_call 12
          refine (sum_any ht (by omega)).mono ?_
          rintro e v2 ⟨rfl, hb1⟩
          rw [HX.out.2.2.1]
          have HC2 := Lib.hid (HC1.out.below hb1 HC1.out.lt)
          have HB2 : Hid (Below B w v2) := Lib.hid (HB1.out.trans (hb1.mono zB1))
          have zB2 : B ≤ v2.heap.size := Nat.le_trans zB1 hb1.size
          clear ht
          clear HB1 HC1 hb1
          go_wp2_with fail
          refine hK.out _ _ trivial (fun hHeld => ?_)
          clear hK K
          try simp only [Act.put, List.getElem_toArray, List.getElem_cons_zero, List.getElem_cons_succ, List.setIfInBounds_toArray, List.set_cons_zero, List.set_cons_succ]
          refine wpAnyH_ready (rs := [11, 14]) (by kernel_rfl) (by simp) (AllReadyH.cons rfl (fun K hK => ?_) (AllReadyH.cons rfl (fun K hK => ?_) AllReadyH.nil))
          · skip
            try simp only [List.getElem_toArray, List.getElem_cons_zero, List.getElem_cons_succ]
            go_simp
            have ht := (H1.out.take n HN2.out.2).below HB2.out (fun _ _ h => h)
            go_at_call 12
            refine (sum_any ht (by omega)).mono ?_
            rintro e v3 ⟨rfl, hb2⟩
            rw [HX.out.2.2.2.1]
            have HC3 := Lib.hid (HC2.out.below hb2 HC2.out.lt)
            have HB3 : Hid (Below B w v3) := Lib.hid (HB2.out.trans (hb2.mono zB2))
            have zB3 : B ≤ v3.heap.size := Nat.le_trans zB2 hb2.size
            clear ht
            clear HB2 HC2 hb2
            go_wp2_with fail
            refine hK.out _ _ trivial (fun hHeld => ?_)
            clear hK K
            try simp only [Act.put, List.getElem_toArray, List.getElem_cons_zero, List.getElem_cons_succ, List.setIfInBounds_toArray, List.set_cons_zero, List.set_cons_succ]
            refine wpAnyH_take (i := 12) (v := .int .u32 (bits .xor .u32 (num eA) (num eB))) rfl (by kernel_rfl) (by kernel_rfl) (by kernel_rfl) (fun _ _ _ h => h) (Or.inl ⟨by rfl, (by intro w hSw; (try dsimp only at hSw); go_simp)⟩) (by assumption) ?_
            try simp only [Act.put, List.getElem_toArray, List.getElem_cons_zero, List.getElem_cons_succ, List.setIfInBounds_toArray, List.set_cons_zero, List.set_cons_succ]
            refine wpAnyH_ready (rs := [14]) (by kernel_rfl) (by simp) (AllReadyH.cons rfl (fun K hK => ?_) AllReadyH.nil)
            try simp only [List.getElem_toArray, List.getElem_cons_zero, List.getElem_cons_succ]
            go_simp
            refine hK.out _ _ trivial (fun hHeld => ?_)
            clear hK K
            try simp only [Act.put, List.getElem_toArray, List.getElem_cons_zero, List.getElem_cons_succ, List.setIfInBounds_toArray, List.set_cons_zero, List.set_cons_succ]
            have hG4 := Whole.new v3 5 (nums (zeros n)).toArray
            have hb3 := below_alloc v3 (.cells (nums (zeros n)).toArray 5)
            generalize v3.alloc (.cells (nums (zeros n)).toArray 5) = v4 at *
            have HC4 := Lib.hid (HC3.out.below hb3 HC3.out.lt)
            have HB4 : Hid (Below B w v4) := Lib.hid (HB3.out.trans (hb3.mono zB3))
            have zB4 : B ≤ v4.heap.size := Nat.le_trans zB3 hb3.size
            generalize v3.heap.size = G at *
            have HG4 := Lib.hid hG4
            clear hG4
            clear HB3 HC3 hb3
            refine wpAnyH_ready (rs := [15]) (by kernel_rfl) (by simp) (AllReadyH.cons rfl (fun K hK => ?_) AllReadyH.nil)
            try simp only [List.getElem_toArray, List.getElem_cons_zero, List.getElem_cons_succ]
            go_simp
            have ht := txt_whole HG4.out (byt_zeros n)
            rw [zeros_len] at ht
            go_at_call 12
            refine (sum_any ht (by omega)).mono ?_
            rintro e v5 ⟨rfl, hb4⟩
            rw [HX.out.2.2.2.2]
            have HC5 := Lib.hid (HC4.out.below hb4 HC4.out.lt)
            have HB5 : Hid (Below B w v5) := Lib.hid (HB4.out.trans (hb4.mono zB4))
            have zB5 : B ≤ v5.heap.size := Nat.le_trans zB4 hb4.size
            clear ht
            clear HB4 HC4 hb4 HG4
            go_wp2_with fail
            refine hK.out _ _ trivial (fun hHeld => ?_)
            clear hK K
            try simp only [Act.put, List.getElem_toArray, List.getElem_cons_zero, List.getElem_cons_succ, List.setIfInBounds_toArray, List.set_cons_zero, List.set_cons_succ]
            refine wpAnyH_take (i := 16) (v := .int .u32 (bits .xor .u32 (bits .xor .u32 (num eA) (num eB)) (num eZ))) rfl (by kernel_rfl) (by kernel_rfl) (by kernel_rfl) (fun _ _ _ h => h) (Or.inl ⟨by rfl, (by intro w hSw; (try dsimp only at hSw); go_simp)⟩) (by assumption) ?_
            try simp only [Act.put, List.getElem_toArray, List.getElem_cons_zero, List.getElem_cons_succ, List.setIfInBounds_toArray, List.set_cons_zero, List.set_cons_succ]
            refine wpAnyH_take (i := 17) (v := .bool true) rfl (by kernel_rfl) (by kernel_rfl) (by kernel_rfl) (fun _ _ _ h => h) (Or.inl ⟨by rfl, (by intro w hSw; (try dsimp only at hSw); go_simp)⟩) (by assumption) ?_
            try simp only [Act.put, List.getElem_toArray, List.getElem_cons_zero, List.getElem_cons_succ, List.setIfInBounds_toArray, List.set_cons_zero, List.set_cons_succ]
            refine wpAnyH_take (i := 18) (v := .bool true) rfl (by kernel_rfl) (by kernel_rfl) (by kernel_rfl) (fun _ _ _ h => h) (Or.inl ⟨by rfl, (by intro w hSw; (try dsimp only at hSw); go_simp)⟩) (by assumption) ?_
            try simp only [Act.put, List.getElem_toArray, List.getElem_cons_zero, List.getElem_cons_succ, List.setIfInBounds_toArray, List.set_cons_zero, List.set_cons_succ]
            refine wpAnyH_take (i := 19) (v := .bool true) rfl (by kernel_rfl) (by kernel_rfl) (by kernel_rfl) (fun _ _ _ h => h) (Or.inl ⟨by rfl, (by intro w hSw; (try dsimp only at hSw); go_simp)⟩) (by assumption) ?_
            try simp only [Act.put, List.getElem_toArray, List.getElem_cons_zero, List.getElem_cons_succ, List.setIfInBounds_toArray, List.set_cons_zero, List.set_cons_succ]
            refine wpAnyH_done (by kernel_rfl) ?_ _
            go_wp2
            go_ret
            exact ⟨rfl, by rw [HBE.out]; exact HB5.out⟩
          · skip
            try simp only [List.getElem_toArray, List.getElem_cons_zero, List.getElem_cons_succ]
            go_simp
            refine hK.out _ _ trivial (fun hHeld => ?_)
            clear hK K
            try simp only [Act.put, List.getElem_toArray, List.getElem_cons_zero, List.getElem_cons_succ, List.setIfInBounds_toArray, List.set_cons_zero, List.set_cons_succ]
            have hG3 := Whole.new v2 5 (nums (zeros n)).toArray
            have hb2 := below_alloc v2 (.cells (nums (zeros n)).toArray 5)
            generalize v2.alloc (.cells (nums (zeros n)).toArray 5) = v3 at *
            have HC3 := Lib.hid (HC2.out.below hb2 HC2.out.lt)
            have HB3 : Hid (Below B w v3) := Lib.hid (HB2.out.trans (hb2.mono zB2))
            have zB3 : B ≤ v3.heap.size := Nat.le_trans zB2 hb2.size
            generalize v2.heap.size = G at *
            have HG3 := Lib.hid hG3
            clear hG3
            clear HB2 HC2 hb2
            refine wpAnyH_ready (rs := [11]) (by kernel_rfl) (by simp) (AllReadyH.cons rfl (fun K hK => ?_) AllReadyH.nil)
            try simp only [List.getElem_toArray, List.getElem_cons_zero, List.getElem_cons_succ]
            go_simp
            have ht := (H1.out.take n HN2.out.2).below HB3.out (fun _ _ h => h)
            go_at_call 12
            refine (sum_any ht (by omega)).mono ?_
            rintro e v4 ⟨rfl, hb3⟩
            rw [HX.out.2.2.2.1]
            have HC4 := Lib.hid (HC3.out.below hb3 HC3.out.lt)
            have HB4 : Hid (Below B w v4) := Lib.hid (HB3.out.trans (hb3.mono zB3))
            have zB4 : B ≤ v4.heap.size := Nat.le_trans zB3 hb3.size
            have HG4 := Lib.hid (HG3.out.below hb3 HG3.out.lt)
            clear ht
            clear HB3 HC3 hb3 HG3
            go_wp2_with fail
            refine hK.out _ _ trivial (fun hHeld => ?_)
            clear hK K
            try simp only [Act.put, List.getElem_toArray, List.getElem_cons_zero, List.getElem_cons_succ, List.setIfInBounds_toArray, List.set_cons_zero, List.set_cons_succ]
            refine wpAnyH_take (i := 12) (v := .int .u32 (bits .xor .u32 (num eA) (num eB))) rfl (by kernel_rfl) (by kernel_rfl) (by kernel_rfl) (fun _ _ _ h => h) (Or.inl ⟨by rfl, (by intro w hSw; (try dsimp only at hSw); go_simp)⟩) (by assumption) ?_
            try simp only [Act.put, List.getElem_toArray, List.getElem_cons_zero, List.getElem_cons_succ, List.setIfInBounds_toArray, List.set_cons_zero, List.set_cons_succ]
            refine wpAnyH_ready (rs := [15]) (by kernel_rfl) (by simp) (AllReadyH.cons rfl (fun K hK => ?_) AllReadyH.nil)
            try simp only [List.getElem_toArray, List.getElem_cons_zero, List.getElem_cons_succ]
            go_simp
            have ht := txt_whole HG4.out (byt_zeros n)
            rw [zeros_len] at ht
            go_at_call 12
            refine (sum_any ht (by omega)).mono ?_
            rintro e v5 ⟨rfl, hb4⟩
            rw [HX.out.2.2.2.2]
            have HC5 := Lib.hid (HC4.out.below hb4 HC4.out.lt)
            have HB5 : Hid (Below B w v5) := Lib.hid (HB4.out.trans (hb4.mono zB4))
            have zB5 : B ≤ v5.heap.size := Nat.le_trans zB4 hb4.size
            clear ht
            clear HB4 HC4 hb4 HG4
            go_wp2_with fail
            refine hK.out _ _ trivial (fun hHeld => ?_)
            clear hK K
            try simp only [Act.put, List.getElem_toArray, List.getElem_cons_zero, List.getElem_cons_succ, List.setIfInBounds_toArray, List.set_cons_zero, List.set_cons_succ]
            refine wpAnyH_take (i := 16) (v := .int .u32 (bits .xor .u32 (bits .xor .u32 (num eA) (num eB)) (num eZ))) rfl (by kernel_rfl) (by kernel_rfl) (by kernel_rfl) (fun _ _ _ h => h) (Or.inl ⟨by rfl, (by intro w hSw; (try dsimp only at hSw); go_simp)⟩) (by assumption) ?_
            try simp only [Act.put, List.getElem_toArray, List.getElem_cons_zero, List.getElem_cons_succ, List.setIfInBounds_toArray, List.set_cons_zero, List.set_cons_succ]
            refine wpAnyH_take (i := 17) (v := .bool true) rfl (by kernel_rfl) (by kernel_rfl) (by kernel_rfl) (fun _ _ _ h => h) (Or.inl ⟨by rfl, (by intro w hSw; (try dsimp only at hSw); go_simp)⟩) (by assumption) ?_
            try simp only [Act.put, List.getElem_toArray, List.getElem_cons_zero, List.getElem_cons_succ, List.setIfInBounds_toArray, List.set_cons_zero, List.set_cons_succ]
            refine wpAnyH_take (i := 18) (v := .bool true) rfl (by kernel_rfl) (by kernel_rfl) (by kernel_rfl) (fun _ _ _ h => h) (Or.inl ⟨by rfl, (by intro w hSw; (try dsimp only at hSw); go_simp)⟩) (by assumption) ?_
            try simp only [Act.put, List.getElem_toArray, List.getElem_cons_zero, List.getElem_cons_succ, List.setIfInBounds_toArray, List.set_cons_zero, List.set_cons_succ]
            refine wpAnyH_take (i := 19) (v := .bool true) rfl (by kernel_rfl) (by kernel_rfl) (by kernel_rfl) (fun _ _ _ h => h) (Or.inl ⟨by rfl, (by intro w hSw; (try dsimp only at hSw); go_simp)⟩) (by assumption) ?_
            try simp only [Act.put, List.getElem_toArray, List.getElem_cons_zero, List.getElem_cons_succ, List.setIfInBounds_toArray, List.set_cons_zero, List.set_cons_succ]
            refine wpAnyH_done (by kernel_rfl) ?_ _
            go_wp2
            go_ret
            exact ⟨rfl, by rw [HBE.out]; exact HB5.out⟩
        · skip
          try simp only [List.getElem_toArray, List.getElem_cons_zero, List.getElem_cons_succ]
          go_simp
          refine hK.out _ _ trivial (fun hHeld => ?_)
          clear hK K
          try simp only [Act.put, List.getElem_toArray, List.getElem_cons_zero, List.getElem_cons_succ, List.setIfInBounds_toArray, List.set_cons_zero, List.set_cons_succ]
          have hG2 := Whole.new v1 5 (nums (zeros n)).toArray
          have hb1 := below_alloc v1 (.cells (nums (zeros n)).toArray 5)
          generalize v1.alloc (.cells (nums (zeros n)).toArray 5) = v2 at *
          have HC2 := Lib.hid (HC1.out.below hb1 HC1.out.lt)
          have HB2 : Hid (Below B w v2) := Lib.hid (HB1.out.trans (hb1.mono zB1))
          have zB2 : B ≤ v2.heap.size := Nat.le_trans zB1 hb1.size
          generalize v1.heap.size = G at *
          have HG2 := Lib.hid hG2
          clear hG2
          clear HB1 HC1 hb1
          refine wpAnyH_ready (rs := [7]) (by kernel_rfl) (by simp) (AllReadyH.cons rfl (fun K hK => ?_) AllReadyH.nil)
          try simp only [List.getElem_toArray, List.getElem_cons_zero, List.getElem_cons_succ]
          go_simp
          have ht := (H0.out.take n HN2.out.1).below HB2.out (fun _ _ h => h)
          go_at_call 12
          refine (sum_any ht (by omega)).mono ?_
          rintro e v3 ⟨rfl, hb2⟩
          rw [HX.out.2.2.1]
          have HC3 := Lib.hid (HC2.out.below hb2 HC2.out.lt)
          have HB3 : Hid (Below B w v3) := Lib.hid (HB2.out.trans (hb2.mono zB2))
          have zB3 : B ≤ v3.heap.size := Nat.le_trans zB2 hb2.size
          have HG3 := Lib.hid (HG2.out.below hb2 HG2.out.lt)
          clear ht
          clear HB2 HC2 hb2 HG2
          go_wp2_with fail
          refine hK.out _ _ trivial (fun hHeld => ?_)
          clear hK K
          try simp only [Act.put, List.getElem_toArray, List.getElem_cons_zero, List.getElem_cons_succ, List.setIfInBounds_toArray, List.set_cons_zero, List.set_cons_succ]
          refine wpAnyH_ready (rs := [11]) (by kernel_rfl) (by simp) (AllReadyH.cons rfl (fun K hK => ?_) AllReadyH.nil)
          try simp only [List.getElem_toArray, List.getElem_cons_zero, List.getElem_cons_succ]
          go_simp
          have ht := (H1.out.take n HN2.out.2).below HB3.out (fun _ _ h => h)
          go_at_call 12
          refine (sum_any ht (by omega)).mono ?_
          rintro e v4 ⟨rfl, hb3⟩
          rw [HX.out.2.2.2.1]
          have HC4 := Lib.hid (HC3.out.below hb3 HC3.out.lt)
          have HB4 : Hid (Below B w v4) := Lib.hid (HB3.out.trans (hb3.mono zB3))
          have zB4 : B ≤ v4.heap.size := Nat.le_trans zB3 hb3.size
          have HG4 := Lib.hid (HG3.out.below hb3 HG3.out.lt)
          clear ht
          clear HB3 HC3 hb3 HG3
          go_wp2_with fail
          refine hK.out _ _ trivial (fun hHeld => ?_)
          clear hK K
          try simp only [Act.put, List.getElem_toArray, List.getElem_cons_zero, List.getElem_cons_succ, List.setIfInBounds_toArray, List.set_cons_zero, List.set_cons_succ]
          refine wpAnyH_take (i := 12) (v := .int .u32 (bits .xor .u32 (num eA) (num eB))) rfl (by kernel_rfl) (by kernel_rfl) (by kernel_rfl) (fun _ _ _ h => h) (Or.inl ⟨by rfl, (by intro w hSw; (try dsimp only at hSw); go_simp)⟩) (by assumption) ?_
          try simp only [Act.put, List.getElem_toArray, List.getElem_cons_zero, List.getElem_cons_succ, List.setIfInBounds_toArray, List.set_cons_zero, List.set_cons_succ]
          refine wpAnyH_ready (rs := [15]) (by kernel_rfl) (by simp) (AllReadyH.cons rfl (fun K hK => ?_) AllReadyH.nil)
          try simp only [List.getElem_toArray, List.getElem_cons_zero, List.getElem_cons_succ]
          go_simp
          have ht := txt_whole HG4.out (byt_zeros n)
          rw [zeros_len] at ht
          go_at_call 12
          refine (sum_any ht (by omega)).mono ?_
          rintro e v5 ⟨rfl, hb4⟩
          rw [HX.out.2.2.2.2]
          have HC5 := Lib.hid (HC4.out.below hb4 HC4.out.lt)
          have HB5 : Hid (Below B w v5) := Lib.hid (HB4.out.trans (hb4.mono zB4))
          have zB5 : B ≤ v5.heap.size := Nat.le_trans zB4 hb4.size
          clear ht
          clear HB4 HC4 hb4 HG4
          go_wp2_with fail
          refine hK.out _ _ trivial (fun hHeld => ?_)
          clear hK K
          try simp only [Act.put, List.getElem_toArray, List.getElem_cons_zero, List.getElem_cons_succ, List.setIfInBounds_toArray, List.set_cons_zero, List.set_cons_succ]
          refine wpAnyH_take (i := 16) (v := .int .u32 (bits .xor .u32 (bits .xor .u32 (num eA) (num eB)) (num eZ))) rfl (by kernel_rfl) (by kernel_rfl) (by kernel_rfl) (fun _ _ _ h => h) (Or.inl ⟨by rfl, (by intro w hSw; (try dsimp only at hSw); go_simp)⟩) (by assumption) ?_
          try simp only [Act.put, List.getElem_toArray, List.getElem_cons_zero, List.getElem_cons_succ, List.setIfInBounds_toArray, List.set_cons_zero, List.set_cons_succ]
          refine wpAnyH_take (i := 17) (v := .bool true) rfl (by kernel_rfl) (by kernel_rfl) (by kernel_rfl) (fun _ _ _ h => h) (Or.inl ⟨by rfl, (by intro w hSw; (try dsimp only at hSw); go_simp)⟩) (by assumption) ?_
          try simp only [Act.put, List.getElem_toArray, List.getElem_cons_zero, List.getElem_cons_succ, List.setIfInBounds_toArray, List.set_cons_zero, List.set_cons_succ]
          refine wpAnyH_take (i := 18) (v := .bool true) rfl (by kernel_rfl) (by kernel_rfl) (by kernel_rfl) (fun _ _ _ h => h) (Or.inl ⟨by rfl, (by intro w hSw; (try dsimp only at hSw); go_simp)⟩) (by assumption) ?_
          try simp only [Act.put, List.getElem_toArray, List.getElem_cons_zero, List.getElem_cons_succ, List.setIfInBounds_toArray, List.set_cons_zero, List.set_cons_succ]
          refine wpAnyH_take (i := 19) (v := .bool true) rfl (by kernel_rfl) (by kernel_rfl) (by kernel_rfl) (fun _ _ _ h => h) (Or.inl ⟨by rfl, (by intro w hSw; (try dsimp only at hSw); go_simp)⟩) (by assumption) ?_
          try simp only [Act.put, List.getElem_toArray, List.getElem_cons_zero, List.getElem_cons_succ, List.setIfInBounds_toArray, List.set_cons_zero, List.set_cons_succ]
          refine wpAnyH_done (by kernel_rfl) ?_ _
          go_wp2
          go_ret
          exact ⟨rfl, by rw [HBE.out]; exact HB5.out⟩
      · skip
        try simp only [List.getElem_toArray, List.getElem_cons_zero, List.getElem_cons_succ]
        go_simp
        refine hK.out _ _ trivial (fun hHeld => ?_)
        clear hK K
        try simp only [Act.put, List.getElem_toArray, List.getElem_cons_zero, List.getElem_cons_succ, List.setIfInBounds_toArray, List.set_cons_zero, List.set_cons_succ]
        have hG1 := Whole.new v0 5 (nums (zeros n)).toArray
        have hb0 := below_alloc v0 (.cells (nums (zeros n)).toArray 5)
        generalize v0.alloc (.cells (nums (zeros n)).toArray 5) = v1 at *
        have HC1 := Lib.hid (HC0.out.below hb0 HC0.out.lt)
        have HB1 : Hid (Below B w v1) := Lib.hid (HB0.out.trans (hb0.mono zB0))
        have zB1 : B ≤ v1.heap.size := Nat.le_trans zB0 hb0.size
        generalize v0.heap.size = G at *
        have HG1 := Lib.hid hG1
        clear hG1
        clear HB0 HC0 hb0
        refine wpAnyH_ready (rs := [3]) (by kernel_rfl) (by simp) (AllReadyH.cons rfl (fun K hK => ?_) AllReadyH.nil)
        try simp only [List.getElem_toArray, List.getElem_cons_zero, List.getElem_cons_succ]
        go_simp
        have ht := txt_whole HC1.out HX.out.1
        rw [chg_len] at ht
        go_at_call 12
        refine (sum_any ht (by omega)).mono ?_
        rintro e v2 ⟨rfl, hb1⟩
        rw [HX.out.2.1]
        have HC2 := Lib.hid (HC1.out.below hb1 HC1.out.lt)
        have HB2 : Hid (Below B w v2) := Lib.hid (HB1.out.trans (hb1.mono zB1))
        have zB2 : B ≤ v2.heap.size := Nat.le_trans zB1 hb1.size
        have HG2 := Lib.hid (HG1.out.below hb1 HG1.out.lt)
        clear ht
        clear HB1 HC1 hb1 HG1
        go_wp2_with fail
        refine hK.out _ _ trivial (fun hHeld => ?_)
        clear hK K
        try simp only [Act.put, List.getElem_toArray, List.getElem_cons_zero, List.getElem_cons_succ, List.setIfInBounds_toArray, List.set_cons_zero, List.set_cons_succ]
        refine wpAnyH_ready (rs := [7]) (by kernel_rfl) (by simp) (AllReadyH.cons rfl (fun K hK => ?_) AllReadyH.nil)
        try simp only [List.getElem_toArray, List.getElem_cons_zero, List.getElem_cons_succ]
        go_simp
        have ht := (H0.out.take n HN2.out.1).below HB2.out (fun _ _ h => h)
        go_at_call 12
        refine (sum_any ht (by omega)).mono ?_
        rintro e v3 ⟨rfl, hb2⟩
        rw [HX.out.2.2.1]
        have HC3 := Lib.hid (HC2.out.below hb2 HC2.out.lt)
        have HB3 : Hid (Below B w v3) := Lib.hid (HB2.out.trans (hb2.mono zB2))
        have zB3 : B ≤ v3.heap.size := Nat.le_trans zB2 hb2.size
        have HG3 := Lib.hid (HG2.out.below hb2 HG2.out.lt)
        clear ht
        clear HB2 HC2 hb2 HG2
        go_wp2_with fail
        refine hK.out _ _ trivial (fun hHeld => ?_)
        clear hK K
        try simp only [Act.put, List.getElem_toArray, List.getElem_cons_zero, List.getElem_cons_succ, List.setIfInBounds_toArray, List.set_cons_zero, List.set_cons_succ]
        refine wpAnyH_ready (rs := [11]) (by kernel_rfl) (by simp) (AllReadyH.cons rfl (fun K hK => ?_) AllReadyH.nil)
        try simp only [List.getElem_toArray, List.getElem_cons_zero, List.getElem_cons_succ]
        go_simp
        have ht := (H1.out.take n HN2.out.2).below HB3.out (fun _ _ h => h)
        go_at_call 12
        refine (sum_any ht (by omega)).mono ?_
        rintro e v4 ⟨rfl, hb3⟩
        rw [HX.out.2.2.2.1]
        have HC4 := Lib.hid (HC3.out.below hb3 HC3.out.lt)
        have HB4 : Hid (Below B w v4) := Lib.hid (HB3.out.trans (hb3.mono zB3))
        have zB4 : B ≤ v4.heap.size := Nat.le_trans zB3 hb3.size
        have HG4 := Lib.hid (HG3.out.below hb3 HG3.out.lt)
        clear ht
        clear HB3 HC3 hb3 HG3
        go_wp2_with fail
        refine hK.out _ _ trivial (fun hHeld => ?_)
        clear hK K
        try simp only [Act.put, List.getElem_toArray, List.getElem_cons_zero, List.getElem_cons_succ, List.setIfInBounds_toArray, List.set_cons_zero, List.set_cons_succ]
        refine wpAnyH_take (i := 12) (v := .int .u32 (bits .xor .u32 (num eA) (num eB))) rfl (by kernel_rfl) (by kernel_rfl) (by kernel_rfl) (fun _ _ _ h => h) (Or.inl ⟨by rfl, (by intro w hSw; (try dsimp only at hSw); go_simp)⟩) (by assumption) ?_
        try simp only [Act.put, List.getElem_toArray, List.getElem_cons_zero, List.getElem_cons_succ, List.setIfInBounds_toArray, List.set_cons_zero, List.set_cons_succ]
        refine wpAnyH_ready (rs := [15]) (by kernel_rfl) (by simp) (AllReadyH.cons rfl (fun K hK => ?_) AllReadyH.nil)
        try simp only [List.getElem_toArray, List.getElem_cons_zero, List.getElem_cons_succ]
        go_simp
        have ht := txt_whole HG4.out (byt_zeros n)
        rw [zeros_len] at ht
        go_at_call 12
        refine (sum_any ht (by omega)).mono ?_
        rintro e v5 ⟨rfl, hb4⟩
        rw [HX.out.2.2.2.2]
        have HC5 := Lib.hid (HC4.out.below hb4 HC4.out.lt)
        have HB5 : Hid (Below B w v5) := Lib.hid (HB4.out.trans (hb4.mono zB4))
        have zB5 : B ≤ v5.heap.size := Nat.le_trans zB4 hb4.size
        clear ht
        clear HB4 HC4 hb4 HG4
        go_wp2_with fail
        refine hK.out _ _ trivial (fun hHeld => ?_)
        clear hK K
        try simp only [Act.put, List.getElem_toArray, List.getElem_cons_zero, List.getElem_cons_succ, List.setIfInBounds_toArray, List.set_cons_zero, List.set_cons_succ]
        refine wpAnyH_take (i := 16) (v := .int .u32 (bits .xor .u32 (bits .xor .u32 (num eA) (num eB)) (num eZ))) rfl (by kernel_rfl) (by kernel_rfl) (by kernel_rfl) (fun _ _ _ h => h) (Or.inl ⟨by rfl, (by intro w hSw; (try dsimp only at hSw); go_simp)⟩) (by assumption) ?_
        try simp only [Act.put, List.getElem_toArray, List.getElem_cons_zero, List.getElem_cons_succ, List.setIfInBounds_toArray, List.set_cons_zero, List.set_cons_succ]
        refine wpAnyH_take (i := 17) (v := .bool true) rfl (by kernel_rfl) (by kernel_rfl) (by kernel_rfl) (fun _ _ _ h => h) (Or.inl ⟨by rfl, (by intro w hSw; (try dsimp only at hSw); go_simp)⟩) (by assumption) ?_
        try simp only [Act.put, List.getElem_toArray, List.getElem_cons_zero, List.getElem_cons_succ, List.setIfInBounds_toArray, List.set_cons_zero, List.set_cons_succ]
        refine wpAnyH_take (i := 18) (v := .bool true) rfl (by kernel_rfl) (by kernel_rfl) (by kernel_rfl) (fun _ _ _ h => h) (Or.inl ⟨by rfl, (by intro w hSw; (try dsimp only at hSw); go_simp)⟩) (by assumption) ?_
        try simp only [Act.put, List.getElem_toArray, List.getElem_cons_zero, List.getElem_cons_succ, List.setIfInBounds_toArray, List.set_cons_zero, List.set_cons_succ]
        refine wpAnyH_take (i := 19) (v := .bool true) rfl (by kernel_rfl) (by kernel_rfl) (by kernel_rfl) (fun _ _ _ h => h) (Or.inl ⟨by rfl, (by intro w hSw; (try dsimp only at hSw); go_simp)⟩) (by assumption) ?_
        try simp only [Act.put, List.getElem_toArray, List.getElem_cons_zero, List.getElem_cons_succ, List.setIfInBounds_toArray, List.set_cons_zero, List.set_cons_succ]
        refine wpAnyH_done (by kernel_rfl) ?_ _
        go_wp2
        go_ret
        exact ⟨rfl, by rw [HBE.out]; exact HB5.out⟩
end Go.Proofs.Ytiagblmnmknnfaa
