/-
  The document's turn and words.
-/
import Derived.Test.YtndiojiphoomgaaDoorJc
set_option linter.unusedSimpArgs false
namespace Go.Proofs.YtndiojiphoomgaaDoor
open Go.RowKit
theorem bits_or_comm (x y : BitVec 32) : bits .or .u32 (num x) (num y) = bits .or .u32 (num y) (num x) := by rw [num_or, num_or, BitVec.or_comm]
theorem num_rot' (x : BitVec 32) (n m : Nat) (h : n + m = 32) (h0 : 0 < n) (h1 : 0 < m) : bits .or .u32 (num x / 2 ^ n) (num x * 2 ^ m % 4294967296) = num (x.rotateRight n) := by
  have e1 : num x * 2 ^ m % 4294967296 = num (x <<< m) := by
    unfold num; rw [BitVec.toNat_shiftLeft, Nat.shiftLeft_eq]; simp
  rw [← num_rot x n m h h0 h1, e1, num_shr, bits_or_comm]
theorem turn2 (x : BitVec 32) (w : World) : Calls Tryd.prog 29 #[.int .u32 (num x), .int .i64 2] w fun e w' => e = .returned (.int .u32 (num (x.rotateRight 2))) ∧ w = w' := by
  go_enter Tryd.func29, Tryd.ntmps29
  go_wp2
  go_ret
  exact ⟨ret_u32 (num_rot' x 2 30 (by omega) (by omega) (by omega)), rfl⟩
theorem turn13 (x : BitVec 32) (w : World) : Calls Tryd.prog 29 #[.int .u32 (num x), .int .i64 13] w fun e w' => e = .returned (.int .u32 (num (x.rotateRight 13))) ∧ w = w' := by
  go_enter Tryd.func29, Tryd.ntmps29
  go_wp2
  go_ret
  exact ⟨ret_u32 (num_rot' x 13 19 (by omega) (by omega) (by omega)), rfl⟩
theorem turn22 (x : BitVec 32) (w : World) : Calls Tryd.prog 29 #[.int .u32 (num x), .int .i64 22] w fun e w' => e = .returned (.int .u32 (num (x.rotateRight 22))) ∧ w = w' := by
  go_enter Tryd.func29, Tryd.ntmps29
  go_wp2
  go_ret
  exact ⟨ret_u32 (num_rot' x 22 10 (by omega) (by omega) (by omega)), rfl⟩
theorem turn6 (x : BitVec 32) (w : World) : Calls Tryd.prog 29 #[.int .u32 (num x), .int .i64 6] w fun e w' => e = .returned (.int .u32 (num (x.rotateRight 6))) ∧ w = w' := by
  go_enter Tryd.func29, Tryd.ntmps29
  go_wp2
  go_ret
  exact ⟨ret_u32 (num_rot' x 6 26 (by omega) (by omega) (by omega)), rfl⟩
theorem turn11 (x : BitVec 32) (w : World) : Calls Tryd.prog 29 #[.int .u32 (num x), .int .i64 11] w fun e w' => e = .returned (.int .u32 (num (x.rotateRight 11))) ∧ w = w' := by
  go_enter Tryd.func29, Tryd.ntmps29
  go_wp2
  go_ret
  exact ⟨ret_u32 (num_rot' x 11 21 (by omega) (by omega) (by omega)), rfl⟩
theorem turn25 (x : BitVec 32) (w : World) : Calls Tryd.prog 29 #[.int .u32 (num x), .int .i64 25] w fun e w' => e = .returned (.int .u32 (num (x.rotateRight 25))) ∧ w = w' := by
  go_enter Tryd.func29, Tryd.ntmps29
  go_wp2
  go_ret
  exact ⟨ret_u32 (num_rot' x 25 7 (by omega) (by omega) (by omega)), rfl⟩
theorem turn7 (x : BitVec 32) (w : World) : Calls Tryd.prog 29 #[.int .u32 (num x), .int .i64 7] w fun e w' => e = .returned (.int .u32 (num (x.rotateRight 7))) ∧ w = w' := by
  go_enter Tryd.func29, Tryd.ntmps29
  go_wp2
  go_ret
  exact ⟨ret_u32 (num_rot' x 7 25 (by omega) (by omega) (by omega)), rfl⟩
theorem turn18 (x : BitVec 32) (w : World) : Calls Tryd.prog 29 #[.int .u32 (num x), .int .i64 18] w fun e w' => e = .returned (.int .u32 (num (x.rotateRight 18))) ∧ w = w' := by
  go_enter Tryd.func29, Tryd.ntmps29
  go_wp2
  go_ret
  exact ⟨ret_u32 (num_rot' x 18 14 (by omega) (by omega) (by omega)), rfl⟩
theorem turn17 (x : BitVec 32) (w : World) : Calls Tryd.prog 29 #[.int .u32 (num x), .int .i64 17] w fun e w' => e = .returned (.int .u32 (num (x.rotateRight 17))) ∧ w = w' := by
  go_enter Tryd.func29, Tryd.ntmps29
  go_wp2
  go_ret
  exact ⟨ret_u32 (num_rot' x 17 15 (by omega) (by omega) (by omega)), rfl⟩
theorem turn19 (x : BitVec 32) (w : World) : Calls Tryd.prog 29 #[.int .u32 (num x), .int .i64 19] w fun e w' => e = .returned (.int .u32 (num (x.rotateRight 19))) ∧ w = w' := by
  go_enter Tryd.func29, Tryd.ntmps29
  go_wp2
  go_ret
  exact ⟨ret_u32 (num_rot' x 19 13 (by omega) (by omega) (by omega)), rfl⟩
theorem txt_cell4 {w : World} {S : Nat → Prop} {b off n c : Nat} {l : List Int} (h : Txt w S (some ⟨b, off, none⟩) n c l) {k : Nat} (hk : k < n) : w.cell? ⟨b, off + k, none⟩ = some (.int .u8 (l.getD k 0)) := by
  obtain ⟨b', off', he, _, _, hc⟩ := h.cell hk
  injection he with he
  injection he with e1 e2 e3
  subst e1; subst e2
  exact hc
set_option maxHeartbeats 4000000 in
set_option maxRecDepth 100000 in
theorem words_any {S : Nat → Prop} {ba off c : Nat} (b : List Int) (w : World) (hT : Txt w S (some ⟨ba, off, none⟩) 64 c b) :
    Calls Tryd.prog 28 #[.slice (some ⟨ba, off, none⟩) 64 c] w fun e w' => e = .returned (.agg (wds (Sm.sched b)).toArray) ∧ Below w.heap.size w w' := by
  have hb := hT.2.2.1
  have HL := Lib.hid hT.1
  have HT := Lib.hid hT.old
  have HC : Hid (64 ≤ c) := Lib.hid hT.2.1
  clear hT
  go_enter Tryd.func28, Tryd.ntmps28
  go_wp2_with ((with_reducible show wpList _ _ _ ((⟨_, Op.store 59 _ _, _, _, _, _⟩ : Oper) :: _) _ _); refine wpList_store_row rfl _ (.tmp 3) (.tmp 10) rfl (w.heap.size + 1) (wds (zeros32 64)).toArray rfl rfl 59 (wds (zeros32 64)).toArray ?k2 infoW64 rfl (all_wds _) ?_)
  case k2 =>
    have k2 := Whole.new (w.alloc (.cells #[Value.int IntKind.u32 0, Value.int IntKind.u32 0, Value.int IntKind.u32 0, Value.int IntKind.u32 0, Value.int IntKind.u32 0, Value.int IntKind.u32 0, Value.int IntKind.u32 0, Value.int IntKind.u32 0, Value.int IntKind.u32 0, Value.int IntKind.u32 0, Value.int IntKind.u32 0, Value.int IntKind.u32 0, Value.int IntKind.u32 0, Value.int IntKind.u32 0, Value.int IntKind.u32 0, Value.int IntKind.u32 0, Value.int IntKind.u32 0, Value.int IntKind.u32 0, Value.int IntKind.u32 0, Value.int IntKind.u32 0, Value.int IntKind.u32 0, Value.int IntKind.u32 0, Value.int IntKind.u32 0, Value.int IntKind.u32 0, Value.int IntKind.u32 0, Value.int IntKind.u32 0, Value.int IntKind.u32 0, Value.int IntKind.u32 0, Value.int IntKind.u32 0, Value.int IntKind.u32 0, Value.int IntKind.u32 0, Value.int IntKind.u32 0, Value.int IntKind.u32 0, Value.int IntKind.u32 0, Value.int IntKind.u32 0, Value.int IntKind.u32 0, Value.int IntKind.u32 0, Value.int IntKind.u32 0, Value.int IntKind.u32 0, Value.int IntKind.u32 0, Value.int IntKind.u32 0, Value.int IntKind.u32 0, Value.int IntKind.u32 0, Value.int IntKind.u32 0, Value.int IntKind.u32 0, Value.int IntKind.u32 0, Value.int IntKind.u32 0, Value.int IntKind.u32 0, Value.int IntKind.u32 0, Value.int IntKind.u32 0, Value.int IntKind.u32 0, Value.int IntKind.u32 0, Value.int IntKind.u32 0, Value.int IntKind.u32 0, Value.int IntKind.u32 0, Value.int IntKind.u32 0, Value.int IntKind.u32 0, Value.int IntKind.u32 0, Value.int IntKind.u32 0, Value.int IntKind.u32 0, Value.int IntKind.u32 0, Value.int IntKind.u32 0, Value.int IntKind.u32 0, Value.int IntKind.u32 0] 59)) 59 #[Value.int IntKind.u32 0, Value.int IntKind.u32 0, Value.int IntKind.u32 0, Value.int IntKind.u32 0, Value.int IntKind.u32 0, Value.int IntKind.u32 0, Value.int IntKind.u32 0, Value.int IntKind.u32 0, Value.int IntKind.u32 0, Value.int IntKind.u32 0, Value.int IntKind.u32 0, Value.int IntKind.u32 0, Value.int IntKind.u32 0, Value.int IntKind.u32 0, Value.int IntKind.u32 0, Value.int IntKind.u32 0, Value.int IntKind.u32 0, Value.int IntKind.u32 0, Value.int IntKind.u32 0, Value.int IntKind.u32 0, Value.int IntKind.u32 0, Value.int IntKind.u32 0, Value.int IntKind.u32 0, Value.int IntKind.u32 0, Value.int IntKind.u32 0, Value.int IntKind.u32 0, Value.int IntKind.u32 0, Value.int IntKind.u32 0, Value.int IntKind.u32 0, Value.int IntKind.u32 0, Value.int IntKind.u32 0, Value.int IntKind.u32 0, Value.int IntKind.u32 0, Value.int IntKind.u32 0, Value.int IntKind.u32 0, Value.int IntKind.u32 0, Value.int IntKind.u32 0, Value.int IntKind.u32 0, Value.int IntKind.u32 0, Value.int IntKind.u32 0, Value.int IntKind.u32 0, Value.int IntKind.u32 0, Value.int IntKind.u32 0, Value.int IntKind.u32 0, Value.int IntKind.u32 0, Value.int IntKind.u32 0, Value.int IntKind.u32 0, Value.int IntKind.u32 0, Value.int IntKind.u32 0, Value.int IntKind.u32 0, Value.int IntKind.u32 0, Value.int IntKind.u32 0, Value.int IntKind.u32 0, Value.int IntKind.u32 0, Value.int IntKind.u32 0, Value.int IntKind.u32 0, Value.int IntKind.u32 0, Value.int IntKind.u32 0, Value.int IntKind.u32 0, Value.int IntKind.u32 0, Value.int IntKind.u32 0, Value.int IntKind.u32 0, Value.int IntKind.u32 0, Value.int IntKind.u32 0]
    rw [size_alloc] at k2
    exact k2
  rw [zero64]
  have kr := (((Whole.new w 59 (wds (zeros32 64)).toArray).alloc (.cells (wds (zeros32 64)).toArray 59)).rowFar (b := w.heap.size + 1) (by omega) (wds (zeros32 64)).toArray)
  have kw0 := Whole.new (w.alloc (.cells (wds (zeros32 64)).toArray 59)) 59 (wds (zeros32 64)).toArray
  rw [size_alloc] at kw0
  have kw := kw0.row (wds (zeros32 64)).toArray
  have hb3 : Below w.heap.size w (((w.alloc (.cells (wds (zeros32 64)).toArray 59)).alloc (.cells (wds (zeros32 64)).toArray 59)).setRow (w.heap.size + 1) (wds (zeros32 64)).toArray) := below_row ((below_alloc w _).alloc (by simp) _) (by omega) _
  clear kw0
  generalize ((w.alloc (.cells (wds (zeros32 64)).toArray 59)).alloc (.cells (wds (zeros32 64)).toArray 59)).setRow (w.heap.size + 1) (wds (zeros32 64)).toArray = w3 at *
  generalize hBe : w.heap.size = B at *
  have HBE := Lib.hid hBe
  clear hBe
  have H0 := Lib.hid (And.intro kr (And.intro kw hb3))
  clear kr kw hb3
  go_loopw [4] (fun i wr => ∃ k : Nat, k ≤ 16 ∧ i = .int .i64 k ∧ Hid (Whole wr B 59 (wds (zeros32 64)).toArray ∧ Whole wr (B + 1) 59 (wds (Sm.w16 b k ++ zeros32 (64 - k))).toArray ∧ Below B w wr)) (fun i _ => 16 - (intOf i).toNat)
  case atStart => exact ⟨0, Nat.zero_le _, rfl, Lib.hid H0.out⟩
  case round =>
    obtain ⟨k, hk, rfl, HB⟩ := hrel
    by_cases hlt : k < 16
    · have HTT := Lib.hid (HT.out.below HB.out.2.2 (fun b _ h => h))
      have c0 : wr.cell? ⟨ba, off + 4 * k, none⟩ = some (.int .u8 (b.getD (4 * k) 0)) := txt_cell4 HTT.out (by omega)
      have c1 : wr.cell? ⟨ba, off + (4 * k + 1), none⟩ = some (.int .u8 (b.getD (4 * k + 1) 0)) := txt_cell4 HTT.out (by omega)
      have c2 : wr.cell? ⟨ba, off + (4 * k + 2), none⟩ = some (.int .u8 (b.getD (4 * k + 2) 0)) := txt_cell4 HTT.out (by omega)
      have c3 : wr.cell? ⟨ba, off + (4 * k + 3), none⟩ = some (.int .u8 (b.getD (4 * k + 3) 0)) := txt_cell4 HTT.out (by omega)
      have d0 := byt_getD hb (4 * k)
      have d1 := byt_getD hb (4 * k + 1)
      have d2 := byt_getD hb (4 * k + 2)
      have d3 := byt_getD hb (4 * k + 3)
      have ev := word_or _ _ _ _ d0 d1 d2 d3
      rw [show BitVec.ofInt 32 (b.getD (4 * k) 0 * 16777216 + b.getD (4 * k + 1) 0 * 65536 + b.getD (4 * k + 2) 0 * 256 + b.getD (4 * k + 3) 0) = Sm.wd b k from rfl] at ev
      generalize b.getD (4 * k) 0 = x0 at *
      generalize b.getD (4 * k + 1) 0 = x1 at *
      generalize b.getD (4 * k + 2) 0 = x2 at *
      generalize b.getD (4 * k + 3) 0 = x3 at *
      have e0 : IntKind.i64.wrap (4 * (k : Int)) = 4 * (k : Int) := IntWalk.i64_in _ (by omega)
      have e1 : IntKind.i64.wrap (4 * (k : Int) + 1) = 4 * (k : Int) + 1 := IntWalk.i64_in _ (by omega)
      have e2 : IntKind.i64.wrap (4 * (k : Int) + 2) = 4 * (k : Int) + 2 := IntWalk.i64_in _ (by omega)
      have e3 : IntKind.i64.wrap (4 * (k : Int) + 3) = 4 * (k : Int) + 3 := IntWalk.i64_in _ (by omega)
      have n0 : (4 * (k : Int)).toNat = 4 * k := by omega
      have n1 : (4 * (k : Int) + 1).toNat = 4 * k + 1 := by omega
      have n2 : (4 * (k : Int) + 2).toNat = 4 * k + 2 := by omega
      have n3 : (4 * (k : Int) + 3).toNat = 4 * k + 3 := by omega
      have p0 : 0 ≤ 4 * (k : Int) := by omega
      have p1 : 0 ≤ 4 * (k : Int) + 1 := by omega
      have p2 : 0 ≤ 4 * (k : Int) + 2 := by omega
      have p3 : 0 ≤ 4 * (k : Int) + 3 := by omega
      have q0 : 4 * (k : Int) < 64 := by omega
      have q1 : 4 * (k : Int) + 1 < 64 := by omega
      have q2 : 4 * (k : Int) + 2 < 64 := by omega
      have q3 : 4 * (k : Int) + 3 < 64 := by omega
      have q4 : (k : Int) < 64 := by omega
      have cw : wr.cell? ⟨B + 1, k, none⟩ = some (.int .u32 (num ((Sm.w16 b k ++ zeros32 (64 - k)).getD k 0))) := (HB.out.2.1.cell k).trans (by rw [List.getElem?_toArray, wds_get _ _ (by simp [Sm.w16, zeros32]; omega)])
      have fw : wr.frozen? ⟨B + 1, k, none⟩ = false := HB.out.2.1.frozen k
      generalize (Sm.w16 b k ++ zeros32 (64 - k)).getD k 0 = old at *
      go_wp2
      go_still_tail 34, (by kernel_rfl)
      change wpList _ _ _ _ _ wr.drew
      go_wp2
      go_roundw
      case rel =>
        refine ⟨k + 1, by omega, by go_num, ?_⟩
        exact Lib.hid ⟨HB.out.1.far (p := ⟨B + 1, k, none⟩) (by show B ≠ B + 1; omega) _,
          by rw [← w16_set b k hlt]; exact HB.out.2.1.set k _, HB.out.2.2.drew.setCell (by show B ≤ B + 1; omega) _⟩
      case measure => simp [intOf]; omega
    · have HK : Hid (k = 16) := Lib.hid (by omega)
      go_wp2
      clear H0
      go_loopw [5] (fun i wr => ∃ k : Nat, k ≤ 48 ∧ i = .int .i64 (16 + (k : Int)) ∧ Hid (Whole wr B 59 (wds (zeros32 64)).toArray ∧ Whole wr (B + 1) 59 (wds (Sm.wTo b k ++ zeros32 (48 - k))).toArray ∧ Below B w wr)) (fun i _ => 64 - (intOf i).toNat)
      case atStart =>
        have := HB.out
        rw [HK.out] at this
        exact ⟨0, Nat.zero_le _, rfl, Lib.hid this⟩
      case round =>
        clear HB
        obtain ⟨k, hk, rfl, HB⟩ := hrel
        by_cases hlt : k < 48
        · have HC : ∀ j, j < 16 + k → wr.cell? ⟨B + 1, j, none⟩ = some (.int .u32 (num ((Sm.wTo b k).getD j 0))) := by
            intro j hj
            rw [HB.out.2.1.cell j, List.getElem?_toArray, wds_get _ _ (by simp [wTo_len, zeros32]; omega)]
            have : j < (Sm.wTo b k).length := by rw [wTo_len]; omega
            simp [List.getElem?_append_left this]
          have c0 := HC (14 + k) (by omega)
          have c1 := HC (9 + k) (by omega)
          have c2 := HC (1 + k) (by omega)
          have c3 := HC k (by omega)
          clear HC
          have ev : Sm.nextW (Sm.wTo b k) (16 + k) = Sm.s1 ((Sm.wTo b k).getD (14 + k) 0) + (Sm.wTo b k).getD (9 + k) 0 + Sm.s0 ((Sm.wTo b k).getD (1 + k) 0) + (Sm.wTo b k).getD k 0 := by
            unfold Sm.nextW
            rw [show 16 + k - 2 = 14 + k by omega, show 16 + k - 7 = 9 + k by omega, show 16 + k - 15 = 1 + k by omega, show 16 + k - 16 = k by omega]
          have EV := Lib.hid ev
          clear ev
          generalize (Sm.wTo b k).getD (14 + k) 0 = x0 at *
          generalize (Sm.wTo b k).getD (9 + k) 0 = x1 at *
          generalize (Sm.wTo b k).getD (1 + k) 0 = x2 at *
          generalize (Sm.wTo b k).getD k 0 = x3 at *
          have e0 : IntKind.i64.wrap (16 + (k : Int) - 2) = 16 + (k : Int) - 2 := IntWalk.i64_in _ (by omega)
          have e1 : IntKind.i64.wrap (16 + (k : Int) - 7) = 16 + (k : Int) - 7 := IntWalk.i64_in _ (by omega)
          have e2 : IntKind.i64.wrap (16 + (k : Int) - 15) = 16 + (k : Int) - 15 := IntWalk.i64_in _ (by omega)
          have e3 : IntKind.i64.wrap (16 + (k : Int) - 16) = 16 + (k : Int) - 16 := IntWalk.i64_in _ (by omega)
          have n0 : (16 + (k : Int) - 2).toNat = 14 + k := by omega
          have n1 : (16 + (k : Int) - 7).toNat = 9 + k := by omega
          have n2 : (16 + (k : Int) - 15).toNat = 1 + k := by omega
          have n3 : (16 + (k : Int) - 16).toNat = k := by omega
          have n4 : (16 + (k : Int)).toNat = 16 + k := by omega
          have p0 : 0 ≤ 16 + (k : Int) - 2 := by omega
          have p1 : 0 ≤ 16 + (k : Int) - 7 := by omega
          have p2 : 0 ≤ 16 + (k : Int) - 15 := by omega
          have p3 : 0 ≤ 16 + (k : Int) - 16 := by omega
          have p4 : 0 ≤ 16 + (k : Int) := by omega
          have r0 : 2 ≤ 16 + (k : Int) := by omega
          have r1 : 7 ≤ 16 + (k : Int) := by omega
          have r2 : 15 ≤ 16 + (k : Int) := by omega
          have r3 : 16 ≤ 16 + (k : Int) := by omega
          have q0 : 16 + (k : Int) - 2 < 64 := by omega
          have q1 : 16 + (k : Int) - 7 < 64 := by omega
          have q2 : 16 + (k : Int) - 15 < 64 := by omega
          have q3 : 16 + (k : Int) - 16 < 64 := by omega
          have q4 : 16 + (k : Int) < 64 := by omega
          have hd : decide (16 + (k : Int) < 64) = true := by simp; omega
          have cw : wr.cell? ⟨B + 1, 16 + k, none⟩ = some (.int .u32 (num ((Sm.wTo b k ++ zeros32 (48 - k)).getD (16 + k) 0))) := (HB.out.2.1.cell (16 + k)).trans (by rw [List.getElem?_toArray, wds_get _ _ (by simp [wTo_len, zeros32]; omega)])
          have fw : wr.frozen? ⟨B + 1, 16 + k, none⟩ = false := HB.out.2.1.frozen (16 + k)
          generalize (Sm.wTo b k ++ zeros32 (48 - k)).getD (16 + k) 0 = old at *
          go_wp2_with fail
          refine (turn7 x2 _).mono ?_
          rintro e w' ⟨rfl, rfl⟩
          go_wp2_with fail
          refine (turn18 x2 _).mono ?_
          rintro e w' ⟨rfl, rfl⟩
          have hs0 : bits .xor .u32 (bits .xor .u32 (num (x2.rotateRight 7)) (num (x2.rotateRight 18))) (num x2 / 8) = num (Sm.s0 x2) := by
            rw [num_xor]; exact (congrArg _ (num_shr x2 3)).trans (num_xor _ _)
          go_wp2_with fail
          clear hs0
          refine (turn17 x0 _).mono ?_
          rintro e w' ⟨rfl, rfl⟩
          go_wp2_with fail
          refine (turn19 x0 _).mono ?_
          rintro e w' ⟨rfl, rfl⟩
          have hs1 : bits .xor .u32 (bits .xor .u32 (num (x0.rotateRight 17)) (num (x0.rotateRight 19))) (num x0 / 1024) = num (Sm.s1 x0) := by
            rw [num_xor]; exact (congrArg _ (num_shr x0 10)).trans (num_xor _ _)
          go_wp2
          clear hs1
          go_still_tail 14, (by kernel_rfl)
          change wpList _ _ _ _ _ wr.drew
          clear e0 e1 e2 e3 n0 n1 n2 n3 p0 p1 p2 p3 q0 q1 q2 q3 r0 r1 r2 r3 c0 c1 c2 c3
          simp only [num_wadd]
          go_wp2
          go_roundw
          case rel =>
            refine ⟨k + 1, by omega, by go_num, ?_⟩
            exact Lib.hid ⟨HB.out.1.far (p := ⟨B + 1, 16 + k, none⟩) (by show B ≠ B + 1; omega) _,
              by rw [← wTo_set b k hlt, EV.out]; exact HB.out.2.1.set (16 + k) _, HB.out.2.2.drew.setCell (by show B ≤ B + 1; omega) _⟩
          case measure => simp [intOf]; omega
        · have hd : decide (16 + (k : Int) < 64) = false := by simp; omega
          obtain rfl : k = 48 := by omega
          have K1 : Hid (Whole wr B 59 (wds (zeros32 64)).toArray) := Lib.hid HB.out.1
          have K2 : Hid (Whole wr (B + 1) 59 (wds (Sm.sched b)).toArray) := Lib.hid (by have := HB.out.2.1; simpa [zeros32, Sm.sched] using this)
          have hNs : (wds (Sm.sched b)).toArray.size = 64 := by simp [wds_len, Sm.sched, wTo_len]
          have hNa := all_wds (Sm.sched b)
          have HZ : Hid ((wds (zeros32 64)).toArray.size = 64) := Lib.hid (by simp [wds_len, zeros32])
          generalize hN : (wds (Sm.sched b)).toArray = N at *
          have HN := Lib.hid hN
          have HNS := Lib.hid hNs
          clear hN hNs
          go_wp2_with (first
            | ((with_reducible show wpList _ _ _ ((⟨_, Op.load 59 _, _, _, _, _⟩ : Oper) :: _) _ _); refine wpList_load_row rfl _ (.tmp 3) rfl (B + 1) rfl 59 N (0, 0) _ K2.out undW64 rfl (by rw [HNS.out]; exact infoW64) ?_)
            | ((with_reducible show wpList _ _ _ ((⟨_, Op.store 59 _ _, _, _, _, _⟩ : Oper) :: _) _ _); refine wpList_store_row rfl _ (.tmp 2) (.tmp 93) rfl B N rfl rfl 59 _ K1.out (by rw [HNS.out]; exact infoW64) (by rw [HZ.out, HNS.out]) hNa ?_))
          refine bodyPost_ret (results_one_cell rfl _ _ _ _ rfl (run_loadVar_row _ _ _ _ _ (0, 0) _ (K1.out.row N) undW64 rfl (by rw [HNS.out]; exact infoW64))) rfl ?_
          exact ⟨by rw [HN.out], by rw [HBE.out]; exact below_row HB.out.2.2 (by omega) N⟩
end Go.Proofs.YtndiojiphoomgaaDoor
