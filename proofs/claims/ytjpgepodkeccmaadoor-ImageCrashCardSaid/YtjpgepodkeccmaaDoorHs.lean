/-
  The walk of schedule: the words of a block.
-/
import Derived.Test.YtjpgepodkeccmaaDoorHw
import Derived.Deep.QuietTactic
import Derived.BigQuiet
import Derived.StillTailTactics
namespace Go.Proofs.YtjpgepodkeccmaaDoor.Sh
open Go.Proofs.YtjpgepodkeccmaaDoor
set_option maxRecDepth 20000
open Go.RowKit
def zeros32 (n : Nat) : List (BitVec 32) := List.replicate n 0
theorem num_wadd (x y : BitVec 32) : IntKind.u32.wrap (num x + num y) = num (x + y) := by rw [IntKind.wrap_u32']; exact num_add x y
theorem zero64 : #[Value.int IntKind.u32 0, Value.int IntKind.u32 0, Value.int IntKind.u32 0, Value.int IntKind.u32 0, Value.int IntKind.u32 0, Value.int IntKind.u32 0, Value.int IntKind.u32 0, Value.int IntKind.u32 0, Value.int IntKind.u32 0, Value.int IntKind.u32 0, Value.int IntKind.u32 0, Value.int IntKind.u32 0, Value.int IntKind.u32 0, Value.int IntKind.u32 0, Value.int IntKind.u32 0, Value.int IntKind.u32 0, Value.int IntKind.u32 0, Value.int IntKind.u32 0, Value.int IntKind.u32 0, Value.int IntKind.u32 0, Value.int IntKind.u32 0, Value.int IntKind.u32 0, Value.int IntKind.u32 0, Value.int IntKind.u32 0, Value.int IntKind.u32 0, Value.int IntKind.u32 0, Value.int IntKind.u32 0, Value.int IntKind.u32 0, Value.int IntKind.u32 0, Value.int IntKind.u32 0, Value.int IntKind.u32 0, Value.int IntKind.u32 0, Value.int IntKind.u32 0, Value.int IntKind.u32 0, Value.int IntKind.u32 0, Value.int IntKind.u32 0, Value.int IntKind.u32 0, Value.int IntKind.u32 0, Value.int IntKind.u32 0, Value.int IntKind.u32 0, Value.int IntKind.u32 0, Value.int IntKind.u32 0, Value.int IntKind.u32 0, Value.int IntKind.u32 0, Value.int IntKind.u32 0, Value.int IntKind.u32 0, Value.int IntKind.u32 0, Value.int IntKind.u32 0, Value.int IntKind.u32 0, Value.int IntKind.u32 0, Value.int IntKind.u32 0, Value.int IntKind.u32 0, Value.int IntKind.u32 0, Value.int IntKind.u32 0, Value.int IntKind.u32 0, Value.int IntKind.u32 0, Value.int IntKind.u32 0, Value.int IntKind.u32 0, Value.int IntKind.u32 0, Value.int IntKind.u32 0, Value.int IntKind.u32 0, Value.int IntKind.u32 0, Value.int IntKind.u32 0, Value.int IntKind.u32 0] = (wds (zeros32 64)).toArray := rfl
theorem word_or (x0 x1 x2 x3 : Int) (h0 : 0 ≤ x0 ∧ x0 < 256) (h1 : 0 ≤ x1 ∧ x1 < 256) (h2 : 0 ≤ x2 ∧ x2 < 256) (h3 : 0 ≤ x3 ∧ x3 < 256) :
    bits .or .u32 (bits .or .u32 (bits .or .u32 (IntKind.u32.wrap (IntKind.u32.wrap x0 * 16777216)) (IntKind.u32.wrap (IntKind.u32.wrap x1 * 65536))) (IntKind.u32.wrap (IntKind.u32.wrap x2 * 256))) (IntKind.u32.wrap x3) =
      num (BitVec.ofInt 32 (x0 * 16777216 + x1 * 65536 + x2 * 256 + x3)) := by
  obtain ⟨n0, rfl⟩ := Int.eq_ofNat_of_zero_le h0.1
  obtain ⟨n1, rfl⟩ := Int.eq_ofNat_of_zero_le h1.1
  obtain ⟨n2, rfl⟩ := Int.eq_ofNat_of_zero_le h2.1
  obtain ⟨n3, rfl⟩ := Int.eq_ofNat_of_zero_le h3.1
  simp only [IntKind.wrap_u32']
  rw [show ((n0 : Int) % 4294967296 * 16777216 % 4294967296) = ((n0 * 16777216 : Nat) : Int) by omega, show ((n1 : Int) % 4294967296 * 65536 % 4294967296) = ((n1 * 65536 : Nat) : Int) by omega,
    show ((n2 : Int) % 4294967296 * 256 % 4294967296) = ((n2 * 256 : Nat) : Int) by omega, show ((n3 : Int) % 4294967296) = ((n3 : Nat) : Int) by omega]
  rw [u32_or_nat _ _ (by omega) (by omega), nat_join 24 _ _ (by omega) (by omega), u32_or_nat _ _ (by omega) (by omega), nat_join 16 _ _ (by omega) (by omega), u32_or_nat _ _ (by omega) (by omega), nat_join 8 _ _ (by omega) (by omega)]
  have : (n0 : Int) * 16777216 + (n1 : Int) * 65536 + (n2 : Int) * 256 + (n3 : Int) = ((n0 * 16777216 + n1 * 65536 + n2 * 256 + n3 : Nat) : Int) := by omega
  rw [this]
  unfold num
  rw [BitVec.ofInt_natCast, BitVec.toNat_ofNat]
  congr 1
  omega
theorem wds_set (l r : List (BitVec 32)) (x y : BitVec 32) (k : Nat) (hk : l.length = k) : (wds (l ++ y :: r)).toArray.setIfInBounds k (.int .u32 (num x)) = (wds (l ++ x :: r)).toArray := by
  subst hk
  simp [wds]
theorem w16_len (b : List Int) (k : Nat) : (Sm.w16 b k).length = k := by simp [Sm.w16]
theorem w16_set (b : List Int) (k : Nat) (hk : k < 16) : (wds (Sm.w16 b k ++ zeros32 (64 - k))).toArray.setIfInBounds k (.int .u32 (num (Sm.wd b k))) = (wds (Sm.w16 b (k + 1) ++ zeros32 (64 - (k + 1)))).toArray := by
  have e : zeros32 (64 - k) = 0 :: zeros32 (64 - (k + 1)) := by
    unfold zeros32
    rw [show 64 - k = (64 - (k + 1)) + 1 by omega, List.replicate_succ]
  rw [e, wds_set _ _ _ _ _ (w16_len b k)]
  congr 2
  simp [Sm.w16, List.range_succ]
theorem wTo_len (b : List Int) (k : Nat) : (Sm.wTo b k).length = 16 + k := by
  induction k with
  | zero => exact w16_len b 16
  | succ k ih => simp [Sm.wTo, ih]; omega
theorem wTo_set (b : List Int) (k : Nat) (hk : k < 48) : (wds (Sm.wTo b k ++ zeros32 (48 - k))).toArray.setIfInBounds (16 + k) (.int .u32 (num (Sm.nextW (Sm.wTo b k) (16 + k)))) = (wds (Sm.wTo b (k + 1) ++ zeros32 (48 - (k + 1)))).toArray := by
  have e : zeros32 (48 - k) = 0 :: zeros32 (48 - (k + 1)) := by
    unfold zeros32
    rw [show 48 - k = (48 - (k + 1)) + 1 by omega, List.replicate_succ]
  rw [e, wds_set _ _ _ _ _ (wTo_len b k)]
  congr 2
  simp [Sm.wTo]
theorem undW64 : Tryd.prog.underlying 90 = some (.array 64 74) := by kernel_rfl
theorem infoW64 : (Tryd.prog.info? 90).map (·.size) = some 64 := by kernel_rfl
set_option maxHeartbeats 2000000 in
set_option maxRecDepth 100000 in
theorem schedule_any (b : List Int) (w : World) (hb : Byt b) (hl : b.length = 64) :
    Calls Tryd.prog 44 #[.agg (nums b).toArray] w fun e w' => e = .returned (.agg (wds (Sm.sched b)).toArray) ∧ Below w.heap.size w w' := by
  have HL := Lib.hid hl
  clear hl
  go_enter Tryd.func44, Tryd.ntmps44
  go_wp2
  rw [zero64]
  have kb := ((Whole.new w 32 (nums b).toArray).alloc (.cells (wds (zeros32 64)).toArray 90)).alloc (.cells (wds (zeros32 64)).toArray 90)
  have kr := (Whole.new (w.alloc (.cells (nums b).toArray 32)) 90 (wds (zeros32 64)).toArray).alloc (.cells (wds (zeros32 64)).toArray 90)
  have kw := Whole.new ((w.alloc (.cells (nums b).toArray 32)).alloc (.cells (wds (zeros32 64)).toArray 90)) 90 (wds (zeros32 64)).toArray
  have hb3 : Below w.heap.size w (((w.alloc (.cells (nums b).toArray 32)).alloc (.cells (wds (zeros32 64)).toArray 90)).alloc (.cells (wds (zeros32 64)).toArray 90)) := ((below_alloc w _).alloc (by simp) _).alloc (by simp; omega) _
  simp only [size_alloc] at kb kr kw
  generalize ((w.alloc (.cells (nums b).toArray 32)).alloc (.cells (wds (zeros32 64)).toArray 90)).alloc (.cells (wds (zeros32 64)).toArray 90) = w3 at *
  generalize hBe : w.heap.size = B at *
  have HBE := Lib.hid hBe
  clear hBe
  have H0 := Lib.hid (And.intro kb (And.intro kr (And.intro kw hb3)))
  clear kb kr kw hb3
  go_loopw [7] (fun i wr => ∃ k : Nat, k ≤ 16 ∧ i = .int .i64 k ∧ Hid (Whole wr B 32 (nums b).toArray ∧ Whole wr (B + 1) 90 (wds (zeros32 64)).toArray ∧ Whole wr (B + 1 + 1) 90 (wds (Sm.w16 b k ++ zeros32 (64 - k))).toArray ∧ Below B w wr)) (fun i _ => 16 - (intOf i).toNat)
  case atStart => exact ⟨0, Nat.zero_le _, rfl, Lib.hid H0.out⟩
  case round =>
    obtain ⟨k, hk, rfl, HB⟩ := hrel
    by_cases hlt : k < 16
    · have c0 : wr.cell? ⟨B, 4 * k, none⟩ = some (.int .u8 (b.getD (4 * k) 0)) := (HB.out.1.cell (4 * k)).trans (by rw [List.getElem?_toArray, nums_get _ _ (by have := HL.out; omega)])
      have c1 : wr.cell? ⟨B, 4 * k + 1, none⟩ = some (.int .u8 (b.getD (4 * k + 1) 0)) := (HB.out.1.cell (4 * k + 1)).trans (by rw [List.getElem?_toArray, nums_get _ _ (by have := HL.out; omega)])
      have c2 : wr.cell? ⟨B, 4 * k + 2, none⟩ = some (.int .u8 (b.getD (4 * k + 2) 0)) := (HB.out.1.cell (4 * k + 2)).trans (by rw [List.getElem?_toArray, nums_get _ _ (by have := HL.out; omega)])
      have c3 : wr.cell? ⟨B, 4 * k + 3, none⟩ = some (.int .u8 (b.getD (4 * k + 3) 0)) := (HB.out.1.cell (4 * k + 3)).trans (by rw [List.getElem?_toArray, nums_get _ _ (by have := HL.out; omega)])
      have d0 := byt_getD hb (4 * k)
      have d1 := byt_getD hb (4 * k + 1)
      have d2 := byt_getD hb (4 * k + 2)
      have d3 := byt_getD hb (4 * k + 3)
      have ev := word_or _ _ _ _ d0 d1 d2 d3
      rw [show BitVec.ofInt 32 (b.getD (4 * k) 0 * 16777216 + b.getD (4 * k + 1) 0 * 65536 + b.getD (4 * k + 2) 0 * 256 + b.getD (4 * k + 3) 0) = Sm.wd b k from rfl] at ev
      generalize b.getD (4 * k) 0 = x0 at *
      generalize b.getD (4 * k + 1) 0 = x1 at *
      generalize b.getD (4 * k + 2) 0 = x2 at *
      generalize b.getD (4 * k + 3) 0 = x3 at *
      have e0 : IntKind.i64.wrap (4 * (k : Int)) = 4 * (k : Int) := IntWalk.i64_in _ (by omega)
      have e1 : IntKind.i64.wrap (4 * (k : Int) + 1) = 4 * (k : Int) + 1 := IntWalk.i64_in _ (by omega)
      have e2 : IntKind.i64.wrap (4 * (k : Int) + 2) = 4 * (k : Int) + 2 := IntWalk.i64_in _ (by omega)
      have e3 : IntKind.i64.wrap (4 * (k : Int) + 3) = 4 * (k : Int) + 3 := IntWalk.i64_in _ (by omega)
      have n0 : (4 * (k : Int)).toNat = 4 * k := by omega
      have n1 : (4 * (k : Int) + 1).toNat = 4 * k + 1 := by omega
      have n2 : (4 * (k : Int) + 2).toNat = 4 * k + 2 := by omega
      have n3 : (4 * (k : Int) + 3).toNat = 4 * k + 3 := by omega
      have p0 : 0 ≤ 4 * (k : Int) := by omega
      have p1 : 0 ≤ 4 * (k : Int) + 1 := by omega
      have p2 : 0 ≤ 4 * (k : Int) + 2 := by omega
      have p3 : 0 ≤ 4 * (k : Int) + 3 := by omega
      have q0 : 4 * (k : Int) < 64 := by omega
      have q1 : 4 * (k : Int) + 1 < 64 := by omega
      have q2 : 4 * (k : Int) + 2 < 64 := by omega
      have q3 : 4 * (k : Int) + 3 < 64 := by omega
      have q4 : (k : Int) < 64 := by omega
      have cw : wr.cell? ⟨B + 1 + 1, k, none⟩ = some (.int .u32 (num ((Sm.w16 b k ++ zeros32 (64 - k)).getD k 0))) := (HB.out.2.2.1.cell k).trans (by rw [List.getElem?_toArray, wds_get _ _ (by simp [Sm.w16, zeros32]; omega)])
      have fw : wr.frozen? ⟨B + 1 + 1, k, none⟩ = false := HB.out.2.2.1.frozen k
      generalize (Sm.w16 b k ++ zeros32 (64 - k)).getD k 0 = old at *
      go_wp2
      go_still_tail 31, (by kernel_rfl)
      change wpList _ _ _ _ _ wr.drew
      go_wp2
      go_roundw
      case rel =>
        refine ⟨k + 1, by omega, by go_num, ?_⟩
        exact Lib.hid ⟨HB.out.1.far (p := ⟨B + 1 + 1, k, none⟩) (by show B ≠ B + 1 + 1; omega) _, HB.out.2.1.far (p := ⟨B + 1 + 1, k, none⟩) (by show B + 1 ≠ B + 1 + 1; omega) _,
          by rw [← w16_set b k hlt]; exact HB.out.2.2.1.set k _, HB.out.2.2.2.drew.setCell (by show B ≤ B + 1 + 1; omega) _⟩
      case measure => simp [intOf]; omega
    · have HK : Hid (k = 16) := Lib.hid (by omega)
      go_wp2
      clear H0
      go_loopw [42] (fun i wr => ∃ k : Nat, k ≤ 48 ∧ i = .int .i64 k ∧ Hid (Whole wr (B + 1) 90 (wds (zeros32 64)).toArray ∧ Whole wr (B + 1 + 1) 90 (wds (Sm.wTo b k ++ zeros32 (48 - k))).toArray ∧ Below B w wr)) (fun i _ => 48 - (intOf i).toNat)
      case atStart =>
        have := HB.out.2
        rw [HK.out] at this
        exact ⟨0, Nat.zero_le _, rfl, Lib.hid this⟩
      case round =>
        clear HB
        obtain ⟨k, hk, rfl, HB⟩ := hrel
        by_cases hlt : k < 48
        · have HC : ∀ j, j < 16 + k → wr.cell? ⟨B + 1 + 1, j, none⟩ = some (.int .u32 (num ((Sm.wTo b k).getD j 0))) := by
            intro j hj
            rw [HB.out.2.1.cell j, List.getElem?_toArray, wds_get _ _ (by simp [wTo_len, zeros32]; omega)]
            have : j < (Sm.wTo b k).length := by rw [wTo_len]; omega
            simp [List.getElem?_append_left this]
          have c0 := HC (14 + k) (by omega)
          have c1 := HC (9 + k) (by omega)
          have c2 := HC (1 + k) (by omega)
          have c3 := HC k (by omega)
          clear HC
          have ev : Sm.nextW (Sm.wTo b k) (16 + k) = Sm.s1 ((Sm.wTo b k).getD (14 + k) 0) + (Sm.wTo b k).getD (9 + k) 0 + Sm.s0 ((Sm.wTo b k).getD (1 + k) 0) + (Sm.wTo b k).getD k 0 := by
            unfold Sm.nextW
            rw [show 16 + k - 2 = 14 + k by omega, show 16 + k - 7 = 9 + k by omega, show 16 + k - 15 = 1 + k by omega, show 16 + k - 16 = k by omega]
          have EV := Lib.hid ev
          clear ev
          generalize (Sm.wTo b k).getD (14 + k) 0 = x0 at *
          generalize (Sm.wTo b k).getD (9 + k) 0 = x1 at *
          generalize (Sm.wTo b k).getD (1 + k) 0 = x2 at *
          generalize (Sm.wTo b k).getD k 0 = x3 at *
          have e0 : IntKind.i64.wrap (16 + (k : Int) - 2) = 16 + (k : Int) - 2 := IntWalk.i64_in _ (by omega)
          have e1 : IntKind.i64.wrap (16 + (k : Int) - 7) = 16 + (k : Int) - 7 := IntWalk.i64_in _ (by omega)
          have e2 : IntKind.i64.wrap (16 + (k : Int) - 15) = 16 + (k : Int) - 15 := IntWalk.i64_in _ (by omega)
          have e3 : IntKind.i64.wrap (16 + (k : Int) - 16) = 16 + (k : Int) - 16 := IntWalk.i64_in _ (by omega)
          have n0 : (16 + (k : Int) - 2).toNat = 14 + k := by omega
          have n1 : (16 + (k : Int) - 7).toNat = 9 + k := by omega
          have n2 : (16 + (k : Int) - 15).toNat = 1 + k := by omega
          have n3 : (16 + (k : Int) - 16).toNat = k := by omega
          have n4 : (16 + (k : Int)).toNat = 16 + k := by omega
          have p0 : 0 ≤ 16 + (k : Int) - 2 := by omega
          have p1 : 0 ≤ 16 + (k : Int) - 7 := by omega
          have p2 : 0 ≤ 16 + (k : Int) - 15 := by omega
          have p3 : 0 ≤ 16 + (k : Int) - 16 := by omega
          have p4 : 0 ≤ 16 + (k : Int) := by omega
          have r0 : 2 ≤ 16 + (k : Int) := by omega
          have r1 : 7 ≤ 16 + (k : Int) := by omega
          have r2 : 15 ≤ 16 + (k : Int) := by omega
          have r3 : 16 ≤ 16 + (k : Int) := by omega
          have q0 : 16 + (k : Int) - 2 < 64 := by omega
          have q1 : 16 + (k : Int) - 7 < 64 := by omega
          have q2 : 16 + (k : Int) - 15 < 64 := by omega
          have q3 : 16 + (k : Int) - 16 < 64 := by omega
          have q4 : 16 + (k : Int) < 64 := by omega
          have cw : wr.cell? ⟨B + 1 + 1, 16 + k, none⟩ = some (.int .u32 (num ((Sm.wTo b k ++ zeros32 (48 - k)).getD (16 + k) 0))) := (HB.out.2.1.cell (16 + k)).trans (by rw [List.getElem?_toArray, wds_get _ _ (by simp [wTo_len, zeros32]; omega)])
          have fw : wr.frozen? ⟨B + 1 + 1, 16 + k, none⟩ = false := HB.out.2.1.frozen (16 + k)
          generalize (Sm.wTo b k ++ zeros32 (48 - k)).getD (16 + k) 0 = old at *
          go_wp2
          go_still_tail 23, (by kernel_rfl)
          still_call ((spread1_any x0 _).mono fun e w'' h => ⟨h.1, h.2.symm⟩)
          repeat still_step
          still_call ((spread0_any x2 _).mono fun e w'' h => ⟨h.1, h.2.symm⟩)
          repeat still_step
          refine wpStill_nil ?_
          change wpList _ _ _ _ _ wr.drew
          clear e0 e1 e2 e3 n0 n1 n2 n3 n4 p0 p1 p2 p3 p4 q0 q1 q2 q3 q4 r0 r1 r2 r3 c0 c1 c2 c3
          simp only [num_wadd]
          go_wp2
          go_roundw
          case rel =>
            refine ⟨k + 1, by omega, by go_num, ?_⟩
            exact Lib.hid ⟨HB.out.1.far (p := ⟨B + 1 + 1, 16 + k, none⟩) (by show B + 1 ≠ B + 1 + 1; omega) _,
              by rw [← wTo_set b k hlt, EV.out]; exact HB.out.2.1.set (16 + k) _, HB.out.2.2.drew.setCell (by show B ≤ B + 1 + 1; omega) _⟩
          case measure => simp [intOf]; omega
        · obtain rfl : k = 48 := by omega
          have K1 : Hid (Whole wr (B + 1) 90 (wds (zeros32 64)).toArray) := Lib.hid HB.out.1
          have K2 : Hid (Whole wr (B + 1 + 1) 90 (wds (Sm.sched b)).toArray) := Lib.hid (by have := HB.out.2.1; simpa [zeros32, Sm.sched] using this)
          have hNs : (wds (Sm.sched b)).toArray.size = 64 := by simp [wds_len, Sm.sched, wTo_len]
          have hNa := all_wds (Sm.sched b)
          have HZ : Hid ((wds (zeros32 64)).toArray.size = 64) := Lib.hid (by simp [wds_len, zeros32])
          generalize hN : (wds (Sm.sched b)).toArray = N at *
          have HN := Lib.hid hN
          have HNS := Lib.hid hNs
          clear hN hNs
          go_wp2_with (first
            | ((with_reducible show wpList _ _ _ ((⟨_, Op.load 90 _, _, _, _, _⟩ : Oper) :: _) _ _); refine wpList_load_row rfl _ (.tmp 3) rfl (B + 1 + 1) rfl 90 N (0, 0) _ K2.out undW64 rfl (by rw [HNS.out]; exact infoW64) ?_)
            | ((with_reducible show wpList _ _ _ ((⟨_, Op.store 90 _ _, _, _, _, _⟩ : Oper) :: _) _ _); refine wpList_store_row rfl _ (.tmp 2) (.tmp 71) rfl (B + 1) N rfl rfl 90 _ K1.out (by rw [HNS.out]; exact infoW64) (by rw [HZ.out, HNS.out]) hNa ?_))
          refine bodyPost_ret (results_one_cell rfl _ _ _ _ rfl (run_loadVar_row _ _ _ _ _ (0, 0) _ (K1.out.row N) undW64 rfl (by rw [HNS.out]; exact infoW64))) rfl ?_
          exact ⟨by rw [HN.out], by rw [HBE.out]; exact below_row HB.out.2.2 (by omega) N⟩
end Go.Proofs.YtjpgepodkeccmaaDoor.Sh
