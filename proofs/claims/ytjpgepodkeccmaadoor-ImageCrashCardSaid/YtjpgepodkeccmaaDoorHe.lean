/-
  The walks of noughts and stateBytes.
-/
import Derived.Test.YtjpgepodkeccmaaDoorHd
namespace Go.Proofs.YtjpgepodkeccmaaDoor.Sh
open Go.Proofs.YtjpgepodkeccmaaDoor
set_option maxRecDepth 20000
open Go.RowKit
theorem noughts_any (n : Nat) (w : World) (hn : n ≤ 1000000) : Calls Tryd.prog 42 #[.int .u64 (n : Int)] w fun e w' => e = .returned (.int .i64 ((Sm.noughts n : Nat) : Int)) ∧ w = w' := by
  go_enter Tryd.func42, Tryd.ntmps42
  go_wp2
  go_ret
  refine ⟨congrArg (fun n => Ending.returned (Value.int .i64 n)) ?_, rfl⟩
  unfold Sm.noughts
  omega
theorem byte0 (x : BitVec 32) : num x / 16777216 % 256 = Sm.byteOf x 0 := by unfold num Sm.byteOf; simp
theorem byte1 (x : BitVec 32) : num x / 65536 % 256 = Sm.byteOf x 1 := by unfold num Sm.byteOf; simp
theorem byte2 (x : BitVec 32) : num x / 256 % 256 = Sm.byteOf x 2 := by unfold num Sm.byteOf; simp
theorem byte3 (x : BitVec 32) : num x % 256 = Sm.byteOf x 3 := by unfold num Sm.byteOf; simp
theorem zero32 : #[Value.int IntKind.u8 0, Value.int IntKind.u8 0, Value.int IntKind.u8 0, Value.int IntKind.u8 0, Value.int IntKind.u8 0, Value.int IntKind.u8 0, Value.int IntKind.u8 0, Value.int IntKind.u8 0, Value.int IntKind.u8 0, Value.int IntKind.u8 0, Value.int IntKind.u8 0, Value.int IntKind.u8 0, Value.int IntKind.u8 0, Value.int IntKind.u8 0, Value.int IntKind.u8 0, Value.int IntKind.u8 0, Value.int IntKind.u8 0, Value.int IntKind.u8 0, Value.int IntKind.u8 0, Value.int IntKind.u8 0, Value.int IntKind.u8 0, Value.int IntKind.u8 0, Value.int IntKind.u8 0, Value.int IntKind.u8 0, Value.int IntKind.u8 0, Value.int IntKind.u8 0, Value.int IntKind.u8 0, Value.int IntKind.u8 0, Value.int IntKind.u8 0, Value.int IntKind.u8 0, Value.int IntKind.u8 0, Value.int IntKind.u8 0] = (nums (List.replicate 32 0)).toArray := rfl
theorem und32 : Tryd.prog.underlying 39 = some (.array 32 5) := by kernel_rfl
theorem info32 : (Tryd.prog.info? 39).map (·.size) = some 32 := by kernel_rfl
def sb (l : List (BitVec 32)) (k : Nat) : List Int := Sm.bytesOf (l.take k) ++ List.replicate (32 - 4 * k) 0
theorem bytesOf_len (l : List (BitVec 32)) : (Sm.bytesOf l).length = 4 * l.length := by
  induction l with
  | nil => rfl
  | cons x l ih =>
    show (([Sm.byteOf x 0, Sm.byteOf x 1, Sm.byteOf x 2, Sm.byteOf x 3] ++ Sm.bytesOf l)).length = _
    rw [List.length_append, ih, List.length_cons]
    simp; omega
theorem bytesOf_append (l m : List (BitVec 32)) : Sm.bytesOf (l ++ m) = Sm.bytesOf l ++ Sm.bytesOf m := by simp [Sm.bytesOf]
theorem byt_bytesOf (l : List (BitVec 32)) : Byt (Sm.bytesOf l) := by
  intro y hy
  obtain ⟨x, _, hx⟩ := List.mem_flatMap.1 hy
  simp only [List.mem_cons, List.not_mem_nil, or_false, Sm.byteOf] at hx
  rcases hx with h | h | h | h <;> subst h <;> omega
theorem set4 (a : List Int) (r : List Int) (k : Nat) (z0 z1 z2 z3 y0 y1 y2 y3 : Int) (ha : a.length = k) :
    ((((nums (a ++ z0 :: z1 :: z2 :: z3 :: r)).toArray.setIfInBounds k (.int .u8 y0)).setIfInBounds (k + 1) (.int .u8 y1)).setIfInBounds (k + 2) (.int .u8 y2)).setIfInBounds (k + 3) (.int .u8 y3) = (nums (a ++ y0 :: y1 :: y2 :: y3 :: r)).toArray := by
  subst ha
  have e : (nums a).length = a.length := nums_len a
  simp only [nums, List.map_append, List.map_cons, List.setIfInBounds_toArray]
  congr 1
  have e2 : (List.map (Value.int IntKind.u8) a).length = a.length := by simp
  rw [List.set_append_right _ _ (by omega), List.set_append_right _ _ (by omega), List.set_append_right _ _ (by omega), List.set_append_right _ _ (by omega), e2]
  simp only [Nat.sub_self, Nat.add_sub_cancel_left, List.set_cons_zero, List.set_cons_succ]
theorem sb_set (l : List (BitVec 32)) (k : Nat) (hl : l.length = 8) (hk : k < 8) (x : BitVec 32) (hx : l.getD k 0 = x) :
    ((((nums (sb l k)).toArray.setIfInBounds (4 * k) (.int .u8 (Sm.byteOf x 0))).setIfInBounds (4 * k + 1) (.int .u8 (Sm.byteOf x 1))).setIfInBounds (4 * k + 2) (.int .u8 (Sm.byteOf x 2))).setIfInBounds (4 * k + 3) (.int .u8 (Sm.byteOf x 3)) = (nums (sb l (k + 1))).toArray := by
  have e : List.replicate (32 - 4 * k) (0 : Int) = 0 :: 0 :: 0 :: 0 :: List.replicate (32 - 4 * (k + 1)) 0 := by
    rw [show 32 - 4 * k = (32 - 4 * (k + 1)) + 1 + 1 + 1 + 1 by omega]
    rfl
  unfold sb
  rw [e, set4 _ _ _ _ _ _ _ _ _ _ _ (by rw [bytesOf_len, List.length_take, hl]; omega)]
  congr 2
  have h2 : l.take (k + 1) = l.take k ++ [x] := by
    rw [List.take_succ_eq_append_getElem (by omega)]
    congr 2
    rw [← hx]; simp [show k < l.length by omega]
  rw [h2, bytesOf_append, List.append_assoc]
  rfl
theorem sb_len (l : List (BitVec 32)) (k : Nat) (hl : l.length = 8) (hk : k ≤ 8) : (sb l k).length = 32 := by
  simp [sb, bytesOf_len, hl]; omega
set_option maxHeartbeats 2000000 in
theorem stateBytes_any (s : Sm.St) (w : World) : Calls Tryd.prog 43 #[.agg (wds s.l).toArray] w fun e w' => e = .returned (.agg (nums (Sm.bytesOf s.l)).toArray) ∧ Below w.heap.size w w' := by
  go_enter Tryd.func43, Tryd.ntmps43
  go_wp2_with ((with_reducible show wpList _ _ _ ((⟨_, Op.load 75 _, _, _, _, _⟩ : Oper) :: _) _ _); refine wpList_load_row rfl _ (.tmp 1) rfl w.heap.size rfl 75 (wds s.l).toArray (0, 0) _ ?k1 undW8 rfl infoW8 ?_)
  case k1 =>
    exact ((Whole.new w 75 (wds s.l).toArray).alloc (.cells #[Value.int IntKind.u8 0, Value.int IntKind.u8 0, Value.int IntKind.u8 0, Value.int IntKind.u8 0, Value.int IntKind.u8 0, Value.int IntKind.u8 0, Value.int IntKind.u8 0, Value.int IntKind.u8 0, Value.int IntKind.u8 0, Value.int IntKind.u8 0, Value.int IntKind.u8 0, Value.int IntKind.u8 0, Value.int IntKind.u8 0, Value.int IntKind.u8 0, Value.int IntKind.u8 0, Value.int IntKind.u8 0, Value.int IntKind.u8 0, Value.int IntKind.u8 0, Value.int IntKind.u8 0, Value.int IntKind.u8 0, Value.int IntKind.u8 0, Value.int IntKind.u8 0, Value.int IntKind.u8 0, Value.int IntKind.u8 0, Value.int IntKind.u8 0, Value.int IntKind.u8 0, Value.int IntKind.u8 0, Value.int IntKind.u8 0, Value.int IntKind.u8 0, Value.int IntKind.u8 0, Value.int IntKind.u8 0, Value.int IntKind.u8 0] 39)).alloc (.cells #[Value.int IntKind.u8 0, Value.int IntKind.u8 0, Value.int IntKind.u8 0, Value.int IntKind.u8 0, Value.int IntKind.u8 0, Value.int IntKind.u8 0, Value.int IntKind.u8 0, Value.int IntKind.u8 0, Value.int IntKind.u8 0, Value.int IntKind.u8 0, Value.int IntKind.u8 0, Value.int IntKind.u8 0, Value.int IntKind.u8 0, Value.int IntKind.u8 0, Value.int IntKind.u8 0, Value.int IntKind.u8 0, Value.int IntKind.u8 0, Value.int IntKind.u8 0, Value.int IntKind.u8 0, Value.int IntKind.u8 0, Value.int IntKind.u8 0, Value.int IntKind.u8 0, Value.int IntKind.u8 0, Value.int IntKind.u8 0, Value.int IntKind.u8 0, Value.int IntKind.u8 0, Value.int IntKind.u8 0, Value.int IntKind.u8 0, Value.int IntKind.u8 0, Value.int IntKind.u8 0, Value.int IntKind.u8 0, Value.int IntKind.u8 0] 39)
  rw [zero32]
  have kr := (Whole.new (w.alloc (.cells (wds s.l).toArray 75)) 39 (nums (List.replicate 32 0)).toArray).alloc (.cells (nums (List.replicate 32 0)).toArray 39)
  have kw := Whole.new ((w.alloc (.cells (wds s.l).toArray 75)).alloc (.cells (nums (List.replicate 32 0)).toArray 39)) 39 (nums (List.replicate 32 0)).toArray
  have hb3 : Below w.heap.size w (((w.alloc (.cells (wds s.l).toArray 75)).alloc (.cells (nums (List.replicate 32 0)).toArray 39)).alloc (.cells (nums (List.replicate 32 0)).toArray 39)) := ((below_alloc w _).alloc (by simp) _).alloc (by simp; omega) _
  simp only [size_alloc] at kr kw
  generalize ((w.alloc (.cells (wds s.l).toArray 75)).alloc (.cells (nums (List.replicate 32 0)).toArray 39)).alloc (.cells (nums (List.replicate 32 0)).toArray 39) = w3 at *
  generalize hBe : w.heap.size = B at *
  have HBE := Lib.hid hBe
  clear hBe
  have H0 := Lib.hid (And.intro kr (And.intro kw hb3))
  clear kr kw hb3
  go_wp2
  go_loopw [7] (fun i wr => ∃ k : Nat, k ≤ 8 ∧ i = .int .i64 k ∧ Hid (Whole wr (B + 1) 39 (nums (List.replicate 32 0)).toArray ∧ Whole wr (B + 1 + 1) 39 (nums (sb s.l k)).toArray ∧ Below B w wr)) (fun i _ => 8 - (intOf i).toNat)
  case atStart => exact ⟨0, Nat.zero_le _, rfl, Lib.hid H0.out⟩
  case round =>
    clear H0
    obtain ⟨k, hk, rfl, HB⟩ := hrel
    by_cases hlt : k < 8
    · have hd : decide ((k : Int) < 8) = true := by simp; omega
      have q0 : (k : Int) < 8 := by omega
      obtain ⟨x, hx⟩ : ∃ x, s.l.getD k 0 = x := ⟨_, rfl⟩
      have hix : (Instr.index 75 (.agg (wds s.l).toArray) (.int .i64 (k : Int))).run Tryd.prog wr = .ok (.int .u32 (num x)) wr := by rw [← hx]; exact index_w8 s.l rfl k hlt wr
      have HX := Lib.hid hx
      clear hx
      have hlen := sb_len s.l k rfl hk
      have c0 : wr.cell? ⟨B + 1 + 1, 4 * k, none⟩ = some (.int .u8 ((sb s.l k).getD (4 * k) 0)) := (HB.out.2.1.cell _).trans (by rw [List.getElem?_toArray, nums_get _ _ (by omega)])
      have c1 : wr.cell? ⟨B + 1 + 1, 4 * k + 1, none⟩ = some (.int .u8 ((sb s.l k).getD (4 * k + 1) 0)) := (HB.out.2.1.cell _).trans (by rw [List.getElem?_toArray, nums_get _ _ (by omega)])
      have c2 : wr.cell? ⟨B + 1 + 1, 4 * k + 2, none⟩ = some (.int .u8 ((sb s.l k).getD (4 * k + 2) 0)) := (HB.out.2.1.cell _).trans (by rw [List.getElem?_toArray, nums_get _ _ (by omega)])
      have c3 : wr.cell? ⟨B + 1 + 1, 4 * k + 3, none⟩ = some (.int .u8 ((sb s.l k).getD (4 * k + 3) 0)) := (HB.out.2.1.cell _).trans (by rw [List.getElem?_toArray, nums_get _ _ (by omega)])
      have f0 : wr.frozen? ⟨B + 1 + 1, 4 * k, none⟩ = false := HB.out.2.1.frozen _
      have f1 : wr.frozen? ⟨B + 1 + 1, 4 * k + 1, none⟩ = false := HB.out.2.1.frozen _
      have f2 : wr.frozen? ⟨B + 1 + 1, 4 * k + 2, none⟩ = false := HB.out.2.1.frozen _
      have f3 : wr.frozen? ⟨B + 1 + 1, 4 * k + 3, none⟩ = false := HB.out.2.1.frozen _
      have v0 := byte0 x
      have v1 := byte1 x
      have v2 := byte2 x
      have v3 := byte3 x
      have HLEN := Lib.hid hlen
      clear hlen
      with_reducible generalize (sb s.l k).getD (4 * k) 0 = z0 at *
      with_reducible generalize (sb s.l k).getD (4 * k + 1) 0 = z1 at *
      with_reducible generalize (sb s.l k).getD (4 * k + 2) 0 = z2 at *
      with_reducible generalize (sb s.l k).getD (4 * k + 3) 0 = z3 at *
      go_wp2
      go_roundw
      case rel =>
        refine ⟨k + 1, by omega, by go_num, Lib.hid ⟨?_, ?_, ?_⟩⟩
        · exact (((HB.out.1.far (by show B + 1 ≠ B + 1 + 1; omega) _).far (by show B + 1 ≠ B + 1 + 1; omega) _).far (by show B + 1 ≠ B + 1 + 1; omega) _).far (by show B + 1 ≠ B + 1 + 1; omega) _
        · rw [← sb_set s.l k rfl hlt x HX.out]
          exact (((HB.out.2.1.set _ _).set _ _).set _ _).set _ _
        · exact (((HB.out.2.2.setCell (by show B ≤ B + 1 + 1; omega) _).setCell (by show B ≤ B + 1 + 1; omega) _).setCell (by show B ≤ B + 1 + 1; omega) _).setCell (by show B ≤ B + 1 + 1; omega) _
      case measure => simp [intOf]; omega
    · have hd : decide ((k : Int) < 8) = false := by simp; omega
      have hk8 : k = 8 := by omega
      have K1 : Hid (Whole wr (B + 1) 39 (nums (List.replicate 32 0)).toArray) := Lib.hid HB.out.1
      have K2 : Hid (Whole wr (B + 1 + 1) 39 (nums (Sm.bytesOf s.l)).toArray) := Lib.hid (by have := HB.out.2.1; rw [hk8] at this; simpa [sb, Sm.St.l] using this)
      have HBL := Lib.hid HB.out.2.2
      clear HB hk8
      have hNa := all_nums (Sm.bytesOf s.l)
      have HNS : Hid ((nums (Sm.bytesOf s.l)).toArray.size = 32) := Lib.hid (by simp [nums_len, bytesOf_len, Sm.St.l])
      have HZ : Hid ((nums (List.replicate 32 0)).toArray.size = 32) := Lib.hid rfl
      with_reducible generalize hN : (nums (Sm.bytesOf s.l)).toArray = N at *
      go_wp2_with (first
        | ((with_reducible show wpList _ _ _ ((⟨_, Op.load 39 _, _, _, _, _⟩ : Oper) :: _) _ _); refine wpList_load_row rfl _ (.tmp 3) rfl (B + 1 + 1) rfl 39 N (0, 0) _ K2.out und32 rfl (by rw [HNS.out]; exact info32) ?_)
        | ((with_reducible show wpList _ _ _ ((⟨_, Op.store 39 _ _, _, _, _, _⟩ : Oper) :: _) _ _); refine wpList_store_row rfl _ (.tmp 2) (.tmp 38) rfl (B + 1) N rfl rfl 39 _ K1.out (by rw [HNS.out]; exact info32) (by rw [HZ.out, HNS.out]) hNa ?_))
      refine bodyPost_ret (results_one_cell rfl _ _ _ _ rfl (run_loadVar_row _ _ _ _ _ (0, 0) _ (K1.out.row N) und32 rfl (by rw [HNS.out]; exact info32))) rfl ?_
      exact ⟨by rw [hN], by rw [HBE.out]; exact below_row HBL.out (by omega) N⟩
end Go.Proofs.YtjpgepodkeccmaaDoor.Sh
