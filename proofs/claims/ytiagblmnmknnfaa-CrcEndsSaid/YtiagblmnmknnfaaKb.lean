/-
  Words of 32 bits as the machine has them, bytes as words, and the walks of shifted and of the closure that fills the table.
-/
import Derived.Test.YtiagblmnmknnfaaHb
import Derived.Test.YtiagblmnmknnfaaKa
namespace Go.Proofs.Ytiagblmnmknnfaa
open Go.RowKit
def num (x : BitVec 32) : Int := x.toNat
theorem num_lo (x : BitVec 32) : 0 ≤ num x := by simp [num]
theorem num_hi (x : BitVec 32) : num x ≤ 4294967295 := by have := x.isLt; unfold num; omega
theorem num_ofInt (x : BitVec 32) : BitVec.ofInt 32 (num x) = x := by simp [num]
theorem num_wrap (z : BitVec 32) : IntKind.u32.wrap (z.toNat : Int) = num z := by have := z.isLt; rw [IntKind.wrap_u32']; unfold num; omega
theorem num_xor (x y : BitVec 32) : bits .xor .u32 (num x) (num y) = num (x ^^^ y) := by
  simp only [bits, IntKind.bits, num_ofInt]; exact num_wrap _
theorem num_not (x : BitVec 32) : bits .xor .u32 4294967295 (num x) = num (~~~x) := by
  have h : (4294967295 : Int) = num (BitVec.allOnes 32) := by rfl
  rw [h, num_xor, BitVec.allOnes_xor]
theorem num_shr (x : BitVec 32) (n : Nat) : num x / 2 ^ n = num (x >>> n) := by
  unfold num; rw [BitVec.toNat_ushiftRight, Nat.shiftRight_eq_div_pow]; simp
theorem num_inj {x y : BitVec 32} (h : num x = num y) : x = y := by
  apply BitVec.eq_of_toNat_eq
  unfold num at h; omega
theorem num_byt (c : Int) (h0 : 0 ≤ c) (h1 : c < 256) : IntKind.u32.wrap c = num (Cm.byt c) := by
  obtain ⟨n, rfl⟩ := Int.eq_ofNat_of_zero_le h0
  rw [IntKind.wrap_u32']
  unfold Cm.byt num
  rw [BitVec.ofInt_natCast, BitVec.toNat_ofNat]
  omega
theorem ret_u32 {a b : Int} (h : a = b) : Ending.returned (.int .u32 a) = .returned (.int .u32 b) := by rw [h]
/-- Words as cells. -/
def wds (l : List (BitVec 32)) : List Value := l.map fun x => .int .u32 (num x)
theorem wds_len (l : List (BitVec 32)) : (wds l).length = l.length := by simp [wds]
theorem wds_get (l : List (BitVec 32)) (k : Nat) (h : k < l.length) : (wds l)[k]? = some (.int .u32 (num (l.getD k 0))) := by simp [wds, h]
theorem wds_one (l : List (BitVec 32)) : ∀ u ∈ wds l, u.oneCell' = true := by
  intro u hu
  obtain ⟨x, _, rfl⟩ := List.mem_map.1 hu
  rfl
theorem all_wds (l : List (BitVec 32)) : (wds l).toArray.all (·.oneCell') = true := Array.all_eq_true_iff_forall_mem.2 (fun v hv => wds_one l v (by simpa using hv))
theorem num_mod (x : BitVec 32) (n : Int) : (num x).tmod n = num x % n := Int.tmod_eq_emod_of_nonneg (num_lo x)
theorem shifted_any (x : BitVec 32) (w : World) : Calls Try.prog 15 #[.int .u32 (num x)] w fun e w' => e = .returned (.int .u32 (num (Cm.sh x))) ∧ w = w' := by
  have h0 : x.getLsbD 0 = decide (num x % 2 = 1) := by
    unfold num
    rw [← BitVec.testBit_toNat, Nat.testBit_zero]
    simp only [decide_eq_decide]
    omega
  by_cases h : num x % 2 = 1
  · have h1 : ((num x).tmod 2 == 1) = true := by rw [num_mod]; simpa using h
    have e : num (Cm.sh x) = bits .xor .u32 (num x / 2) 2197175160 := by
      rw [Cm.sh, h0, decide_eq_true h, if_pos rfl, ← num_xor]
      exact congrArg (fun z => bits .xor .u32 z 2197175160) (num_shr x 1).symm
    rw [e]
    clear e h h0
    go_enter Try.func15, Try.ntmps15
    go_wp2
    go_ret
    exact ⟨rfl, rfl⟩
  · have h1 : ((num x).tmod 2 == 1) = false := by rw [num_mod]; simpa using h
    have e : num (Cm.sh x) = num x / 2 := by
      rw [Cm.sh, h0, decide_eq_false h, if_neg (by simp)]
      exact (num_shr x 1).symm
    rw [e]
    clear e h h0
    go_enter Try.func15, Try.ntmps15
    go_wp2
    go_ret
    exact ⟨rfl, rfl⟩
theorem info16 : (Try.prog.info? 35).map (·.size) = some 16 := by kernel_rfl
theorem und16 : Try.prog.underlying 35 = some (.array 16 22) := by kernel_rfl
theorem fill_any (k : Nat) (hk : k < 16) (w : World) (B : Nat) (old : Int) (hc : w.cell? ⟨B, k, none⟩ = some (.int .u32 old)) (hf : w.frozen? ⟨B, k, none⟩ = false) :
    Calls Try.prog 14 #[.int .u32 k, .pointer (some ⟨B, 0, none⟩)] w fun e w' => e = .returned (.tuple #[]) ∧ w' = w.setCell ⟨B, k, none⟩ (.int .u32 (num (Cm.shn 4 (BitVec.ofNat 32 k)))) := by
  have e0 : num (BitVec.ofNat 32 k) = k := by unfold num; rw [BitVec.toNat_ofNat]; omega
  have HE := Lib.hid e0
  clear e0
  go_enter Try.func14, Try.ntmps14
  go_wp2
  go_loop [5, 3] (fun i v => ∃ j : Nat, j ≤ 4 ∧ i = .int .i64 j ∧ v = .int .u32 (num (Cm.shn j (BitVec.ofNat 32 k)))) (fun i _ => 4 - (intOf i).toNat)
  case atStart => exact ⟨0, Nat.zero_le _, rfl, by rw [Cm.shn, HE.out]⟩
  case round =>
    obtain ⟨j, hj, rfl, rfl⟩ := hrel
    by_cases hlt : j < 4
    · go_wp2_with (go_at_call 15; refine (shifted_any _ _).mono ?_; rintro e w' ⟨rfl, rfl⟩)
      exact ⟨⟨j + 1, by omega, by go_num, rfl⟩, by simp [intOf]; omega⟩
    · obtain rfl : j = 4 := by omega
      clear HE
      go_wp2
      go_end0
      exact ⟨rfl, rfl⟩
def zeros32 (n : Nat) : List (BitVec 32) := List.replicate n 0
theorem zero16 : #[Value.int IntKind.u32 0, Value.int IntKind.u32 0, Value.int IntKind.u32 0, Value.int IntKind.u32 0, Value.int IntKind.u32 0, Value.int IntKind.u32 0, Value.int IntKind.u32 0, Value.int IntKind.u32 0, Value.int IntKind.u32 0, Value.int IntKind.u32 0, Value.int IntKind.u32 0, Value.int IntKind.u32 0, Value.int IntKind.u32 0, Value.int IntKind.u32 0, Value.int IntKind.u32 0, Value.int IntKind.u32 0] = (wds (zeros32 16)).toArray := rfl
theorem wds_set (l r : List (BitVec 32)) (x y : BitVec 32) (k : Nat) (hk : l.length = k) : (wds (l ++ y :: r)).toArray.setIfInBounds k (.int .u32 (num x)) = (wds (l ++ x :: r)).toArray := by
  subst hk
  simp [wds]
theorem tab_set (k : Nat) (hk : k < 16) : (wds (Cm.tabTo k ++ zeros32 (16 - k))).toArray.setIfInBounds k (.int .u32 (num (Cm.shn 4 (BitVec.ofNat 32 k)))) = (wds (Cm.tabTo (k + 1) ++ zeros32 (16 - (k + 1)))).toArray := by
  have e : zeros32 (16 - k) = 0 :: zeros32 (16 - (k + 1)) := by
    unfold zeros32
    rw [show 16 - k = (16 - (k + 1)) + 1 by omega, List.replicate_succ]
  rw [e, wds_set _ _ _ _ _ (by simp [Cm.tabTo])]
  congr 2
  simp [Cm.tabTo, List.range_succ]
set_option maxHeartbeats 1000000 in
theorem table_any (w : World) : Calls Try.prog 13 #[] w fun e w' => e = .returned (.agg (wds Cm.tab).toArray) ∧ Below w.heap.size w w' := by
  have hmf : ∀ (fn : Fn) (first cap : Array Value) (w : World), (Instr.makeFunc fn first cap).run Try.prog w = .ok (.func fn first cap) w := fun _ _ _ _ => rfl
  go_enter Try.func13, Try.ntmps13
  go_wp2
  rw [zero16]
  have kr := (Whole.new w 35 (wds (zeros32 16)).toArray).alloc (.cells (wds (zeros32 16)).toArray 35)
  have kw := Whole.new (w.alloc (.cells (wds (zeros32 16)).toArray 35)) 35 (wds (zeros32 16)).toArray
  have hb2 : Below w.heap.size w ((w.alloc (.cells (wds (zeros32 16)).toArray 35)).alloc (.cells (wds (zeros32 16)).toArray 35)) := (below_alloc w _).alloc (by simp) _
  simp only [size_alloc] at kr kw
  generalize (w.alloc (.cells (wds (zeros32 16)).toArray 35)).alloc (.cells (wds (zeros32 16)).toArray 35) = w2 at *
  generalize hBe : w.heap.size = B at *
  have HBE := Lib.hid hBe
  clear hBe
  have H0 := Lib.hid (And.intro kr (And.intro kw hb2))
  clear kr kw hb2
  go_loopw [5] (fun i wr => ∃ k : Nat, k ≤ 16 ∧ i = .int .u32 k ∧ Hid (Whole wr B 35 (wds (zeros32 16)).toArray ∧ Whole wr (B + 1) 35 (wds (Cm.tabTo k ++ zeros32 (16 - k))).toArray ∧ Below B w wr)) (fun i _ => 16 - (intOf i).toNat)
  case atStart => exact ⟨0, Nat.zero_le _, rfl, Lib.hid H0.out⟩
  case round =>
    clear H0
    obtain ⟨k, hk, rfl, HB⟩ := hrel
    by_cases hlt : k < 16
    · have cw : wr.cell? ⟨B + 1, k, none⟩ = some (.int .u32 (num ((Cm.tabTo k ++ zeros32 (16 - k)).getD k 0))) := (HB.out.2.1.cell k).trans (by rw [List.getElem?_toArray, wds_get _ _ (by simp [Cm.tabTo, zeros32]; omega)])
      have fw : wr.frozen? ⟨B + 1, k, none⟩ = false := HB.out.2.1.frozen k
      go_wp2_with (go_at_call 14; refine (fill_any k hlt _ _ _ cw fw).mono ?_; rintro e w' ⟨rfl, rfl⟩)
      refine ⟨⟨k + 1, by omega, by go_num, Lib.hid ⟨HB.out.1.far (p := ⟨B + 1, k, none⟩) (by show B ≠ B + 1; omega) _, by rw [← tab_set k hlt]; exact HB.out.2.1.set k _, HB.out.2.2.setCell (by show B ≤ B + 1; omega) _⟩⟩, by simp [intOf]; omega⟩
    · obtain rfl : k = 16 := by omega
      have K1 : Hid (Whole wr B 35 (wds (zeros32 16)).toArray) := Lib.hid HB.out.1
      have K2 : Hid (Whole wr (B + 1) 35 (wds Cm.tab).toArray) := Lib.hid (by have := HB.out.2.1; simpa [zeros32, Cm.tab] using this)
      have hNs : (wds Cm.tab).toArray.size = 16 := by simp [wds_len, Cm.tab, Cm.tabTo]
      have hNa := all_wds Cm.tab
      have HZ : Hid ((wds (zeros32 16)).toArray.size = 16) := Lib.hid (by simp [wds_len, zeros32])
      generalize hN : (wds Cm.tab).toArray = N at *
      have HN := Lib.hid hN
      have HNS := Lib.hid hNs
      clear hN hNs
      go_wp2_with (first
        | ((with_reducible show wpList _ _ _ ((⟨_, Op.load 35 _, _, _, _, _⟩ : Oper) :: _) _ _); refine wpList_load_row rfl _ (.tmp 1) rfl (B + 1) rfl 35 N (0, 0) _ K2.out und16 rfl (by rw [HNS.out]; exact info16) ?_)
        | ((with_reducible show wpList _ _ _ ((⟨_, Op.store 35 _ _, _, _, _, _⟩ : Oper) :: _) _ _); refine wpList_store_row rfl _ (.tmp 0) (.tmp 12) rfl B N rfl rfl 35 _ K1.out (by rw [HNS.out]; exact info16) (by rw [HZ.out, HNS.out]) hNa ?_))
      refine bodyPost_ret (results_one_cell rfl _ _ _ _ rfl (run_loadVar_row _ _ _ _ _ (0, 0) _ (K1.out.row N) und16 rfl (by rw [HNS.out]; exact info16))) rfl ?_
      exact ⟨by rw [HN.out], by rw [HBE.out]; exact below_row HB.out.2.2 (Nat.le_refl _) N⟩
end Go.Proofs.Ytiagblmnmknnfaa
