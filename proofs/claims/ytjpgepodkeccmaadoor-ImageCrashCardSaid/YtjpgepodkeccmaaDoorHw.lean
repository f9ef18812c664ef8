/-
  Words of 32 bits as the machine has them, and the walks of RotateLeft32, turned, spreadA, spreadE, spread0, spread1.
-/
import Derived.Test.YtjpgepodkeccmaaDoorHb
import Derived.Test.YtjpgepodkeccmaaDoorHm
namespace Go.Proofs.YtjpgepodkeccmaaDoor.Sh
open Go.Proofs.YtjpgepodkeccmaaDoor
set_option maxRecDepth 20000
open Go.RowKit
def num (x : BitVec 32) : Int := x.toNat
theorem num_lo (x : BitVec 32) : 0 ≤ num x := by simp [num]
theorem num_hi (x : BitVec 32) : num x ≤ 4294967295 := by have := x.isLt; unfold num; omega
theorem num_ofInt (x : BitVec 32) : BitVec.ofInt 32 (num x) = x := by simp [num]
theorem num_wrap (z : BitVec 32) : IntKind.u32.wrap (z.toNat : Int) = num z := by have := z.isLt; rw [IntKind.wrap_u32']; unfold num; omega
theorem num_xor (x y : BitVec 32) : bits .xor .u32 (num x) (num y) = num (x ^^^ y) := by
  simp only [bits, IntKind.bits, num_ofInt]; exact num_wrap _
theorem num_and (x y : BitVec 32) : bits .and .u32 (num x) (num y) = num (x &&& y) := by
  simp only [bits, IntKind.bits, num_ofInt]; exact num_wrap _
theorem num_or (x y : BitVec 32) : bits .or .u32 (num x) (num y) = num (x ||| y) := by
  simp only [bits, IntKind.bits, num_ofInt]; exact num_wrap _
theorem num_not (x : BitVec 32) : bits .xor .u32 4294967295 (num x) = num (~~~x) := by
  have h : (4294967295 : Int) = num (BitVec.allOnes 32) := by rfl
  rw [h, num_xor, BitVec.allOnes_xor]
theorem num_add (x y : BitVec 32) : (num x + num y) % 4294967296 = num (x + y) := by
  unfold num; rw [BitVec.toNat_add]; omega
theorem num_shr (x : BitVec 32) (n : Nat) : num x / 2 ^ n = num (x >>> n) := by
  unfold num; rw [BitVec.toNat_ushiftRight, Nat.shiftRight_eq_div_pow]; simp
theorem num_rot (x : BitVec 32) (n m : Nat) (h : n + m = 32) (h0 : 0 < n) (h1 : 0 < m) : bits .or .u32 (num x * 2 ^ m % 4294967296) (num x / 2 ^ n) = num (x.rotateRight n) := by
  have e1 : num x * 2 ^ m % 4294967296 = num (x <<< m) := by
    unfold num; rw [BitVec.toNat_shiftLeft, Nat.shiftLeft_eq]; simp
  rw [e1, num_shr, num_or, BitVec.or_comm]
  congr 1
  rw [BitVec.rotateRight_def]
  have : n % 32 = n := by omega
  rw [this]
  congr 2
  omega
theorem ret_u32 {a b : Int} (h : a = b) : Ending.returned (.int .u32 a) = .returned (.int .u32 b) := by rw [h]
/-- Words as cells. -/
def wds (l : List (BitVec 32)) : List Value := l.map fun x => .int .u32 (num x)
theorem wds_len (l : List (BitVec 32)) : (wds l).length = l.length := by simp [wds]
theorem wds_get (l : List (BitVec 32)) (k : Nat) (h : k < l.length) : (wds l)[k]? = some (.int .u32 (num (l.getD k 0))) := by simp [wds, h]
theorem wds_one (l : List (BitVec 32)) : ∀ u ∈ wds l, u.oneCell' = true := by
  intro u hu
  obtain ⟨x, _, rfl⟩ := List.mem_map.1 hu
  rfl
theorem all_wds (l : List (BitVec 32)) : (wds l).toArray.all (·.oneCell') = true := Array.all_eq_true_iff_forall_mem.2 (fun v hv => wds_one l v (by simpa using hv))

theorem rot2 (x : BitVec 32) (w : World) : Calls Tryd.prog 50 #[.int .u32 (num x), .int .i64 (-2)] w fun e w' => e = .returned (.int .u32 (num (x.rotateRight 2))) ∧ w = w' := by
  have h1 : bits .and .u64 (IntKind.u64.wrap (-2)) 31 = 30 := by decide +kernel
  go_enter Tryd.func50, Tryd.ntmps50
  go_wp2
  go_ret
  exact ⟨ret_u32 (num_rot x 2 30 (by omega) (by omega) (by omega)), rfl⟩
theorem turned2 (x : BitVec 32) (w : World) : Calls Tryd.prog 49 #[.int .u32 (num x), .int .i64 2] w fun e w' => e = .returned (.int .u32 (num (x.rotateRight 2))) ∧ w = w' := by
  go_enter Tryd.func49, Tryd.ntmps49
  go_wp2_with (go_at_call 50; refine (rot2 _ _).mono ?_; rintro e w' ⟨rfl, rfl⟩)
  go_ret
  exact ⟨rfl, rfl⟩
theorem rot13 (x : BitVec 32) (w : World) : Calls Tryd.prog 50 #[.int .u32 (num x), .int .i64 (-13)] w fun e w' => e = .returned (.int .u32 (num (x.rotateRight 13))) ∧ w = w' := by
  have h1 : bits .and .u64 (IntKind.u64.wrap (-13)) 31 = 19 := by decide +kernel
  go_enter Tryd.func50, Tryd.ntmps50
  go_wp2
  go_ret
  exact ⟨ret_u32 (num_rot x 13 19 (by omega) (by omega) (by omega)), rfl⟩
theorem turned13 (x : BitVec 32) (w : World) : Calls Tryd.prog 49 #[.int .u32 (num x), .int .i64 13] w fun e w' => e = .returned (.int .u32 (num (x.rotateRight 13))) ∧ w = w' := by
  go_enter Tryd.func49, Tryd.ntmps49
  go_wp2_with (go_at_call 50; refine (rot13 _ _).mono ?_; rintro e w' ⟨rfl, rfl⟩)
  go_ret
  exact ⟨rfl, rfl⟩
theorem rot22 (x : BitVec 32) (w : World) : Calls Tryd.prog 50 #[.int .u32 (num x), .int .i64 (-22)] w fun e w' => e = .returned (.int .u32 (num (x.rotateRight 22))) ∧ w = w' := by
  have h1 : bits .and .u64 (IntKind.u64.wrap (-22)) 31 = 10 := by decide +kernel
  go_enter Tryd.func50, Tryd.ntmps50
  go_wp2
  go_ret
  exact ⟨ret_u32 (num_rot x 22 10 (by omega) (by omega) (by omega)), rfl⟩
theorem turned22 (x : BitVec 32) (w : World) : Calls Tryd.prog 49 #[.int .u32 (num x), .int .i64 22] w fun e w' => e = .returned (.int .u32 (num (x.rotateRight 22))) ∧ w = w' := by
  go_enter Tryd.func49, Tryd.ntmps49
  go_wp2_with (go_at_call 50; refine (rot22 _ _).mono ?_; rintro e w' ⟨rfl, rfl⟩)
  go_ret
  exact ⟨rfl, rfl⟩
theorem rot6 (x : BitVec 32) (w : World) : Calls Tryd.prog 50 #[.int .u32 (num x), .int .i64 (-6)] w fun e w' => e = .returned (.int .u32 (num (x.rotateRight 6))) ∧ w = w' := by
  have h1 : bits .and .u64 (IntKind.u64.wrap (-6)) 31 = 26 := by decide +kernel
  go_enter Tryd.func50, Tryd.ntmps50
  go_wp2
  go_ret
  exact ⟨ret_u32 (num_rot x 6 26 (by omega) (by omega) (by omega)), rfl⟩
theorem turned6 (x : BitVec 32) (w : World) : Calls Tryd.prog 49 #[.int .u32 (num x), .int .i64 6] w fun e w' => e = .returned (.int .u32 (num (x.rotateRight 6))) ∧ w = w' := by
  go_enter Tryd.func49, Tryd.ntmps49
  go_wp2_with (go_at_call 50; refine (rot6 _ _).mono ?_; rintro e w' ⟨rfl, rfl⟩)
  go_ret
  exact ⟨rfl, rfl⟩
theorem rot11 (x : BitVec 32) (w : World) : Calls Tryd.prog 50 #[.int .u32 (num x), .int .i64 (-11)] w fun e w' => e = .returned (.int .u32 (num (x.rotateRight 11))) ∧ w = w' := by
  have h1 : bits .and .u64 (IntKind.u64.wrap (-11)) 31 = 21 := by decide +kernel
  go_enter Tryd.func50, Tryd.ntmps50
  go_wp2
  go_ret
  exact ⟨ret_u32 (num_rot x 11 21 (by omega) (by omega) (by omega)), rfl⟩
theorem turned11 (x : BitVec 32) (w : World) : Calls Tryd.prog 49 #[.int .u32 (num x), .int .i64 11] w fun e w' => e = .returned (.int .u32 (num (x.rotateRight 11))) ∧ w = w' := by
  go_enter Tryd.func49, Tryd.ntmps49
  go_wp2_with (go_at_call 50; refine (rot11 _ _).mono ?_; rintro e w' ⟨rfl, rfl⟩)
  go_ret
  exact ⟨rfl, rfl⟩
theorem rot25 (x : BitVec 32) (w : World) : Calls Tryd.prog 50 #[.int .u32 (num x), .int .i64 (-25)] w fun e w' => e = .returned (.int .u32 (num (x.rotateRight 25))) ∧ w = w' := by
  have h1 : bits .and .u64 (IntKind.u64.wrap (-25)) 31 = 7 := by decide +kernel
  go_enter Tryd.func50, Tryd.ntmps50
  go_wp2
  go_ret
  exact ⟨ret_u32 (num_rot x 25 7 (by omega) (by omega) (by omega)), rfl⟩
theorem turned25 (x : BitVec 32) (w : World) : Calls Tryd.prog 49 #[.int .u32 (num x), .int .i64 25] w fun e w' => e = .returned (.int .u32 (num (x.rotateRight 25))) ∧ w = w' := by
  go_enter Tryd.func49, Tryd.ntmps49
  go_wp2_with (go_at_call 50; refine (rot25 _ _).mono ?_; rintro e w' ⟨rfl, rfl⟩)
  go_ret
  exact ⟨rfl, rfl⟩
theorem rot7 (x : BitVec 32) (w : World) : Calls Tryd.prog 50 #[.int .u32 (num x), .int .i64 (-7)] w fun e w' => e = .returned (.int .u32 (num (x.rotateRight 7))) ∧ w = w' := by
  have h1 : bits .and .u64 (IntKind.u64.wrap (-7)) 31 = 25 := by decide +kernel
  go_enter Tryd.func50, Tryd.ntmps50
  go_wp2
  go_ret
  exact ⟨ret_u32 (num_rot x 7 25 (by omega) (by omega) (by omega)), rfl⟩
theorem turned7 (x : BitVec 32) (w : World) : Calls Tryd.prog 49 #[.int .u32 (num x), .int .i64 7] w fun e w' => e = .returned (.int .u32 (num (x.rotateRight 7))) ∧ w = w' := by
  go_enter Tryd.func49, Tryd.ntmps49
  go_wp2_with (go_at_call 50; refine (rot7 _ _).mono ?_; rintro e w' ⟨rfl, rfl⟩)
  go_ret
  exact ⟨rfl, rfl⟩
theorem rot18 (x : BitVec 32) (w : World) : Calls Tryd.prog 50 #[.int .u32 (num x), .int .i64 (-18)] w fun e w' => e = .returned (.int .u32 (num (x.rotateRight 18))) ∧ w = w' := by
  have h1 : bits .and .u64 (IntKind.u64.wrap (-18)) 31 = 14 := by decide +kernel
  go_enter Tryd.func50, Tryd.ntmps50
  go_wp2
  go_ret
  exact ⟨ret_u32 (num_rot x 18 14 (by omega) (by omega) (by omega)), rfl⟩
theorem turned18 (x : BitVec 32) (w : World) : Calls Tryd.prog 49 #[.int .u32 (num x), .int .i64 18] w fun e w' => e = .returned (.int .u32 (num (x.rotateRight 18))) ∧ w = w' := by
  go_enter Tryd.func49, Tryd.ntmps49
  go_wp2_with (go_at_call 50; refine (rot18 _ _).mono ?_; rintro e w' ⟨rfl, rfl⟩)
  go_ret
  exact ⟨rfl, rfl⟩
theorem rot17 (x : BitVec 32) (w : World) : Calls Tryd.prog 50 #[.int .u32 (num x), .int .i64 (-17)] w fun e w' => e = .returned (.int .u32 (num (x.rotateRight 17))) ∧ w = w' := by
  have h1 : bits .and .u64 (IntKind.u64.wrap (-17)) 31 = 15 := by decide +kernel
  go_enter Tryd.func50, Tryd.ntmps50
  go_wp2
  go_ret
  exact ⟨ret_u32 (num_rot x 17 15 (by omega) (by omega) (by omega)), rfl⟩
theorem turned17 (x : BitVec 32) (w : World) : Calls Tryd.prog 49 #[.int .u32 (num x), .int .i64 17] w fun e w' => e = .returned (.int .u32 (num (x.rotateRight 17))) ∧ w = w' := by
  go_enter Tryd.func49, Tryd.ntmps49
  go_wp2_with (go_at_call 50; refine (rot17 _ _).mono ?_; rintro e w' ⟨rfl, rfl⟩)
  go_ret
  exact ⟨rfl, rfl⟩
theorem rot19 (x : BitVec 32) (w : World) : Calls Tryd.prog 50 #[.int .u32 (num x), .int .i64 (-19)] w fun e w' => e = .returned (.int .u32 (num (x.rotateRight 19))) ∧ w = w' := by
  have h1 : bits .and .u64 (IntKind.u64.wrap (-19)) 31 = 13 := by decide +kernel
  go_enter Tryd.func50, Tryd.ntmps50
  go_wp2
  go_ret
  exact ⟨ret_u32 (num_rot x 19 13 (by omega) (by omega) (by omega)), rfl⟩
theorem turned19 (x : BitVec 32) (w : World) : Calls Tryd.prog 49 #[.int .u32 (num x), .int .i64 19] w fun e w' => e = .returned (.int .u32 (num (x.rotateRight 19))) ∧ w = w' := by
  go_enter Tryd.func49, Tryd.ntmps49
  go_wp2_with (go_at_call 50; refine (rot19 _ _).mono ?_; rintro e w' ⟨rfl, rfl⟩)
  go_ret
  exact ⟨rfl, rfl⟩
theorem spreadA_any (x : BitVec 32) (w : World) : Calls Tryd.prog 46 #[.int .u32 (num x)] w fun e w' => e = .returned (.int .u32 (num (Sm.sA x))) ∧ w = w' := by
  go_enter Tryd.func46, Tryd.ntmps46
  go_wp2_with fail
  refine (turned2 _ _).mono ?_; rintro e w' ⟨rfl, rfl⟩
  go_wp2_with fail
  refine (turned13 _ _).mono ?_; rintro e w' ⟨rfl, rfl⟩
  go_wp2_with fail
  refine (turned22 _ _).mono ?_; rintro e w' ⟨rfl, rfl⟩
  go_wp2
  go_ret
  exact ⟨ret_u32 (by rw [num_xor, num_xor]; rfl), rfl⟩
theorem spreadE_any (x : BitVec 32) (w : World) : Calls Tryd.prog 45 #[.int .u32 (num x)] w fun e w' => e = .returned (.int .u32 (num (Sm.sE x))) ∧ w = w' := by
  go_enter Tryd.func45, Tryd.ntmps45
  go_wp2_with fail
  refine (turned6 _ _).mono ?_; rintro e w' ⟨rfl, rfl⟩
  go_wp2_with fail
  refine (turned11 _ _).mono ?_; rintro e w' ⟨rfl, rfl⟩
  go_wp2_with fail
  refine (turned25 _ _).mono ?_; rintro e w' ⟨rfl, rfl⟩
  go_wp2
  go_ret
  exact ⟨ret_u32 (by rw [num_xor, num_xor]; rfl), rfl⟩
theorem spread0_any (x : BitVec 32) (w : World) : Calls Tryd.prog 48 #[.int .u32 (num x)] w fun e w' => e = .returned (.int .u32 (num (Sm.s0 x))) ∧ w = w' := by
  go_enter Tryd.func48, Tryd.ntmps48
  go_wp2_with fail
  refine (turned7 _ _).mono ?_; rintro e w' ⟨rfl, rfl⟩
  go_wp2_with fail
  refine (turned18 _ _).mono ?_; rintro e w' ⟨rfl, rfl⟩
  go_wp2
  go_ret
  exact ⟨ret_u32 (by rw [num_xor]; exact (congrArg _ (num_shr x 3)).trans (num_xor _ _)), rfl⟩
theorem spread1_any (x : BitVec 32) (w : World) : Calls Tryd.prog 47 #[.int .u32 (num x)] w fun e w' => e = .returned (.int .u32 (num (Sm.s1 x))) ∧ w = w' := by
  go_enter Tryd.func47, Tryd.ntmps47
  go_wp2_with fail
  refine (turned17 _ _).mono ?_; rintro e w' ⟨rfl, rfl⟩
  go_wp2_with fail
  refine (turned19 _ _).mono ?_; rintro e w' ⟨rfl, rfl⟩
  go_wp2
  go_ret
  exact ⟨ret_u32 (by rw [num_xor]; exact (congrArg _ (num_shr x 10)).trans (num_xor _ _)), rfl⟩
end Go.Proofs.YtjpgepodkeccmaaDoor.Sh
