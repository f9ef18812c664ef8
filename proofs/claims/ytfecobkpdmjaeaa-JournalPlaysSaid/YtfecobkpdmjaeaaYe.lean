/-
  The walk of the document's New.
-/
import Derived.Test.YtfecobkpdmjaeaaYd
namespace Go.Proofs.Ytfecobkpdmjaeaa
open Go.RowKit
set_option linter.unusedVariables false
set_option maxRecDepth 20000
set_option linter.unusedSimpArgs false
theorem b_info2 : ∃ i, Try.prog.info? 45 = some i ∧ i.zero = some (.agg zb) ∧ i.size = 64 ∧ i.bytes = 64 := by
  have h : (Try.prog.info? 45).map (fun i => (i.zero, i.size, i.bytes)) = some (some (.agg zb), 64, 64) := by kernel_rfl
  cases hq : Try.prog.info? 45 with
  | none => rw [hq] at h; cases h
  | some i =>
    rw [hq] at h
    simp only [Option.map_some, Option.some.injEq, Prod.mk.injEq] at h
    exact ⟨i, rfl, h.1, h.2.1, h.2.2⟩
theorem zb_get (i : Nat) (h : i < 64) : zb[i]! = .int .u8 0 := by
  have h1 : i < zb.size := h
  rw [getElem!_pos zb i h1]
  have : zb[i]? = some (.int .u8 0) := by
    have e : (List.replicate 64 (0 : Int)).getD i 0 = 0 := by
      rw [List.getD_eq_getElem?_getD, List.getElem?_replicate, if_pos h]
      rfl
    unfold zb
    rw [List.getElem?_toArray, nums_get z64 i h]
    exact congrArg (fun x => some (Value.int .u8 x)) e
  rw [Array.getElem?_eq_getElem h1] at this
  exact Option.some.inj this
theorem made_rows (m : Nat) : madeCells zb m = (nums (zeros m)).toArray := by
  apply Array.ext
  · simp [nums, zeros, size_madeCells]
  · intro i h1 h2
    have hz : zb.size = 64 := rfl
    simp only [madeCells, Array.getElem_map, Array.getElem_range, hz]
    rw [zb_get _ (Nat.mod_lt _ (by omega))]
    simp [nums, zeros]
theorem make_rows (n : Nat) (hn : n ≤ 4096) (w : World) : (Instr.makeSlice 54 (.int .i64 (n : Int)) (.int .i64 (n : Int))).run Try.prog w = .ok (.slice (some ⟨w.heap.size, 0, none⟩) n n) (w.alloc (.cells (nums (zeros (n * 64))).toArray 45)) := by
  obtain ⟨i, hi, hz, hs, hb⟩ := b_info2
  have h := run_make (P := Try.prog) w 54 45 i (.agg zb) Try.underlying54 hi hz .i64 .i64 (n : Int) (n : Int) (by omega) (Int.le_refl _) (by rw [hb]; omega) (by omega)
  rw [h, hs]
  have e : (Value.agg zb).cells = zb := rfl
  rw [e, Int.toNat_natCast, made_rows]
theorem rown (w : World) (B g n : Nat) (h : Whole w g 45 (nums (zeros (n * 64))).toArray) (hB : B ≤ g) (hn : n ≤ 4096) : w.ownsRow B 45 64 (.slice (some ⟨g, 0, none⟩) n n) n (nums (zeros (64 * n))) :=
  ⟨by rw [nums_len, zeros_len]; omega, Or.inr ⟨g, n, _, rfl, hB, h, Nat.le_refl _, by unfold maxLen; omega, by rw [List.size_toArray, nums_len, zeros_len], by
    show (nums (zeros (n * 64))).take (n * 64) = _
    rw [List.take_of_length_le (by rw [nums_len, zeros_len]; omega), Nat.mul_comm]⟩⟩
theorem rnew_mk {w w' : World} {B r x y n : Nat} (hn : n ≤ 4096) (hr : Whole w' r 56 #[.slice (some ⟨x, 0, none⟩) n n, .slice (some ⟨y, 0, none⟩) n n, .slice none 0 0, .bool false]) (hx : Whole w' x 45 (nums (zeros (n * 64))).toArray) (hy : Whole w' y 45 (nums (zeros (n * 64))).toArray) (h1 : B ≤ x) (h2 : B ≤ y) (h3 : B ≤ r) (h4 : x ≠ y) :
    Rk w' B r (.slice (some ⟨x, 0, none⟩) n n) (.slice (some ⟨y, 0, none⟩) n n) (.slice none 0 0) (fresh n) n :=
  ⟨hr, rown w' B x n hx h1 hn, rown w' B y n hy h2 hn, ⟨rfl, Or.inl ⟨rfl, rfl⟩⟩, (fun g e1 e2 => by cases e1; cases e2; exact h4 rfl), h3, fresh_ok hn⟩
theorem three (w : World) (Z : Array Value) (t u : TypeId) (cs : Array Value) : Whole (((w.alloc (.cells Z t)).alloc (.cells Z t)).alloc (.cells cs u)).drew w.heap.size t Z ∧ Whole (((w.alloc (.cells Z t)).alloc (.cells Z t)).alloc (.cells cs u)).drew (w.heap.size + 1) t Z ∧ Whole (((w.alloc (.cells Z t)).alloc (.cells Z t)).alloc (.cells cs u)).drew (w.heap.size + 1 + 1) u cs ∧ Below w.heap.size w (((w.alloc (.cells Z t)).alloc (.cells Z t)).alloc (.cells cs u)).drew := by
  have k0 := Whole.new w t Z
  have k1 := Whole.new (w.alloc (.cells Z t)) t Z
  rw [size_alloc] at k1
  have k2 := Whole.new ((w.alloc (.cells Z t)).alloc (.cells Z t)) u cs
  rw [size_alloc, size_alloc] at k2
  have hb : Below w.heap.size w (((w.alloc (.cells Z t)).alloc (.cells Z t)).alloc (.cells cs u)) := (((Below.refl _ _).alloc (Nat.le_refl _) _).alloc (by simp) _).alloc (by simp; omega) _
  exact ⟨(k0.alloc _).alloc _, k1.alloc _, k2, ⟨hb.os, hb.tape, hb.output, hb.size, hb.block⟩⟩
set_option maxHeartbeats 4000000 in
theorem rnew_ok {n B : Nat} {w : World} (hn : n ≤ 4096) (hB : B ≤ w.heap.size) : Calls Try.prog 12 #[.int .i64 (n : Int)] w fun e w' => ∃ r vL vN vD, e = .returned (.tuple #[.pointer (some ⟨r, 0, none⟩), .int .i64 0]) ∧ Rk w' B r vL vN vD (fresh n) n ∧ Below w.heap.size w w' := by
  have hmk := make_rows n hn
  have hd : decide ((n : Int) < 0) = false := by simp
  have HB := Lib.hid hB
  obtain ⟨Z, hZ⟩ : ∃ Z, (nums (zeros (n * 64))).toArray = Z := ⟨_, rfl⟩
  rw [hZ] at hmk
  have HZ := Lib.hid hZ
  clear hZ hB
  go_enter Try.func12, Try.ntmps12
  go_wp2
  refine wp_region_held_drew (S := fun _ => True) (by kernel_rfl) trivial (fun hHeld => ?_)
  refine wpAnyH_take (i := 0) (v := .int .i64 (n : Int)) rfl (by kernel_rfl) (by kernel_rfl) (by kernel_rfl) (fun _ _ _ h => h) (Or.inl ⟨by rfl, (by intro w hSw; (try dsimp only at hSw); go_simp)⟩) (by assumption) ?_
  try simp only [Act.put, List.getElem_toArray, List.getElem_cons_zero, List.getElem_cons_succ, List.setIfInBounds_toArray, List.set_cons_zero, List.set_cons_succ]
  refine wpAnyH_take (i := 2) (v := .int .i64 (n : Int)) rfl (by kernel_rfl) (by kernel_rfl) (by kernel_rfl) (fun _ _ _ h => h) (Or.inl ⟨by rfl, (by intro w hSw; (try dsimp only at hSw); go_simp)⟩) (by assumption) ?_
  try simp only [Act.put, List.getElem_toArray, List.getElem_cons_zero, List.getElem_cons_succ, List.setIfInBounds_toArray, List.set_cons_zero, List.set_cons_succ]
  refine wpAnyH_ready (rs := [1, 3]) (by kernel_rfl) (by simp) (AllReadyH.cons rfl (fun K hK => ?_) (AllReadyH.cons rfl (fun K hK => ?_) AllReadyH.nil))
  · try simp only [List.getElem_toArray, List.getElem_cons_zero, List.getElem_cons_succ]
    go_simp
    refine hK.out _ _ trivial (fun hHeld => ?_)
    clear hK K
    try simp only [Act.put, List.getElem_toArray, List.getElem_cons_zero, List.getElem_cons_succ, List.setIfInBounds_toArray, List.set_cons_zero, List.set_cons_succ]
    refine wpAnyH_ready (rs := [3]) (by kernel_rfl) (by simp) (AllReadyH.cons rfl (fun K hK => ?_) AllReadyH.nil)
    try simp only [List.getElem_toArray, List.getElem_cons_zero, List.getElem_cons_succ]
    go_simp
    refine hK.out _ _ trivial (fun hHeld => ?_)
    clear hK K
    try simp only [Act.put, List.getElem_toArray, List.getElem_cons_zero, List.getElem_cons_succ, List.setIfInBounds_toArray, List.set_cons_zero, List.set_cons_succ]
    refine wpAnyH_take (i := 4) (v := .agg #[.slice (some ⟨w.heap.size, 0, none⟩) n n, .slice (some ⟨w.heap.size + 1, 0, none⟩) n n, .slice none 0 0, .bool false]) rfl (by kernel_rfl) (by kernel_rfl) (by kernel_rfl) (fun _ _ _ h => h) (Or.inl ⟨by rfl, (by intro w hSw; (try dsimp only at hSw); go_simp)⟩) (by assumption) ?_
    try simp only [Act.put, List.getElem_toArray, List.getElem_cons_zero, List.getElem_cons_succ, List.setIfInBounds_toArray, List.set_cons_zero, List.set_cons_succ]
    refine wpAnyH_ready (rs := [5]) (by kernel_rfl) (by simp) (AllReadyH.cons rfl (fun K hK => ?_) AllReadyH.nil)
    try simp only [List.getElem_toArray, List.getElem_cons_zero, List.getElem_cons_succ]
    go_simp
    refine hK.out _ _ trivial (fun hHeld => ?_)
    clear hK K
    try simp only [Act.put, List.getElem_toArray, List.getElem_cons_zero, List.getElem_cons_succ, List.setIfInBounds_toArray, List.set_cons_zero, List.set_cons_succ]
    refine wpAnyH_take (i := 6) (v := .pointer (some ⟨w.heap.size + 1 + 1, 0, none⟩)) rfl (by kernel_rfl) (by kernel_rfl) (by kernel_rfl) (fun _ _ _ h => h) (Or.inl ⟨by rfl, (by intro w hSw; (try dsimp only at hSw); go_simp)⟩) (by assumption) ?_
    try simp only [Act.put, List.getElem_toArray, List.getElem_cons_zero, List.getElem_cons_succ, List.setIfInBounds_toArray, List.set_cons_zero, List.set_cons_succ]
    refine wpAnyH_take (i := 7) (v := .int .i64 0) rfl (by kernel_rfl) (by kernel_rfl) (by kernel_rfl) (fun _ _ _ h => h) (Or.inl ⟨by rfl, (by intro w hSw; (try dsimp only at hSw); go_simp)⟩) (by assumption) ?_
    try simp only [Act.put, List.getElem_toArray, List.getElem_cons_zero, List.getElem_cons_succ, List.setIfInBounds_toArray, List.set_cons_zero, List.set_cons_succ]
    refine wpAnyH_done (by kernel_rfl) ?_ _
    obtain ⟨k0, k1, k2, hb⟩ := three w Z 45 56 #[.slice (some ⟨w.heap.size, 0, none⟩) n n, .slice (some ⟨w.heap.size + 1, 0, none⟩) n n, .slice none 0 0, .bool false]
    have HF := Lib.hid (And.intro k0 (And.intro k1 (And.intro k2 hb)))
    clear k0 k1 k2 hb
    generalize (((w.alloc (Obj.cells Z 45)).alloc (Obj.cells Z 45)).alloc (Obj.cells #[.slice (some ⟨w.heap.size, 0, none⟩) n n, .slice (some ⟨w.heap.size + 1, 0, none⟩) n n, .slice none 0 0, .bool false] 56)).drew = w9 at *
    go_wp2
    go_ret2
    exact ⟨_, _, _, _, rfl, rnew_mk (w := w) hn HF.out.2.2.1 (by rw [HZ.out]; exact HF.out.1) (by rw [HZ.out]; exact HF.out.2.1) (by have := HB.out; omega) (by have := HB.out; omega) (by have := HB.out; omega) (by omega), HF.out.2.2.2⟩
  · try simp only [List.getElem_toArray, List.getElem_cons_zero, List.getElem_cons_succ]
    go_simp
    refine hK.out _ _ trivial (fun hHeld => ?_)
    clear hK K
    try simp only [Act.put, List.getElem_toArray, List.getElem_cons_zero, List.getElem_cons_succ, List.setIfInBounds_toArray, List.set_cons_zero, List.set_cons_succ]
    refine wpAnyH_ready (rs := [1]) (by kernel_rfl) (by simp) (AllReadyH.cons rfl (fun K hK => ?_) AllReadyH.nil)
    try simp only [List.getElem_toArray, List.getElem_cons_zero, List.getElem_cons_succ]
    go_simp
    refine hK.out _ _ trivial (fun hHeld => ?_)
    clear hK K
    try simp only [Act.put, List.getElem_toArray, List.getElem_cons_zero, List.getElem_cons_succ, List.setIfInBounds_toArray, List.set_cons_zero, List.set_cons_succ]
    refine wpAnyH_take (i := 4) (v := .agg #[.slice (some ⟨w.heap.size + 1, 0, none⟩) n n, .slice (some ⟨w.heap.size, 0, none⟩) n n, .slice none 0 0, .bool false]) rfl (by kernel_rfl) (by kernel_rfl) (by kernel_rfl) (fun _ _ _ h => h) (Or.inl ⟨by rfl, (by intro w hSw; (try dsimp only at hSw); go_simp)⟩) (by assumption) ?_
    try simp only [Act.put, List.getElem_toArray, List.getElem_cons_zero, List.getElem_cons_succ, List.setIfInBounds_toArray, List.set_cons_zero, List.set_cons_succ]
    refine wpAnyH_ready (rs := [5]) (by kernel_rfl) (by simp) (AllReadyH.cons rfl (fun K hK => ?_) AllReadyH.nil)
    try simp only [List.getElem_toArray, List.getElem_cons_zero, List.getElem_cons_succ]
    go_simp
    refine hK.out _ _ trivial (fun hHeld => ?_)
    clear hK K
    try simp only [Act.put, List.getElem_toArray, List.getElem_cons_zero, List.getElem_cons_succ, List.setIfInBounds_toArray, List.set_cons_zero, List.set_cons_succ]
    refine wpAnyH_take (i := 6) (v := .pointer (some ⟨w.heap.size + 1 + 1, 0, none⟩)) rfl (by kernel_rfl) (by kernel_rfl) (by kernel_rfl) (fun _ _ _ h => h) (Or.inl ⟨by rfl, (by intro w hSw; (try dsimp only at hSw); go_simp)⟩) (by assumption) ?_
    try simp only [Act.put, List.getElem_toArray, List.getElem_cons_zero, List.getElem_cons_succ, List.setIfInBounds_toArray, List.set_cons_zero, List.set_cons_succ]
    refine wpAnyH_take (i := 7) (v := .int .i64 0) rfl (by kernel_rfl) (by kernel_rfl) (by kernel_rfl) (fun _ _ _ h => h) (Or.inl ⟨by rfl, (by intro w hSw; (try dsimp only at hSw); go_simp)⟩) (by assumption) ?_
    try simp only [Act.put, List.getElem_toArray, List.getElem_cons_zero, List.getElem_cons_succ, List.setIfInBounds_toArray, List.set_cons_zero, List.set_cons_succ]
    refine wpAnyH_done (by kernel_rfl) ?_ _
    obtain ⟨k0, k1, k2, hb⟩ := three w Z 45 56 #[.slice (some ⟨w.heap.size + 1, 0, none⟩) n n, .slice (some ⟨w.heap.size, 0, none⟩) n n, .slice none 0 0, .bool false]
    have HF := Lib.hid (And.intro k0 (And.intro k1 (And.intro k2 hb)))
    clear k0 k1 k2 hb
    generalize (((w.alloc (Obj.cells Z 45)).alloc (Obj.cells Z 45)).alloc (Obj.cells #[.slice (some ⟨w.heap.size + 1, 0, none⟩) n n, .slice (some ⟨w.heap.size, 0, none⟩) n n, .slice none 0 0, .bool false] 56)).drew = w9 at *
    go_wp2
    go_ret2
    exact ⟨_, _, _, _, rfl, rnew_mk (w := w) hn HF.out.2.2.1 (by rw [HZ.out]; exact HF.out.2.1) (by rw [HZ.out]; exact HF.out.1) (by have := HB.out; omega) (by have := HB.out; omega) (by have := HB.out; omega) (by omega), HF.out.2.2.2⟩
theorem rnew_bad {z : Int} {w : World} (hz : z < 0 ∨ 4096 < z) : Calls Try.prog 12 #[.int .i64 z] w fun e w' => e = .returned (.tuple #[.pointer none, .int .i64 1]) ∧ w = w' := by
  by_cases h : z < 0
  · have h1 : decide (z < 0) = true := by simpa using h
    clear hz
    go_enter Try.func12, Try.ntmps12
    go_wp2
    go_ret2
    exact ⟨rfl, rfl⟩
  · have h1 : decide (z < 0) = false := by simpa using h
    have h2 : (4096 : Int) < z := by omega
    have h3 : decide ((4096 : Int) < z) = true := by simpa using h2
    clear hz
    go_enter Try.func12, Try.ntmps12
    go_wp2
    go_ret2
    exact ⟨rfl, rfl⟩
end Go.Proofs.Ytfecobkpdmjaeaa
