/-
  The walks of Start, block and New.
-/
import Derived.Test.YtfecobkpdmjaeaaZc
import Derived.Deep.OwnRows
namespace Go.Proofs.Ytfecobkpdmjaeaa
open Go.RowKit
set_option linter.unusedVariables false
set_option maxRecDepth 20000
set_option linter.unusedSimpArgs false

theorem start_any {p bb mb n : Nat} {a : Dm.A} {w : World} (h : Dk w p bb mb a n) : Calls Try.prog 24 #[.pointer (some ⟨p, 0, none⟩)] w fun e w' => e = .returned (.tuple #[]) ∧ Dk w' p bb mb (Dm.start a) n ∧ w.grownBy w' (some p) ∧ w'.heap.size = w.heap.size := by
  have f2 := h.f2
  have c2 := h.c2
  have H := Lib.hid h
  clear h
  go_enter Try.func24, Try.ntmps24
  go_wp2
  go_end0
  have h := H.out
  refine ⟨rfl, ⟨?_, h.bytes.far h.ne1.symm _, h.map.keep (Below.heap_setCell w ⟨p, 2, none⟩ _ mb (fun e => h.ne2 e.symm)), Dm.start_ok h.ok⟩, ⟨rfl, rfl, rfl, by simp [World.setCell], fun k _ hne => Below.heap_setCell w ⟨p, 2, none⟩ _ k (fun e => hne (by rw [e]))⟩, by simp [World.setCell]⟩
  have := h.cells.set 2 (.bool false)
  exact this
theorem slice3 {bb N m : Nat} (h : m + 64 ≤ N) (w : World) : (Instr.slice 37 (.slice (some ⟨bb, 0, none⟩) N N) (some (.int .i64 (m : Int))) (some (.int .i64 ((m : Int) + 64))) (some (.int .i64 ((m : Int) + 64)))).run Try.prog w = .ok (.slice (some ⟨bb, m, none⟩) 64 64) w := by
  have hz : (sizeOf 5).run Try.prog w = .ok 1 w := by
    cases hq : Try.prog.info? 5 with
    | none => have := u8_info; rw [hq] at this; cases this
    | some i =>
      have := u8_info
      rw [hq] at this
      simp only [Option.map_some, Option.some.injEq, Prod.mk.injEq] at this
      simp [sizeOf, typeInfo, hq, this.2.1]
  have b1 : (0 : Int) ≤ (m : Int) + 64 ∧ (m : Int) + 64 ≤ (N : Int) := by omega
  have b2 : (0 : Int) ≤ (m : Int) + 64 ∧ (m : Int) + 64 ≤ (m : Int) + 64 := by omega
  have b3 : (0 : Int) ≤ (m : Int) ∧ (m : Int) ≤ (m : Int) + 64 := by omega
  have e1 : ((m : Int) + 64).toNat = m + 64 := by omega
  have e2 : ((((m : Int) + 64).toNat : Nat) : Int) = (m : Int) + 64 := by omega
  simp only [Instr.slice, Instr.sliceBounds, Instr.sliceBound, Sem.run_bind, Sem.run_pure, Result.andThen_ok, run_underlying Try.underlying37, asIntOf, if_pos b1, e2, if_pos b2, if_pos b3, hz, Int.toNat_natCast, Nat.mul_one, e1]
  have e3 : m + 64 - m = 64 := by omega
  have b4 : (0 : Int) ≤ (m : Int) + 64 := b2.1
  simp [e3, b4, Addr.add_lit]
theorem block_any {p bb n k : Nat} {w : World} (hn : n ≤ 4096) (hk : k < n) (c0 : w.cell? ⟨p, 0, none⟩ = some (.slice (some ⟨bb, 0, none⟩) (64 * n) (64 * n))) :
    Calls Try.prog 57 #[.pointer (some ⟨p, 0, none⟩), .int .i64 (k : Int)] w fun e w' => e = .returned (.slice (some ⟨bb, 64 * k, none⟩) 64 64) ∧ w = w' := by
  obtain ⟨m, hm⟩ : ∃ m, 64 * k = m := ⟨_, rfl⟩
  obtain ⟨N, hN⟩ : ∃ N, 64 * n = N := ⟨_, rfl⟩
  rw [hN] at c0
  rw [hm]
  have h64 : (k : Int) * 64 = (m : Int) := by rw [← hm]; omega
  have hmb : m ≤ 300000 := by omega
  have hs := slice3 (bb := bb) (N := N) (m := m) (by omega)
  have HM := Lib.hid hm
  have HN := Lib.hid hN
  clear hm hN hk hn
  go_enter Try.func57, Try.ntmps57
  go_wp2
  go_ret
  exact ⟨rfl, rfl⟩
def zwc : Array Value := (Value.int .i64 0 :: nums (List.replicate 64 0)).toArray
theorem zero_wc (w : World) : (zeroValue 88).run Try.prog w = .ok (.agg zwc) w := zero_w w
def wvc (i : Nat) (b : List Int) : List Value := Value.int .i64 (i : Int) :: nums b
theorem wvc_len (i : Nat) {b : List Int} (h : b.length = 64) : (wvc i b).length = 65 := by simp [wvc, nums_len, h]
theorem wvc_one (i : Nat) (b : List Int) : ∀ v ∈ wvc i b, v.oneCell' = true := fun v hv => by
  rcases List.mem_cons.1 hv with rfl | h
  · rfl
  · exact nums_one b v h
theorem wvc_all (i : Nat) (b : List Int) : (wvc i b).toArray.all (·.oneCell') = true := Array.all_eq_true_iff_forall_mem.2 (fun v hv => wvc_one i b v (by simpa using hv))
theorem info_w : (Try.prog.info? 88).map (·.size) = some 65 := by kernel_rfl
theorem info_b : (Try.prog.info? 45).map (·.size) = some 64 := by kernel_rfl
theorem und_b : Try.prog.underlying 45 = some (.array 64 5) := by kernel_rfl
theorem size_u8 (w : World) : (sizeOf 5).run Try.prog w = .ok 1 w := by
  cases hq : Try.prog.info? 5 with
  | none => have := u8_info; rw [hq] at this; cases this
  | some i =>
    have := u8_info
    rw [hq] at this
    simp only [Option.map_some, Option.some.injEq, Prod.mk.injEq] at this
    simp [sizeOf, typeInfo, hq, this.2.1]
theorem slice_arr {g o m : Nat} (h : m ≤ 64) (w : World) : (Instr.sliceAt 45 (.pointer (some ⟨g, o, none⟩)) none (some (.int .i64 (m : Int))) none).run Try.prog w = .ok (.slice (some ⟨g, o, none⟩) m 64) w := by
  have hb : (0 : Int) ≤ (m : Int) ∧ (m : Int) ≤ ((64 : Nat) : Int) := by omega
  simp only [Instr.sliceAt, Instr.sureAddr, Instr.sliceBounds, Instr.sliceBound, Sem.run_bind, Sem.run_pure, Result.andThen_ok, run_underlying und_b, asIntOf, if_pos hb, size_u8, Int.toNat_natCast, Nat.zero_mul, Nat.sub_zero]
  rw [if_neg (by omega)]
  rfl
theorem slice_all {g o : Nat} (w : World) : (Instr.sliceAt 45 (.pointer (some ⟨g, o, none⟩)) none none none).run Try.prog w = .ok (.slice (some ⟨g, o, none⟩) 64 64) w := by
  simp only [Instr.sliceAt, Instr.sureAddr, Instr.sliceBounds, Instr.sliceBound, Sem.run_bind, Sem.run_pure, Result.andThen_ok, run_underlying und_b, asIntOf, size_u8, Int.toNat_natCast, Nat.zero_mul, Nat.sub_zero]
  rw [if_neg (by omega)]
  rfl
theorem nums_put (l b : List Int) (o : Nat) : ((nums l).take o ++ (nums b ++ (nums l).drop (o + (nums b).length))).toArray = (nums (Dm.put l o b)).toArray := by
  unfold Dm.put
  rw [nums_append, nums_append, nums_take, nums_drop, nums_len]
theorem infou8 : (Try.prog.info? 5).map (·.size) = some 1 := by kernel_rfl
theorem wv_range {w : World} {g i : Nat} {b : List Int} {t : TypeId} (h : Whole w g t (wvc i b).toArray) : w.rangeAt g 1 (nums b) := fun j v hv => by
  rw [h.cell, List.getElem?_toArray, wvc, Nat.add_comm, List.getElem?_cons_succ]
  exact hv
end Go.Proofs.Ytfecobkpdmjaeaa
