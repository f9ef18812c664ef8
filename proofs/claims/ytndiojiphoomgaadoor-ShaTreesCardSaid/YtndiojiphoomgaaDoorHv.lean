/-
  The walk of the statements' awake.
-/
import Derived.Test.YtndiojiphoomgaaDoorHq
import Derived.Lib.SlBytesConst
import Derived.Great.CaseRows
namespace Go.Proofs.YtndiojiphoomgaaDoor
open Go.RowKit
def abcD : List Int := Sm.dig [97, 98, 99]
def nilD : List Int := Sm.dig []
def nilC : List Int := Sm.code [] []
theorem abc_facts : abcD.getD 0 0 = 186 ∧ abcD.getD 1 0 = 120 ∧ abcD.getD 2 0 = 22 := by decide +kernel
theorem nil_facts : nilD.getD 0 0 = 227 ∧ nilD.getD 1 0 = 176 := by decide +kernel
theorem code_ne : nilC ≠ nilD := by
  intro h
  have h0 : nilC.getD 0 0 = nilD.getD 0 0 := by rw [h]
  have : ¬ (nilC.getD 0 0 = nilD.getD 0 0) := by decide +kernel
  exact this h0
/-- What is held through the last test of awake. -/
def AwS (A N : Nat) (a d : List Int) (w : World) : Prop :=
  w.cell? ⟨A, 0, none⟩ = some (.int .u8 186) ∧ w.cell? ⟨A, 1, none⟩ = some (.int .u8 120) ∧ w.cell? ⟨A, 2, none⟩ = some (.int .u8 22) ∧ w.cell? ⟨N, 0, none⟩ = some (.int .u8 227) ∧ w.cell? ⟨N, 1, none⟩ = some (.int .u8 176) ∧ w.rangeAt A 0 (nums a) ∧ w.rangeAt N 0 (nums d)
theorem aws {w : World} {A N : Nat} {a d : List Int} (ha : Whole w A 24 (nums a).toArray) (hd : Whole w N 24 (nums d).toArray) (la : a.length = 32) (ld : d.length = 32)
    (fa : a.getD 0 0 = 186 ∧ a.getD 1 0 = 120 ∧ a.getD 2 0 = 22) (fd : d.getD 0 0 = 227 ∧ d.getD 1 0 = 176) : AwS A N a d w := by
  refine ⟨?_, ?_, ?_, ?_, ?_, ?_, ?_⟩
  · rw [ha.cell, List.getElem?_toArray, nums_get _ _ (by omega), fa.1]
  · rw [ha.cell, List.getElem?_toArray, nums_get _ _ (by omega), fa.2.1]
  · rw [ha.cell, List.getElem?_toArray, nums_get _ _ (by omega), fa.2.2]
  · rw [hd.cell, List.getElem?_toArray, nums_get _ _ (by omega), fd.1]
  · rw [hd.cell, List.getElem?_toArray, nums_get _ _ (by omega), fd.2]
  · intro j v hv; rw [Nat.zero_add, ha.cell, List.getElem?_toArray]; exact hv
  · intro j v hv; rw [Nat.zero_add, hd.cell, List.getElem?_toArray]; exact hv
theorem nilC_len : nilC.length = 32 := dig_len _
theorem digs_one {w : World} {g : Nat} {T : TypeId} {d : List Int} (h : Whole w g T (nums d).toArray) (hd : Dig d) : Digs w (fun _ => True) (some ⟨g, 0, none⟩) 1 [d] := by
  refine ⟨rfl, fun x hx => by simp at hx; rw [hx]; exact hd, Or.inr ⟨g, 0, rfl, trivial, h.lt, fun k hk j v hv => ?_⟩⟩
  have : k = 0 := by omega
  subst this
  rw [Nat.zero_mul, Nat.add_zero, Nat.zero_add, h.cell, List.getElem?_toArray]
  exact hv

theorem txt_abc (w : World) : Txt (w.alloc (.cells #[.int .u8 97, .int .u8 98, .int .u8 99] 5 (3, 4))) (fun _ => True) (some ⟨w.heap.size, 0, none⟩) 3 3 [97, 98, 99] := by
  refine ⟨rfl, Nat.le_refl _, byt_cons (by omega) (by omega) (byt_cons (by omega) (by omega) (byt_cons (by omega) (by omega) byt_nil)), Or.inr ⟨w.heap.size, 0, rfl, trivial, by simp, fun k hk => ?_⟩⟩
  rw [Nat.zero_add, cell_of_row _ w.heap.size k #[.int .u8 97, .int .u8 98, .int .u8 99] 5 (3, 4) (heap_alloc_new w _)]
  match k, hk with
  | 0, _ => rfl
  | 1, _ => rfl
  | 2, _ => rfl
theorem info_32 : (Tryd.prog.info? 24).map (fun i => (i.zero, i.size)) = some (some (.agg #[Value.int IntKind.u8 0, Value.int IntKind.u8 0, Value.int IntKind.u8 0, Value.int IntKind.u8 0, Value.int IntKind.u8 0, Value.int IntKind.u8 0, Value.int IntKind.u8 0, Value.int IntKind.u8 0, Value.int IntKind.u8 0, Value.int IntKind.u8 0, Value.int IntKind.u8 0, Value.int IntKind.u8 0, Value.int IntKind.u8 0, Value.int IntKind.u8 0, Value.int IntKind.u8 0, Value.int IntKind.u8 0, Value.int IntKind.u8 0, Value.int IntKind.u8 0, Value.int IntKind.u8 0, Value.int IntKind.u8 0, Value.int IntKind.u8 0, Value.int IntKind.u8 0, Value.int IntKind.u8 0, Value.int IntKind.u8 0, Value.int IntKind.u8 0, Value.int IntKind.u8 0, Value.int IntKind.u8 0, Value.int IntKind.u8 0, Value.int IntKind.u8 0, Value.int IntKind.u8 0, Value.int IntKind.u8 0, Value.int IntKind.u8 0]), 32) := by kernel_rfl
theorem run_build_dig (w : World) (C : Array Value) (hC : C.size = 32) : (Instr.buildSlice 29 1 #[(0, .agg C)]).run Tryd.prog w = .ok (.slice (some ⟨w.heap.size, 0, none⟩) 1 1) (w.alloc (.cells C 24)) := by
  cases hq : Tryd.prog.info? 24 with
  | none => have := info_32; rw [hq] at this; cases this
  | some i =>
    have := info_32
    rw [hq] at this
    simp only [Option.map_some, Option.some.injEq, Prod.mk.injEq] at this
    refine run_buildSlice w _ 24 1 _ C i _ Tryd.underlying29 hq this.1 (by rw [this.2]; decide) (by rw [this.2]; decide) ?_
    rw [this.2]
    have h := Go.Great.fill_whole (s := 32) (by omega) [.agg C] ((Array.range (1 * 32)).map ((Value.agg #[Value.int IntKind.u8 0, Value.int IntKind.u8 0, Value.int IntKind.u8 0, Value.int IntKind.u8 0, Value.int IntKind.u8 0, Value.int IntKind.u8 0, Value.int IntKind.u8 0, Value.int IntKind.u8 0, Value.int IntKind.u8 0, Value.int IntKind.u8 0, Value.int IntKind.u8 0, Value.int IntKind.u8 0, Value.int IntKind.u8 0, Value.int IntKind.u8 0, Value.int IntKind.u8 0, Value.int IntKind.u8 0, Value.int IntKind.u8 0, Value.int IntKind.u8 0, Value.int IntKind.u8 0, Value.int IntKind.u8 0, Value.int IntKind.u8 0, Value.int IntKind.u8 0, Value.int IntKind.u8 0, Value.int IntKind.u8 0, Value.int IntKind.u8 0, Value.int IntKind.u8 0, Value.int IntKind.u8 0, Value.int IntKind.u8 0, Value.int IntKind.u8 0, Value.int IntKind.u8 0, Value.int IntKind.u8 0, Value.int IntKind.u8 0]).cells[· % (Value.agg #[Value.int IntKind.u8 0, Value.int IntKind.u8 0, Value.int IntKind.u8 0, Value.int IntKind.u8 0, Value.int IntKind.u8 0, Value.int IntKind.u8 0, Value.int IntKind.u8 0, Value.int IntKind.u8 0, Value.int IntKind.u8 0, Value.int IntKind.u8 0, Value.int IntKind.u8 0, Value.int IntKind.u8 0, Value.int IntKind.u8 0, Value.int IntKind.u8 0, Value.int IntKind.u8 0, Value.int IntKind.u8 0, Value.int IntKind.u8 0, Value.int IntKind.u8 0, Value.int IntKind.u8 0, Value.int IntKind.u8 0, Value.int IntKind.u8 0, Value.int IntKind.u8 0, Value.int IntKind.u8 0, Value.int IntKind.u8 0, Value.int IntKind.u8 0, Value.int IntKind.u8 0, Value.int IntKind.u8 0, Value.int IntKind.u8 0, Value.int IntKind.u8 0, Value.int IntKind.u8 0, Value.int IntKind.u8 0, Value.int IntKind.u8 0]).cells.size]!)) (fun v hv => by simp at hv; subst hv; exact hC) (by simp)
    have e : ([Value.agg C].flatMap fun v => v.cells.toList).toArray = C := by simp [Value.cells]
    rw [e] at h
    exact h
theorem wp_build_dig {o : Oper} {a : Act} {w : World} {K : Act → World → Prop} {Q : Exit → Act → World → Prop} (x : Operand) (ho : o.op = .buildSlice 29 1 #[(0, x)]) (C : Array Value) (hx : a.eval x = .agg C) (hC : C.size = 32)
    (h : K (a.put o.dst (.slice (some ⟨w.heap.size, 0, none⟩) 1 1)) (w.alloc (.cells C 24))) : o.wp Tryd.prog a w K Q := by
  have e : (#[(0, x)] : Array (Nat × Operand)).map (fun (i, y) => (i, a.eval y)) = #[(0, .agg C)] := by simp [hx]
  unfold Oper.wp execOp
  simp only [ho, e, Sem.run_bind, run_build_dig w C hC, Result.andThen_ok]
  exact h
set_option linter.unusedSimpArgs false in
set_option maxHeartbeats 4000000 in
theorem awake_any (w : World) (hR : Roots w) : Calls Tryd.prog 9 #[] w fun e w' => e = .returned (.bool true) ∧ Below w.heap.size w w' := by
  have HR := Lib.hid hR
  have hB2 := hR.two
  clear hR
  have kc := fun (w : World) (C : Array Value) (n c : Nat) => Lib.run_convert_bytes_const (P := Tryd.prog) w 22 5 C n c Tryd.underlying22 Tryd.underlying5
  go_enter Tryd.func9, Tryd.ntmps9
  go_wp2_with fail
  have q1 := Whole.new (w.alloc (.cells #[.int .u8 97, .int .u8 98, .int .u8 99] 5 (3, 4))) 22 #[.slice (some ⟨w.heap.size, 0, none⟩) 3 3]
  have b0 : Below w.heap.size w ((w.alloc (.cells #[.int .u8 97, .int .u8 98, .int .u8 99] 5 (3, 4))).alloc (.cells #[.slice (some ⟨w.heap.size, 0, none⟩) 3 3] 22)) := (below_alloc w _).alloc (by simp) _
  have q0 : Txt ((w.alloc (.cells #[.int .u8 97, .int .u8 98, .int .u8 99] 5 (3, 4))).alloc (.cells #[.slice (some ⟨w.heap.size, 0, none⟩) 3 3] 22)) (fun _ => True) (some ⟨w.heap.size, 0, none⟩) 3 3 [97, 98, 99] := (txt_abc w).keep (by simp) (fun b hb _ => Below.heap_alloc _ _ _ hb)
  rw [size_alloc] at q1
  generalize (w.alloc (.cells #[.int .u8 97, .int .u8 98, .int .u8 99] 5 (3, 4))).alloc (.cells #[.slice (some ⟨w.heap.size, 0, none⟩) 3 3] 22) = w1 at *
  generalize hBe : w.heap.size = B at *
  have HBE := Lib.hid hBe
  clear hBe
  have hp := parts_one (S := fun _ => True) q1 trivial q0
  refine (sum_any hp (HR.out.below b0 (by omega)) (by simp) (by omega)).mono ?_
  rintro e w2 ⟨rfl, hb2⟩
  rw [show Sm.dig [[97, 98, 99]].flatten = abcD from rfl]
  have HB2 : Hid (Below B w w2) := Lib.hid (b0.trans (hb2.mono (by have := q1.lt; omega)))
  have z2 : B < w2.heap.size := Nat.lt_of_lt_of_le (by have := q1.lt; omega) hb2.size
  clear q0 q1 b0 hp hb2 kc
  have hDa : Dig abcD := dig_ok _
  have hDn : Dig nilD := dig_ok _
  have HDA := Lib.hid hDa
  have HDN := Lib.hid hDn
  clear hDa hDn
  have hNa := all_nums abcD
  have HNS := Lib.hid (row_size HDA.out)
  go_wp2_with (first
    | ((with_reducible show wpList _ _ _ ((⟨_, Op.store 24 _ _, _, _, _, _⟩ : Oper) :: _) _ _); refine wpList_store_row rfl _ (.tmp 1) (.tmp 6) rfl w2.heap.size _ rfl rfl 24 _ (Whole.new _ _ _) (by rw [HNS.out]; exact info32) (by rw [HNS.out]; rfl) hNa ?_)
    | fail)
  rw [zero32z]
  have k3 : Whole ((w2.alloc (.cells (nums (zs 32)).toArray 24)).setRow w2.heap.size (nums abcD).toArray) w2.heap.size 24 (nums abcD).toArray := put_row
  have b3 : Below B w ((w2.alloc (.cells (nums (zs 32)).toArray 24)).setRow w2.heap.size (nums abcD).toArray) := put_below HB2.out (by omega)
  generalize (w2.alloc (.cells (nums (zs 32)).toArray 24)).setRow w2.heap.size (nums abcD).toArray = w3 at *
  generalize w2.heap.size = A at *
  refine (sum_any (S := fun _ => True) (n := 0) (ps := []) ⟨rfl, Or.inl rfl⟩ (HR.out.below b3 (by omega)) (by simp) (by omega)).mono ?_
  rintro e w4 ⟨rfl, hb4⟩
  rw [show Sm.dig ([] : List (List Int)).flatten = nilD from rfl]
  have K4 := Lib.hid (k3.below hb4 k3.lt)
  have HB4 : Hid (Below B w w4) := Lib.hid (b3.trans (hb4.mono (by have := k3.lt; omega)))
  have z4 : A < w4.heap.size := K4.out.lt
  clear k3 b3 hb4 HB2
  have hNb := all_nums nilD
  have HNS2 := Lib.hid (row_size HDN.out)
  go_wp2_with (first
    | ((with_reducible show wpList _ _ _ ((⟨_, Op.store 24 _ _, _, _, _, _⟩ : Oper) :: _) _ _); refine wpList_store_row rfl _ (.tmp 2) (.tmp 7) rfl w4.heap.size _ rfl rfl 24 _ (Whole.new _ _ _) (by rw [HNS2.out]; exact info32) (by rw [HNS2.out]; rfl) hNb ?_)
    | fail)
  rw [zero32z]
  have ka : Whole ((w4.alloc (.cells (nums (zs 32)).toArray 24)).setRow w4.heap.size (nums nilD).toArray) A 24 (nums abcD).toArray := put_far K4.out
  have kn : Whole ((w4.alloc (.cells (nums (zs 32)).toArray 24)).setRow w4.heap.size (nums nilD).toArray) w4.heap.size 24 (nums nilD).toArray := put_row
  have b5 : Below B w ((w4.alloc (.cells (nums (zs 32)).toArray 24)).setRow w4.heap.size (nums nilD).toArray) := put_below HB4.out (by omega)
  generalize (w4.alloc (.cells (nums (zs 32)).toArray 24)).setRow w4.heap.size (nums nilD).toArray = w5 at *
  generalize w4.heap.size = N at *
  have K5 := Lib.hid (And.intro ka (And.intro kn b5))
  clear ka kn b5 K4 HB4 hNa hNb
  have hLa : (nums abcD).length = 32 := by rw [nums_len, HDA.out.1]
  have hLn : (nums nilD).length = 32 := by rw [nums_len, HDN.out.1]
  have HLA := Lib.hid hLa
  have HLN := Lib.hid hLn
  clear hLa hLn
  have hq1 : ∀ w : World, (Op.equalIn 10000 24 (.agg (nums nilD).toArray) (.agg (nums nilD).toArray)).run Tryd.prog w = .ok true w := fun w => by
    have h := equal32 9999 (fun a b w => run_equalIn_int w 9998 5 .u8 .u8 a b Tryd.underlying5) nilD nilD HDN.out.1 HDN.out.1 w
    rw [h, decide_eq_true rfl]
  have hq2 : ∀ w : World, (Op.equalIn 10000 24 (.agg (nums abcD).toArray) (.agg (nums abcD).toArray)).run Tryd.prog w = .ok true w := fun w => by
    have h := equal32 9999 (fun a b w => run_equalIn_int w 9998 5 .u8 .u8 a b Tryd.underlying5) abcD abcD HDA.out.1 HDA.out.1 w
    rw [h, decide_eq_true rfl]
  have hq3 : ∀ w : World, (Op.equalIn 10000 24 (.agg (nums nilC).toArray) (.agg (nums nilD).toArray)).run Tryd.prog w = .ok false w := fun w => by
    have h := equal32 9999 (fun a b w => run_equalIn_int w 9998 5 .u8 .u8 a b Tryd.underlying5) nilC nilD nilC_len HDN.out.1 w
    rw [h, decide_eq_false code_ne]
  have HFA := Lib.hid abc_facts
  have HFN := Lib.hid nil_facts
  have HTN : Hid (Sm.tree [] = nilD) := Lib.hid rfl
  have HTA : Hid (Sm.tree [abcD] = abcD) := Lib.hid rfl
  have HCN : Hid (Sm.code [] [] = nilC) := Lib.hid rfl
  with_reducible generalize nilC = c at *
  with_reducible generalize abcD = a at *
  with_reducible generalize nilD = d at *
  have hS0 : AwS A N a d w5.drew := aws (w := w5.drew) K5.out.1 K5.out.2.1 HDA.out.1 HDN.out.1 HFA.out HFN.out
  have K6 : Hid (Whole w5.drew A 24 (nums a).toArray ∧ Whole w5.drew N 24 (nums d).toArray ∧ Below B w w5.drew) := Lib.hid ⟨K5.out.1, K5.out.2.1, K5.out.2.2.drew⟩
  refine wp_region_held_drew (S := fun w => w.cell? ⟨A, 0, none⟩ = some (.int .u8 186) ∧ w.cell? ⟨A, 1, none⟩ = some (.int .u8 120) ∧ w.cell? ⟨A, 2, none⟩ = some (.int .u8 22) ∧ w.cell? ⟨N, 0, none⟩ = some (.int .u8 227) ∧ w.cell? ⟨N, 1, none⟩ = some (.int .u8 176) ∧ w.rangeAt A 0 (nums a) ∧ w.rangeAt N 0 (nums d)) (by kernel_rfl) hS0 (fun hHeld => ?_)
  clear hS0 K5
  generalize w5.drew = v0 at *
  refine wpAnyH_take (i := 0) (v := .pointer (some ⟨A, 0, none⟩)) rfl (by kernel_rfl) (by kernel_rfl) (by kernel_rfl) (fun _ _ _ h => h) (Or.inl ⟨by rfl, (by intro w hSw; (try dsimp only at hSw); go_simp)⟩) (by assumption) ?_
  try simp only [Act.put, List.getElem_toArray, List.getElem_cons_zero, List.getElem_cons_succ, List.setIfInBounds_toArray, List.set_cons_zero, List.set_cons_succ]
  refine wpAnyH_take (i := 1) (v := .int .u8 186) rfl (by kernel_rfl) (by kernel_rfl) (by kernel_rfl) (fun _ _ _ h => h) (Or.inl ⟨by rfl, (by intro w hSw; (try dsimp only at hSw); go_simp)⟩) (by assumption) ?_
  try simp only [Act.put, List.getElem_toArray, List.getElem_cons_zero, List.getElem_cons_succ, List.setIfInBounds_toArray, List.set_cons_zero, List.set_cons_succ]
  refine wpAnyH_take (i := 2) (v := .bool true) rfl (by kernel_rfl) (by kernel_rfl) (by kernel_rfl) (fun _ _ _ h => h) (Or.inl ⟨by rfl, (by intro w hSw; (try dsimp only at hSw); go_simp)⟩) (by assumption) ?_
  try simp only [Act.put, List.getElem_toArray, List.getElem_cons_zero, List.getElem_cons_succ, List.setIfInBounds_toArray, List.set_cons_zero, List.set_cons_succ]
  refine wpAnyH_take (i := 3) (v := .bool true) rfl (by kernel_rfl) (by kernel_rfl) (by kernel_rfl) (fun _ _ _ h => h) (Or.inl ⟨by rfl, (by intro w hSw; (try dsimp only at hSw); go_simp)⟩) (by assumption) ?_
  try simp only [Act.put, List.getElem_toArray, List.getElem_cons_zero, List.getElem_cons_succ, List.setIfInBounds_toArray, List.set_cons_zero, List.set_cons_succ]
  refine wpAnyH_take (i := 4) (v := .pointer (some ⟨A, 1, none⟩)) rfl (by kernel_rfl) (by kernel_rfl) (by kernel_rfl) (fun _ _ _ h => h) (Or.inl ⟨by rfl, (by intro w hSw; (try dsimp only at hSw); go_simp)⟩) (by assumption) ?_
  try simp only [Act.put, List.getElem_toArray, List.getElem_cons_zero, List.getElem_cons_succ, List.setIfInBounds_toArray, List.set_cons_zero, List.set_cons_succ]
  refine wpAnyH_take (i := 5) (v := .int .u8 120) rfl (by kernel_rfl) (by kernel_rfl) (by kernel_rfl) (fun _ _ _ h => h) (Or.inl ⟨by rfl, (by intro w hSw; (try dsimp only at hSw); go_simp)⟩) (by assumption) ?_
  try simp only [Act.put, List.getElem_toArray, List.getElem_cons_zero, List.getElem_cons_succ, List.setIfInBounds_toArray, List.set_cons_zero, List.set_cons_succ]
  refine wpAnyH_take (i := 6) (v := .bool true) rfl (by kernel_rfl) (by kernel_rfl) (by kernel_rfl) (fun _ _ _ h => h) (Or.inl ⟨by rfl, (by intro w hSw; (try dsimp only at hSw); go_simp)⟩) (by assumption) ?_
  try simp only [Act.put, List.getElem_toArray, List.getElem_cons_zero, List.getElem_cons_succ, List.setIfInBounds_toArray, List.set_cons_zero, List.set_cons_succ]
  refine wpAnyH_take (i := 7) (v := .bool true) rfl (by kernel_rfl) (by kernel_rfl) (by kernel_rfl) (fun _ _ _ h => h) (Or.inl ⟨by rfl, (by intro w hSw; (try dsimp only at hSw); go_simp)⟩) (by assumption) ?_
  try simp only [Act.put, List.getElem_toArray, List.getElem_cons_zero, List.getElem_cons_succ, List.setIfInBounds_toArray, List.set_cons_zero, List.set_cons_succ]
  refine wpAnyH_take (i := 8) (v := .bool true) rfl (by kernel_rfl) (by kernel_rfl) (by kernel_rfl) (fun _ _ _ h => h) (Or.inl ⟨by rfl, (by intro w hSw; (try dsimp only at hSw); go_simp)⟩) (by assumption) ?_
  try simp only [Act.put, List.getElem_toArray, List.getElem_cons_zero, List.getElem_cons_succ, List.setIfInBounds_toArray, List.set_cons_zero, List.set_cons_succ]
  refine wpAnyH_take (i := 9) (v := .pointer (some ⟨A, 2, none⟩)) rfl (by kernel_rfl) (by kernel_rfl) (by kernel_rfl) (fun _ _ _ h => h) (Or.inl ⟨by rfl, (by intro w hSw; (try dsimp only at hSw); go_simp)⟩) (by assumption) ?_
  try simp only [Act.put, List.getElem_toArray, List.getElem_cons_zero, List.getElem_cons_succ, List.setIfInBounds_toArray, List.set_cons_zero, List.set_cons_succ]
  refine wpAnyH_take (i := 10) (v := .int .u8 22) rfl (by kernel_rfl) (by kernel_rfl) (by kernel_rfl) (fun _ _ _ h => h) (Or.inl ⟨by rfl, (by intro w hSw; (try dsimp only at hSw); go_simp)⟩) (by assumption) ?_
  try simp only [Act.put, List.getElem_toArray, List.getElem_cons_zero, List.getElem_cons_succ, List.setIfInBounds_toArray, List.set_cons_zero, List.set_cons_succ]
  refine wpAnyH_take (i := 11) (v := .bool true) rfl (by kernel_rfl) (by kernel_rfl) (by kernel_rfl) (fun _ _ _ h => h) (Or.inl ⟨by rfl, (by intro w hSw; (try dsimp only at hSw); go_simp)⟩) (by assumption) ?_
  try simp only [Act.put, List.getElem_toArray, List.getElem_cons_zero, List.getElem_cons_succ, List.setIfInBounds_toArray, List.set_cons_zero, List.set_cons_succ]
  refine wpAnyH_take (i := 12) (v := .bool true) rfl (by kernel_rfl) (by kernel_rfl) (by kernel_rfl) (fun _ _ _ h => h) (Or.inl ⟨by rfl, (by intro w hSw; (try dsimp only at hSw); go_simp)⟩) (by assumption) ?_
  try simp only [Act.put, List.getElem_toArray, List.getElem_cons_zero, List.getElem_cons_succ, List.setIfInBounds_toArray, List.set_cons_zero, List.set_cons_succ]
  refine wpAnyH_take (i := 13) (v := .bool true) rfl (by kernel_rfl) (by kernel_rfl) (by kernel_rfl) (fun _ _ _ h => h) (Or.inl ⟨by rfl, (by intro w hSw; (try dsimp only at hSw); go_simp)⟩) (by assumption) ?_
  try simp only [Act.put, List.getElem_toArray, List.getElem_cons_zero, List.getElem_cons_succ, List.setIfInBounds_toArray, List.set_cons_zero, List.set_cons_succ]
  refine wpAnyH_take (i := 14) (v := .pointer (some ⟨N, 0, none⟩)) rfl (by kernel_rfl) (by kernel_rfl) (by kernel_rfl) (fun _ _ _ h => h) (Or.inl ⟨by rfl, (by intro w hSw; (try dsimp only at hSw); go_simp)⟩) (by assumption) ?_
  try simp only [Act.put, List.getElem_toArray, List.getElem_cons_zero, List.getElem_cons_succ, List.setIfInBounds_toArray, List.set_cons_zero, List.set_cons_succ]
  refine wpAnyH_take (i := 15) (v := .int .u8 227) rfl (by kernel_rfl) (by kernel_rfl) (by kernel_rfl) (fun _ _ _ h => h) (Or.inl ⟨by rfl, (by intro w hSw; (try dsimp only at hSw); go_simp)⟩) (by assumption) ?_
  try simp only [Act.put, List.getElem_toArray, List.getElem_cons_zero, List.getElem_cons_succ, List.setIfInBounds_toArray, List.set_cons_zero, List.set_cons_succ]
  refine wpAnyH_take (i := 16) (v := .bool true) rfl (by kernel_rfl) (by kernel_rfl) (by kernel_rfl) (fun _ _ _ h => h) (Or.inl ⟨by rfl, (by intro w hSw; (try dsimp only at hSw); go_simp)⟩) (by assumption) ?_
  try simp only [Act.put, List.getElem_toArray, List.getElem_cons_zero, List.getElem_cons_succ, List.setIfInBounds_toArray, List.set_cons_zero, List.set_cons_succ]
  refine wpAnyH_take (i := 17) (v := .bool true) rfl (by kernel_rfl) (by kernel_rfl) (by kernel_rfl) (fun _ _ _ h => h) (Or.inl ⟨by rfl, (by intro w hSw; (try dsimp only at hSw); go_simp)⟩) (by assumption) ?_
  try simp only [Act.put, List.getElem_toArray, List.getElem_cons_zero, List.getElem_cons_succ, List.setIfInBounds_toArray, List.set_cons_zero, List.set_cons_succ]
  refine wpAnyH_take (i := 18) (v := .bool true) rfl (by kernel_rfl) (by kernel_rfl) (by kernel_rfl) (fun _ _ _ h => h) (Or.inl ⟨by rfl, (by intro w hSw; (try dsimp only at hSw); go_simp)⟩) (by assumption) ?_
  try simp only [Act.put, List.getElem_toArray, List.getElem_cons_zero, List.getElem_cons_succ, List.setIfInBounds_toArray, List.set_cons_zero, List.set_cons_succ]
  refine wpAnyH_take (i := 19) (v := .pointer (some ⟨N, 1, none⟩)) rfl (by kernel_rfl) (by kernel_rfl) (by kernel_rfl) (fun _ _ _ h => h) (Or.inl ⟨by rfl, (by intro w hSw; (try dsimp only at hSw); go_simp)⟩) (by assumption) ?_
  try simp only [Act.put, List.getElem_toArray, List.getElem_cons_zero, List.getElem_cons_succ, List.setIfInBounds_toArray, List.set_cons_zero, List.set_cons_succ]
  refine wpAnyH_take (i := 20) (v := .int .u8 176) rfl (by kernel_rfl) (by kernel_rfl) (by kernel_rfl) (fun _ _ _ h => h) (Or.inl ⟨by rfl, (by intro w hSw; (try dsimp only at hSw); go_simp)⟩) (by assumption) ?_
  try simp only [Act.put, List.getElem_toArray, List.getElem_cons_zero, List.getElem_cons_succ, List.setIfInBounds_toArray, List.set_cons_zero, List.set_cons_succ]
  refine wpAnyH_take (i := 21) (v := .bool true) rfl (by kernel_rfl) (by kernel_rfl) (by kernel_rfl) (fun _ _ _ h => h) (Or.inl ⟨by rfl, (by intro w hSw; (try dsimp only at hSw); go_simp)⟩) (by assumption) ?_
  try simp only [Act.put, List.getElem_toArray, List.getElem_cons_zero, List.getElem_cons_succ, List.setIfInBounds_toArray, List.set_cons_zero, List.set_cons_succ]
  refine wpAnyH_take (i := 22) (v := .bool true) rfl (by kernel_rfl) (by kernel_rfl) (by kernel_rfl) (fun _ _ _ h => h) (Or.inl ⟨by rfl, (by intro w hSw; (try dsimp only at hSw); go_simp)⟩) (by assumption) ?_
  try simp only [Act.put, List.getElem_toArray, List.getElem_cons_zero, List.getElem_cons_succ, List.setIfInBounds_toArray, List.set_cons_zero, List.set_cons_succ]
  refine wpAnyH_take (i := 23) (v := .bool true) rfl (by kernel_rfl) (by kernel_rfl) (by kernel_rfl) (fun _ _ _ h => h) (Or.inl ⟨by rfl, (by intro w hSw; (try dsimp only at hSw); go_simp)⟩) (by assumption) ?_
  try simp only [Act.put, List.getElem_toArray, List.getElem_cons_zero, List.getElem_cons_succ, List.setIfInBounds_toArray, List.set_cons_zero, List.set_cons_succ]
  refine wpAnyH_take (i := 25) (v := .agg (nums d).toArray) rfl (by kernel_rfl) (by kernel_rfl) (by kernel_rfl) (fun _ _ _ h => h) (yieldsIf_load_mid (by rfl) _ _ rfl _ _ rfl _ _ (fun w hSw => hSw.2.2.2.2.2.2) und32 rfl (by rw [HLN.out]; exact info32)) (by assumption) ?_
  try simp only [Act.put, List.getElem_toArray, List.getElem_cons_zero, List.getElem_cons_succ, List.setIfInBounds_toArray, List.set_cons_zero, List.set_cons_succ]
  refine wpAnyH_ready (rs := [24]) (by kernel_rfl) (by simp) (AllReadyH.cons rfl (fun K hK => ?_) AllReadyH.nil)
  try simp only [List.getElem_toArray, List.getElem_cons_zero, List.getElem_cons_succ]
  go_simp
  go_at_call 14
  refine (tree_walk 0 (l := []) (Digs.nil v0 (fun _ => True) none) (HR.out.below K6.out.2.2 (by omega)) (by omega) (by omega)).mono ?_
  rintro e v1 ⟨rfl, hb⟩
  rw [HTN.out]
  have K7 := Lib.hid (And.intro (K6.out.1.below hb K6.out.1.lt) (And.intro (K6.out.2.1.below hb K6.out.2.1.lt) (K6.out.2.2.trans (hb.mono (by have := K6.out.1.lt; omega)))))
  have hS1 : AwS A N a d v1 := aws K7.out.1 K7.out.2.1 HDA.out.1 HDN.out.1 HFA.out HFN.out
  clear hb K6
  go_wp2_with fail
  refine hK.out _ _ hS1 (fun hHeld => ?_)
  clear hK K hS1
  try simp only [Act.put, List.getElem_toArray, List.getElem_cons_zero, List.getElem_cons_succ, List.setIfInBounds_toArray, List.set_cons_zero, List.set_cons_succ]
  refine wpAnyH_take (i := 26) (v := .bool true) rfl (by kernel_rfl) (by kernel_rfl) (by kernel_rfl) (fun _ _ _ h => h) (Or.inl ⟨by rfl, (by intro w hSw; (try dsimp only at hSw); go_simp)⟩) (by assumption) ?_
  try simp only [Act.put, List.getElem_toArray, List.getElem_cons_zero, List.getElem_cons_succ, List.setIfInBounds_toArray, List.set_cons_zero, List.set_cons_succ]
  refine wpAnyH_take (i := 27) (v := .bool true) rfl (by kernel_rfl) (by kernel_rfl) (by kernel_rfl) (fun _ _ _ h => h) (Or.inl ⟨by rfl, (by intro w hSw; (try dsimp only at hSw); go_simp)⟩) (by assumption) ?_
  try simp only [Act.put, List.getElem_toArray, List.getElem_cons_zero, List.getElem_cons_succ, List.setIfInBounds_toArray, List.set_cons_zero, List.set_cons_succ]
  refine wpAnyH_take (i := 28) (v := .bool true) rfl (by kernel_rfl) (by kernel_rfl) (by kernel_rfl) (fun _ _ _ h => h) (Or.inl ⟨by rfl, (by intro w hSw; (try dsimp only at hSw); go_simp)⟩) (by assumption) ?_
  try simp only [Act.put, List.getElem_toArray, List.getElem_cons_zero, List.getElem_cons_succ, List.setIfInBounds_toArray, List.set_cons_zero, List.set_cons_succ]
  refine wpAnyH_take (i := 29) (v := .agg (nums a).toArray) rfl (by kernel_rfl) (by kernel_rfl) (by kernel_rfl) (fun _ _ _ h => h) (yieldsIf_load_mid (by rfl) _ _ rfl _ _ rfl _ _ (fun w hSw => hSw.2.2.2.2.2.1) und32 rfl (by rw [HLA.out]; exact info32)) (by assumption) ?_
  try simp only [Act.put, List.getElem_toArray, List.getElem_cons_zero, List.getElem_cons_succ, List.setIfInBounds_toArray, List.set_cons_zero, List.set_cons_succ]
  refine wpAnyH_take (i := 32) (v := .agg (nums a).toArray) rfl (by kernel_rfl) (by kernel_rfl) (by kernel_rfl) (fun _ _ _ h => h) (yieldsIf_load_mid (by rfl) _ _ rfl _ _ rfl _ _ (fun w hSw => hSw.2.2.2.2.2.1) und32 rfl (by rw [HLA.out]; exact info32)) (by assumption) ?_
  try simp only [Act.put, List.getElem_toArray, List.getElem_cons_zero, List.getElem_cons_succ, List.setIfInBounds_toArray, List.set_cons_zero, List.set_cons_succ]
  refine wpAnyH_ready (rs := [30]) (by kernel_rfl) (by simp) (AllReadyH.cons rfl (fun K hK => ?_) AllReadyH.nil)
  try simp only [List.getElem_toArray, List.getElem_cons_zero, List.getElem_cons_succ]
  refine if_wanted (by rfl) ?_
  refine wp_build_dig _ rfl (nums a).toArray rfl (row_size HDA.out) ?_
  have q2 := Whole.new v1 24 (nums a).toArray
  have K8 := Lib.hid (And.intro (K7.out.1.alloc (.cells (nums a).toArray 24)) (And.intro (K7.out.2.1.alloc (.cells (nums a).toArray 24)) (K7.out.2.2.alloc (by have := K7.out.1.lt; omega) (.cells (nums a).toArray 24))))
  have hS2 : AwS A N a d (v1.alloc (.cells (nums a).toArray 24)) := aws K8.out.1 K8.out.2.1 HDA.out.1 HDN.out.1 HFA.out HFN.out
  refine hK.out _ _ hS2 (fun hHeld => ?_)
  clear hK K hS2 K7
  try simp only [Act.put, List.getElem_toArray, List.getElem_cons_zero, List.getElem_cons_succ, List.setIfInBounds_toArray, List.set_cons_zero, List.set_cons_succ]
  generalize v1.alloc (.cells (nums a).toArray 24) = v2 at *
  generalize v1.heap.size = O at *
  have HQ := Lib.hid q2
  clear q2
  refine wpAnyH_ready (rs := [31]) (by kernel_rfl) (by simp) (AllReadyH.cons rfl (fun K hK => ?_) AllReadyH.nil)
  try simp only [List.getElem_toArray, List.getElem_cons_zero, List.getElem_cons_succ]
  go_simp
  go_at_call 14
  refine (tree_walk 1 (digs_one HQ.out HDA.out) (HR.out.below K8.out.2.2 (by omega)) (by omega) (by omega)).mono ?_
  rintro e v3 ⟨rfl, hb⟩
  rw [HTA.out]
  have K9 := Lib.hid (And.intro (K8.out.1.below hb K8.out.1.lt) (And.intro (K8.out.2.1.below hb K8.out.2.1.lt) (K8.out.2.2.trans (hb.mono (by have := K8.out.1.lt; omega)))))
  have hS3 : AwS A N a d v3 := aws K9.out.1 K9.out.2.1 HDA.out.1 HDN.out.1 HFA.out HFN.out
  clear hb K8
  go_wp2_with fail
  refine hK.out _ _ hS3 (fun hHeld => ?_)
  clear hK K hS3
  try simp only [Act.put, List.getElem_toArray, List.getElem_cons_zero, List.getElem_cons_succ, List.setIfInBounds_toArray, List.set_cons_zero, List.set_cons_succ]
  refine wpAnyH_take (i := 33) (v := .bool true) rfl (by kernel_rfl) (by kernel_rfl) (by kernel_rfl) (fun _ _ _ h => h) (Or.inl ⟨by rfl, (by intro w hSw; (try dsimp only at hSw); go_simp)⟩) (by assumption) ?_
  try simp only [Act.put, List.getElem_toArray, List.getElem_cons_zero, List.getElem_cons_succ, List.setIfInBounds_toArray, List.set_cons_zero, List.set_cons_succ]
  refine wpAnyH_take (i := 34) (v := .bool true) rfl (by kernel_rfl) (by kernel_rfl) (by kernel_rfl) (fun _ _ _ h => h) (Or.inl ⟨by rfl, (by intro w hSw; (try dsimp only at hSw); go_simp)⟩) (by assumption) ?_
  try simp only [Act.put, List.getElem_toArray, List.getElem_cons_zero, List.getElem_cons_succ, List.setIfInBounds_toArray, List.set_cons_zero, List.set_cons_succ]
  refine wpAnyH_take (i := 35) (v := .bool true) rfl (by kernel_rfl) (by kernel_rfl) (by kernel_rfl) (fun _ _ _ h => h) (Or.inl ⟨by rfl, (by intro w hSw; (try dsimp only at hSw); go_simp)⟩) (by assumption) ?_
  try simp only [Act.put, List.getElem_toArray, List.getElem_cons_zero, List.getElem_cons_succ, List.setIfInBounds_toArray, List.set_cons_zero, List.set_cons_succ]
  refine wpAnyH_take (i := 37) (v := .agg (nums d).toArray) rfl (by kernel_rfl) (by kernel_rfl) (by kernel_rfl) (fun _ _ _ h => h) (yieldsIf_load_mid (by rfl) _ _ rfl _ _ rfl _ _ (fun w hSw => hSw.2.2.2.2.2.2) und32 rfl (by rw [HLN.out]; exact info32)) (by assumption) ?_
  try simp only [Act.put, List.getElem_toArray, List.getElem_cons_zero, List.getElem_cons_succ, List.setIfInBounds_toArray, List.set_cons_zero, List.set_cons_succ]
  refine wpAnyH_ready (rs := [36]) (by kernel_rfl) (by simp) (AllReadyH.cons rfl (fun K hK => ?_) AllReadyH.nil)
  try simp only [List.getElem_toArray, List.getElem_cons_zero, List.getElem_cons_succ]
  go_simp
  go_at_call 12
  refine (code_any (Txt.nil v3 (fun _ => True) none 0) (Txt.nil v3 (fun _ => True) none 0) (HR.out.below K9.out.2.2 (by omega)) (by omega) (by omega)).mono ?_
  rintro e v4 ⟨rfl, hb⟩
  rw [HCN.out]
  have K10 := Lib.hid (And.intro (K9.out.1.below hb K9.out.1.lt) (And.intro (K9.out.2.1.below hb K9.out.2.1.lt) (K9.out.2.2.trans (hb.mono (by have := K9.out.1.lt; omega)))))
  have hS4 : AwS A N a d v4 := aws K10.out.1 K10.out.2.1 HDA.out.1 HDN.out.1 HFA.out HFN.out
  clear hb K9
  go_wp2_with fail
  refine hK.out _ _ hS4 (fun hHeld => ?_)
  clear hK K hS4
  try simp only [Act.put, List.getElem_toArray, List.getElem_cons_zero, List.getElem_cons_succ, List.setIfInBounds_toArray, List.set_cons_zero, List.set_cons_succ]
  refine wpAnyH_take (i := 38) (v := .bool true) rfl (by kernel_rfl) (by kernel_rfl) (by kernel_rfl) (fun _ _ _ h => h) (Or.inl ⟨by rfl, (by intro w hSw; (try dsimp only at hSw); go_simp)⟩) (by assumption) ?_
  try simp only [Act.put, List.getElem_toArray, List.getElem_cons_zero, List.getElem_cons_succ, List.setIfInBounds_toArray, List.set_cons_zero, List.set_cons_succ]
  refine wpAnyH_take (i := 39) (v := .bool true) rfl (by kernel_rfl) (by kernel_rfl) (by kernel_rfl) (fun _ _ _ h => h) (Or.inl ⟨by rfl, (by intro w hSw; (try dsimp only at hSw); go_simp)⟩) (by assumption) ?_
  try simp only [Act.put, List.getElem_toArray, List.getElem_cons_zero, List.getElem_cons_succ, List.setIfInBounds_toArray, List.set_cons_zero, List.set_cons_succ]
  refine wpAnyH_take (i := 40) (v := .bool true) rfl (by kernel_rfl) (by kernel_rfl) (by kernel_rfl) (fun _ _ _ h => h) (Or.inl ⟨by rfl, (by intro w hSw; (try dsimp only at hSw); go_simp)⟩) (by assumption) ?_
  try simp only [Act.put, List.getElem_toArray, List.getElem_cons_zero, List.getElem_cons_succ, List.setIfInBounds_toArray, List.set_cons_zero, List.set_cons_succ]
  refine wpAnyH_done (by kernel_rfl) ?_ _
  go_wp2
  go_ret
  exact ⟨rfl, by rw [HBE.out]; exact K10.out.2.2⟩
end Go.Proofs.YtndiojiphoomgaaDoor
