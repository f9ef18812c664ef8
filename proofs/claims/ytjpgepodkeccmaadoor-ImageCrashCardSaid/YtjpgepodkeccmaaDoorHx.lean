/-
  The walk of mixed: the state behind one more block.
-/
import Derived.Test.YtjpgepodkeccmaaDoorHs
namespace Go.Proofs.YtjpgepodkeccmaaDoor.Sh
open Go.Proofs.YtjpgepodkeccmaaDoor
set_option maxRecDepth 20000
open Go.RowKit
/-- The two tables, as they are laid. -/
def Roots (w : World) : Prop := (∃ t fr, w.heap[0]? = some (.cells (wds Sm.rH).toArray t fr)) ∧ ∃ t fr, w.heap[1]? = some (.cells (wds Sm.rK).toArray t fr)
theorem Roots.two {w : World} (h : Roots w) : 1 < w.heap.size := by obtain ⟨_, _, _, h⟩ := h; exact (Array.getElem?_eq_some_iff.1 h).1
theorem Roots.keep {w w' : World} (h : Roots w) (hk : ∀ b, b < 2 → w'.heap[b]? = w.heap[b]?) : Roots w' := by
  obtain ⟨⟨t, fr, h0⟩, ⟨t', fr', h1⟩⟩ := h
  exact ⟨⟨t, fr, (hk 0 (by omega)).trans h0⟩, ⟨t', fr', (hk 1 (by omega)).trans h1⟩⟩
theorem Roots.below {w w' : World} {B : Nat} (h : Roots w) (hb : Below B w w') (hB : 2 ≤ B) : Roots w' := h.keep fun b hlt => hb.block b (by omega)
theorem Roots.alloc {w : World} (h : Roots w) (o : Obj) : Roots (w.alloc o) := h.below (below_alloc w o) h.two
theorem Roots.grown {w w' : World} {row : Option Nat} (h : Roots w) (hg : w.grownBy w' row) (hr : ∀ b, row = some b → 2 ≤ b) : Roots w' := h.keep fun b hlt => hg.block b (by have := h.two; omega) (fun e => by have := hr b e.symm; omega)
theorem Roots.k {w : World} (h : Roots w) (t : Nat) (ht : t < 64) : w.cell? ⟨1, t, none⟩ = some (.int .u32 (num (Sm.rK.getD t 0))) := by
  obtain ⟨_, ⟨t', fr', h1⟩⟩ := h
  rw [cell_of_row w 1 t _ _ _ h1, List.getElem?_toArray, wds_get _ _ (by show t < 64; exact ht)]
theorem undW8 : Tryd.prog.underlying 75 = some (.array 8 74) := by kernel_rfl
theorem infoW8 : (Tryd.prog.info? 75).map (·.size) = some 8 := by kernel_rfl
theorem undB64 : Tryd.prog.underlying 32 = some (.array 64 5) := by kernel_rfl
theorem infoB64 : (Tryd.prog.info? 32).map (·.size) = some 64 := by kernel_rfl
theorem zero8 : #[Value.int IntKind.u32 0, Value.int IntKind.u32 0, Value.int IntKind.u32 0, Value.int IntKind.u32 0, Value.int IntKind.u32 0, Value.int IntKind.u32 0, Value.int IntKind.u32 0, Value.int IntKind.u32 0] = (wds (zeros32 8)).toArray := rfl
theorem st_cells (s : Sm.St) : (wds s.l).toArray = #[.int .u32 (num s.a), .int .u32 (num s.b), .int .u32 (num s.c), .int .u32 (num s.d), .int .u32 (num s.e), .int .u32 (num s.f), .int .u32 (num s.g), .int .u32 (num s.h)] := rfl
/-- Eight slots that hold a state. -/
def StAt (s : Sm.St) (va vb vc vd ve vf vg vh : Value) : Prop := va = .int .u32 (num s.a) ∧ vb = .int .u32 (num s.b) ∧ vc = .int .u32 (num s.c) ∧ vd = .int .u32 (num s.d) ∧ ve = .int .u32 (num s.e) ∧ vf = .int .u32 (num s.f) ∧ vg = .int .u32 (num s.g) ∧ vh = .int .u32 (num s.h)
theorem num_t1 (h e c k x : BitVec 32) : ((num h + num e + num c + num k) % 4294967296 + num x) % 4294967296 = num (h + e + c + k + x) := by
  rw [← num_add, ← num_add, ← num_add, ← num_add]; omega
theorem val_u32 {a b : Int} (h : a = b) : Value.int .u32 a = .int .u32 b := by rw [h]
theorem part_u32 {x : List (BitVec 32)} {i : Nat} (h : i < x.length) (w : World) : (part 74 (wds x).toArray i).run Tryd.prog w = .ok (.int .u32 (num (x.getD i 0))) w := by
  have ha : (isAgg 74).run Tryd.prog w = .ok false w := by
    unfold isAgg
    rw [Sem.run_bind, run_underlying Tryd.underlying74 w]
    rfl
  unfold part
  rw [Sem.run_bind, ha]
  simp only [Result.andThen_ok, Bool.false_eq_true, if_false, List.getElem?_toArray, wds_get x i h]
  rfl
theorem sz_u32 (w : World) : (sizeOf 74).run Tryd.prog w = .ok 1 w := by
  have h : (Tryd.prog.info? 74).map (·.size) = some 1 := by kernel_rfl
  cases hq : Tryd.prog.info? 74 with
  | none => rw [hq] at h; cases h
  | some i =>
    rw [hq] at h
    simp only [Option.map_some, Option.some.injEq] at h
    simp [sizeOf, typeInfo, hq, h]
theorem index_w8 (l : List (BitVec 32)) (hl : l.length = 8) (k : Nat) (hk : k < 8) (w : World) : (Instr.index 75 (.agg (wds l).toArray) (.int .i64 (k : Int))).run Tryd.prog w = .ok (.int .u32 (num (l.getD k 0))) w := by
  have h0 : (0 : Int) ≤ (k : Int) ∧ (k : Int) < 8 := by omega
  simp only [Instr.index, asIntOf, Sem.run_bind, Sem.run_pure, Result.andThen_ok, run_underlying undW8]
  rw [if_pos (by exact h0)]
  simp only [Sem.run_bind, sz_u32, Result.andThen_ok, Int.toNat_natCast, Nat.mul_one]
  exact part_u32 (by omega) w
theorem mix_get (a c : List (BitVec 32)) (k : Nat) (ha : a.length = 8) (hk : k < 8) : (a.take k ++ c.drop k).getD k 0 = c.getD k 0 := by
  have : (a.take k).length = k := by simp; omega
  simp [List.getElem?_append_right, this]
theorem mix_set (s r : Sm.St) (k : Nat) (hk : k < 8) : (wds ((Sm.plus s r).l.take k ++ s.l.drop k)).toArray.setIfInBounds k (.int .u32 (num (s.l.getD k 0 + r.l.getD k 0))) = (wds ((Sm.plus s r).l.take (k + 1) ++ s.l.drop (k + 1))).toArray := by
  match k, hk with
  | 0, _ => rfl
  | 1, _ => rfl
  | 2, _ => rfl
  | 3, _ => rfl
  | 4, _ => rfl
  | 5, _ => rfl
  | 6, _ => rfl
  | 7, _ => rfl
theorem sched_len (b : List Int) : (Sm.sched b).length = 64 := by rw [Sm.sched, wTo_len]
set_option maxHeartbeats 2000000 in
set_option maxRecDepth 100000 in
theorem mixed_any (s : Sm.St) (b : List Int) (w : World) (hR : Roots w) (hb : Byt b) (hl : b.length = 64) :
    Calls Tryd.prog 41 #[.agg (wds s.l).toArray, .agg (nums b).toArray] w fun e w' => e = .returned (.agg (wds (Sm.mix s b).l).toArray) ∧ Below w.heap.size w w' := by
  have HL := Lib.hid hl
  have HR := Lib.hid hR
  clear hl hR
  have hNs : (nums b).toArray.size = 64 := by simp [nums_len]; exact HL.out
  have HNS := Lib.hid hNs
  clear hNs
  go_enter Tryd.func41, Tryd.ntmps41
  go_wp2_with (first
    | ((with_reducible show wpList _ _ _ ((⟨_, Op.load 32 _, _, _, _, _⟩ : Oper) :: _) _ _); refine wpList_load_row rfl _ (.tmp 3) rfl (w.heap.size + 1) rfl 32 (nums b).toArray (0, 0) _ ?k1 undB64 rfl (by rw [HNS.out]; exact infoB64) ?_)
    | fail)
  case k1 =>
    have k1 := (Whole.new (w.alloc (.cells (wds s.l).toArray 75)) 32 (nums b).toArray).alloc (.cells #[Value.int IntKind.u32 0, Value.int IntKind.u32 0, Value.int IntKind.u32 0, Value.int IntKind.u32 0, Value.int IntKind.u32 0, Value.int IntKind.u32 0, Value.int IntKind.u32 0, Value.int IntKind.u32 0] 75)
    simp only [size_alloc] at k1
    exact k1
  rw [zero8]
  have k0 := ((Whole.new w 75 (wds s.l).toArray).alloc (.cells (nums b).toArray 32)).alloc (.cells (wds (zeros32 8)).toArray 75)
  have kr := Whole.new ((w.alloc (.cells (wds s.l).toArray 75)).alloc (.cells (nums b).toArray 32)) 75 (wds (zeros32 8)).toArray
  have hr3 := ((HR.out.alloc (.cells (wds s.l).toArray 75)).alloc (.cells (nums b).toArray 32)).alloc (.cells (wds (zeros32 8)).toArray 75)
  have hb3 : Below w.heap.size w (((w.alloc (.cells (wds s.l).toArray 75)).alloc (.cells (nums b).toArray 32)).alloc (.cells (wds (zeros32 8)).toArray 75)) := ((below_alloc w _).alloc (by simp) _).alloc (by simp; omega) _
  simp only [size_alloc] at k0 kr
  generalize hw3 : ((w.alloc (.cells (wds s.l).toArray 75)).alloc (.cells (nums b).toArray 32)).alloc (.cells (wds (zeros32 8)).toArray 75) = w3 at *
  have hz3 : w.heap.size + 1 + 1 + 1 = w3.heap.size := by rw [← hw3]; simp
  clear hw3
  refine (schedule_any b w3 hb HL.out).mono ?_
  rintro e w4 ⟨rfl, hb4⟩
  have k04 := k0.below hb4 (by omega)
  have kr4 := kr.below hb4 (by omega)
  have hr4 := hr3.below hb4 hr3.two
  have hb14 : Below w.heap.size w w4 := hb3.trans (hb4.mono (by omega))
  have hz4 := hb4.size
  generalize hBe : w.heap.size = B at *
  have HBE := Lib.hid hBe
  have hB2 : 2 ≤ B := by rw [← hBe]; exact HR.out.two
  have H4 := Lib.hid (And.intro k04 (And.intro kr4 (And.intro hr4 hb14)))
  have hW : B + 1 + 1 < w4.heap.size := by omega
  clear k0 kr hr3 hb3 k04 kr4 hr4 hb14 hb4 hBe hz3 hz4 HR
  have hNs : (wds (Sm.sched b)).toArray.size = 64 := by simp [wds_len, sched_len]
  have hNa := all_wds (Sm.sched b)
  have HN2 := Lib.hid hNs
  clear hNs
  go_wp2_with ((with_reducible show wpList _ _ _ ((⟨_, Op.store 90 _ _, _, _, _, _⟩ : Oper) :: _) _ _); refine wpList_store_row rfl _ (.tmp 5) (.tmp 22) rfl w4.heap.size _ rfl rfl 90 (wds (zeros32 64)).toArray ?k2 (by rw [HN2.out]; exact infoW64) (by rw [HN2.out]; simp [wds_len, zeros32]) hNa ?_)
  case k2 => exact Whole.new _ _ _
  have k0 := (H4.out.1.alloc (.cells #[Value.int IntKind.u32 0, Value.int IntKind.u32 0, Value.int IntKind.u32 0, Value.int IntKind.u32 0, Value.int IntKind.u32 0, Value.int IntKind.u32 0, Value.int IntKind.u32 0, Value.int IntKind.u32 0, Value.int IntKind.u32 0, Value.int IntKind.u32 0, Value.int IntKind.u32 0, Value.int IntKind.u32 0, Value.int IntKind.u32 0, Value.int IntKind.u32 0, Value.int IntKind.u32 0, Value.int IntKind.u32 0, Value.int IntKind.u32 0, Value.int IntKind.u32 0, Value.int IntKind.u32 0, Value.int IntKind.u32 0, Value.int IntKind.u32 0, Value.int IntKind.u32 0, Value.int IntKind.u32 0, Value.int IntKind.u32 0, Value.int IntKind.u32 0, Value.int IntKind.u32 0, Value.int IntKind.u32 0, Value.int IntKind.u32 0, Value.int IntKind.u32 0, Value.int IntKind.u32 0, Value.int IntKind.u32 0, Value.int IntKind.u32 0, Value.int IntKind.u32 0, Value.int IntKind.u32 0, Value.int IntKind.u32 0, Value.int IntKind.u32 0, Value.int IntKind.u32 0, Value.int IntKind.u32 0, Value.int IntKind.u32 0, Value.int IntKind.u32 0, Value.int IntKind.u32 0, Value.int IntKind.u32 0, Value.int IntKind.u32 0, Value.int IntKind.u32 0, Value.int IntKind.u32 0, Value.int IntKind.u32 0, Value.int IntKind.u32 0, Value.int IntKind.u32 0, Value.int IntKind.u32 0, Value.int IntKind.u32 0, Value.int IntKind.u32 0, Value.int IntKind.u32 0, Value.int IntKind.u32 0, Value.int IntKind.u32 0, Value.int IntKind.u32 0, Value.int IntKind.u32 0, Value.int IntKind.u32 0, Value.int IntKind.u32 0, Value.int IntKind.u32 0, Value.int IntKind.u32 0, Value.int IntKind.u32 0, Value.int IntKind.u32 0, Value.int IntKind.u32 0, Value.int IntKind.u32 0] 90)).rowFar (b := w4.heap.size) (by omega) (wds (Sm.sched b)).toArray
  have kr := (H4.out.2.1.alloc (.cells #[Value.int IntKind.u32 0, Value.int IntKind.u32 0, Value.int IntKind.u32 0, Value.int IntKind.u32 0, Value.int IntKind.u32 0, Value.int IntKind.u32 0, Value.int IntKind.u32 0, Value.int IntKind.u32 0, Value.int IntKind.u32 0, Value.int IntKind.u32 0, Value.int IntKind.u32 0, Value.int IntKind.u32 0, Value.int IntKind.u32 0, Value.int IntKind.u32 0, Value.int IntKind.u32 0, Value.int IntKind.u32 0, Value.int IntKind.u32 0, Value.int IntKind.u32 0, Value.int IntKind.u32 0, Value.int IntKind.u32 0, Value.int IntKind.u32 0, Value.int IntKind.u32 0, Value.int IntKind.u32 0, Value.int IntKind.u32 0, Value.int IntKind.u32 0, Value.int IntKind.u32 0, Value.int IntKind.u32 0, Value.int IntKind.u32 0, Value.int IntKind.u32 0, Value.int IntKind.u32 0, Value.int IntKind.u32 0, Value.int IntKind.u32 0, Value.int IntKind.u32 0, Value.int IntKind.u32 0, Value.int IntKind.u32 0, Value.int IntKind.u32 0, Value.int IntKind.u32 0, Value.int IntKind.u32 0, Value.int IntKind.u32 0, Value.int IntKind.u32 0, Value.int IntKind.u32 0, Value.int IntKind.u32 0, Value.int IntKind.u32 0, Value.int IntKind.u32 0, Value.int IntKind.u32 0, Value.int IntKind.u32 0, Value.int IntKind.u32 0, Value.int IntKind.u32 0, Value.int IntKind.u32 0, Value.int IntKind.u32 0, Value.int IntKind.u32 0, Value.int IntKind.u32 0, Value.int IntKind.u32 0, Value.int IntKind.u32 0, Value.int IntKind.u32 0, Value.int IntKind.u32 0, Value.int IntKind.u32 0, Value.int IntKind.u32 0, Value.int IntKind.u32 0, Value.int IntKind.u32 0, Value.int IntKind.u32 0, Value.int IntKind.u32 0, Value.int IntKind.u32 0, Value.int IntKind.u32 0] 90)).rowFar (b := w4.heap.size) (by omega) (wds (Sm.sched b)).toArray
  have kw := (Whole.new w4 90 #[Value.int IntKind.u32 0, Value.int IntKind.u32 0, Value.int IntKind.u32 0, Value.int IntKind.u32 0, Value.int IntKind.u32 0, Value.int IntKind.u32 0, Value.int IntKind.u32 0, Value.int IntKind.u32 0, Value.int IntKind.u32 0, Value.int IntKind.u32 0, Value.int IntKind.u32 0, Value.int IntKind.u32 0, Value.int IntKind.u32 0, Value.int IntKind.u32 0, Value.int IntKind.u32 0, Value.int IntKind.u32 0, Value.int IntKind.u32 0, Value.int IntKind.u32 0, Value.int IntKind.u32 0, Value.int IntKind.u32 0, Value.int IntKind.u32 0, Value.int IntKind.u32 0, Value.int IntKind.u32 0, Value.int IntKind.u32 0, Value.int IntKind.u32 0, Value.int IntKind.u32 0, Value.int IntKind.u32 0, Value.int IntKind.u32 0, Value.int IntKind.u32 0, Value.int IntKind.u32 0, Value.int IntKind.u32 0, Value.int IntKind.u32 0, Value.int IntKind.u32 0, Value.int IntKind.u32 0, Value.int IntKind.u32 0, Value.int IntKind.u32 0, Value.int IntKind.u32 0, Value.int IntKind.u32 0, Value.int IntKind.u32 0, Value.int IntKind.u32 0, Value.int IntKind.u32 0, Value.int IntKind.u32 0, Value.int IntKind.u32 0, Value.int IntKind.u32 0, Value.int IntKind.u32 0, Value.int IntKind.u32 0, Value.int IntKind.u32 0, Value.int IntKind.u32 0, Value.int IntKind.u32 0, Value.int IntKind.u32 0, Value.int IntKind.u32 0, Value.int IntKind.u32 0, Value.int IntKind.u32 0, Value.int IntKind.u32 0, Value.int IntKind.u32 0, Value.int IntKind.u32 0, Value.int IntKind.u32 0, Value.int IntKind.u32 0, Value.int IntKind.u32 0, Value.int IntKind.u32 0, Value.int IntKind.u32 0, Value.int IntKind.u32 0, Value.int IntKind.u32 0, Value.int IntKind.u32 0]).row (wds (Sm.sched b)).toArray
  have hb5 : Below B w ((w4.alloc (.cells #[Value.int IntKind.u32 0, Value.int IntKind.u32 0, Value.int IntKind.u32 0, Value.int IntKind.u32 0, Value.int IntKind.u32 0, Value.int IntKind.u32 0, Value.int IntKind.u32 0, Value.int IntKind.u32 0, Value.int IntKind.u32 0, Value.int IntKind.u32 0, Value.int IntKind.u32 0, Value.int IntKind.u32 0, Value.int IntKind.u32 0, Value.int IntKind.u32 0, Value.int IntKind.u32 0, Value.int IntKind.u32 0, Value.int IntKind.u32 0, Value.int IntKind.u32 0, Value.int IntKind.u32 0, Value.int IntKind.u32 0, Value.int IntKind.u32 0, Value.int IntKind.u32 0, Value.int IntKind.u32 0, Value.int IntKind.u32 0, Value.int IntKind.u32 0, Value.int IntKind.u32 0, Value.int IntKind.u32 0, Value.int IntKind.u32 0, Value.int IntKind.u32 0, Value.int IntKind.u32 0, Value.int IntKind.u32 0, Value.int IntKind.u32 0, Value.int IntKind.u32 0, Value.int IntKind.u32 0, Value.int IntKind.u32 0, Value.int IntKind.u32 0, Value.int IntKind.u32 0, Value.int IntKind.u32 0, Value.int IntKind.u32 0, Value.int IntKind.u32 0, Value.int IntKind.u32 0, Value.int IntKind.u32 0, Value.int IntKind.u32 0, Value.int IntKind.u32 0, Value.int IntKind.u32 0, Value.int IntKind.u32 0, Value.int IntKind.u32 0, Value.int IntKind.u32 0, Value.int IntKind.u32 0, Value.int IntKind.u32 0, Value.int IntKind.u32 0, Value.int IntKind.u32 0, Value.int IntKind.u32 0, Value.int IntKind.u32 0, Value.int IntKind.u32 0, Value.int IntKind.u32 0, Value.int IntKind.u32 0, Value.int IntKind.u32 0, Value.int IntKind.u32 0, Value.int IntKind.u32 0, Value.int IntKind.u32 0, Value.int IntKind.u32 0, Value.int IntKind.u32 0, Value.int IntKind.u32 0] 90)).setRow w4.heap.size (wds (Sm.sched b)).toArray) := below_row (H4.out.2.2.2.alloc (by omega) _) (by omega) _
  have hr5 : Roots ((w4.alloc (.cells #[Value.int IntKind.u32 0, Value.int IntKind.u32 0, Value.int IntKind.u32 0, Value.int IntKind.u32 0, Value.int IntKind.u32 0, Value.int IntKind.u32 0, Value.int IntKind.u32 0, Value.int IntKind.u32 0, Value.int IntKind.u32 0, Value.int IntKind.u32 0, Value.int IntKind.u32 0, Value.int IntKind.u32 0, Value.int IntKind.u32 0, Value.int IntKind.u32 0, Value.int IntKind.u32 0, Value.int IntKind.u32 0, Value.int IntKind.u32 0, Value.int IntKind.u32 0, Value.int IntKind.u32 0, Value.int IntKind.u32 0, Value.int IntKind.u32 0, Value.int IntKind.u32 0, Value.int IntKind.u32 0, Value.int IntKind.u32 0, Value.int IntKind.u32 0, Value.int IntKind.u32 0, Value.int IntKind.u32 0, Value.int IntKind.u32 0, Value.int IntKind.u32 0, Value.int IntKind.u32 0, Value.int IntKind.u32 0, Value.int IntKind.u32 0, Value.int IntKind.u32 0, Value.int IntKind.u32 0, Value.int IntKind.u32 0, Value.int IntKind.u32 0, Value.int IntKind.u32 0, Value.int IntKind.u32 0, Value.int IntKind.u32 0, Value.int IntKind.u32 0, Value.int IntKind.u32 0, Value.int IntKind.u32 0, Value.int IntKind.u32 0, Value.int IntKind.u32 0, Value.int IntKind.u32 0, Value.int IntKind.u32 0, Value.int IntKind.u32 0, Value.int IntKind.u32 0, Value.int IntKind.u32 0, Value.int IntKind.u32 0, Value.int IntKind.u32 0, Value.int IntKind.u32 0, Value.int IntKind.u32 0, Value.int IntKind.u32 0, Value.int IntKind.u32 0, Value.int IntKind.u32 0, Value.int IntKind.u32 0, Value.int IntKind.u32 0, Value.int IntKind.u32 0, Value.int IntKind.u32 0, Value.int IntKind.u32 0, Value.int IntKind.u32 0, Value.int IntKind.u32 0, Value.int IntKind.u32 0] 90)).setRow w4.heap.size (wds (Sm.sched b)).toArray) := H4.out.2.2.1.below (below_row (below_alloc _ _) (Nat.le_refl _) _) (by omega)
  generalize (w4.alloc (.cells #[Value.int IntKind.u32 0, Value.int IntKind.u32 0, Value.int IntKind.u32 0, Value.int IntKind.u32 0, Value.int IntKind.u32 0, Value.int IntKind.u32 0, Value.int IntKind.u32 0, Value.int IntKind.u32 0, Value.int IntKind.u32 0, Value.int IntKind.u32 0, Value.int IntKind.u32 0, Value.int IntKind.u32 0, Value.int IntKind.u32 0, Value.int IntKind.u32 0, Value.int IntKind.u32 0, Value.int IntKind.u32 0, Value.int IntKind.u32 0, Value.int IntKind.u32 0, Value.int IntKind.u32 0, Value.int IntKind.u32 0, Value.int IntKind.u32 0, Value.int IntKind.u32 0, Value.int IntKind.u32 0, Value.int IntKind.u32 0, Value.int IntKind.u32 0, Value.int IntKind.u32 0, Value.int IntKind.u32 0, Value.int IntKind.u32 0, Value.int IntKind.u32 0, Value.int IntKind.u32 0, Value.int IntKind.u32 0, Value.int IntKind.u32 0, Value.int IntKind.u32 0, Value.int IntKind.u32 0, Value.int IntKind.u32 0, Value.int IntKind.u32 0, Value.int IntKind.u32 0, Value.int IntKind.u32 0, Value.int IntKind.u32 0, Value.int IntKind.u32 0, Value.int IntKind.u32 0, Value.int IntKind.u32 0, Value.int IntKind.u32 0, Value.int IntKind.u32 0, Value.int IntKind.u32 0, Value.int IntKind.u32 0, Value.int IntKind.u32 0, Value.int IntKind.u32 0, Value.int IntKind.u32 0, Value.int IntKind.u32 0, Value.int IntKind.u32 0, Value.int IntKind.u32 0, Value.int IntKind.u32 0, Value.int IntKind.u32 0, Value.int IntKind.u32 0, Value.int IntKind.u32 0, Value.int IntKind.u32 0, Value.int IntKind.u32 0, Value.int IntKind.u32 0, Value.int IntKind.u32 0, Value.int IntKind.u32 0, Value.int IntKind.u32 0, Value.int IntKind.u32 0, Value.int IntKind.u32 0] 90)).setRow w4.heap.size (wds (Sm.sched b)).toArray = w5 at *
  generalize w4.heap.size = W at *
  have H5 := Lib.hid (And.intro k0 (And.intro kr (And.intro kw (And.intro hr5 hb5))))
  clear H4 k0 kr kw hr5 hb5
  have c0 : w5.cell? ⟨B, 0, none⟩ = some (.int .u32 (num s.a)) := H5.out.1.cell 0
  have c1 : w5.cell? ⟨B, 1, none⟩ = some (.int .u32 (num s.b)) := H5.out.1.cell 1
  have c2 : w5.cell? ⟨B, 2, none⟩ = some (.int .u32 (num s.c)) := H5.out.1.cell 2
  have c3 : w5.cell? ⟨B, 3, none⟩ = some (.int .u32 (num s.d)) := H5.out.1.cell 3
  have c4 : w5.cell? ⟨B, 4, none⟩ = some (.int .u32 (num s.e)) := H5.out.1.cell 4
  have c5 : w5.cell? ⟨B, 5, none⟩ = some (.int .u32 (num s.f)) := H5.out.1.cell 5
  have c6 : w5.cell? ⟨B, 6, none⟩ = some (.int .u32 (num s.g)) := H5.out.1.cell 6
  have c7 : w5.cell? ⟨B, 7, none⟩ = some (.int .u32 (num s.h)) := H5.out.1.cell 7
  go_quiet (fail)
  go_wp2
  clear c0 c1 c2 c3 c4 c5 c6 c7
  have H6 : Hid (Whole (w5.drewN nq) B 75 (wds s.l).toArray ∧ Whole (w5.drewN nq) (B + 1 + 1) 75 (wds (zeros32 8)).toArray ∧ Whole (w5.drewN nq) W 90 (wds (Sm.sched b)).toArray ∧ Roots (w5.drewN nq) ∧ Below B w (w5.drewN nq)) := Lib.hid ⟨H5.out.1, H5.out.2.1, H5.out.2.2.1, H5.out.2.2.2.1, below_drewN H5.out.2.2.2.2 nq⟩
  clear H5 hNa
  generalize w5.drewN nq = w6 at *
  go_loopw [6, 7, 8, 9, 10, 11, 12, 13, 39] (fun va vb vc vd ve vf vg vh i wr => ∃ t : Nat, t ≤ 64 ∧ i = .int .i64 t ∧ StAt (Sm.stepsTo s (Sm.sched b) t) va vb vc vd ve vf vg vh ∧ Hid (Whole wr B 75 (wds s.l).toArray ∧ Whole wr (B + 1 + 1) 75 (wds (zeros32 8)).toArray ∧ Whole wr W 90 (wds (Sm.sched b)).toArray ∧ Roots wr ∧ Below B w wr)) (fun _ _ _ _ _ _ _ _ i _ => 64 - (intOf i).toNat)
  case atStart => exact ⟨0, Nat.zero_le _, rfl, ⟨rfl, rfl, rfl, rfl, rfl, rfl, rfl, rfl⟩, H6⟩
  case round =>
    clear H6
    obtain ⟨t, ht, rfl, ⟨rfl, rfl, rfl, rfl, rfl, rfl, rfl, rfl⟩, HB⟩ := hrel
    by_cases hlt : t < 64
    · obtain ⟨kt, xt, r', ck, cw, HS⟩ : ∃ kt xt r', wr.cell? ⟨1, t, none⟩ = some (.int .u32 (num kt)) ∧ wr.cell? ⟨W, t, none⟩ = some (.int .u32 (num xt)) ∧ Hid (Sm.stepsTo s (Sm.sched b) (t + 1) = r' ∧ r' = Sm.step (Sm.stepsTo s (Sm.sched b) t) kt xt) :=
        ⟨_, _, _, HB.out.2.2.2.1.k t hlt, (HB.out.2.2.1.cell t).trans (by rw [List.getElem?_toArray, wds_get _ _ (by rw [sched_len]; omega)]), Lib.hid ⟨rfl, rfl⟩⟩
      with_reducible generalize Sm.stepsTo s (Sm.sched b) t = r at *
      have hd : decide ((t : Int) < 64) = true := by simp; omega
      have hnot : bits .xor .u32 (if IntKind.u32.signed = true then -1 else IntKind.u32.max) (num r.e) = num (~~~r.e) := num_not r.e
      have hch : bits .xor .u32 (bits .and .u32 (num r.e) (num r.f)) (bits .and .u32 (num (~~~r.e)) (num r.g)) = num (Sm.ch r.e r.f r.g) := by rw [num_and, num_and, num_xor]; rfl
      have hmj : bits .xor .u32 (bits .xor .u32 (bits .and .u32 (num r.a) (num r.b)) (bits .and .u32 (num r.a) (num r.c))) (bits .and .u32 (num r.b) (num r.c)) = num (Sm.mj r.a r.b r.c) := by rw [num_and, num_and, num_and, num_xor, num_xor]; rfl
      go_wp2
      clear hnot hch hmj
      have q0 : (t : Int) < 64 := by omega
      go_quiet ((go_at_call 45; exact Calls.quiet_of_same ((spreadE_any r.e _).mono fun e w'' h => ⟨h.1, h.2.symm⟩)))
      simp only [num_t1]
      have HBN : Hid (Whole (wr.drewN nq) B 75 (wds s.l).toArray ∧ Whole (wr.drewN nq) (B + 1 + 1) 75 (wds (zeros32 8)).toArray ∧ Whole (wr.drewN nq) W 90 (wds (Sm.sched b)).toArray ∧ Roots (wr.drewN nq) ∧ Below B w (wr.drewN nq)) := Lib.hid ⟨HB.out.1, HB.out.2.1, HB.out.2.2.1, HB.out.2.2.2.1, below_drewN HB.out.2.2.2.2 nq⟩
      generalize wr.drewN nq = wq at *
      clear ck cw
      go_wp2_with (go_at_call 46; refine (spreadA_any _ _).mono ?_; rintro e w' ⟨rfl, rfl⟩)
      go_roundw
      case rel =>
        refine ⟨t + 1, by omega, by go_num, ?_, HBN⟩
        rw [HS.out.1, HS.out.2]
        exact ⟨val_u32 (by rw [num_add, num_add]; rfl), rfl, rfl, rfl, val_u32 (by rw [num_add]; rfl), rfl, rfl, rfl⟩
      case measure => simp [intOf]; omega
    · have hd : decide ((t : Int) < 64) = false := by simp; omega
      have HT : Hid (t = 64) := Lib.hid (by omega)
      have HM : Hid (Sm.mix s b = Sm.plus s (Sm.stepsTo s (Sm.sched b) t)) := Lib.hid (by rw [HT.out]; rfl)
      with_reducible generalize Sm.stepsTo s (Sm.sched b) t = r at *
      go_wp2
      have H7 := HB
      clear HB
      go_loopw [101] (fun i wr => ∃ k : Nat, k ≤ 8 ∧ i = .int .i64 k ∧ Hid (Whole wr B 75 (wds ((Sm.plus s r).l.take k ++ s.l.drop k)).toArray ∧ Whole wr (B + 1 + 1) 75 (wds (zeros32 8)).toArray ∧ Below B w wr)) (fun i _ => 8 - (intOf i).toNat)
      case atStart => exact ⟨0, Nat.zero_le _, rfl, Lib.hid ⟨H7.out.1, H7.out.2.1, H7.out.2.2.2.2⟩⟩
      case round =>
        clear H7
        obtain ⟨k, hk, rfl, HB⟩ := hrel
        by_cases hlt : k < 8
        · have hd : decide ((k : Int) < 8) = true := by simp; omega
          have q0 : (k : Int) < 8 := by omega
          have hix : (Instr.index 75 (.agg #[.int .u32 (num r.a), .int .u32 (num r.b), .int .u32 (num r.c), .int .u32 (num r.d), .int .u32 (num r.e), .int .u32 (num r.f), .int .u32 (num r.g), .int .u32 (num r.h)]) (.int .i64 (k : Int))).run Tryd.prog wr = .ok (.int .u32 (num (r.l.getD k 0))) wr := index_w8 r.l rfl k hlt wr
          have cs : wr.cell? ⟨B, k, none⟩ = some (.int .u32 (num (s.l.getD k 0))) := (HB.out.1.cell k).trans (by rw [List.getElem?_toArray, wds_get _ _ (by simp [Sm.St.l]; omega), mix_get (Sm.plus s r).l s.l k rfl hlt])
          have fw : wr.frozen? ⟨B, k, none⟩ = false := HB.out.1.frozen k
          obtain ⟨y, hy, HY⟩ : ∃ y, num (s.l.getD k 0 + r.l.getD k 0) = num y ∧ Hid ((wds ((Sm.plus s r).l.take k ++ s.l.drop k)).toArray.setIfInBounds k (.int .u32 (num y)) = (wds ((Sm.plus s r).l.take (k + 1) ++ s.l.drop (k + 1))).toArray) := ⟨_, rfl, Lib.hid (mix_set s r k hlt)⟩
          have hv : (num (s.l.getD k 0) + num (r.l.getD k 0)) % 4294967296 = num y := (num_add _ _).trans hy
          clear hy
          with_reducible generalize r.l.getD k 0 = rk at *
          with_reducible generalize s.l.getD k 0 = sk at *
          go_wp2
          go_roundw
          case rel =>
            refine ⟨k + 1, by omega, by go_num, Lib.hid ⟨?_, HB.out.2.1.far (p := ⟨B, k, none⟩) (by show B + 1 + 1 ≠ B; omega) _, HB.out.2.2.setCell (by show B ≤ B; omega) _⟩⟩
            rw [← HY.out]
            exact HB.out.1.set k _
          case measure => simp [intOf]; omega
        · have hd : decide ((k : Int) < 8) = false := by simp; omega
          have hk8 : k = 8 := by omega
          have K0 : Hid (Whole wr B 75 (wds (Sm.mix s b).l).toArray) := Lib.hid (by have := HB.out.1; rw [hk8] at this; rw [HM.out]; exact this)
          have K1 : Hid (Whole wr (B + 1 + 1) 75 (wds (zeros32 8)).toArray) := Lib.hid HB.out.2.1
          have HBL := Lib.hid HB.out.2.2
          clear HB hk8 HM
          have hNa := all_wds (Sm.mix s b).l
          have HNS : Hid ((wds (Sm.mix s b).l).toArray.size = 8) := Lib.hid rfl
          have HZ : Hid ((wds (zeros32 8)).toArray.size = 8) := Lib.hid rfl
          with_reducible generalize hN : (wds (Sm.mix s b).l).toArray = N at *
          go_wp2_with (first
            | ((with_reducible show wpList _ _ _ ((⟨_, Op.load 75 _, _, _, _, _⟩ : Oper) :: _) _ _); refine wpList_load_row rfl _ (.tmp 2) rfl B rfl 75 N (0, 0) _ K0.out undW8 rfl (by rw [HNS.out]; exact infoW8) ?_)
            | ((with_reducible show wpList _ _ _ ((⟨_, Op.store 75 _ _, _, _, _, _⟩ : Oper) :: _) _ _); refine wpList_store_row rfl _ (.tmp 4) (.tmp 112) rfl (B + 1 + 1) N rfl rfl 75 _ K1.out (by rw [HNS.out]; exact infoW8) (by rw [HZ.out, HNS.out]) hNa ?_))
          refine bodyPost_ret (results_one_cell rfl _ _ _ _ rfl (run_loadVar_row _ _ _ _ _ (0, 0) _ (K1.out.row N) undW8 rfl (by rw [HNS.out]; exact infoW8))) rfl ?_
          exact ⟨by rw [hN], by rw [HBE.out]; exact below_row HBL.out (by omega) N⟩
end Go.Proofs.YtjpgepodkeccmaaDoor.Sh
