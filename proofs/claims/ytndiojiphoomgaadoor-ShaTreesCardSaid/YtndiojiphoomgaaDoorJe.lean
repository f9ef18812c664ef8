/-
  The document's block: the state behind one more block.
-/
import Derived.Test.YtndiojiphoomgaaDoorJd
set_option linter.unusedSimpArgs false
namespace Go.Proofs.YtndiojiphoomgaaDoor
open Go.RowKit
theorem mix_set2 (s r : Sm.St) (k : Nat) (hk : k < 8) : (wds ((Sm.plus s r).l.take k ++ r.l.drop k)).toArray.setIfInBounds k (.int .u32 (num (r.l.getD k 0 + s.l.getD k 0))) = (wds ((Sm.plus s r).l.take (k + 1) ++ r.l.drop (k + 1))).toArray := by
  rw [BitVec.add_comm]
  match k, hk with
  | 0, _ => rfl
  | 1, _ => rfl
  | 2, _ => rfl
  | 3, _ => rfl
  | 4, _ => rfl
  | 5, _ => rfl
  | 6, _ => rfl
  | 7, _ => rfl
theorem wrd_cell {w : World} {S : Nat → Prop} {g n : Nat} {l : List (BitVec 32)} (h : Wrd w S (some ⟨g, 0, none⟩) n l) {k : Nat} (hk : k < n) : w.cell? ⟨g, k, none⟩ = some (.int .u32 (num (l.getD k 0))) := by
  obtain ⟨_, g', he, _, _, hc⟩ := h
  injection he with he
  injection he with e1
  subst e1
  exact hc k hk
set_option maxHeartbeats 4000000 in
set_option maxRecDepth 100000 in
theorem block_any {S S' : Nat → Prop} {ba off c g cap : Nat} (s : Sm.St) (b : List Int) (w : World) (hT : Txt w S (some ⟨ba, off, none⟩) 64 c b) (hK : Wrd w S' (some ⟨g, 0, none⟩) 64 Sm.rK) :
    Calls Tryd.prog 19 #[.agg (wds s.l).toArray, .slice (some ⟨ba, off, none⟩) 64 c, .slice (some ⟨g, 0, none⟩) 64 cap] w fun e w' => e = .returned (.agg (wds (Sm.mix s b).l).toArray) ∧ Below w.heap.size w w' := by
  have HT := Lib.hid hT.old
  have HK : Hid (Wrd w (fun b => b < w.heap.size) (some ⟨g, 0, none⟩) 64 Sm.rK) := Lib.hid (hK.weak fun _ h _ => h)
  clear hT hK
  go_enter Tryd.func19, Tryd.ntmps19
  go_wp2_with fail
  rw [zero8]
  have k0 := (Whole.new w 38 (wds s.l).toArray).alloc (.cells (wds (zeros32 8)).toArray 38)
  have kr := Whole.new (w.alloc (.cells (wds s.l).toArray 38)) 38 (wds (zeros32 8)).toArray
  have hb3 : Below w.heap.size w ((w.alloc (.cells (wds s.l).toArray 38)).alloc (.cells (wds (zeros32 8)).toArray 38)) := (below_alloc w _).alloc (by simp) _
  simp only [size_alloc] at k0 kr
  generalize hw3 : (w.alloc (.cells (wds s.l).toArray 38)).alloc (.cells (wds (zeros32 8)).toArray 38) = w3 at *
  have hz3 : w.heap.size + 1 + 1 = w3.heap.size := by rw [← hw3]; simp
  clear hw3
  refine (words_any b w3 (HT.out.below hb3 (fun _ _ h => h))).mono ?_
  rintro e w4 ⟨rfl, hb4⟩
  have k04 := k0.below hb4 (by omega)
  have kr4 := kr.below hb4 (by omega)
  have hb14 : Below w.heap.size w w4 := hb3.trans (hb4.mono (by omega))
  have hz4 := hb4.size
  generalize hBe : w.heap.size = B at *
  have HBE := Lib.hid hBe
  have H4 := Lib.hid (And.intro k04 (And.intro kr4 hb14))
  have hW : B + 1 < w4.heap.size := by omega
  clear k0 kr hb3 k04 kr4 hb14 hb4 hBe hz3 hz4
  have hNs : (wds (Sm.sched b)).toArray.size = 64 := by simp [wds_len, sched_len]
  have hNa := all_wds (Sm.sched b)
  have hNa2 := all_wds s.l
  have HN2 := Lib.hid hNs
  have HN8 : Hid ((wds s.l).toArray.size = 8) := Lib.hid rfl
  clear hNs
  go_upto_region 2 with (first
    | ((with_reducible show wpList _ _ _ ((⟨_, Op.store 59 _ _, _, _, _, _⟩ : Oper) :: _) _ _); refine wpList_store_row rfl _ (.tmp 7) (.tmp 16) rfl w4.heap.size _ rfl rfl 59 _ (Whole.new _ _ _) (by rw [HN2.out]; exact infoW64) (by rw [HN2.out]; rfl) hNa ?_)
    | fail)
  have k0 : Whole ((w4.alloc (.cells #[Value.int IntKind.u32 0, Value.int IntKind.u32 0, Value.int IntKind.u32 0, Value.int IntKind.u32 0, Value.int IntKind.u32 0, Value.int IntKind.u32 0, Value.int IntKind.u32 0, Value.int IntKind.u32 0, Value.int IntKind.u32 0, Value.int IntKind.u32 0, Value.int IntKind.u32 0, Value.int IntKind.u32 0, Value.int IntKind.u32 0, Value.int IntKind.u32 0, Value.int IntKind.u32 0, Value.int IntKind.u32 0, Value.int IntKind.u32 0, Value.int IntKind.u32 0, Value.int IntKind.u32 0, Value.int IntKind.u32 0, Value.int IntKind.u32 0, Value.int IntKind.u32 0, Value.int IntKind.u32 0, Value.int IntKind.u32 0, Value.int IntKind.u32 0, Value.int IntKind.u32 0, Value.int IntKind.u32 0, Value.int IntKind.u32 0, Value.int IntKind.u32 0, Value.int IntKind.u32 0, Value.int IntKind.u32 0, Value.int IntKind.u32 0, Value.int IntKind.u32 0, Value.int IntKind.u32 0, Value.int IntKind.u32 0, Value.int IntKind.u32 0, Value.int IntKind.u32 0, Value.int IntKind.u32 0, Value.int IntKind.u32 0, Value.int IntKind.u32 0, Value.int IntKind.u32 0, Value.int IntKind.u32 0, Value.int IntKind.u32 0, Value.int IntKind.u32 0, Value.int IntKind.u32 0, Value.int IntKind.u32 0, Value.int IntKind.u32 0, Value.int IntKind.u32 0, Value.int IntKind.u32 0, Value.int IntKind.u32 0, Value.int IntKind.u32 0, Value.int IntKind.u32 0, Value.int IntKind.u32 0, Value.int IntKind.u32 0, Value.int IntKind.u32 0, Value.int IntKind.u32 0, Value.int IntKind.u32 0, Value.int IntKind.u32 0, Value.int IntKind.u32 0, Value.int IntKind.u32 0, Value.int IntKind.u32 0, Value.int IntKind.u32 0, Value.int IntKind.u32 0, Value.int IntKind.u32 0] 59)).setRow w4.heap.size (wds (Sm.sched b)).toArray) B 38 (wds s.l).toArray := put_far H4.out.1
  have kr : Whole ((w4.alloc (.cells #[Value.int IntKind.u32 0, Value.int IntKind.u32 0, Value.int IntKind.u32 0, Value.int IntKind.u32 0, Value.int IntKind.u32 0, Value.int IntKind.u32 0, Value.int IntKind.u32 0, Value.int IntKind.u32 0, Value.int IntKind.u32 0, Value.int IntKind.u32 0, Value.int IntKind.u32 0, Value.int IntKind.u32 0, Value.int IntKind.u32 0, Value.int IntKind.u32 0, Value.int IntKind.u32 0, Value.int IntKind.u32 0, Value.int IntKind.u32 0, Value.int IntKind.u32 0, Value.int IntKind.u32 0, Value.int IntKind.u32 0, Value.int IntKind.u32 0, Value.int IntKind.u32 0, Value.int IntKind.u32 0, Value.int IntKind.u32 0, Value.int IntKind.u32 0, Value.int IntKind.u32 0, Value.int IntKind.u32 0, Value.int IntKind.u32 0, Value.int IntKind.u32 0, Value.int IntKind.u32 0, Value.int IntKind.u32 0, Value.int IntKind.u32 0, Value.int IntKind.u32 0, Value.int IntKind.u32 0, Value.int IntKind.u32 0, Value.int IntKind.u32 0, Value.int IntKind.u32 0, Value.int IntKind.u32 0, Value.int IntKind.u32 0, Value.int IntKind.u32 0, Value.int IntKind.u32 0, Value.int IntKind.u32 0, Value.int IntKind.u32 0, Value.int IntKind.u32 0, Value.int IntKind.u32 0, Value.int IntKind.u32 0, Value.int IntKind.u32 0, Value.int IntKind.u32 0, Value.int IntKind.u32 0, Value.int IntKind.u32 0, Value.int IntKind.u32 0, Value.int IntKind.u32 0, Value.int IntKind.u32 0, Value.int IntKind.u32 0, Value.int IntKind.u32 0, Value.int IntKind.u32 0, Value.int IntKind.u32 0, Value.int IntKind.u32 0, Value.int IntKind.u32 0, Value.int IntKind.u32 0, Value.int IntKind.u32 0, Value.int IntKind.u32 0, Value.int IntKind.u32 0, Value.int IntKind.u32 0] 59)).setRow w4.heap.size (wds (Sm.sched b)).toArray) (B + 1) 38 (wds (zeros32 8)).toArray := put_far H4.out.2.1
  have kw : Whole ((w4.alloc (.cells #[Value.int IntKind.u32 0, Value.int IntKind.u32 0, Value.int IntKind.u32 0, Value.int IntKind.u32 0, Value.int IntKind.u32 0, Value.int IntKind.u32 0, Value.int IntKind.u32 0, Value.int IntKind.u32 0, Value.int IntKind.u32 0, Value.int IntKind.u32 0, Value.int IntKind.u32 0, Value.int IntKind.u32 0, Value.int IntKind.u32 0, Value.int IntKind.u32 0, Value.int IntKind.u32 0, Value.int IntKind.u32 0, Value.int IntKind.u32 0, Value.int IntKind.u32 0, Value.int IntKind.u32 0, Value.int IntKind.u32 0, Value.int IntKind.u32 0, Value.int IntKind.u32 0, Value.int IntKind.u32 0, Value.int IntKind.u32 0, Value.int IntKind.u32 0, Value.int IntKind.u32 0, Value.int IntKind.u32 0, Value.int IntKind.u32 0, Value.int IntKind.u32 0, Value.int IntKind.u32 0, Value.int IntKind.u32 0, Value.int IntKind.u32 0, Value.int IntKind.u32 0, Value.int IntKind.u32 0, Value.int IntKind.u32 0, Value.int IntKind.u32 0, Value.int IntKind.u32 0, Value.int IntKind.u32 0, Value.int IntKind.u32 0, Value.int IntKind.u32 0, Value.int IntKind.u32 0, Value.int IntKind.u32 0, Value.int IntKind.u32 0, Value.int IntKind.u32 0, Value.int IntKind.u32 0, Value.int IntKind.u32 0, Value.int IntKind.u32 0, Value.int IntKind.u32 0, Value.int IntKind.u32 0, Value.int IntKind.u32 0, Value.int IntKind.u32 0, Value.int IntKind.u32 0, Value.int IntKind.u32 0, Value.int IntKind.u32 0, Value.int IntKind.u32 0, Value.int IntKind.u32 0, Value.int IntKind.u32 0, Value.int IntKind.u32 0, Value.int IntKind.u32 0, Value.int IntKind.u32 0, Value.int IntKind.u32 0, Value.int IntKind.u32 0, Value.int IntKind.u32 0, Value.int IntKind.u32 0] 59)).setRow w4.heap.size (wds (Sm.sched b)).toArray) w4.heap.size 59 (wds (Sm.sched b)).toArray := put_row
  have hb5 : Below B w ((w4.alloc (.cells #[Value.int IntKind.u32 0, Value.int IntKind.u32 0, Value.int IntKind.u32 0, Value.int IntKind.u32 0, Value.int IntKind.u32 0, Value.int IntKind.u32 0, Value.int IntKind.u32 0, Value.int IntKind.u32 0, Value.int IntKind.u32 0, Value.int IntKind.u32 0, Value.int IntKind.u32 0, Value.int IntKind.u32 0, Value.int IntKind.u32 0, Value.int IntKind.u32 0, Value.int IntKind.u32 0, Value.int IntKind.u32 0, Value.int IntKind.u32 0, Value.int IntKind.u32 0, Value.int IntKind.u32 0, Value.int IntKind.u32 0, Value.int IntKind.u32 0, Value.int IntKind.u32 0, Value.int IntKind.u32 0, Value.int IntKind.u32 0, Value.int IntKind.u32 0, Value.int IntKind.u32 0, Value.int IntKind.u32 0, Value.int IntKind.u32 0, Value.int IntKind.u32 0, Value.int IntKind.u32 0, Value.int IntKind.u32 0, Value.int IntKind.u32 0, Value.int IntKind.u32 0, Value.int IntKind.u32 0, Value.int IntKind.u32 0, Value.int IntKind.u32 0, Value.int IntKind.u32 0, Value.int IntKind.u32 0, Value.int IntKind.u32 0, Value.int IntKind.u32 0, Value.int IntKind.u32 0, Value.int IntKind.u32 0, Value.int IntKind.u32 0, Value.int IntKind.u32 0, Value.int IntKind.u32 0, Value.int IntKind.u32 0, Value.int IntKind.u32 0, Value.int IntKind.u32 0, Value.int IntKind.u32 0, Value.int IntKind.u32 0, Value.int IntKind.u32 0, Value.int IntKind.u32 0, Value.int IntKind.u32 0, Value.int IntKind.u32 0, Value.int IntKind.u32 0, Value.int IntKind.u32 0, Value.int IntKind.u32 0, Value.int IntKind.u32 0, Value.int IntKind.u32 0, Value.int IntKind.u32 0, Value.int IntKind.u32 0, Value.int IntKind.u32 0, Value.int IntKind.u32 0, Value.int IntKind.u32 0] 59)).setRow w4.heap.size (wds (Sm.sched b)).toArray) := put_below H4.out.2.2 (by omega)
  have hz5 : ((w4.alloc (.cells #[Value.int IntKind.u32 0, Value.int IntKind.u32 0, Value.int IntKind.u32 0, Value.int IntKind.u32 0, Value.int IntKind.u32 0, Value.int IntKind.u32 0, Value.int IntKind.u32 0, Value.int IntKind.u32 0, Value.int IntKind.u32 0, Value.int IntKind.u32 0, Value.int IntKind.u32 0, Value.int IntKind.u32 0, Value.int IntKind.u32 0, Value.int IntKind.u32 0, Value.int IntKind.u32 0, Value.int IntKind.u32 0, Value.int IntKind.u32 0, Value.int IntKind.u32 0, Value.int IntKind.u32 0, Value.int IntKind.u32 0, Value.int IntKind.u32 0, Value.int IntKind.u32 0, Value.int IntKind.u32 0, Value.int IntKind.u32 0, Value.int IntKind.u32 0, Value.int IntKind.u32 0, Value.int IntKind.u32 0, Value.int IntKind.u32 0, Value.int IntKind.u32 0, Value.int IntKind.u32 0, Value.int IntKind.u32 0, Value.int IntKind.u32 0, Value.int IntKind.u32 0, Value.int IntKind.u32 0, Value.int IntKind.u32 0, Value.int IntKind.u32 0, Value.int IntKind.u32 0, Value.int IntKind.u32 0, Value.int IntKind.u32 0, Value.int IntKind.u32 0, Value.int IntKind.u32 0, Value.int IntKind.u32 0, Value.int IntKind.u32 0, Value.int IntKind.u32 0, Value.int IntKind.u32 0, Value.int IntKind.u32 0, Value.int IntKind.u32 0, Value.int IntKind.u32 0, Value.int IntKind.u32 0, Value.int IntKind.u32 0, Value.int IntKind.u32 0, Value.int IntKind.u32 0, Value.int IntKind.u32 0, Value.int IntKind.u32 0, Value.int IntKind.u32 0, Value.int IntKind.u32 0, Value.int IntKind.u32 0, Value.int IntKind.u32 0, Value.int IntKind.u32 0, Value.int IntKind.u32 0, Value.int IntKind.u32 0, Value.int IntKind.u32 0, Value.int IntKind.u32 0, Value.int IntKind.u32 0] 59)).setRow w4.heap.size (wds (Sm.sched b)).toArray).heap.size = w4.heap.size + 1 := put_size
  generalize (w4.alloc (.cells #[Value.int IntKind.u32 0, Value.int IntKind.u32 0, Value.int IntKind.u32 0, Value.int IntKind.u32 0, Value.int IntKind.u32 0, Value.int IntKind.u32 0, Value.int IntKind.u32 0, Value.int IntKind.u32 0, Value.int IntKind.u32 0, Value.int IntKind.u32 0, Value.int IntKind.u32 0, Value.int IntKind.u32 0, Value.int IntKind.u32 0, Value.int IntKind.u32 0, Value.int IntKind.u32 0, Value.int IntKind.u32 0, Value.int IntKind.u32 0, Value.int IntKind.u32 0, Value.int IntKind.u32 0, Value.int IntKind.u32 0, Value.int IntKind.u32 0, Value.int IntKind.u32 0, Value.int IntKind.u32 0, Value.int IntKind.u32 0, Value.int IntKind.u32 0, Value.int IntKind.u32 0, Value.int IntKind.u32 0, Value.int IntKind.u32 0, Value.int IntKind.u32 0, Value.int IntKind.u32 0, Value.int IntKind.u32 0, Value.int IntKind.u32 0, Value.int IntKind.u32 0, Value.int IntKind.u32 0, Value.int IntKind.u32 0, Value.int IntKind.u32 0, Value.int IntKind.u32 0, Value.int IntKind.u32 0, Value.int IntKind.u32 0, Value.int IntKind.u32 0, Value.int IntKind.u32 0, Value.int IntKind.u32 0, Value.int IntKind.u32 0, Value.int IntKind.u32 0, Value.int IntKind.u32 0, Value.int IntKind.u32 0, Value.int IntKind.u32 0, Value.int IntKind.u32 0, Value.int IntKind.u32 0, Value.int IntKind.u32 0, Value.int IntKind.u32 0, Value.int IntKind.u32 0, Value.int IntKind.u32 0, Value.int IntKind.u32 0, Value.int IntKind.u32 0, Value.int IntKind.u32 0, Value.int IntKind.u32 0, Value.int IntKind.u32 0, Value.int IntKind.u32 0, Value.int IntKind.u32 0, Value.int IntKind.u32 0, Value.int IntKind.u32 0, Value.int IntKind.u32 0, Value.int IntKind.u32 0] 59)).setRow w4.heap.size (wds (Sm.sched b)).toArray = w5 at *
  generalize w4.heap.size = W at *
  have hz5' : W < w5.heap.size := by omega
  have H5 := Lib.hid (And.intro k0 (And.intro kr (And.intro kw hb5)))
  clear H4 k0 kr kw hb5 hz5
  go_wp2_with (first
    | ((with_reducible show wpList _ _ _ ((⟨_, Op.load 38 _, _, _, _, _⟩ : Oper) :: _) _ _); refine wpList_load_row rfl _ (.tmp 3) rfl B rfl 38 (wds s.l).toArray (0, 0) _ H5.out.1 undW8 rfl (by rw [HN8.out]; exact infoW8) ?_)
    | ((with_reducible show wpList _ _ _ ((⟨_, Op.store 38 _ _, _, _, _, _⟩ : Oper) :: _) _ _); refine wpList_store_row rfl _ (.tmp 8) (.tmp 17) rfl w5.heap.size _ rfl rfl 38 _ (Whole.new _ _ _) (by rw [HN8.out]; exact infoW8) (by rw [HN8.out]; rfl) hNa2 ?_)
    | fail)
  have k0 : Whole ((w5.alloc (.cells #[Value.int IntKind.u32 0, Value.int IntKind.u32 0, Value.int IntKind.u32 0, Value.int IntKind.u32 0, Value.int IntKind.u32 0, Value.int IntKind.u32 0, Value.int IntKind.u32 0, Value.int IntKind.u32 0] 38)).setRow w5.heap.size (wds s.l).toArray) B 38 (wds s.l).toArray := put_far H5.out.1
  have kr : Whole ((w5.alloc (.cells #[Value.int IntKind.u32 0, Value.int IntKind.u32 0, Value.int IntKind.u32 0, Value.int IntKind.u32 0, Value.int IntKind.u32 0, Value.int IntKind.u32 0, Value.int IntKind.u32 0, Value.int IntKind.u32 0] 38)).setRow w5.heap.size (wds s.l).toArray) (B + 1) 38 (wds (zeros32 8)).toArray := put_far H5.out.2.1
  have kw : Whole ((w5.alloc (.cells #[Value.int IntKind.u32 0, Value.int IntKind.u32 0, Value.int IntKind.u32 0, Value.int IntKind.u32 0, Value.int IntKind.u32 0, Value.int IntKind.u32 0, Value.int IntKind.u32 0, Value.int IntKind.u32 0] 38)).setRow w5.heap.size (wds s.l).toArray) W 59 (wds (Sm.sched b)).toArray := put_far H5.out.2.2.1
  have ks : Whole ((w5.alloc (.cells #[Value.int IntKind.u32 0, Value.int IntKind.u32 0, Value.int IntKind.u32 0, Value.int IntKind.u32 0, Value.int IntKind.u32 0, Value.int IntKind.u32 0, Value.int IntKind.u32 0, Value.int IntKind.u32 0] 38)).setRow w5.heap.size (wds s.l).toArray) w5.heap.size 38 (wds s.l).toArray := put_row
  have hb6 : Below B w ((w5.alloc (.cells #[Value.int IntKind.u32 0, Value.int IntKind.u32 0, Value.int IntKind.u32 0, Value.int IntKind.u32 0, Value.int IntKind.u32 0, Value.int IntKind.u32 0, Value.int IntKind.u32 0, Value.int IntKind.u32 0] 38)).setRow w5.heap.size (wds s.l).toArray) := put_below H5.out.2.2.2 (by omega)
  generalize (w5.alloc (.cells #[Value.int IntKind.u32 0, Value.int IntKind.u32 0, Value.int IntKind.u32 0, Value.int IntKind.u32 0, Value.int IntKind.u32 0, Value.int IntKind.u32 0, Value.int IntKind.u32 0, Value.int IntKind.u32 0] 38)).setRow w5.heap.size (wds s.l).toArray = w6 at *
  generalize w5.heap.size = G at *
  have H6 : Hid (Whole w6 B 38 (wds s.l).toArray ∧ Whole w6 (B + 1) 38 (wds (zeros32 8)).toArray ∧ Whole w6 W 59 (wds (Sm.sched b)).toArray ∧ Whole w6 G 38 (wds s.l).toArray ∧ Below B w w6) := Lib.hid ⟨k0, kr, kw, ks, hb6⟩
  clear H5 k0 kr kw ks hb6 hNa hNa2 HN2
  go_loopw [9] (fun i wr => ∃ t : Nat, t ≤ 64 ∧ i = .int .i64 t ∧ Hid (Whole wr B 38 (wds s.l).toArray ∧ Whole wr (B + 1) 38 (wds (zeros32 8)).toArray ∧ Whole wr W 59 (wds (Sm.sched b)).toArray ∧ Whole wr G 38 (wds (Sm.stepsTo s (Sm.sched b) t).l).toArray ∧ Below B w wr)) (fun i _ => 64 - (intOf i).toNat)
  case atStart => exact ⟨0, Nat.zero_le _, rfl, H6⟩
  case round =>
    clear H6
    obtain ⟨t, ht, rfl, HB⟩ := hrel
    by_cases hlt : t < 64
    · obtain ⟨kt, xt, r', ck, cw, HS⟩ : ∃ kt xt r', wr.cell? ⟨g, t, none⟩ = some (.int .u32 (num kt)) ∧ wr.cell? ⟨W, t, none⟩ = some (.int .u32 (num xt)) ∧ Hid (Sm.stepsTo s (Sm.sched b) (t + 1) = r' ∧ r' = Sm.step (Sm.stepsTo s (Sm.sched b) t) kt xt) :=
        ⟨_, _, _, wrd_cell (HK.out.below HB.out.2.2.2.2 (fun _ _ h => h)) hlt, (HB.out.2.2.1.cell t).trans (by rw [List.getElem?_toArray, wds_get _ _ (by rw [sched_len]; omega)]), Lib.hid ⟨rfl, rfl⟩⟩
      with_reducible generalize Sm.stepsTo s (Sm.sched b) t = r at *
      have hd : decide ((t : Int) < 64) = true := by simp; omega
      have c0 : wr.cell? ⟨G, 0, none⟩ = some (.int .u32 (num r.a)) := HB.out.2.2.2.1.cell 0
      have c1 : wr.cell? ⟨G, 1, none⟩ = some (.int .u32 (num r.b)) := HB.out.2.2.2.1.cell 1
      have c2 : wr.cell? ⟨G, 2, none⟩ = some (.int .u32 (num r.c)) := HB.out.2.2.2.1.cell 2
      have c3 : wr.cell? ⟨G, 3, none⟩ = some (.int .u32 (num r.d)) := HB.out.2.2.2.1.cell 3
      have c4 : wr.cell? ⟨G, 4, none⟩ = some (.int .u32 (num r.e)) := HB.out.2.2.2.1.cell 4
      have c5 : wr.cell? ⟨G, 5, none⟩ = some (.int .u32 (num r.f)) := HB.out.2.2.2.1.cell 5
      have c6 : wr.cell? ⟨G, 6, none⟩ = some (.int .u32 (num r.g)) := HB.out.2.2.2.1.cell 6
      have c7 : wr.cell? ⟨G, 7, none⟩ = some (.int .u32 (num r.h)) := HB.out.2.2.2.1.cell 7
      have hnot : bits .xor .u32 (if IntKind.u32.signed = true then -1 else IntKind.u32.max) (num r.e) = num (~~~r.e) := num_not r.e
      have hch : bits .xor .u32 (bits .and .u32 (num r.e) (num r.f)) (bits .and .u32 (num (~~~r.e)) (num r.g)) = num (Sm.ch r.e r.f r.g) := by rw [num_and, num_and, num_xor]; rfl
      have hE : bits .xor .u32 (bits .xor .u32 (num (r.e.rotateRight 6)) (num (r.e.rotateRight 11))) (num (r.e.rotateRight 25)) = num (Sm.sE r.e) := by rw [num_xor, num_xor]; rfl
      have q0 : (t : Int) < 64 := by omega
      go_wp2
      refine wp_region_quiet_lit (by kernel_rfl) (by kernel_rfl) ?_
      iterate 3 (quiet_step (fail))
      quiet_step ((go_at_call 29; exact Calls.quiet_of_same ((turn6 r.e _).mono fun e w'' h => ⟨h.1, h.2.symm⟩)))
      iterate 1 (quiet_step (fail))
      quiet_step ((go_at_call 29; exact Calls.quiet_of_same ((turn11 r.e _).mono fun e w'' h => ⟨h.1, h.2.symm⟩)))
      iterate 2 (quiet_step (fail))
      quiet_step ((go_at_call 29; exact Calls.quiet_of_same ((turn25 r.e _).mono fun e w'' h => ⟨h.1, h.2.symm⟩)))
      iterate 23 (quiet_step (fail))
      refine wpQuiet_nil ?_
      intro _ hw'
      obtain ⟨nq, hw''⟩ := hw'
      subst hw''
      clear hnot hch hE ck cw
      simp only [num_wadd]
      have HBN : Hid (Whole (wr.drewN nq) B 38 (wds s.l).toArray ∧ Whole (wr.drewN nq) (B + 1) 38 (wds (zeros32 8)).toArray ∧ Whole (wr.drewN nq) W 59 (wds (Sm.sched b)).toArray ∧ Whole (wr.drewN nq) G 38 (wds r.l).toArray ∧ Below B w (wr.drewN nq)) := Lib.hid ⟨HB.out.1, HB.out.2.1, HB.out.2.2.1, HB.out.2.2.2.1, below_drewN HB.out.2.2.2.2 nq⟩
      obtain ⟨T1, hT1⟩ : ∃ T1, r.h + Sm.sE r.e + Sm.ch r.e r.f r.g + kt + xt = T1 := ⟨_, rfl⟩
      rw [hT1]
      have HT1 := Lib.hid hT1
      clear hT1 HB
      generalize wr.drewN nq = wq at *
      have c0 : wq.cell? ⟨G, 0, none⟩ = some (.int .u32 (num r.a)) := HBN.out.2.2.2.1.cell 0
      have c1 : wq.cell? ⟨G, 1, none⟩ = some (.int .u32 (num r.b)) := HBN.out.2.2.2.1.cell 1
      have c2 : wq.cell? ⟨G, 2, none⟩ = some (.int .u32 (num r.c)) := HBN.out.2.2.2.1.cell 2
      have hA : bits .xor .u32 (bits .xor .u32 (num (r.a.rotateRight 2)) (num (r.a.rotateRight 13))) (num (r.a.rotateRight 22)) = num (Sm.sA r.a) := by rw [num_xor, num_xor]; rfl
      have hmj : bits .xor .u32 (bits .xor .u32 (bits .and .u32 (num r.a) (num r.b)) (bits .and .u32 (num r.a) (num r.c))) (bits .and .u32 (num r.b) (num r.c)) = num (Sm.mj r.a r.b r.c) := by rw [num_and, num_and, num_and, num_xor, num_xor]; rfl
      go_wp2
      refine wp_region_quiet_lit (by kernel_rfl) (by kernel_rfl) ?_
      iterate 1 (quiet_step (fail))
      quiet_step ((go_at_call 29; exact Calls.quiet_of_same ((turn2 r.a _).mono fun e w'' h => ⟨h.1, h.2.symm⟩)))
      iterate 1 (quiet_step (fail))
      quiet_step ((go_at_call 29; exact Calls.quiet_of_same ((turn13 r.a _).mono fun e w'' h => ⟨h.1, h.2.symm⟩)))
      iterate 2 (quiet_step (fail))
      quiet_step ((go_at_call 29; exact Calls.quiet_of_same ((turn22 r.a _).mono fun e w'' h => ⟨h.1, h.2.symm⟩)))
      iterate 18 (quiet_step (fail))
      refine wpQuiet_nil ?_
      intro _ hw'
      obtain ⟨nq, hw''⟩ := hw'
      subst hw''
      clear hA hmj c0 c1 c2
      simp only [num_wadd]
      obtain ⟨T2, hT2⟩ : ∃ T2, Sm.sA r.a + Sm.mj r.a r.b r.c = T2 := ⟨_, rfl⟩
      rw [hT2]
      have HT2 := Lib.hid hT2
      clear hT2
      have HBM : Hid (Whole (wq.drewN nq) B 38 (wds s.l).toArray ∧ Whole (wq.drewN nq) (B + 1) 38 (wds (zeros32 8)).toArray ∧ Whole (wq.drewN nq) W 59 (wds (Sm.sched b)).toArray ∧ Whole (wq.drewN nq) G 38 (wds r.l).toArray ∧ Below B w (wq.drewN nq)) := Lib.hid ⟨HBN.out.1, HBN.out.2.1, HBN.out.2.2.1, HBN.out.2.2.2.1, below_drewN HBN.out.2.2.2.2 nq⟩
      clear HBN
      generalize wq.drewN nq = wp at *
      have c0 : wp.cell? ⟨G, 0, none⟩ = some (.int .u32 (num r.a)) := HBM.out.2.2.2.1.cell 0
      have c1 : wp.cell? ⟨G, 1, none⟩ = some (.int .u32 (num r.b)) := HBM.out.2.2.2.1.cell 1
      have c2 : wp.cell? ⟨G, 2, none⟩ = some (.int .u32 (num r.c)) := HBM.out.2.2.2.1.cell 2
      have c3 : wp.cell? ⟨G, 3, none⟩ = some (.int .u32 (num r.d)) := HBM.out.2.2.2.1.cell 3
      have c4 : wp.cell? ⟨G, 4, none⟩ = some (.int .u32 (num r.e)) := HBM.out.2.2.2.1.cell 4
      have c5 : wp.cell? ⟨G, 5, none⟩ = some (.int .u32 (num r.f)) := HBM.out.2.2.2.1.cell 5
      have c6 : wp.cell? ⟨G, 6, none⟩ = some (.int .u32 (num r.g)) := HBM.out.2.2.2.1.cell 6
      have s1 : (num T1 + num T2) % 4294967296 = num (T1 + T2) := num_add _ _
      have s2 : (num r.d + num T1) % 4294967296 = num (r.d + T1) := num_add _ _
      have HR' : Hid (r' = ⟨T1 + T2, r.a, r.b, r.c, r.d + T1, r.e, r.f, r.g⟩) := Lib.hid (by rw [HS.out.2, ← HT2.out, ← HT1.out]; rfl)
      have HN8r : Hid ((wds r.l).toArray.size = 8) := Lib.hid rfl
      have HN8' : Hid ((wds r'.l).toArray.size = 8) := Lib.hid rfl
      have hNa' := all_wds r'.l
      go_wp2_with (first
        | ((with_reducible show wpList _ _ _ ((⟨_, Op.store 38 _ _, _, _, _, _⟩ : Oper) :: _) _ _); refine wpList_store_row rfl _ (.tmp 8) (.tmp 100) rfl G (wds r'.l).toArray rfl (by rw [HR'.out]; rfl) 38 _ HBM.out.2.2.2.1 (by rw [HN8'.out]; exact infoW8) (by rw [HN8'.out, HN8r.out]) hNa' ?_)
        | fail)
      go_roundw
      case rel =>
        refine ⟨t + 1, by omega, by go_num, ?_⟩
        rw [HS.out.1]
        exact Lib.hid ⟨HBM.out.1.rowFar (by omega) _, HBM.out.2.1.rowFar (by omega) _, HBM.out.2.2.1.rowFar (by omega) _, HBM.out.2.2.2.1.row _, below_row HBM.out.2.2.2.2 (by omega) _⟩
      case measure => simp [intOf]; omega
    · have hd : decide ((t : Int) < 64) = false := by simp; omega
      have HT : Hid (t = 64) := Lib.hid (by omega)
      have HM : Hid (Sm.mix s b = Sm.plus s (Sm.stepsTo s (Sm.sched b) t)) := Lib.hid (by rw [HT.out]; rfl)
      with_reducible generalize Sm.stepsTo s (Sm.sched b) t = r at *
      go_wp2
      have H7 := HB
      clear HB
      go_loopw [14] (fun i wr => ∃ k : Nat, k ≤ 8 ∧ i = .int .i64 k ∧ Hid (Whole wr B 38 (wds s.l).toArray ∧ Whole wr (B + 1) 38 (wds (zeros32 8)).toArray ∧ Whole wr G 38 (wds ((Sm.plus s r).l.take k ++ r.l.drop k)).toArray ∧ Below B w wr)) (fun i _ => 8 - (intOf i).toNat)
      case atStart => exact ⟨0, Nat.zero_le _, rfl, Lib.hid ⟨H7.out.1, H7.out.2.1, H7.out.2.2.2.1, H7.out.2.2.2.2⟩⟩
      case round =>
        clear H7
        obtain ⟨k, hk, rfl, HB⟩ := hrel
        by_cases hlt : k < 8
        · have hd : decide ((k : Int) < 8) = true := by simp; omega
          have q0 : (k : Int) < 8 := by omega
          have ch : wr.cell? ⟨B, k, none⟩ = some (.int .u32 (num (s.l.getD k 0))) := (HB.out.1.cell k).trans (by rw [List.getElem?_toArray, wds_get _ _ (by simp [Sm.St.l]; omega)])
          have cs : wr.cell? ⟨G, k, none⟩ = some (.int .u32 (num (r.l.getD k 0))) := (HB.out.2.2.1.cell k).trans (by rw [List.getElem?_toArray, wds_get _ _ (by simp [Sm.St.l]; omega), mix_get (Sm.plus s r).l r.l k rfl hlt])
          have fw : wr.frozen? ⟨G, k, none⟩ = false := HB.out.2.2.1.frozen k
          obtain ⟨y, hy, HY⟩ : ∃ y, num (r.l.getD k 0 + s.l.getD k 0) = num y ∧ Hid ((wds ((Sm.plus s r).l.take k ++ r.l.drop k)).toArray.setIfInBounds k (.int .u32 (num y)) = (wds ((Sm.plus s r).l.take (k + 1) ++ r.l.drop (k + 1))).toArray) := ⟨_, rfl, Lib.hid (mix_set2 s r k hlt)⟩
          have hv : IntKind.u32.wrap (num (r.l.getD k 0) + num (s.l.getD k 0)) = num y := (num_wadd _ _).trans hy
          clear hy
          with_reducible generalize r.l.getD k 0 = rk at *
          with_reducible generalize s.l.getD k 0 = sk at *
          go_wp2
          go_still_tail 9, (by kernel_rfl)
          change wpList _ _ _ _ _ wr.drew
          go_wp2
          go_roundw
          case rel =>
            refine ⟨k + 1, by omega, by go_num, Lib.hid ⟨HB.out.1.far (p := ⟨G, k, none⟩) (by show B ≠ G; omega) _, HB.out.2.1.far (p := ⟨G, k, none⟩) (by show B + 1 ≠ G; omega) _, ?_, HB.out.2.2.2.drew.setCell (by show B ≤ G; omega) _⟩⟩
            rw [← HY.out]
            exact HB.out.2.2.1.set k _
          case measure => simp [intOf]; omega
        · have hd : decide ((k : Int) < 8) = false := by simp; omega
          have hk8 : k = 8 := by omega
          have K0 : Hid (Whole wr G 38 (wds (Sm.mix s b).l).toArray) := Lib.hid (by have := HB.out.2.2.1; rw [hk8] at this; rw [HM.out]; exact this)
          have K1 : Hid (Whole wr (B + 1) 38 (wds (zeros32 8)).toArray) := Lib.hid HB.out.2.1
          have HBL := Lib.hid HB.out.2.2.2
          clear HB hk8 HM
          have hNa := all_wds (Sm.mix s b).l
          have HNS : Hid ((wds (Sm.mix s b).l).toArray.size = 8) := Lib.hid rfl
          have HZ : Hid ((wds (zeros32 8)).toArray.size = 8) := Lib.hid rfl
          with_reducible generalize hN : (wds (Sm.mix s b).l).toArray = N at *
          go_wp2_with (first
            | ((with_reducible show wpList _ _ _ ((⟨_, Op.load 38 _, _, _, _, _⟩ : Oper) :: _) _ _); refine wpList_load_row rfl _ (.tmp 8) rfl G rfl 38 N (0, 0) _ K0.out undW8 rfl (by rw [HNS.out]; exact infoW8) ?_)
            | ((with_reducible show wpList _ _ _ ((⟨_, Op.store 38 _ _, _, _, _, _⟩ : Oper) :: _) _ _); refine wpList_store_row rfl _ (.tmp 6) (.tmp 114) rfl (B + 1) N rfl rfl 38 _ K1.out (by rw [HNS.out]; exact infoW8) (by rw [HZ.out, HNS.out]) hNa ?_))
          refine bodyPost_ret (results_one_cell rfl _ _ _ _ rfl (run_loadVar_row _ _ _ _ _ (0, 0) _ (K1.out.row N) undW8 rfl (by rw [HNS.out]; exact infoW8))) rfl ?_
          exact ⟨by rw [hN], by rw [HBE.out]; exact below_row HBL.out (by omega) N⟩
end Go.Proofs.YtndiojiphoomgaaDoor
