/-
  The document's block: the state behind one more block.
  The document's Sum.
  The document's Code.
  The document's Tree.
-/
import Derived.Test.YtiogfkhmigbgpaaDoorZk
import Derived.Deep.DeepCutAuto
set_option linter.unusedSimpArgs false
namespace Go.Proofs.YtiogfkhmigbgpaaDoor
set_option maxRecDepth 20000
open Go.RowKit
theorem mix_set2 (s r : Sm.St) (k : Nat) (hk : k < 8) : (wds ((Sm.plus s r).l.take k ++ r.l.drop k)).toArray.setIfInBounds k (.int .u32 (num (r.l.getD k 0 + s.l.getD k 0))) = (wds ((Sm.plus s r).l.take (k + 1) ++ r.l.drop (k + 1))).toArray := by
  rw [BitVec.add_comm]
  match k, hk with
  | 0, _ => rfl
  | 1, _ => rfl
  | 2, _ => rfl
  | 3, _ => rfl
  | 4, _ => rfl
  | 5, _ => rfl
  | 6, _ => rfl
  | 7, _ => rfl
theorem wrd_cell {w : World} {S : Nat → Prop} {g n : Nat} {l : List (BitVec 32)} (h : Wrd w S (some ⟨g, 0, none⟩) n l) {k : Nat} (hk : k < n) : w.cell? ⟨g, k, none⟩ = some (.int .u32 (num (l.getD k 0))) := by
  obtain ⟨_, g', he, _, _, hc⟩ := h
  injection he with he
  injection he with e1
  subst e1
  exact hc k hk
set_option maxHeartbeats 4000000 in
set_option maxRecDepth 100000 in
theorem block_any {S S' : Nat → Prop} {ba off c g cap : Nat} (s : Sm.St) (b : List Int) (w : World) (hT : Txt w S (some ⟨ba, off, none⟩) 64 c b) (hK : Wrd w S' (some ⟨g, 0, none⟩) 64 Sm.rK) :
    Calls Tryd.prog 50 #[.agg (wds s.l).toArray, .slice (some ⟨ba, off, none⟩) 64 c, .slice (some ⟨g, 0, none⟩) 64 cap] w fun e w' => e = .returned (.agg (wds (Sm.mix s b).l).toArray) ∧ Below w.heap.size w w' := by
  have HT := Lib.hid hT.old
  have HK : Hid (Wrd w (fun b => b < w.heap.size) (some ⟨g, 0, none⟩) 64 Sm.rK) := Lib.hid (hK.weak fun _ h _ => h)
  clear hT hK
  go_enter Tryd.func50, Tryd.ntmps50
  go_wp2_with fail
  rw [zero8]
  have k0 := (Whole.new w 70 (wds s.l).toArray).alloc (.cells (wds (zeros32 8)).toArray 70)
  have kr := Whole.new (w.alloc (.cells (wds s.l).toArray 70)) 70 (wds (zeros32 8)).toArray
  have hb3 : Below w.heap.size w ((w.alloc (.cells (wds s.l).toArray 70)).alloc (.cells (wds (zeros32 8)).toArray 70)) := (below_alloc w _).alloc (by simp) _
  simp only [size_alloc] at k0 kr
  generalize hw3 : (w.alloc (.cells (wds s.l).toArray 70)).alloc (.cells (wds (zeros32 8)).toArray 70) = w3 at *
  have hz3 : w.heap.size + 1 + 1 = w3.heap.size := by rw [← hw3]; simp
  clear hw3
  refine (words_any b w3 (HT.out.below hb3 (fun _ _ h => h))).mono ?_
  rintro e w4 ⟨rfl, hb4⟩
  have k04 := k0.below hb4 (by omega)
  have kr4 := kr.below hb4 (by omega)
  have hb14 : Below w.heap.size w w4 := hb3.trans (hb4.mono (by omega))
  have hz4 := hb4.size
  generalize hBe : w.heap.size = B at *
  have HBE := Lib.hid hBe
  have H4 := Lib.hid (And.intro k04 (And.intro kr4 hb14))
  have hW : B + 1 < w4.heap.size := by omega
  clear k0 kr hb3 k04 kr4 hb14 hb4 hBe hz3 hz4
  have hNs : (wds (Sm.sched b)).toArray.size = 64 := by simp [wds_len, sched_len]
  have hNa := all_wds (Sm.sched b)
  have hNa2 := all_wds s.l
  have HN2 := Lib.hid hNs
  have HN8 : Hid ((wds s.l).toArray.size = 8) := Lib.hid rfl
  clear hNs
  go_upto_region 2 with (first
    | ((with_reducible show wpList _ _ _ ((⟨_, Op.store 85 _ _, _, _, _, _⟩ : Oper) :: _) _ _); refine wpList_store_row rfl _ (.tmp 7) (.tmp 16) rfl w4.heap.size _ rfl rfl 85 _ (Whole.new _ _ _) (by rw [HN2.out]; exact infoW64) (by rw [HN2.out]; rfl) hNa ?_)
    | fail)
  have k0 : Whole ((w4.alloc (.cells #[Value.int IntKind.u32 0, Value.int IntKind.u32 0, Value.int IntKind.u32 0, Value.int IntKind.u32 0, Value.int IntKind.u32 0, Value.int IntKind.u32 0, Value.int IntKind.u32 0, Value.int IntKind.u32 0, Value.int IntKind.u32 0, Value.int IntKind.u32 0, Value.int IntKind.u32 0, Value.int IntKind.u32 0, Value.int IntKind.u32 0, Value.int IntKind.u32 0, Value.int IntKind.u32 0, Value.int IntKind.u32 0, Value.int IntKind.u32 0, Value.int IntKind.u32 0, Value.int IntKind.u32 0, Value.int IntKind.u32 0, Value.int IntKind.u32 0, Value.int IntKind.u32 0, Value.int IntKind.u32 0, Value.int IntKind.u32 0, Value.int IntKind.u32 0, Value.int IntKind.u32 0, Value.int IntKind.u32 0, Value.int IntKind.u32 0, Value.int IntKind.u32 0, Value.int IntKind.u32 0, Value.int IntKind.u32 0, Value.int IntKind.u32 0, Value.int IntKind.u32 0, Value.int IntKind.u32 0, Value.int IntKind.u32 0, Value.int IntKind.u32 0, Value.int IntKind.u32 0, Value.int IntKind.u32 0, Value.int IntKind.u32 0, Value.int IntKind.u32 0, Value.int IntKind.u32 0, Value.int IntKind.u32 0, Value.int IntKind.u32 0, Value.int IntKind.u32 0, Value.int IntKind.u32 0, Value.int IntKind.u32 0, Value.int IntKind.u32 0, Value.int IntKind.u32 0, Value.int IntKind.u32 0, Value.int IntKind.u32 0, Value.int IntKind.u32 0, Value.int IntKind.u32 0, Value.int IntKind.u32 0, Value.int IntKind.u32 0, Value.int IntKind.u32 0, Value.int IntKind.u32 0, Value.int IntKind.u32 0, Value.int IntKind.u32 0, Value.int IntKind.u32 0, Value.int IntKind.u32 0, Value.int IntKind.u32 0, Value.int IntKind.u32 0, Value.int IntKind.u32 0, Value.int IntKind.u32 0] 85)).setRow w4.heap.size (wds (Sm.sched b)).toArray) B 70 (wds s.l).toArray := put_far H4.out.1
  have kr : Whole ((w4.alloc (.cells #[Value.int IntKind.u32 0, Value.int IntKind.u32 0, Value.int IntKind.u32 0, Value.int IntKind.u32 0, Value.int IntKind.u32 0, Value.int IntKind.u32 0, Value.int IntKind.u32 0, Value.int IntKind.u32 0, Value.int IntKind.u32 0, Value.int IntKind.u32 0, Value.int IntKind.u32 0, Value.int IntKind.u32 0, Value.int IntKind.u32 0, Value.int IntKind.u32 0, Value.int IntKind.u32 0, Value.int IntKind.u32 0, Value.int IntKind.u32 0, Value.int IntKind.u32 0, Value.int IntKind.u32 0, Value.int IntKind.u32 0, Value.int IntKind.u32 0, Value.int IntKind.u32 0, Value.int IntKind.u32 0, Value.int IntKind.u32 0, Value.int IntKind.u32 0, Value.int IntKind.u32 0, Value.int IntKind.u32 0, Value.int IntKind.u32 0, Value.int IntKind.u32 0, Value.int IntKind.u32 0, Value.int IntKind.u32 0, Value.int IntKind.u32 0, Value.int IntKind.u32 0, Value.int IntKind.u32 0, Value.int IntKind.u32 0, Value.int IntKind.u32 0, Value.int IntKind.u32 0, Value.int IntKind.u32 0, Value.int IntKind.u32 0, Value.int IntKind.u32 0, Value.int IntKind.u32 0, Value.int IntKind.u32 0, Value.int IntKind.u32 0, Value.int IntKind.u32 0, Value.int IntKind.u32 0, Value.int IntKind.u32 0, Value.int IntKind.u32 0, Value.int IntKind.u32 0, Value.int IntKind.u32 0, Value.int IntKind.u32 0, Value.int IntKind.u32 0, Value.int IntKind.u32 0, Value.int IntKind.u32 0, Value.int IntKind.u32 0, Value.int IntKind.u32 0, Value.int IntKind.u32 0, Value.int IntKind.u32 0, Value.int IntKind.u32 0, Value.int IntKind.u32 0, Value.int IntKind.u32 0, Value.int IntKind.u32 0, Value.int IntKind.u32 0, Value.int IntKind.u32 0, Value.int IntKind.u32 0] 85)).setRow w4.heap.size (wds (Sm.sched b)).toArray) (B + 1) 70 (wds (zeros32 8)).toArray := put_far H4.out.2.1
  have kw : Whole ((w4.alloc (.cells #[Value.int IntKind.u32 0, Value.int IntKind.u32 0, Value.int IntKind.u32 0, Value.int IntKind.u32 0, Value.int IntKind.u32 0, Value.int IntKind.u32 0, Value.int IntKind.u32 0, Value.int IntKind.u32 0, Value.int IntKind.u32 0, Value.int IntKind.u32 0, Value.int IntKind.u32 0, Value.int IntKind.u32 0, Value.int IntKind.u32 0, Value.int IntKind.u32 0, Value.int IntKind.u32 0, Value.int IntKind.u32 0, Value.int IntKind.u32 0, Value.int IntKind.u32 0, Value.int IntKind.u32 0, Value.int IntKind.u32 0, Value.int IntKind.u32 0, Value.int IntKind.u32 0, Value.int IntKind.u32 0, Value.int IntKind.u32 0, Value.int IntKind.u32 0, Value.int IntKind.u32 0, Value.int IntKind.u32 0, Value.int IntKind.u32 0, Value.int IntKind.u32 0, Value.int IntKind.u32 0, Value.int IntKind.u32 0, Value.int IntKind.u32 0, Value.int IntKind.u32 0, Value.int IntKind.u32 0, Value.int IntKind.u32 0, Value.int IntKind.u32 0, Value.int IntKind.u32 0, Value.int IntKind.u32 0, Value.int IntKind.u32 0, Value.int IntKind.u32 0, Value.int IntKind.u32 0, Value.int IntKind.u32 0, Value.int IntKind.u32 0, Value.int IntKind.u32 0, Value.int IntKind.u32 0, Value.int IntKind.u32 0, Value.int IntKind.u32 0, Value.int IntKind.u32 0, Value.int IntKind.u32 0, Value.int IntKind.u32 0, Value.int IntKind.u32 0, Value.int IntKind.u32 0, Value.int IntKind.u32 0, Value.int IntKind.u32 0, Value.int IntKind.u32 0, Value.int IntKind.u32 0, Value.int IntKind.u32 0, Value.int IntKind.u32 0, Value.int IntKind.u32 0, Value.int IntKind.u32 0, Value.int IntKind.u32 0, Value.int IntKind.u32 0, Value.int IntKind.u32 0, Value.int IntKind.u32 0] 85)).setRow w4.heap.size (wds (Sm.sched b)).toArray) w4.heap.size 85 (wds (Sm.sched b)).toArray := put_row
  have hb5 : Below B w ((w4.alloc (.cells #[Value.int IntKind.u32 0, Value.int IntKind.u32 0, Value.int IntKind.u32 0, Value.int IntKind.u32 0, Value.int IntKind.u32 0, Value.int IntKind.u32 0, Value.int IntKind.u32 0, Value.int IntKind.u32 0, Value.int IntKind.u32 0, Value.int IntKind.u32 0, Value.int IntKind.u32 0, Value.int IntKind.u32 0, Value.int IntKind.u32 0, Value.int IntKind.u32 0, Value.int IntKind.u32 0, Value.int IntKind.u32 0, Value.int IntKind.u32 0, Value.int IntKind.u32 0, Value.int IntKind.u32 0, Value.int IntKind.u32 0, Value.int IntKind.u32 0, Value.int IntKind.u32 0, Value.int IntKind.u32 0, Value.int IntKind.u32 0, Value.int IntKind.u32 0, Value.int IntKind.u32 0, Value.int IntKind.u32 0, Value.int IntKind.u32 0, Value.int IntKind.u32 0, Value.int IntKind.u32 0, Value.int IntKind.u32 0, Value.int IntKind.u32 0, Value.int IntKind.u32 0, Value.int IntKind.u32 0, Value.int IntKind.u32 0, Value.int IntKind.u32 0, Value.int IntKind.u32 0, Value.int IntKind.u32 0, Value.int IntKind.u32 0, Value.int IntKind.u32 0, Value.int IntKind.u32 0, Value.int IntKind.u32 0, Value.int IntKind.u32 0, Value.int IntKind.u32 0, Value.int IntKind.u32 0, Value.int IntKind.u32 0, Value.int IntKind.u32 0, Value.int IntKind.u32 0, Value.int IntKind.u32 0, Value.int IntKind.u32 0, Value.int IntKind.u32 0, Value.int IntKind.u32 0, Value.int IntKind.u32 0, Value.int IntKind.u32 0, Value.int IntKind.u32 0, Value.int IntKind.u32 0, Value.int IntKind.u32 0, Value.int IntKind.u32 0, Value.int IntKind.u32 0, Value.int IntKind.u32 0, Value.int IntKind.u32 0, Value.int IntKind.u32 0, Value.int IntKind.u32 0, Value.int IntKind.u32 0] 85)).setRow w4.heap.size (wds (Sm.sched b)).toArray) := put_below H4.out.2.2 (by omega)
  have hz5 : ((w4.alloc (.cells #[Value.int IntKind.u32 0, Value.int IntKind.u32 0, Value.int IntKind.u32 0, Value.int IntKind.u32 0, Value.int IntKind.u32 0, Value.int IntKind.u32 0, Value.int IntKind.u32 0, Value.int IntKind.u32 0, Value.int IntKind.u32 0, Value.int IntKind.u32 0, Value.int IntKind.u32 0, Value.int IntKind.u32 0, Value.int IntKind.u32 0, Value.int IntKind.u32 0, Value.int IntKind.u32 0, Value.int IntKind.u32 0, Value.int IntKind.u32 0, Value.int IntKind.u32 0, Value.int IntKind.u32 0, Value.int IntKind.u32 0, Value.int IntKind.u32 0, Value.int IntKind.u32 0, Value.int IntKind.u32 0, Value.int IntKind.u32 0, Value.int IntKind.u32 0, Value.int IntKind.u32 0, Value.int IntKind.u32 0, Value.int IntKind.u32 0, Value.int IntKind.u32 0, Value.int IntKind.u32 0, Value.int IntKind.u32 0, Value.int IntKind.u32 0, Value.int IntKind.u32 0, Value.int IntKind.u32 0, Value.int IntKind.u32 0, Value.int IntKind.u32 0, Value.int IntKind.u32 0, Value.int IntKind.u32 0, Value.int IntKind.u32 0, Value.int IntKind.u32 0, Value.int IntKind.u32 0, Value.int IntKind.u32 0, Value.int IntKind.u32 0, Value.int IntKind.u32 0, Value.int IntKind.u32 0, Value.int IntKind.u32 0, Value.int IntKind.u32 0, Value.int IntKind.u32 0, Value.int IntKind.u32 0, Value.int IntKind.u32 0, Value.int IntKind.u32 0, Value.int IntKind.u32 0, Value.int IntKind.u32 0, Value.int IntKind.u32 0, Value.int IntKind.u32 0, Value.int IntKind.u32 0, Value.int IntKind.u32 0, Value.int IntKind.u32 0, Value.int IntKind.u32 0, Value.int IntKind.u32 0, Value.int IntKind.u32 0, Value.int IntKind.u32 0, Value.int IntKind.u32 0, Value.int IntKind.u32 0] 85)).setRow w4.heap.size (wds (Sm.sched b)).toArray).heap.size = w4.heap.size + 1 := put_size
  generalize (w4.alloc (.cells #[Value.int IntKind.u32 0, Value.int IntKind.u32 0, Value.int IntKind.u32 0, Value.int IntKind.u32 0, Value.int IntKind.u32 0, Value.int IntKind.u32 0, Value.int IntKind.u32 0, Value.int IntKind.u32 0, Value.int IntKind.u32 0, Value.int IntKind.u32 0, Value.int IntKind.u32 0, Value.int IntKind.u32 0, Value.int IntKind.u32 0, Value.int IntKind.u32 0, Value.int IntKind.u32 0, Value.int IntKind.u32 0, Value.int IntKind.u32 0, Value.int IntKind.u32 0, Value.int IntKind.u32 0, Value.int IntKind.u32 0, Value.int IntKind.u32 0, Value.int IntKind.u32 0, Value.int IntKind.u32 0, Value.int IntKind.u32 0, Value.int IntKind.u32 0, Value.int IntKind.u32 0, Value.int IntKind.u32 0, Value.int IntKind.u32 0, Value.int IntKind.u32 0, Value.int IntKind.u32 0, Value.int IntKind.u32 0, Value.int IntKind.u32 0, Value.int IntKind.u32 0, Value.int IntKind.u32 0, Value.int IntKind.u32 0, Value.int IntKind.u32 0, Value.int IntKind.u32 0, Value.int IntKind.u32 0, Value.int IntKind.u32 0, Value.int IntKind.u32 0, Value.int IntKind.u32 0, Value.int IntKind.u32 0, Value.int IntKind.u32 0, Value.int IntKind.u32 0, Value.int IntKind.u32 0, Value.int IntKind.u32 0, Value.int IntKind.u32 0, Value.int IntKind.u32 0, Value.int IntKind.u32 0, Value.int IntKind.u32 0, Value.int IntKind.u32 0, Value.int IntKind.u32 0, Value.int IntKind.u32 0, Value.int IntKind.u32 0, Value.int IntKind.u32 0, Value.int IntKind.u32 0, Value.int IntKind.u32 0, Value.int IntKind.u32 0, Value.int IntKind.u32 0, Value.int IntKind.u32 0, Value.int IntKind.u32 0, Value.int IntKind.u32 0, Value.int IntKind.u32 0, Value.int IntKind.u32 0] 85)).setRow w4.heap.size (wds (Sm.sched b)).toArray = w5 at *
  generalize w4.heap.size = W at *
  have hz5' : W < w5.heap.size := by omega
  have H5 := Lib.hid (And.intro k0 (And.intro kr (And.intro kw hb5)))
  clear H4 k0 kr kw hb5 hz5
  go_wp2_with (first
    | ((with_reducible show wpList _ _ _ ((⟨_, Op.load 70 _, _, _, _, _⟩ : Oper) :: _) _ _); refine wpList_load_row rfl _ (.tmp 3) rfl B rfl 70 (wds s.l).toArray (0, 0) _ H5.out.1 undW8 rfl (by rw [HN8.out]; exact infoW8) ?_)
    | ((with_reducible show wpList _ _ _ ((⟨_, Op.store 70 _ _, _, _, _, _⟩ : Oper) :: _) _ _); refine wpList_store_row rfl _ (.tmp 8) (.tmp 17) rfl w5.heap.size _ rfl rfl 70 _ (Whole.new _ _ _) (by rw [HN8.out]; exact infoW8) (by rw [HN8.out]; rfl) hNa2 ?_)
    | fail)
  have k0 : Whole ((w5.alloc (.cells #[Value.int IntKind.u32 0, Value.int IntKind.u32 0, Value.int IntKind.u32 0, Value.int IntKind.u32 0, Value.int IntKind.u32 0, Value.int IntKind.u32 0, Value.int IntKind.u32 0, Value.int IntKind.u32 0] 70)).setRow w5.heap.size (wds s.l).toArray) B 70 (wds s.l).toArray := put_far H5.out.1
  have kr : Whole ((w5.alloc (.cells #[Value.int IntKind.u32 0, Value.int IntKind.u32 0, Value.int IntKind.u32 0, Value.int IntKind.u32 0, Value.int IntKind.u32 0, Value.int IntKind.u32 0, Value.int IntKind.u32 0, Value.int IntKind.u32 0] 70)).setRow w5.heap.size (wds s.l).toArray) (B + 1) 70 (wds (zeros32 8)).toArray := put_far H5.out.2.1
  have kw : Whole ((w5.alloc (.cells #[Value.int IntKind.u32 0, Value.int IntKind.u32 0, Value.int IntKind.u32 0, Value.int IntKind.u32 0, Value.int IntKind.u32 0, Value.int IntKind.u32 0, Value.int IntKind.u32 0, Value.int IntKind.u32 0] 70)).setRow w5.heap.size (wds s.l).toArray) W 85 (wds (Sm.sched b)).toArray := put_far H5.out.2.2.1
  have ks : Whole ((w5.alloc (.cells #[Value.int IntKind.u32 0, Value.int IntKind.u32 0, Value.int IntKind.u32 0, Value.int IntKind.u32 0, Value.int IntKind.u32 0, Value.int IntKind.u32 0, Value.int IntKind.u32 0, Value.int IntKind.u32 0] 70)).setRow w5.heap.size (wds s.l).toArray) w5.heap.size 70 (wds s.l).toArray := put_row
  have hb6 : Below B w ((w5.alloc (.cells #[Value.int IntKind.u32 0, Value.int IntKind.u32 0, Value.int IntKind.u32 0, Value.int IntKind.u32 0, Value.int IntKind.u32 0, Value.int IntKind.u32 0, Value.int IntKind.u32 0, Value.int IntKind.u32 0] 70)).setRow w5.heap.size (wds s.l).toArray) := put_below H5.out.2.2.2 (by omega)
  generalize (w5.alloc (.cells #[Value.int IntKind.u32 0, Value.int IntKind.u32 0, Value.int IntKind.u32 0, Value.int IntKind.u32 0, Value.int IntKind.u32 0, Value.int IntKind.u32 0, Value.int IntKind.u32 0, Value.int IntKind.u32 0] 70)).setRow w5.heap.size (wds s.l).toArray = w6 at *
  generalize w5.heap.size = G at *
  have H6 : Hid (Whole w6 B 70 (wds s.l).toArray ∧ Whole w6 (B + 1) 70 (wds (zeros32 8)).toArray ∧ Whole w6 W 85 (wds (Sm.sched b)).toArray ∧ Whole w6 G 70 (wds s.l).toArray ∧ Below B w w6) := Lib.hid ⟨k0, kr, kw, ks, hb6⟩
  clear H5 k0 kr kw ks hb6 hNa hNa2 HN2
  go_loopw [9] (fun i wr => ∃ t : Nat, t ≤ 64 ∧ i = .int .i64 t ∧ Hid (Whole wr B 70 (wds s.l).toArray ∧ Whole wr (B + 1) 70 (wds (zeros32 8)).toArray ∧ Whole wr W 85 (wds (Sm.sched b)).toArray ∧ Whole wr G 70 (wds (Sm.stepsTo s (Sm.sched b) t).l).toArray ∧ Below B w wr)) (fun i _ => 64 - (intOf i).toNat)
  case atStart => exact ⟨0, Nat.zero_le _, rfl, H6⟩
  case round =>
    clear H6
    obtain ⟨t, ht, rfl, HB⟩ := hrel
    by_cases hlt : t < 64
    · obtain ⟨kt, xt, r', ck, cw, HS⟩ : ∃ kt xt r', wr.cell? ⟨g, t, none⟩ = some (.int .u32 (num kt)) ∧ wr.cell? ⟨W, t, none⟩ = some (.int .u32 (num xt)) ∧ Hid (Sm.stepsTo s (Sm.sched b) (t + 1) = r' ∧ r' = Sm.step (Sm.stepsTo s (Sm.sched b) t) kt xt) :=
        ⟨_, _, _, wrd_cell (HK.out.below HB.out.2.2.2.2 (fun _ _ h => h)) hlt, (HB.out.2.2.1.cell t).trans (by rw [List.getElem?_toArray, wds_get _ _ (by rw [sched_len]; omega)]), Lib.hid ⟨rfl, rfl⟩⟩
      with_reducible generalize Sm.stepsTo s (Sm.sched b) t = r at *
      have hd : decide ((t : Int) < 64) = true := by simp; omega
      have c0 : wr.cell? ⟨G, 0, none⟩ = some (.int .u32 (num r.a)) := HB.out.2.2.2.1.cell 0
      have c1 : wr.cell? ⟨G, 1, none⟩ = some (.int .u32 (num r.b)) := HB.out.2.2.2.1.cell 1
      have c2 : wr.cell? ⟨G, 2, none⟩ = some (.int .u32 (num r.c)) := HB.out.2.2.2.1.cell 2
      have c3 : wr.cell? ⟨G, 3, none⟩ = some (.int .u32 (num r.d)) := HB.out.2.2.2.1.cell 3
      have c4 : wr.cell? ⟨G, 4, none⟩ = some (.int .u32 (num r.e)) := HB.out.2.2.2.1.cell 4
      have c5 : wr.cell? ⟨G, 5, none⟩ = some (.int .u32 (num r.f)) := HB.out.2.2.2.1.cell 5
      have c6 : wr.cell? ⟨G, 6, none⟩ = some (.int .u32 (num r.g)) := HB.out.2.2.2.1.cell 6
      have c7 : wr.cell? ⟨G, 7, none⟩ = some (.int .u32 (num r.h)) := HB.out.2.2.2.1.cell 7
      have hnot : bits .xor .u32 (if IntKind.u32.signed = true then -1 else IntKind.u32.max) (num r.e) = num (~~~r.e) := num_not r.e
      have hch : bits .xor .u32 (bits .and .u32 (num r.e) (num r.f)) (bits .and .u32 (num (~~~r.e)) (num r.g)) = num (Sm.ch r.e r.f r.g) := by rw [num_and, num_and, num_xor]; rfl
      have hE : bits .xor .u32 (bits .xor .u32 (num (r.e.rotateRight 6)) (num (r.e.rotateRight 11))) (num (r.e.rotateRight 25)) = num (Sm.sE r.e) := by rw [num_xor, num_xor]; rfl
      have q0 : (t : Int) < 64 := by omega
      go_wp2
      refine wp_region_quiet_lit (by kernel_rfl) (by kernel_rfl) ?_
      iterate 3 (quiet_step (fail))
      quiet_step ((go_at_call 57; exact Calls.quiet_of_same ((turn6 r.e _).mono fun e w'' h => ⟨h.1, h.2.symm⟩)))
      iterate 1 (quiet_step (fail))
      quiet_step ((go_at_call 57; exact Calls.quiet_of_same ((turn11 r.e _).mono fun e w'' h => ⟨h.1, h.2.symm⟩)))
      iterate 2 (quiet_step (fail))
      quiet_step ((go_at_call 57; exact Calls.quiet_of_same ((turn25 r.e _).mono fun e w'' h => ⟨h.1, h.2.symm⟩)))
      iterate 23 (quiet_step (fail))
      refine wpQuiet_nil ?_
      intro _ hw'
      obtain ⟨nq, hw''⟩ := hw'
      subst hw''
      clear hnot hch hE ck cw
      simp only [num_wadd]
      have HBN : Hid (Whole (wr.drewN nq) B 70 (wds s.l).toArray ∧ Whole (wr.drewN nq) (B + 1) 70 (wds (zeros32 8)).toArray ∧ Whole (wr.drewN nq) W 85 (wds (Sm.sched b)).toArray ∧ Whole (wr.drewN nq) G 70 (wds r.l).toArray ∧ Below B w (wr.drewN nq)) := Lib.hid ⟨HB.out.1, HB.out.2.1, HB.out.2.2.1, HB.out.2.2.2.1, below_drewN HB.out.2.2.2.2 nq⟩
      obtain ⟨T1, hT1⟩ : ∃ T1, r.h + Sm.sE r.e + Sm.ch r.e r.f r.g + kt + xt = T1 := ⟨_, rfl⟩
      rw [hT1]
      have HT1 := Lib.hid hT1
      clear hT1 HB
      generalize wr.drewN nq = wq at *
      have c0 : wq.cell? ⟨G, 0, none⟩ = some (.int .u32 (num r.a)) := HBN.out.2.2.2.1.cell 0
      have c1 : wq.cell? ⟨G, 1, none⟩ = some (.int .u32 (num r.b)) := HBN.out.2.2.2.1.cell 1
      have c2 : wq.cell? ⟨G, 2, none⟩ = some (.int .u32 (num r.c)) := HBN.out.2.2.2.1.cell 2
      have hA : bits .xor .u32 (bits .xor .u32 (num (r.a.rotateRight 2)) (num (r.a.rotateRight 13))) (num (r.a.rotateRight 22)) = num (Sm.sA r.a) := by rw [num_xor, num_xor]; rfl
      have hmj : bits .xor .u32 (bits .xor .u32 (bits .and .u32 (num r.a) (num r.b)) (bits .and .u32 (num r.a) (num r.c))) (bits .and .u32 (num r.b) (num r.c)) = num (Sm.mj r.a r.b r.c) := by rw [num_and, num_and, num_and, num_xor, num_xor]; rfl
      go_wp2
      refine wp_region_quiet_lit (by kernel_rfl) (by kernel_rfl) ?_
      iterate 1 (quiet_step (fail))
      quiet_step ((go_at_call 57; exact Calls.quiet_of_same ((turn2 r.a _).mono fun e w'' h => ⟨h.1, h.2.symm⟩)))
      iterate 1 (quiet_step (fail))
      quiet_step ((go_at_call 57; exact Calls.quiet_of_same ((turn13 r.a _).mono fun e w'' h => ⟨h.1, h.2.symm⟩)))
      iterate 2 (quiet_step (fail))
      quiet_step ((go_at_call 57; exact Calls.quiet_of_same ((turn22 r.a _).mono fun e w'' h => ⟨h.1, h.2.symm⟩)))
      iterate 18 (quiet_step (fail))
      refine wpQuiet_nil ?_
      intro _ hw'
      obtain ⟨nq, hw''⟩ := hw'
      subst hw''
      clear hA hmj c0 c1 c2
      simp only [num_wadd]
      obtain ⟨T2, hT2⟩ : ∃ T2, Sm.sA r.a + Sm.mj r.a r.b r.c = T2 := ⟨_, rfl⟩
      rw [hT2]
      have HT2 := Lib.hid hT2
      clear hT2
      have HBM : Hid (Whole (wq.drewN nq) B 70 (wds s.l).toArray ∧ Whole (wq.drewN nq) (B + 1) 70 (wds (zeros32 8)).toArray ∧ Whole (wq.drewN nq) W 85 (wds (Sm.sched b)).toArray ∧ Whole (wq.drewN nq) G 70 (wds r.l).toArray ∧ Below B w (wq.drewN nq)) := Lib.hid ⟨HBN.out.1, HBN.out.2.1, HBN.out.2.2.1, HBN.out.2.2.2.1, below_drewN HBN.out.2.2.2.2 nq⟩
      clear HBN
      generalize wq.drewN nq = wp at *
      have c0 : wp.cell? ⟨G, 0, none⟩ = some (.int .u32 (num r.a)) := HBM.out.2.2.2.1.cell 0
      have c1 : wp.cell? ⟨G, 1, none⟩ = some (.int .u32 (num r.b)) := HBM.out.2.2.2.1.cell 1
      have c2 : wp.cell? ⟨G, 2, none⟩ = some (.int .u32 (num r.c)) := HBM.out.2.2.2.1.cell 2
      have c3 : wp.cell? ⟨G, 3, none⟩ = some (.int .u32 (num r.d)) := HBM.out.2.2.2.1.cell 3
      have c4 : wp.cell? ⟨G, 4, none⟩ = some (.int .u32 (num r.e)) := HBM.out.2.2.2.1.cell 4
      have c5 : wp.cell? ⟨G, 5, none⟩ = some (.int .u32 (num r.f)) := HBM.out.2.2.2.1.cell 5
      have c6 : wp.cell? ⟨G, 6, none⟩ = some (.int .u32 (num r.g)) := HBM.out.2.2.2.1.cell 6
      have s1 : (num T1 + num T2) % 4294967296 = num (T1 + T2) := num_add _ _
      have s2 : (num r.d + num T1) % 4294967296 = num (r.d + T1) := num_add _ _
      have HR' : Hid (r' = ⟨T1 + T2, r.a, r.b, r.c, r.d + T1, r.e, r.f, r.g⟩) := Lib.hid (by rw [HS.out.2, ← HT2.out, ← HT1.out]; rfl)
      have HN8r : Hid ((wds r.l).toArray.size = 8) := Lib.hid rfl
      have HN8' : Hid ((wds r'.l).toArray.size = 8) := Lib.hid rfl
      have hNa' := all_wds r'.l
      go_wp2_with (first
        | ((with_reducible show wpList _ _ _ ((⟨_, Op.store 70 _ _, _, _, _, _⟩ : Oper) :: _) _ _); refine wpList_store_row rfl _ (.tmp 8) (.tmp 100) rfl G (wds r'.l).toArray rfl (by rw [HR'.out]; rfl) 70 _ HBM.out.2.2.2.1 (by rw [HN8'.out]; exact infoW8) (by rw [HN8'.out, HN8r.out]) hNa' ?_)
        | fail)
      go_roundw
      case rel =>
        refine ⟨t + 1, by omega, by go_num, ?_⟩
        rw [HS.out.1]
        exact Lib.hid ⟨HBM.out.1.rowFar (by omega) _, HBM.out.2.1.rowFar (by omega) _, HBM.out.2.2.1.rowFar (by omega) _, HBM.out.2.2.2.1.row _, below_row HBM.out.2.2.2.2 (by omega) _⟩
      case measure => simp [intOf]; omega
    · have hd : decide ((t : Int) < 64) = false := by simp; omega
      have HT : Hid (t = 64) := Lib.hid (by omega)
      have HM : Hid (Sm.mix s b = Sm.plus s (Sm.stepsTo s (Sm.sched b) t)) := Lib.hid (by rw [HT.out]; rfl)
      with_reducible generalize Sm.stepsTo s (Sm.sched b) t = r at *
      go_wp2
      have H7 := HB
      clear HB
      go_loopw [14] (fun i wr => ∃ k : Nat, k ≤ 8 ∧ i = .int .i64 k ∧ Hid (Whole wr B 70 (wds s.l).toArray ∧ Whole wr (B + 1) 70 (wds (zeros32 8)).toArray ∧ Whole wr G 70 (wds ((Sm.plus s r).l.take k ++ r.l.drop k)).toArray ∧ Below B w wr)) (fun i _ => 8 - (intOf i).toNat)
      case atStart => exact ⟨0, Nat.zero_le _, rfl, Lib.hid ⟨H7.out.1, H7.out.2.1, H7.out.2.2.2.1, H7.out.2.2.2.2⟩⟩
      case round =>
        clear H7
        obtain ⟨k, hk, rfl, HB⟩ := hrel
        by_cases hlt : k < 8
        · have hd : decide ((k : Int) < 8) = true := by simp; omega
          have q0 : (k : Int) < 8 := by omega
          have ch : wr.cell? ⟨B, k, none⟩ = some (.int .u32 (num (s.l.getD k 0))) := (HB.out.1.cell k).trans (by rw [List.getElem?_toArray, wds_get _ _ (by simp [Sm.St.l]; omega)])
          have cs : wr.cell? ⟨G, k, none⟩ = some (.int .u32 (num (r.l.getD k 0))) := (HB.out.2.2.1.cell k).trans (by rw [List.getElem?_toArray, wds_get _ _ (by simp [Sm.St.l]; omega), mix_get (Sm.plus s r).l r.l k rfl hlt])
          have fw : wr.frozen? ⟨G, k, none⟩ = false := HB.out.2.2.1.frozen k
          obtain ⟨y, hy, HY⟩ : ∃ y, num (r.l.getD k 0 + s.l.getD k 0) = num y ∧ Hid ((wds ((Sm.plus s r).l.take k ++ r.l.drop k)).toArray.setIfInBounds k (.int .u32 (num y)) = (wds ((Sm.plus s r).l.take (k + 1) ++ r.l.drop (k + 1))).toArray) := ⟨_, rfl, Lib.hid (mix_set2 s r k hlt)⟩
          have hv : IntKind.u32.wrap (num (r.l.getD k 0) + num (s.l.getD k 0)) = num y := (num_wadd _ _).trans hy
          clear hy
          with_reducible generalize r.l.getD k 0 = rk at *
          with_reducible generalize s.l.getD k 0 = sk at *
          go_wp2
          go_still_tail 9, (by kernel_rfl)
          change wpList _ _ _ _ _ wr.drew
          go_wp2
          go_roundw
          case rel =>
            refine ⟨k + 1, by omega, by go_num, Lib.hid ⟨HB.out.1.far (p := ⟨G, k, none⟩) (by show B ≠ G; omega) _, HB.out.2.1.far (p := ⟨G, k, none⟩) (by show B + 1 ≠ G; omega) _, ?_, HB.out.2.2.2.drew.setCell (by show B ≤ G; omega) _⟩⟩
            rw [← HY.out]
            exact HB.out.2.2.1.set k _
          case measure => simp [intOf]; omega
        · have hd : decide ((k : Int) < 8) = false := by simp; omega
          have hk8 : k = 8 := by omega
          have K0 : Hid (Whole wr G 70 (wds (Sm.mix s b).l).toArray) := Lib.hid (by have := HB.out.2.2.1; rw [hk8] at this; rw [HM.out]; exact this)
          have K1 : Hid (Whole wr (B + 1) 70 (wds (zeros32 8)).toArray) := Lib.hid HB.out.2.1
          have HBL := Lib.hid HB.out.2.2.2
          clear HB hk8 HM
          have hNa := all_wds (Sm.mix s b).l
          have HNS : Hid ((wds (Sm.mix s b).l).toArray.size = 8) := Lib.hid rfl
          have HZ : Hid ((wds (zeros32 8)).toArray.size = 8) := Lib.hid rfl
          with_reducible generalize hN : (wds (Sm.mix s b).l).toArray = N at *
          go_wp2_with (first
            | ((with_reducible show wpList _ _ _ ((⟨_, Op.load 70 _, _, _, _, _⟩ : Oper) :: _) _ _); refine wpList_load_row rfl _ (.tmp 8) rfl G rfl 70 N (0, 0) _ K0.out undW8 rfl (by rw [HNS.out]; exact infoW8) ?_)
            | ((with_reducible show wpList _ _ _ ((⟨_, Op.store 70 _ _, _, _, _, _⟩ : Oper) :: _) _ _); refine wpList_store_row rfl _ (.tmp 6) (.tmp 114) rfl (B + 1) N rfl rfl 70 _ K1.out (by rw [HNS.out]; exact infoW8) (by rw [HZ.out, HNS.out]) hNa ?_))
          refine bodyPost_ret (results_one_cell rfl _ _ _ _ rfl (run_loadVar_row _ _ _ _ _ (0, 0) _ (K1.out.row N) undW8 rfl (by rw [HNS.out]; exact infoW8))) rfl ?_
          exact ⟨by rw [hN], by rw [HBE.out]; exact below_row HBL.out (by omega) N⟩
end Go.Proofs.YtiogfkhmigbgpaaDoor
set_option linter.unusedSimpArgs false
namespace Go.Proofs.YtiogfkhmigbgpaaDoor
set_option maxRecDepth 20000
open Go.RowKit
theorem roots64_any (w : World) : Calls Tryd.prog 49 #[.int .i64 64, .int .i64 3] w fun e w' => ∃ g cap, e = .returned (.slice (some ⟨g, 0, none⟩) 64 cap) ∧ w.heap.size ≤ g ∧ g < w'.heap.size ∧ Hid (Wrd w' (w.heap.size ≤ ·) (some ⟨g, 0, none⟩) 64 Sm.rK) ∧ Below w.heap.size w w' :=
  (roots_any 64 3 (by omega) (by omega) (Or.inr rfl) w).mono fun e w' ⟨q, cap, he, hw, hb⟩ => by
    obtain ⟨h1, g, rfl, h3, h4, h5⟩ := hw
    exact ⟨g, cap, he, h3, h4, Lib.hid (by rw [← rts3]; exact ⟨h1, g, rfl, h3, h4, h5⟩), hb⟩
theorem roots8_any (w : World) : Calls Tryd.prog 49 #[.int .i64 8, .int .i64 2] w fun e w' => ∃ g cap, e = .returned (.slice (some ⟨g, 0, none⟩) 8 cap) ∧ w.heap.size ≤ g ∧ g < w'.heap.size ∧ Hid (Wrd w' (w.heap.size ≤ ·) (some ⟨g, 0, none⟩) 8 Sm.rH) ∧ Below w.heap.size w w' :=
  (roots_any 8 2 (by omega) (by omega) (Or.inl rfl) w).mono fun e w' ⟨q, cap, he, hw, hb⟩ => by
    obtain ⟨h1, g, rfl, h3, h4, h5⟩ := hw
    exact ⟨g, cap, he, h3, h4, Lib.hid (by rw [← rts2]; exact ⟨h1, g, rfl, h3, h4, h5⟩), hb⟩
/-- A text with its end mark and j bytes 0 behind. -/
def padTo (l : List Int) (j : Nat) : List Int := l ++ 128 :: zs j
/-- .. and as many bytes 0 as there are, and the first k bytes of its number of bits. -/
def pad8 (l : List Int) (k : Nat) : List Int := padTo l (Sm.noughts l.length) ++ (Sm.bits8 l.length).take k
theorem padTo_len (l : List Int) (j : Nat) : (padTo l j).length = l.length + 1 + j := by simp [padTo, zs]; omega
theorem padTo_succ (l : List Int) (j : Nat) : padTo l (j + 1) = padTo l j ++ [0] := by
  unfold padTo zs
  rw [List.replicate_succ']
  simp
theorem pad8_zero (l : List Int) : pad8 l 0 = padTo l (Sm.noughts l.length) := by simp [pad8]
theorem pad8_succ (l : List Int) (k : Nat) (hk : k < 8) : pad8 l (k + 1) = pad8 l k ++ [((8 * l.length / 2 ^ (56 - 8 * k) % 256 : Nat) : Int)] := by
  unfold pad8
  have : k < (Sm.bits8 l.length).length := by rw [bits8_len]; exact hk
  have hk1 : (Sm.bits8 l.length).take (k + 1) = (Sm.bits8 l.length).take k ++ [(Sm.bits8 l.length).getD k 0] := by
    rw [List.take_succ_eq_append_getElem this]
    simp [this]
  rw [hk1, bits8_get _ _ hk]
  simp
theorem pad8_end (l : List Int) : pad8 l 8 = Sm.padded l := by
  unfold pad8 padTo Sm.padded Sm.tail zs
  rw [List.take_of_length_le (by rw [bits8_len]; omega)]
  simp
theorem padded_len (l : List Int) : (Sm.padded l).length = l.length + 1 + Sm.noughts l.length + 8 := by
  rw [← pad8_end, pad8, List.length_append, padTo_len, List.length_take, bits8_len]; rfl
theorem padded_64 (l : List Int) : (Sm.padded l).length % 64 = 0 := by rw [padded_len]; unfold Sm.noughts; omega
theorem byt_padTo {l : List Int} (h : Byt l) (j : Nat) : Byt (padTo l j) := byt_append h (byt_cons (by omega) (by omega) (byt_zeros j))
theorem byt_padded {l : List Int} (h : Byt l) : Byt (Sm.padded l) := by
  rw [← pad8_end]; exact byt_append (byt_padTo h _) (byt_take (byt_bits8 _) 8)
theorem slice_block {g n c i j : Nat} (h1 : i ≤ j) (h2 : j ≤ c) (h3 : i < c) (w : World) : (Instr.slice 35 (.slice (some ⟨g, 0, none⟩) n c) (some (.int .i64 (i : Int))) (some (.int .i64 (j : Int))) none).run Tryd.prog w = .ok (.slice (some ⟨g, i, none⟩) (j - i) (c - i)) w := by
  have hb : (0 : Int) ≤ (j : Int) ∧ (j : Int) ≤ (c : Int) := by omega
  have ha : (0 : Int) ≤ (i : Int) ∧ (i : Int) ≤ (j : Int) := by omega
  simp only [Instr.slice, Instr.sliceBounds, Instr.sliceBound, Sem.run_bind, Sem.run_pure, Result.andThen_ok, run_underlying Tryd.underlying35, asIntOf, if_pos hb, if_pos ha, sz_u8, Int.toNat_natCast]
  rw [if_neg (by omega)]
  simp [Addr.add_lit]
theorem txt_block {w : World} {S : Nat → Prop} {g n c i : Nat} {l : List Int} (h : Txt w S (some ⟨g, 0, none⟩) n c l) (hi : i + 64 ≤ n) : Txt w S (some ⟨g, i, none⟩) 64 (c - i) ((l.drop i).take 64) := by
  have hc := h.2.1
  have h2 := (h.drop i (by omega)).take 64 (by omega)
  rw [if_neg (by omega)] at h2
  simpa [Addr.add_lit] using h2
theorem first_set (k : Nat) (hk : k < 8) : (wds (Sm.rH.take k ++ (zeros32 8).drop k)).toArray.setIfInBounds k (.int .u32 (num (Sm.rH.getD k 0))) = (wds (Sm.rH.take (k + 1) ++ (zeros32 8).drop (k + 1))).toArray := by
  match k, hk with
  | 0, _ => rfl
  | 1, _ => rfl
  | 2, _ => rfl
  | 3, _ => rfl
  | 4, _ => rfl
  | 5, _ => rfl
  | 6, _ => rfl
  | 7, _ => rfl
theorem bytesOf_get (l : List (BitVec 32)) (u v : Nat) (hv : v < 4) (hu : u < l.length) : (Sm.bytesOf l).getD (4 * u + v) 0 = Sm.byteOf (l.getD u 0) v := by
  induction l generalizing u with
  | nil => simp at hu
  | cons x l ih =>
    have e : Sm.bytesOf (x :: l) = [Sm.byteOf x 0, Sm.byteOf x 1, Sm.byteOf x 2, Sm.byteOf x 3] ++ Sm.bytesOf l := rfl
    rw [e]
    cases u with
    | zero =>
      match v, hv with
      | 0, _ => rfl
      | 1, _ => rfl
      | 2, _ => rfl
      | 3, _ => rfl
    | succ u =>
      have := ih u (by simpa using hu)
      simp only [List.getD_eq_getElem?_getD] at this ⊢
      rw [List.getElem?_append_right (by simp; omega), show 4 * (u + 1) + v - [Sm.byteOf x 0, Sm.byteOf x 1, Sm.byteOf x 2, Sm.byteOf x 3].length = 4 * u + v by simp; omega, this]
      simp
theorem byteOf_int (x : BitVec 32) (v : Nat) : num x / 2 ^ (24 - 8 * v) % 256 = Sm.byteOf x v := by unfold num Sm.byteOf; simp
theorem out_set (l : List Int) (k : Nat) (hl : l.length = 32) (hk : k < 32) : (nums (l.take k ++ zs (32 - k))).toArray.setIfInBounds k (.int .u8 (l.getD k 0)) = (nums (l.take (k + 1) ++ zs (32 - (k + 1)))).toArray := by
  have e : zs (32 - k) = 0 :: zs (32 - (k + 1)) := by
    unfold zs
    rw [show 32 - k = (32 - (k + 1)) + 1 by omega, List.replicate_succ]
  have hlt : k < l.length := by omega
  have e2 : l.take (k + 1) = l.take k ++ [l.getD k 0] := by
    rw [List.take_succ_eq_append_getElem hlt]
    simp [hlt]
  rw [e, nums_set (l.take k) _ _ _ k (by simp; omega), e2]
  simp
set_option maxHeartbeats 4000000 in
set_option maxRecDepth 100000 in
theorem rsum_any {S : Nat → Prop} {a : Option Addr} {n c : Nat} {l : List Int} {w : World} (h : Txt w S a n c l) (hn : n ≤ 900000) :
    Calls Tryd.prog 45 #[.slice a n c] w fun e w' => e = .returned (.agg (nums (Sm.dig l)).toArray) ∧ Below w.heap.size w w' := by
  obtain ⟨i0, hi0, hz0, hz1, hz2⟩ := info_parts u8_info
  have HI := Lib.hid (And.intro hi0 (And.intro hz0 (And.intro hz1 hz2)))
  clear hi0 hz0 hz1 hz2
  have HT := Lib.hid h.old
  have HLN : Hid (l.length = n) := Lib.hid h.1
  have HBY : Hid (Byt l) := Lib.hid h.2.2.1
  clear h
  go_enter Tryd.func45, Tryd.ntmps45
  go_upto_region 1 with (fail)
  rw [zero32z]
  have k0 := Whole.new w 32 (nums (zs 32)).toArray
  have b0 := below_alloc w (.cells (nums (zs 32)).toArray 32)
  generalize hw0 : w.alloc (.cells (nums (zs 32)).toArray 32) = w0 at *
  have hs0 : w.heap.size + 1 = w0.heap.size := by rw [← hw0]; simp
  have HT0 := Lib.hid (HT.out.below b0 (fun _ _ h => h))
  clear hw0
  generalize hBe : w.heap.size = B at *
  have HBE := Lib.hid hBe
  have K0 := Lib.hid (And.intro k0 b0)
  have HD : Hid (B + 1 = w0.heap.size) := Lib.hid hs0
  have hD : B + 1 ≤ w0.heap.size := Nat.le_of_eq hs0
  clear hBe k0 b0 hs0
  go_wp2_with (at_builtin; refine wpList_append_txt _ rfl (.tmp 13) (.tmp 14) 35 rfl (B + 1) 5 i0 (.int .u8 0) 1 Tryd.underlying35 HI.out.1 HI.out.2.1 HI.out.2.2.1 HI.out.2.2.2 rfl _ 0 [] rfl ?c1 (fun b => b < B) a n c l rfl ?c2 ?c3 ?c4 ?c5 ?_)
  case c1 => exact World.ownsRow_lit w0 #[] 0 hD (by unfold maxLen; omega) rfl
  case c2 => exact HT0.out.keep (by simp) fun b hb _ => Below.heap_alloc _ _ _ hb
  case c3 => unfold maxLen; omega
  case c4 => omega
  case c5 => simp; omega
  intro v1 w1 hown hg _
  have HO1 := Lib.hid hown
  have HB1 : Hid (Below (B + 1) w0 w1) := Lib.hid (((Below.refl _ _).alloc hD _).grown hg (by simp; omega) (fun k hk => by simp [Value.ownBlock] at hk; omega))
  clear hown hg
  obtain ⟨q1, cap1, rfl⟩ := row_form HO1.out
  have z1 : B + 1 ≤ w1.heap.size := Nat.le_trans hD HB1.out.size
  go_wp2_with (at_builtin; refine wpList_append_one rfl (.tmp 15) (.tmp 16) 35 5 (.int .u8 0) 1 rfl Tryd.underlying35 u8_info rfl (by omega) (B + 1) _ n (nums l) rfl (HO1.out.alloc _) w1.heap.size 5 (.int .u8 128) rfl (Whole.new _ _ _) rfl (by omega) (by simp; omega) ?_)
  intro v2 w2 hown hg
  have HO2 : Hid (w2.ownsRow (B + 1) 5 1 v2 (n + 1) (nums (padTo l 0))) := Lib.hid (by simpa [padTo, zs, nums] using hown)
  have HB2 : Hid (Below (B + 1) w0 w2) := Lib.hid ((HB1.out.alloc z1 _).grown hg (by simp; omega) (fun k hk => (HO1.out.lt k hk).1))
  clear hown hg HO1 HB1 z1
  obtain ⟨q2, cap2, rfl⟩ := row_form HO2.out
  go_wp2
  obtain ⟨z, hz⟩ : ∃ z, Sm.noughts n = z := ⟨_, rfl⟩
  have hz64 : z < 64 := by rw [← hz]; exact noughts_lt n
  have hzm : (n + 1 + z) % 64 = 56 := by rw [← hz]; unfold Sm.noughts; omega
  have HZ := Lib.hid hz
  have HZM := Lib.hid hzm
  clear hz hzm
  go_loopw [3] (fun v wr => ∃ (j : Nat) (q : Option Addr) (cap : Nat), j ≤ z ∧ v = .slice q (n + 1 + j) cap ∧ Hid (wr.ownsRow (B + 1) 5 1 (.slice q (n + 1 + j) cap) (n + 1 + j) (nums (padTo l j)) ∧ Below (B + 1) w0 wr)) (fun v _ => match v with | .slice _ m _ => n + 1 + z - m | _ => 0)
  case atStart => exact ⟨0, q2, cap2, Nat.zero_le _, rfl, Lib.hid ⟨HO2.out, HB2.out⟩⟩
  case round =>
    clear HO2 HB2
    obtain ⟨j, q, cap, hj, rfl, HJ⟩ := hrel
    have zj : B + 1 ≤ wr.heap.size := Nat.le_trans hD HJ.out.2.size
    obtain ⟨m, hm⟩ : ∃ m, n + 1 + j = m := ⟨_, rfl⟩
    rw [hm] at HJ
    rw [hm]
    have hm1 : m ≤ 900100 := by omega
    have HM := Lib.hid hm
    clear hm
    obtain ⟨r, hr⟩ : ∃ r, m % 64 = r := ⟨_, rfl⟩
    have hmod : ((m : Int)).tmod 64 = (r : Int) := by rw [← hr]; rfl
    have HRR := Lib.hid hr
    clear hr
    by_cases hlt : j < z
    · have hne : r ≠ 56 := by have := HZM.out; have := HM.out; have := HRR.out; omega
      have he1 : ((r : Int) == 56) = false := by rw [beq_eq_false_iff_ne]; omega
      have he2 : ((r : Int) != 56) = true := by rw [bne_iff_ne]; omega
      clear hne
      go_wp2_with (at_builtin; refine wpList_append_one rfl (.tmp 22) (.tmp 23) 35 5 (.int .u8 0) 1 rfl Tryd.underlying35 u8_info rfl (by omega) (B + 1) _ m (nums (padTo l j)) rfl (HJ.out.1.alloc _) wr.heap.size 5 (.int .u8 0) rfl (Whole.new _ _ _) rfl (by omega) (by simp; omega) ?_)
      intro v5 w5 hown hg
      have HO5 : Hid (w5.ownsRow (B + 1) 5 1 v5 (m + 1) (nums (padTo l (j + 1)))) := Lib.hid (by rw [padTo_succ]; simpa [nums] using hown)
      have HB5 : Hid (Below (B + 1) w0 w5) := Lib.hid ((HJ.out.2.alloc zj _).grown hg (by simp; omega) (fun k hk => (HJ.out.1.lt k hk).1))
      clear hown hg
      obtain ⟨q5, cap5, rfl⟩ := row_form HO5.out
      go_wp2
      go_roundw
      case rel => 
        have e : m + 1 = n + 1 + (j + 1) := by have := HM.out; omega
        exact ⟨j + 1, q5, cap5, by omega, by rw [← e], Lib.hid ⟨by rw [← e]; exact HO5.out, HB5.out⟩⟩
      case measure => have := HM.out; simp; omega
    · have hjz : j = z := Nat.le_antisymm hj (Nat.le_of_not_lt hlt)
      have hne : r = 56 := by have := HZM.out; have := HM.out; have := HRR.out; omega
      have he1 : ((r : Int) == 56) = true := by rw [beq_iff_eq]; omega
      have he2 : ((r : Int) != 56) = false := by rw [bne_eq_false_iff_eq]; omega
      have HJZ := Lib.hid hjz
      clear hne hjz
      go_wp2
      have HP : Hid (wr.ownsRow (B + 1) 5 1 (.slice q m cap) m (nums (pad8 l 0)) ∧ Below (B + 1) w0 wr) := Lib.hid (by rw [pad8_zero, HLN.out, HZ.out, ← HJZ.out]; exact HJ.out)
      have HMM : Hid (m = n + 1 + z) := Lib.hid (by rw [← HM.out, HJZ.out])
      clear HJ HM HRR hmod he1 he2 HJZ hj hlt zj
      go_loopw [3, 5] (fun v i wr => ∃ (t k : Nat) (q : Option Addr) (cap : Nat), t + k = 8 ∧ i = .int .i64 ((t : Int) - 1) ∧ v = .slice q (m + k) cap ∧ Hid (wr.ownsRow (B + 1) 5 1 (.slice q (m + k) cap) (m + k) (nums (pad8 l k)) ∧ Below (B + 1) w0 wr)) (fun _ i _ => (intOf i + 1).toNat)
      case atStart => exact ⟨8, 0, q, cap, rfl, rfl, rfl, HP⟩
      case round =>
        clear HP
        obtain ⟨t, k, q, cap, htk, rfl, rfl, HJ⟩ := hrel
        have zj : B + 1 ≤ wr.heap.size := Nat.le_trans hD HJ.out.2.size
        cases t with
        | succ u =>
          rw [show (((u + 1 : Nat) : Int) - 1) = (u : Int) by omega]
          have hu : u < 8 := by omega
          have hk : k = 7 - u := by omega
          have HK := Lib.hid hk
          clear hk
          go_wp2_with (at_builtin; refine wpList_append_one rfl (.tmp 33) (.tmp 40) 35 5 (.int .u8 0) 1 rfl Tryd.underlying35 u8_info rfl (by omega) (B + 1) _ (m + k) (nums (pad8 l k)) rfl (HJ.out.1.alloc _) wr.heap.size 5 _ rfl (Whole.new _ _ _) rfl (by omega) (by simp; omega) ?_)
          intro v5 w5 hown hg
          have HO5 : Hid (w5.ownsRow (B + 1) 5 1 v5 (m + (k + 1)) (nums (pad8 l (k + 1)))) := Lib.hid (by
            have e : (n : Int) * 8 / 2 ^ (8 * u) % 256 = ((8 * l.length / 2 ^ (56 - 8 * k) % 256 : Nat) : Int) := by
              rw [HLN.out, show 56 - 8 * k = 8 * u by have := HK.out; omega, Nat.mul_comm 8 n]
              simp
            rw [e] at hown
            rw [pad8_succ l k (by have := HK.out; omega), nums_append]
            exact hown)
          have HB5 : Hid (Below (B + 1) w0 w5) := Lib.hid ((HJ.out.2.alloc zj _).grown hg (by simp; omega) (fun k hk => (HJ.out.1.lt k hk).1))
          clear hown hg
          obtain ⟨q5, cap5, rfl⟩ := row_form HO5.out
          go_wp2
          go_roundw
          case rel => exact ⟨u, k + 1, q5, cap5, by omega, rfl, rfl, Lib.hid ⟨HO5.out, HB5.out⟩⟩
          case measure => simp [intOf]
        | zero =>
          obtain rfl : k = 8 := by omega
          rw [show (((0 : Nat) : Int) - 1) = -1 from rfl]
          have hown := HJ.out.1
          rw [pad8_end] at hown
          obtain ⟨gb, capb, ev, hgb, hlt⟩ := hown.form (by omega)
          injection ev with e1 _ e3
          subst e1
          subst e3
          obtain ⟨a', c', ev, htx⟩ := Txt.own hown (byt_padded HBY.out)
          injection ev with e1 _ e3
          subst e1
          subst e3
          have HX := Lib.hid htx
          have HBJ := Lib.hid HJ.out.2
          have HN64 : Hid ((m + 8) % 64 = 0) := Lib.hid (by have := padded_64 l; rw [padded_len, HLN.out, HZ.out] at this; rw [HMM.out]; exact this)
          clear hown HJ htx HZ HZM HMM
          go_wp2_with fail
          refine (roots64_any _).mono ?_
          rintro e w3 ⟨gk, capk, rfl, hgk, hgk3, HK3, hb3⟩
          have HB3 := Lib.hid (And.intro hb3 hb3.size)
          clear hb3
          go_wp2_with fail
          refine (roots8_any _).mono ?_
          rintro e w4 ⟨gf, capf, rfl, hgf, hgf4, HF4, hb4⟩
          have HB4 := Lib.hid (And.intro hb4 hb4.size)
          clear hb4
          have HX4 : Hid (Txt w4 (fun b => b < w4.heap.size) (some ⟨gb, 0, none⟩) (m + 8) cap (Sm.padded l)) := Lib.hid ((HX.out.old.below HB3.out.1 (fun _ h _ => h)).below HB4.out.1 (fun _ h _ => h)).old
          have HK4 : Hid (Wrd w4 (fun b => b < w4.heap.size) (some ⟨gk, 0, none⟩) 64 Sm.rK) := Lib.hid ((HK3.out.below HB4.out.1 (fun _ h _ => h)).weak (fun _ h _ => h))
          have HB04 : Hid (Below (B + 1) w0 w4) := Lib.hid (HBJ.out.trans ((HB3.out.1.trans (HB4.out.1.mono HB3.out.2)).mono zj))
          have z4 : B + 1 ≤ w4.heap.size := by have := HB3.out.2; have := HB4.out.2; omega
          have hlt4 : gb < w4.heap.size := by have := HB3.out.2; have := HB4.out.2; omega
          have hgk4 : gk < w4.heap.size := by have := HB4.out.2; omega
          clear HX HBJ HB3 HB4 HK3 hlt hgk hgk3 hgf zj
          have HZ8 : Hid ((wds (zeros32 8)).toArray.size = 8) := Lib.hid rfl
          have hNz := all_wds (zeros32 8)
          go_wp2_with (first
            | ((with_reducible show wpList _ _ _ ((⟨_, Op.store 70 _ _, _, _, _, _⟩ : Oper) :: _) _ _); refine wpList_store_row rfl _ (.tmp 8) (.tmp 44) rfl w4.heap.size (wds (zeros32 8)).toArray rfl rfl 70 _ (Whole.new _ _ _) (by rw [HZ8.out]; exact infoW8) (by rw [HZ8.out]; rfl) hNz ?_)
            | fail)
          have ks : Whole ((w4.alloc (.cells #[Value.int IntKind.u32 0, Value.int IntKind.u32 0, Value.int IntKind.u32 0, Value.int IntKind.u32 0, Value.int IntKind.u32 0, Value.int IntKind.u32 0, Value.int IntKind.u32 0, Value.int IntKind.u32 0] 70)).setRow w4.heap.size (wds (zeros32 8)).toArray) w4.heap.size 70 (wds (zeros32 8)).toArray := put_row
          have hb5 : Below w4.heap.size w4 ((w4.alloc (.cells #[Value.int IntKind.u32 0, Value.int IntKind.u32 0, Value.int IntKind.u32 0, Value.int IntKind.u32 0, Value.int IntKind.u32 0, Value.int IntKind.u32 0, Value.int IntKind.u32 0, Value.int IntKind.u32 0] 70)).setRow w4.heap.size (wds (zeros32 8)).toArray) := put_below (Below.refl _ _) (Nat.le_refl _)
          generalize (w4.alloc (.cells #[Value.int IntKind.u32 0, Value.int IntKind.u32 0, Value.int IntKind.u32 0, Value.int IntKind.u32 0, Value.int IntKind.u32 0, Value.int IntKind.u32 0, Value.int IntKind.u32 0, Value.int IntKind.u32 0] 70)).setRow w4.heap.size (wds (zeros32 8)).toArray = w5 at *
          generalize hHe : w4.heap.size = H at *
          have HHE := Lib.hid hHe
          clear hHe hNz
          have H5 : Hid (Whole w5 H 70 (wds (Sm.rH.take 0 ++ (zeros32 8).drop 0)).toArray ∧ Below H w4 w5) := Lib.hid ⟨ks, hb5⟩
          clear ks hb5
          go_loopw [9] (fun i wr => ∃ k : Nat, k ≤ 8 ∧ i = .int .i64 k ∧ Hid (Whole wr H 70 (wds (Sm.rH.take k ++ (zeros32 8).drop k)).toArray ∧ Below H w4 wr)) (fun i _ => 8 - (intOf i).toNat)
          case atStart => exact ⟨0, Nat.zero_le _, rfl, H5⟩
          case round =>
            clear H5
            obtain ⟨k, hk, rfl, HJ⟩ := hrel
            by_cases hlt : k < 8
            · have hd : decide ((k : Int) < 8) = true := by simp; omega
              have q0 : (k : Int) < 8 := by omega
              have cf : wr.cell? ⟨gf, k, none⟩ = some (.int .u32 (num (Sm.rH.getD k 0))) := (HJ.out.2.cell (p := ⟨gf, k, none⟩) hgf4).trans (wrd_cell HF4.out hlt)
              have cs : wr.cell? ⟨H, k, none⟩ = some (.int .u32 (num ((Sm.rH.take k ++ (zeros32 8).drop k).getD k 0))) := (HJ.out.1.cell k).trans (by rw [List.getElem?_toArray, wds_get _ _ (by simp [Sm.rH, zeros32]; omega)])
              have fw : wr.frozen? ⟨H, k, none⟩ = false := HJ.out.1.frozen k
              have HS := Lib.hid (first_set k hlt)
              with_reducible generalize (Sm.rH.take k ++ (zeros32 8).drop k).getD k 0 = old at *
              with_reducible generalize Sm.rH.getD k 0 = x at *
              go_wp2
              go_roundw
              case rel =>
                refine ⟨k + 1, by omega, by go_num, Lib.hid ⟨?_, HJ.out.2.setCell (by show H ≤ H; omega) _⟩⟩
                rw [← HS.out]
                exact HJ.out.1.set k _
              case measure => simp [intOf]; omega
            · have hd : decide ((k : Int) < 8) = false := by simp; omega
              have hk8 : k = 8 := by omega
              have H6 : Hid (Whole wr H 70 (wds (Sm.stTo (Sm.padded l) 0).l).toArray ∧ Below H w4 wr) := Lib.hid (by have := HJ.out; rw [hk8] at this; exact this)
              clear HJ hk8 HF4 hgf4
              go_wp2
              clear hd hlt hk
              go_loopw [10] (fun i wr => ∃ k : Nat, 64 * k ≤ m + 8 ∧ i = .int .i64 ((64 * k : Nat) : Int) ∧ Hid (Whole wr H 70 (wds (Sm.stTo (Sm.padded l) k).l).toArray ∧ Below H w4 wr)) (fun i _ => m + 8 - (intOf i).toNat)
              case atStart => exact ⟨0, by omega, rfl, H6⟩
              case round =>
                clear H6
                obtain ⟨k, hk, rfl, HJ⟩ := hrel
                by_cases hlt : 64 * k < m + 8
                · have hle : 64 * k + 64 ≤ m + 8 := by have := HN64.out; omega
                  have hcap := HX4.out.2.1
                  obtain ⟨L, hL⟩ : ∃ L, (Sm.padded l).drop (64 * k) = L := ⟨_, rfl⟩
                  have HST : Hid (Sm.stTo (Sm.padded l) (k + 1) = Sm.mix (Sm.stTo (Sm.padded l) k) (L.take 64)) := Lib.hid (by rw [← hL]; rfl)
                  have ht := txt_block HX4.out hle
                  rw [hL] at ht
                  have HL := Lib.hid hL
                  clear hL
                  obtain ⟨p, hp⟩ : ∃ p, 64 * k = p := ⟨_, rfl⟩
                  rw [hp] at hlt hle ht hk
                  rw [hp]
                  have HPP := Lib.hid hp
                  clear hp
                  have HTX := Lib.hid ht
                  clear ht
                  have hd : decide ((p : Int) < (m : Int) + 8) = true := by simp; omega
                  have hsl : ∀ w, (Instr.slice 35 (.slice (some ⟨gb, 0, none⟩) (m + 8) cap) (some (.int .i64 (p : Int))) (some (.int .i64 ((p : Int) + 64))) none).run Tryd.prog w = .ok (.slice (some ⟨gb, p, none⟩) 64 (cap - p)) w := fun w => by
                    have := slice_block (g := gb) (n := m + 8) (c := cap) (i := p) (j := p + 64) (by omega) (by omega) (by omega) w
                    rw [Nat.add_sub_cancel_left] at this
                    exact this
                  have esum : IntKind.i64.wrap ((p : Int) + 64) = (p : Int) + 64 := IntWalk.i64_in _ (by omega)
                  have HJ2 : Hid (Whole wr.drew H 70 (wds (Sm.stTo (Sm.padded l) k).l).toArray ∧ Below H w4 wr.drew) := Lib.hid ⟨HJ.out.1, HJ.out.2.drew⟩
                  with_reducible generalize Sm.stTo (Sm.padded l) k = st at *
                  go_wp2
                  have HTD : Hid (Txt wr.drew (fun b => b < H) (some ⟨gb, p, none⟩) 64 (cap - p) (L.take 64)) := Lib.hid (HTX.out.below HJ2.out.2 (fun _ _ h => h))
                  have HKD : Hid (Wrd wr.drew (fun b => b < H) (some ⟨gk, 0, none⟩) 64 Sm.rK) := Lib.hid (HK4.out.below HJ2.out.2 (fun _ _ h => h))
                  refine wp_region_held_drew (S := fun _ => True) (by kernel_rfl) trivial (fun hHeld => ?_)
                  generalize wr.drew = wd at *
                  refine wpAnyH_take (i := 1) (v := .slice (some ⟨gb, 0, none⟩) (m + 8) cap) rfl (by kernel_rfl) (by kernel_rfl) (by kernel_rfl) (fun _ _ _ h => h) (Or.inl ⟨by rfl, (by intro w hSw; (try dsimp only at hSw); go_simp)⟩) (by assumption) ?_
                  try simp only [Act.put, List.getElem_toArray, List.getElem_cons_zero, List.getElem_cons_succ, List.setIfInBounds_toArray, List.set_cons_zero, List.set_cons_succ]
                  refine wpAnyH_take (i := 2) (v := .int .i64 (p : Int)) rfl (by kernel_rfl) (by kernel_rfl) (by kernel_rfl) (fun _ _ _ h => h) (Or.inl ⟨by rfl, (by intro w hSw; (try dsimp only at hSw); go_simp)⟩) (by assumption) ?_
                  try simp only [Act.put, List.getElem_toArray, List.getElem_cons_zero, List.getElem_cons_succ, List.setIfInBounds_toArray, List.set_cons_zero, List.set_cons_succ]
                  refine wpAnyH_take (i := 3) (v := .int .i64 (p : Int)) rfl (by kernel_rfl) (by kernel_rfl) (by kernel_rfl) (fun _ _ _ h => h) (Or.inl ⟨by rfl, (by intro w hSw; (try dsimp only at hSw); go_simp)⟩) (by assumption) ?_
                  try simp only [Act.put, List.getElem_toArray, List.getElem_cons_zero, List.getElem_cons_succ, List.setIfInBounds_toArray, List.set_cons_zero, List.set_cons_succ]
                  refine wpAnyH_take (i := 4) (v := .int .i64 ((p : Int) + 64)) rfl (by kernel_rfl) (by kernel_rfl) (by kernel_rfl) (fun _ _ _ h => h) (Or.inl ⟨by rfl, (by intro w hSw; (try dsimp only at hSw); go_simp)⟩) (by assumption) ?_
                  try simp only [Act.put, List.getElem_toArray, List.getElem_cons_zero, List.getElem_cons_succ, List.setIfInBounds_toArray, List.set_cons_zero, List.set_cons_succ]
                  refine wpAnyH_take (i := 5) (v := .slice (some ⟨gb, p, none⟩) 64 (cap - p)) rfl (by kernel_rfl) (by kernel_rfl) (by kernel_rfl) (fun _ _ _ h => h) (Or.inl ⟨by rfl, (by intro w hSw; (try dsimp only at hSw); go_simp)⟩) (by assumption) ?_
                  try simp only [Act.put, List.getElem_toArray, List.getElem_cons_zero, List.getElem_cons_succ, List.setIfInBounds_toArray, List.set_cons_zero, List.set_cons_succ]
                  refine wpAnyH_take (i := 6) (v := .slice (some ⟨gk, 0, none⟩) 64 capk) rfl (by kernel_rfl) (by kernel_rfl) (by kernel_rfl) (fun _ _ _ h => h) (Or.inl ⟨by rfl, (by intro w hSw; (try dsimp only at hSw); go_simp)⟩) (by assumption) ?_
                  try simp only [Act.put, List.getElem_toArray, List.getElem_cons_zero, List.getElem_cons_succ, List.setIfInBounds_toArray, List.set_cons_zero, List.set_cons_succ]
                  have HN8 : Hid ((wds st.l).toArray.size = 8) := Lib.hid rfl
                  refine wpAnyH_ready (rs := [0]) (by kernel_rfl) (by simp) (AllReadyH.cons rfl (fun K hK => ?_) AllReadyH.nil)
                  try simp only [List.getElem_toArray, List.getElem_cons_zero, List.getElem_cons_succ]
                  refine if_wanted (by rfl) ?_
                  refine wp_load_row _ (.tmp 8) rfl H rfl 70 (wds st.l).toArray (0, 0) _ HJ2.out.1 undW8 rfl (by rw [HN8.out]; exact infoW8) ?_
                  refine hK.out _ _ trivial (fun hHeld => ?_)
                  clear hK K
                  try simp only [Act.put, List.getElem_toArray, List.getElem_cons_zero, List.getElem_cons_succ, List.setIfInBounds_toArray, List.set_cons_zero, List.set_cons_succ]
                  refine wpAnyH_ready (rs := [7]) (by kernel_rfl) (by simp) (AllReadyH.cons rfl (fun K hK => ?_) AllReadyH.nil)
                  try simp only [List.getElem_toArray, List.getElem_cons_zero, List.getElem_cons_succ]
                  go_simp
                  go_at_call 50
                  refine (block_any st (L.take 64) _ HTD.out HKD.out).mono ?_
                  rintro e w7 ⟨rfl, hb7⟩
                  have HJ7 := Lib.hid (And.intro (HJ2.out.1.below hb7 HJ2.out.1.lt) (HJ2.out.2.trans (hb7.mono (Nat.le_of_lt HJ2.out.1.lt))))
                  clear hb7
                  go_wp2_with fail
                  refine hK.out _ _ trivial (fun hHeld => ?_)
                  clear hK K
                  try simp only [Act.put, List.getElem_toArray, List.getElem_cons_zero, List.getElem_cons_succ, List.setIfInBounds_toArray, List.set_cons_zero, List.set_cons_succ]
                  have hNa := all_wds (Sm.mix st (L.take 64)).l
                  have HN8' : Hid ((wds (Sm.mix st (L.take 64)).l).toArray.size = 8) := Lib.hid rfl
                  refine wpAnyH_ready (rs := [8]) (by kernel_rfl) (by simp) (AllReadyH.cons rfl (fun K hK => ?_) AllReadyH.nil)
                  try simp only [List.getElem_toArray, List.getElem_cons_zero, List.getElem_cons_succ]
                  refine if_wanted (by rfl) ?_
                  refine wp_store_row _ (.tmp 8) (.tmp 68) rfl H (wds (Sm.mix st (L.take 64)).l).toArray rfl rfl 70 (wds st.l).toArray HJ7.out.1 (by rw [HN8'.out]; exact infoW8) (by rw [HN8.out, HN8'.out]) hNa ?_
                  refine hK.out _ _ trivial (fun hHeld => ?_)
                  clear hK K
                  try simp only [Act.put, List.getElem_toArray, List.getElem_cons_zero, List.getElem_cons_succ, List.setIfInBounds_toArray, List.set_cons_zero, List.set_cons_succ]
                  refine wpAnyH_done (by kernel_rfl) ?_ _
                  have HJ8 := Lib.hid (And.intro (HJ7.out.1.row (wds (Sm.mix st (L.take 64)).l).toArray) (below_row HJ7.out.2 (Nat.le_refl _) (wds (Sm.mix st (L.take 64)).l).toArray))
                  generalize w7.setRow H (wds (Sm.mix st (L.take 64)).l).toArray = w8 at *
                  clear hNa HN8' HJ7
                  go_wp2
                  go_roundw
                  case rel =>
                    exact ⟨k + 1, by have := HPP.out; omega, by rw [show 64 * (k + 1) = p + 64 by have := HPP.out; omega]; go_num, Lib.hid (by rw [HST.out]; exact HJ8.out)⟩
                  case measure => simp [intOf]; omega
                · have hd : decide (((64 * k : Nat) : Int) < (m : Int) + 8) = false := by simp; omega
                  have hd2 : decide (64 * (k : Int) < (m : Int) + 8) = false := by simp; omega
                  have HE : Hid (64 * k = m + 8) := Lib.hid (by omega)
                  obtain ⟨st, hst⟩ : ∃ st, Sm.stTo (Sm.padded l) k = st := ⟨_, rfl⟩
                  have HDG : Hid (Sm.dig l = Sm.bytesOf st.l) := Lib.hid (by
                    unfold Sm.dig Sm.st
                    rw [HX4.out.1, ← HE.out, Nat.mul_div_cancel_left k (by omega), hst])
                  rw [hst] at HJ
                  clear hst
                  have HN32 : Hid ((nums (zs 32)).toArray.size = 32) := Lib.hid rfl
                  have hNz := all_nums (zs 32)
                  have hHw : H < wr.heap.size := HJ.out.1.lt
                  go_wp2_with (first
                    | ((with_reducible show wpList _ _ _ ((⟨_, Op.store 32 _ _, _, _, _, _⟩ : Oper) :: _) _ _); refine wpList_store_row rfl _ (.tmp 11) (.tmp 69) rfl wr.heap.size (nums (zs 32)).toArray rfl rfl 32 _ (Whole.new _ _ _) (by rw [HN32.out]; exact info32) (by rw [HN32.out]; rfl) hNz ?_)
                    | fail)
                  have ko : Whole ((wr.alloc (.cells #[Value.int IntKind.u8 0, Value.int IntKind.u8 0, Value.int IntKind.u8 0, Value.int IntKind.u8 0, Value.int IntKind.u8 0, Value.int IntKind.u8 0, Value.int IntKind.u8 0, Value.int IntKind.u8 0, Value.int IntKind.u8 0, Value.int IntKind.u8 0, Value.int IntKind.u8 0, Value.int IntKind.u8 0, Value.int IntKind.u8 0, Value.int IntKind.u8 0, Value.int IntKind.u8 0, Value.int IntKind.u8 0, Value.int IntKind.u8 0, Value.int IntKind.u8 0, Value.int IntKind.u8 0, Value.int IntKind.u8 0, Value.int IntKind.u8 0, Value.int IntKind.u8 0, Value.int IntKind.u8 0, Value.int IntKind.u8 0, Value.int IntKind.u8 0, Value.int IntKind.u8 0, Value.int IntKind.u8 0, Value.int IntKind.u8 0, Value.int IntKind.u8 0, Value.int IntKind.u8 0, Value.int IntKind.u8 0, Value.int IntKind.u8 0] 32)).setRow wr.heap.size (nums (zs 32)).toArray) wr.heap.size 32 (nums (zs 32)).toArray := put_row
                  have kh : Whole ((wr.alloc (.cells #[Value.int IntKind.u8 0, Value.int IntKind.u8 0, Value.int IntKind.u8 0, Value.int IntKind.u8 0, Value.int IntKind.u8 0, Value.int IntKind.u8 0, Value.int IntKind.u8 0, Value.int IntKind.u8 0, Value.int IntKind.u8 0, Value.int IntKind.u8 0, Value.int IntKind.u8 0, Value.int IntKind.u8 0, Value.int IntKind.u8 0, Value.int IntKind.u8 0, Value.int IntKind.u8 0, Value.int IntKind.u8 0, Value.int IntKind.u8 0, Value.int IntKind.u8 0, Value.int IntKind.u8 0, Value.int IntKind.u8 0, Value.int IntKind.u8 0, Value.int IntKind.u8 0, Value.int IntKind.u8 0, Value.int IntKind.u8 0, Value.int IntKind.u8 0, Value.int IntKind.u8 0, Value.int IntKind.u8 0, Value.int IntKind.u8 0, Value.int IntKind.u8 0, Value.int IntKind.u8 0, Value.int IntKind.u8 0, Value.int IntKind.u8 0] 32)).setRow wr.heap.size (nums (zs 32)).toArray) H 70 (wds st.l).toArray := put_far HJ.out.1
                  have hb7 : Below wr.heap.size wr ((wr.alloc (.cells #[Value.int IntKind.u8 0, Value.int IntKind.u8 0, Value.int IntKind.u8 0, Value.int IntKind.u8 0, Value.int IntKind.u8 0, Value.int IntKind.u8 0, Value.int IntKind.u8 0, Value.int IntKind.u8 0, Value.int IntKind.u8 0, Value.int IntKind.u8 0, Value.int IntKind.u8 0, Value.int IntKind.u8 0, Value.int IntKind.u8 0, Value.int IntKind.u8 0, Value.int IntKind.u8 0, Value.int IntKind.u8 0, Value.int IntKind.u8 0, Value.int IntKind.u8 0, Value.int IntKind.u8 0, Value.int IntKind.u8 0, Value.int IntKind.u8 0, Value.int IntKind.u8 0, Value.int IntKind.u8 0, Value.int IntKind.u8 0, Value.int IntKind.u8 0, Value.int IntKind.u8 0, Value.int IntKind.u8 0, Value.int IntKind.u8 0, Value.int IntKind.u8 0, Value.int IntKind.u8 0, Value.int IntKind.u8 0, Value.int IntKind.u8 0] 32)).setRow wr.heap.size (nums (zs 32)).toArray) := put_below (Below.refl _ _) (Nat.le_refl _)
                  have zH : H ≤ wr.heap.size := Nat.le_of_lt hHw
                  have HB0 : Hid (Below (B + 1) w0 ((wr.alloc (.cells #[Value.int IntKind.u8 0, Value.int IntKind.u8 0, Value.int IntKind.u8 0, Value.int IntKind.u8 0, Value.int IntKind.u8 0, Value.int IntKind.u8 0, Value.int IntKind.u8 0, Value.int IntKind.u8 0, Value.int IntKind.u8 0, Value.int IntKind.u8 0, Value.int IntKind.u8 0, Value.int IntKind.u8 0, Value.int IntKind.u8 0, Value.int IntKind.u8 0, Value.int IntKind.u8 0, Value.int IntKind.u8 0, Value.int IntKind.u8 0, Value.int IntKind.u8 0, Value.int IntKind.u8 0, Value.int IntKind.u8 0, Value.int IntKind.u8 0, Value.int IntKind.u8 0, Value.int IntKind.u8 0, Value.int IntKind.u8 0, Value.int IntKind.u8 0, Value.int IntKind.u8 0, Value.int IntKind.u8 0, Value.int IntKind.u8 0, Value.int IntKind.u8 0, Value.int IntKind.u8 0, Value.int IntKind.u8 0, Value.int IntKind.u8 0] 32)).setRow wr.heap.size (nums (zs 32)).toArray)) := Lib.hid ((HB04.out.trans (HJ.out.2.mono z4)).trans (hb7.mono (by omega)))
                  have HKH := Lib.hid kh
                  generalize (wr.alloc (.cells #[Value.int IntKind.u8 0, Value.int IntKind.u8 0, Value.int IntKind.u8 0, Value.int IntKind.u8 0, Value.int IntKind.u8 0, Value.int IntKind.u8 0, Value.int IntKind.u8 0, Value.int IntKind.u8 0, Value.int IntKind.u8 0, Value.int IntKind.u8 0, Value.int IntKind.u8 0, Value.int IntKind.u8 0, Value.int IntKind.u8 0, Value.int IntKind.u8 0, Value.int IntKind.u8 0, Value.int IntKind.u8 0, Value.int IntKind.u8 0, Value.int IntKind.u8 0, Value.int IntKind.u8 0, Value.int IntKind.u8 0, Value.int IntKind.u8 0, Value.int IntKind.u8 0, Value.int IntKind.u8 0, Value.int IntKind.u8 0, Value.int IntKind.u8 0, Value.int IntKind.u8 0, Value.int IntKind.u8 0, Value.int IntKind.u8 0, Value.int IntKind.u8 0, Value.int IntKind.u8 0, Value.int IntKind.u8 0, Value.int IntKind.u8 0] 32)).setRow wr.heap.size (nums (zs 32)).toArray = w7 at *
                  generalize wr.heap.size = O at *
                  have HDL : Hid ((Sm.dig l).length = 32) := Lib.hid (dig_len l)
                  have H7 : Hid (Whole w7 O 32 (nums ((Sm.dig l).take 0 ++ zs (32 - 0))).toArray ∧ Below O w7 w7) := Lib.hid ⟨ko, Below.refl _ _⟩
                  clear ko kh hb7 hNz hd hd2 hlt hk HJ
                  go_loopw [12] (fun i wr => ∃ k : Nat, k ≤ 32 ∧ i = .int .i64 k ∧ Hid (Whole wr O 32 (nums ((Sm.dig l).take k ++ zs (32 - k))).toArray ∧ Below O w7 wr)) (fun i _ => 32 - (intOf i).toNat)
                  case atStart => exact ⟨0, Nat.zero_le _, rfl, H7⟩
                  case round =>
                    clear H7
                    obtain ⟨k, hk, rfl, HJ⟩ := hrel
                    by_cases hlt : k < 32
                    · have hd : decide ((k : Int) < 32) = true := by simp; omega
                      have q0 : (k : Int) < 32 := by omega
                      obtain ⟨u, hu⟩ : ∃ u, k / 4 = u := ⟨_, rfl⟩
                      obtain ⟨v, hv⟩ : ∃ v, k % 4 = v := ⟨_, rfl⟩
                      have hu8 : u < 8 := by omega
                      have hv4 : v < 4 := by omega
                      obtain ⟨x, hx⟩ : ∃ x, st.l.getD u 0 = x := ⟨_, rfl⟩
                      obtain ⟨y, hy⟩ : ∃ y, (Sm.dig l).getD k 0 = y := ⟨_, rfl⟩
                      obtain ⟨sh, hsh⟩ : ∃ sh, 24 - 8 * v = sh := ⟨_, rfl⟩
                      have hval : num x / 2 ^ sh % 256 = y := by
                        rw [← hsh, byteOf_int, ← hy, HDG.out, show k = 4 * u + v by omega, bytesOf_get st.l u v hv4 (by show u < 8; exact hu8), hx]
                      have HY : Hid ((nums ((Sm.dig l).take k ++ zs (32 - k))).toArray.setIfInBounds k (.int .u8 y) = (nums ((Sm.dig l).take (k + 1) ++ zs (32 - (k + 1)))).toArray) := Lib.hid (by rw [← hy]; exact out_set _ k HDL.out hlt)
                      have cx : wr.cell? ⟨H, u, none⟩ = some (.int .u32 (num x)) := (HJ.out.2.cell (p := ⟨H, u, none⟩) hHw).trans ((HKH.out.cell u).trans (by rw [List.getElem?_toArray, wds_get _ _ (by show u < 8; exact hu8), hx]))
                      have cs : wr.cell? ⟨O, k, none⟩ = some (.int .u8 (((Sm.dig l).take k ++ zs (32 - k)).getD k 0)) := (HJ.out.1.cell k).trans (by rw [List.getElem?_toArray, nums_get _ _ (by simp [zs, HDL.out]; omega)])
                      have fw : wr.frozen? ⟨O, k, none⟩ = false := HJ.out.1.frozen k
                      with_reducible generalize ((Sm.dig l).take k ++ zs (32 - k)).getD k 0 = old at *
                      have e1 : ((k : Int)).tdiv 4 = (u : Int) := by rw [← hu]; rfl
                      have e2 : ((k : Int)).tmod 4 = (v : Int) := by rw [← hv]; rfl
                      have e3 : (k : Int) / 4 = (u : Int) := by omega
                      have e4 : (k : Int) % 4 = (v : Int) := by omega
                      have e5 : 24 - 8 * (v : Int) = (sh : Int) := by omega
                      have q1 : (u : Int) < 8 := by omega
                      have q2 : (sh : Int) ≤ 24 := by omega
                      clear hx hy hsh hu hv
                      go_wp2
                      go_roundw
                      case rel =>
                        refine ⟨k + 1, by omega, by go_num, Lib.hid ⟨?_, HJ.out.2.setCell (by show O ≤ O; omega) _⟩⟩
                        rw [← HY.out]
                        exact HJ.out.1.set k _
                      case measure => simp [intOf]; omega
                    · have hd : decide ((k : Int) < 32) = false := by simp; omega
                      have hk32 : k = 32 := by omega
                      have K1 : Hid (Whole wr O 32 (nums (Sm.dig l)).toArray) := Lib.hid (by have := HJ.out.1; rw [hk32, List.take_of_length_le (by rw [HDL.out]; omega)] at this; simpa [zs] using this)
                      have KB : Hid (Whole wr B 32 (nums (zs 32)).toArray) := Lib.hid ((K0.out.1.below HB0.out (by omega)).below HJ.out.2 (by omega))
                      have HBL : Hid (Below B w wr) := Lib.hid ((K0.out.2.trans (HB0.out.mono (by omega))).trans (HJ.out.2.mono (by omega)))
                      clear HJ hk32 HDG
                      have hNa := all_nums (Sm.dig l)
                      have HNS : Hid ((nums (Sm.dig l)).toArray.size = 32) := Lib.hid (by simp [nums_len, HDL.out])
                      with_reducible generalize hN : (nums (Sm.dig l)).toArray = N at *
                      go_wp2_with (first
                        | ((with_reducible show wpList _ _ _ ((⟨_, Op.load 32 _, _, _, _, _⟩ : Oper) :: _) _ _); refine wpList_load_row rfl _ (.tmp 11) rfl O rfl 32 N (0, 0) _ K1.out und32 rfl (by rw [HNS.out]; exact info32) ?_)
                        | ((with_reducible show wpList _ _ _ ((⟨_, Op.store 32 _ _, _, _, _, _⟩ : Oper) :: _) _ _); refine wpList_store_row rfl _ (.tmp 2) (.tmp 87) rfl B N rfl rfl 32 _ KB.out (by rw [HNS.out]; exact info32) (by rw [HN32.out, HNS.out]) hNa ?_))
                      refine bodyPost_ret (results_one_cell rfl _ _ _ _ rfl (run_loadVar_row _ _ _ _ _ (0, 0) _ (KB.out.row N) und32 rfl (by rw [HNS.out]; exact info32))) rfl ?_
                      exact ⟨by rw [hN], by rw [HBE.out]; exact below_row HBL.out (Nat.le_refl _) N⟩
end Go.Proofs.YtiogfkhmigbgpaaDoor
set_option linter.unusedSimpArgs false
namespace Go.Proofs.YtiogfkhmigbgpaaDoor
set_option maxRecDepth 20000
open Go.RowKit
def rlen (l : List Int) : Nat := if 64 < l.length then 32 else l.length
theorem rkb_zero (l : List Int) (m : Nat) (h : rlen l ≤ m) (hm : m < 64) : (Sm.kb l).take (m + 1) = (Sm.kb l).take m ++ [0] := by
  have hl : m < (Sm.kb l).length := by rw [kb_len]; exact hm
  rw [List.take_succ_eq_append_getElem hl]
  congr 2
  have : (Sm.kb l)[m]? = some 0 := by
    unfold Sm.kb
    unfold rlen at h
    split
    · rename_i h64
      rw [if_pos h64] at h
      rw [List.getElem?_append_right (by rw [dig_len]; omega), dig_len, List.getElem?_replicate, if_pos (by omega)]
    · rename_i h64
      rw [if_neg h64] at h
      rw [List.getElem?_append_right (by omega), List.getElem?_replicate, if_pos (by omega)]
  rw [List.getElem?_eq_getElem hl] at this
  injection this
theorem rkb_start (l : List Int) : (Sm.kb l).take (rlen l) = if 64 < l.length then Sm.dig l else l := by
  unfold Sm.kb rlen
  split
  · rw [List.take_append_of_le_length (by rw [dig_len]; omega), List.take_of_length_le (by rw [dig_len]; omega)]
  · rw [List.take_left]
theorem own_keep {w w' : World} {base e size n : Nat} {v : Value} {xs : List Value} (h : w.ownsRow base e size v n xs) (hk : ∀ b, v.ownBlock = some b → w'.heap[b]? = w.heap[b]?) : w'.ownsRow base e size v n xs := by
  refine ⟨h.1, ?_⟩
  rcases h.2 with h | ⟨g, cap, cur, rfl, hb, hg, r⟩
  · exact Or.inl h
  · exact Or.inr ⟨g, cap, cur, rfl, hb, (hk g rfl).trans hg, r⟩
/-- Two rows of bytes of the call's own, in blocks of their own. -/
structure Pair (w : World) (E : Nat) (k j : Nat) (v u : Value) (xs ys : List Int) : Prop where
  one : w.ownsRow E 5 1 v k (nums xs)
  two : w.ownsRow E 5 1 u j (nums ys)
  apart : ∀ b, v.ownBlock = some b → u.ownBlock ≠ some b
theorem Pair.first {w w5 : World} {E k j : Nat} {v v' u : Value} {xs ys l : List Int} {m : Nat} (h : Pair w E k j v u xs ys) (hown : w5.ownsRow E 5 1 v' m (nums xs ++ nums l)) (hg : w.grownBy w5 v.ownBlock) (hat : v'.ownBlock = v.ownBlock ∨ v'.ownBlock = some w.heap.size) : Pair w5 E m j v' u (xs ++ l) ys := by
  refine ⟨by rw [nums_append]; exact hown, own_keep h.two fun b hb => ?_, fun b hb hu => ?_⟩
  · exact hg.block b (h.two.lt b hb).2 (fun e => h.apart b e.symm hb)
  · have hlt := (h.two.lt b hu).2
    rcases hat with e | e
    · exact h.apart b (by rw [← e]; exact hb) hu
    · rw [e] at hb
      injection hb with hb
      omega
theorem Pair.swap {w : World} {E k j : Nat} {v u : Value} {xs ys : List Int} (h : Pair w E k j v u xs ys) : Pair w E j k u v ys xs := ⟨h.two, h.one, fun b hb hv => h.apart b hv hb⟩
theorem Pair.below {w w5 : World} {E k j : Nat} {v u : Value} {xs ys : List Int} (h : Pair w E k j v u xs ys) (hb : Below w.heap.size w w5) : Pair w5 E k j v u xs ys :=
  ⟨own_keep h.one fun b e => hb.block b (h.one.lt b e).2, own_keep h.two fun b e => hb.block b (h.two.lt b e).2, h.apart⟩
theorem byt_one {y : Int} {l : List Int} (hy : 0 ≤ y ∧ y < 256) (h : Byt l) (k : Nat) : Byt [(((l.getD k 0).toNat ^^^ y.toNat : Nat) : Int)] := by
  have h1 := byt_getD h k
  have := xor8_lt (x := (l.getD k 0).toNat) (y := y.toNat) (by omega) (by omega)
  exact byt_cons (by omega) (by omega) byt_nil
theorem chg_snoc (y : Int) (b : List Int) (k : Nat) (hk : k < b.length) : Sm.chg y (b.take (k + 1)) = Sm.chg y (b.take k) ++ [(((b.getD k 0).toNat ^^^ y.toNat : Nat) : Int)] := by
  have e2 : b.take (k + 1) = b.take k ++ [b.getD k 0] := by
    rw [List.take_succ_eq_append_getElem hk]; simp [hk]
  rw [e2]
  simp [Sm.chg]
theorem rrow_txt {w : World} {base n : Nat} {q : Option Addr} {c : Nat} {l : List Int} (h : w.ownsRow base 5 1 (.slice q n c) n (nums l)) (hb : Byt l) : Txt w (base ≤ ·) q n c l := by
  obtain ⟨a, c', e, ht⟩ := Txt.own h hb
  injection e with e1 _ e3
  subst e1
  subst e3
  exact ht
end Go.Proofs.YtiogfkhmigbgpaaDoor
set_option linter.unusedSimpArgs false
namespace Go.Proofs.YtiogfkhmigbgpaaDoor
set_option maxRecDepth 20000
open Go.RowKit
theorem pow_unique {j k n : Nat} (h1 : 2 ^ j < n) (h2 : n ≤ 2 * 2 ^ j) (h3 : 2 ^ k < n) (h4 : n ≤ 2 * 2 ^ k) : j = k := by
  have a1 : 2 ^ j < 2 ^ (k + 1) := by rw [Nat.pow_succ]; omega
  have a2 : 2 ^ k < 2 ^ (j + 1) := by rw [Nat.pow_succ]; omega
  have b1 := (Nat.pow_lt_pow_iff_right (a := 2) (by omega)).1 a1
  have b2 := (Nat.pow_lt_pow_iff_right (a := 2) (by omega)).1 a2
  omega
theorem pw_unique {p n : Nat} (h2 : 2 ≤ n) (hp : ∃ k, p = 2 ^ k) (h3 : p < n) (h4 : n ≤ 2 * p) : p = Sm.pw n := by
  obtain ⟨k, rfl⟩ := hp
  have h := pw_spec n h2
  unfold Sm.pw at h ⊢
  rw [pow_unique h3 h4 h.2.1 h.2.2]
end Go.Proofs.YtiogfkhmigbgpaaDoor
