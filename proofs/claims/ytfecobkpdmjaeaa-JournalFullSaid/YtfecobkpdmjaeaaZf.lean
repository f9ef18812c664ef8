/-
  The walk of lay.
-/
import Derived.Test.YtfecobkpdmjaeaaZd
namespace Go.Proofs.Ytfecobkpdmjaeaa
open Go.RowKit
set_option linter.unusedVariables false
set_option maxRecDepth 20000
set_option linter.unusedSimpArgs false
set_option maxHeartbeats 4000000 in
theorem lay_any {p bb mb n k : Nat} {a : Dm.A} {b : List Int} {z : Int} {w : World} (h : Dk w p bb mb a n) (hk : k < n) (hl : Dm.look a.fresh k = some b) :
    Calls Try.prog 46 #[.pointer (some ⟨p, 0, none⟩), .int .i64 (k : Int), .int .i64 z] w fun e w' => e = .returned (.tuple #[]) ∧ Dk w' p bb mb { a with last := Dm.put a.last (64 * k) (b.take (Dm.many z)) } n ∧ w.grownBy w' (some bb) := by
  have c1 := h.c1
  obtain ⟨i, hi, hlk⟩ := frs_lookup_yes h.map h.ok.fok h.ok.small hk hl
  have hlk' : (Instr.lookup 64 (.map (some mb)) (.int .i64 (k : Int)) false).run Try.prog w = .ok (.agg (wvc i b).toArray) w := hlk false
  have HB : Hid (b.length = 64) := Lib.hid (h.ok.fok.1 _ (Dm.look_mem hl)).2.1
  have H := Lib.hid h
  have HL := Lib.hid hl
  clear h hl hlk
  go_enter Try.func46, Try.ntmps46
  have hzc := zero_wc
  go_wp2_with ((with_reducible show wpList _ _ _ ((⟨_, Op.store 88 _ _, _, _, _, _⟩ : Oper) :: _) _ _); refine wpList_store_row rfl 88 (.tmp 6) (.tmp 12) rfl w.heap.size (wvc i b).toArray rfl rfl 88 zwc (Whole.new w _ _) (by rw [info_w]; simp [wvc_len i HB.out]) (by simp [wvc_len i HB.out, zwc, nums_len]) (wvc_all i b) ?_)
  have hw1 : Whole ((w.alloc (.cells zwc 88)).setRow w.heap.size (wvc i b).toArray) w.heap.size 88 (wvc i b).toArray := (Whole.new w _ _).row _
  have hb1 : Below w.heap.size w ((w.alloc (.cells zwc 88)).setRow w.heap.size (wvc i b).toArray) := below_row ((Below.refl _ _).alloc (Nat.le_refl _) _) (Nat.le_refl _) _
  generalize (w.alloc (.cells zwc 88)).setRow w.heap.size (wvc i b).toArray = w1 at *
  have hd1 := H.out.old hb1
  have d0 := hd1.c0
  have HD := Lib.hid (And.intro hd1 (And.intro hw1 hb1))
  clear hd1 hw1 hb1 c1 hlk' hzc
  obtain ⟨m, hm⟩ : ∃ m, Dm.many z = m := ⟨_, rfl⟩
  have hm64 : m ≤ 64 := by rw [← hm]; exact Dm.many_le z
  obtain ⟨y, hy⟩ : ∃ y, (if z < 0 then (0 : Int) else z) = y := ⟨_, rfl⟩
  have hmy : (if (64 : Int) < y then (64 : Int) else y) = (m : Int) := by
    rw [← hm, ← hy]
    unfold Dm.many
    split <;> split <;> omega
  have hsl := slice_arr (g := w.heap.size) (o := 1) hm64
  have HM := Lib.hid hm
  clear hm
  go_frame
  go_still_tail 8, (by kernel_rfl)
  still_call ((block_any (w := w1.drew) H.out.ok.small hk d0).mono fun e w'' h => ⟨h.1, h.2.symm⟩)
  repeat still_step
  refine wpStill_nil ?_
  change wpList _ _ _ _ _ w1.drew
  have hbm : (nums (b.take m)).length = m := by rw [nums_len, List.length_take, HB.out]; omega
  have hsrc : ∀ j v, (nums (b.take m))[j]? = some v → w1.drew.cell? ((⟨w.heap.size, 1, none⟩ : Addr).add j) = some v := by
    intro j v hv
    rw [Addr.add_lit]
    rw [nums_take, List.getElem?_take] at hv
    split at hv
    · exact wv_range HD.out.2.1 j v hv
    · cases hv
  refine wpList_copy_own rfl (.tmp 15) (.tmp 20) 37 37 rfl 5 Try.underlying37 infou8 bb (64 * k) 64 64 ⟨w.heap.size, 1, none⟩ m 64 rfl rfl (nums a.last).toArray 5 HD.out.1.bytes (nums (b.take m)) (by rw [hbm]; show m = min m 64; omega) hsrc (by rw [hbm, List.size_toArray, nums_len, H.out.ok.len]; omega) (nums_one _) ?_
  have hpl : Dm.many z = m := HM.out
  rw [nums_put]
  have hw2 : Whole (w1.drew.setRow bb (nums (Dm.put a.last (64 * k) (b.take m))).toArray) bb 5 (nums (Dm.put a.last (64 * k) (b.take m))).toArray := Whole.row (cs := (nums a.last).toArray) HD.out.1.bytes _
  have hg2 : w1.grownBy (w1.drew.setRow bb (nums (Dm.put a.last (64 * k) (b.take m))).toArray) (some bb) := ⟨rfl, rfl, rfl, by simp [World.setRow], fun i _ hne => setRow_other w1 bb i _ (fun e => hne (by rw [e]))⟩
  generalize w1.drew.setRow bb (nums (Dm.put a.last (64 * k) (b.take m))).toArray = w2 at *
  clear hsrc hsl hmy hy d0
  have HW := Lib.hid (And.intro hw2 (And.intro hg2 hpl))
  clear hw2 hg2 hpl hbm
  go_wp2
  go_end0
  obtain ⟨hw2, hg2, hpl⟩ := HW.out
  obtain ⟨hd1, hw1, hb1⟩ := HD.out
  have hn1 := hd1.ne1
  have hn3 := hd1.ne3
  have hbl : (b.take m).length = m := by rw [List.length_take, HB.out]; omega
  refine ⟨rfl, ⟨hd1.cells.grown hg2 (by simpa using hn1), by rw [hpl]; exact hw2, hd1.map.keep (hg2.block mb hd1.map.lt (by simpa using fun e => hn3 e.symm)), ?_⟩, grown_trans (grown_below hb1) hg2⟩
  have hok := H.out.ok
  refine ⟨?_, ?_, hok.small, hok.fok⟩
  · show (Dm.put a.last (64 * k) (b.take (Dm.many z))).length = _
    rw [hpl, Dm.put_len (by rw [hbl, hok.len]; omega)]
    exact hok.len
  · exact Dm.put_byt hok.byt (byt_take (hok.fok.1 _ (Dm.look_mem HL.out)).2.2 _)
end Go.Proofs.Ytfecobkpdmjaeaa
