/-
  The walk of Code.
-/
import Derived.Test.YtndiojiphoomgaaDoorHh
namespace Go.Proofs.YtndiojiphoomgaaDoor
open Go.RowKit
/-- What an alloc and the store of a whole row leave. -/
theorem put_row {w : World} {T : TypeId} {z N : Array Value} : Whole ((w.alloc (.cells z T)).setRow w.heap.size N) w.heap.size T N := (Whole.new w T z).row N
theorem put_far {w : World} {g : Nat} {T U : TypeId} {z N cs : Array Value} (h : Whole w g U cs) : Whole ((w.alloc (.cells z T)).setRow w.heap.size N) g U cs := (h.alloc _).rowFar (by have := h.lt; omega) N
theorem put_below {B : Nat} {a w : World} {T : TypeId} {z N : Array Value} (h : Below B a w) (hB : B ≤ w.heap.size) : Below B a ((w.alloc (.cells z T)).setRow w.heap.size N) := below_row (h.alloc hB _) hB N
theorem put_size {w : World} {T : TypeId} {z N : Array Value} : ((w.alloc (.cells z T)).setRow w.heap.size N).heap.size = w.heap.size + 1 := by simp [World.setRow]
set_option maxHeartbeats 2000000 in
theorem code_any {S S' : Nat → Prop} {a a' : Option Addr} {n c n' c' : Nat} {key text : List Int} {w : World} (h : Txt w S a n c key) (h' : Txt w S' a' n' c' text) (hR : Roots w) (hn : n ≤ 800000) (hn' : n' ≤ 800000) :
    Calls Tryd.prog 12 #[.slice a n c, .slice a' n' c'] w fun e w' => e = .returned (.agg (nums (Sm.code key text)).toArray) ∧ Below w.heap.size w w' := by
  have HK := Lib.hid h.old
  have HT := Lib.hid h'.old
  have HR := Lib.hid hR
  have hB2 := hR.two
  have hbk : Byt (Sm.kb key) := byt_kb h.2.2.1
  have hby1 := byt_chg (y := 54) (by omega) hbk
  have hby2 := byt_chg (y := 92) (by omega) hbk
  have hkl := kb_len key
  have HN' : Hid (text.length = n') := Lib.hid h'.1
  clear h h' hR
  have HC : Hid (Sm.code key text = Sm.dig (Sm.chg 92 (Sm.kb key) ++ Sm.dig (Sm.chg 54 (Sm.kb key) ++ text))) := Lib.hid rfl
  have HKL := Lib.hid hkl
  have HB1 := Lib.hid hby1
  have HB2 := Lib.hid hby2
  have HBK := Lib.hid hbk
  clear hby1 hby2 hbk hkl
  with_reducible generalize Sm.code key text = res at *
  go_enter Tryd.func12, Tryd.ntmps12
  go_wp2_with fail
  rw [zero32z]
  have k0 := Whole.new w 24 (nums (zs 32)).toArray
  have b0 := below_alloc w (.cells (nums (zs 32)).toArray 24)
  have r0 := HR.out.alloc (.cells (nums (zs 32)).toArray 24)
  have s0 : w.heap.size < (w.alloc (.cells (nums (zs 32)).toArray 24)).heap.size := k0.lt
  generalize w.alloc (.cells (nums (zs 32)).toArray 24) = w0 at *
  generalize hBe : w.heap.size = B at *
  have HBE := Lib.hid hBe
  clear hBe
  have HK0 := Lib.hid (HK.out.below b0 (fun b _ h => h))
  refine (keyBlock_any HK0.out r0 (by omega)).mono ?_
  rintro e w1 ⟨rfl, hb1⟩
  have K1 := Lib.hid (k0.below hb1 k0.lt)
  have B1 : Hid (Below B w w1) := Lib.hid (b0.trans (hb1.mono (by omega)))
  have hs1 : B < w1.heap.size := K1.out.lt
  clear k0 b0 r0 s0 hb1 HK0
  have hNa := all_nums (Sm.kb key)
  have HNS : Hid ((nums (Sm.kb key)).toArray.size = 64) := Lib.hid (by simp [nums_len, HKL.out])
  go_wp2_with (first
    | ((with_reducible show wpList _ _ _ ((⟨_, Op.store 39 _ _, _, _, _, _⟩ : Oper) :: _) _ _); refine wpList_store_row rfl _ (.tmp 5) (.tmp 10) rfl w1.heap.size _ rfl rfl 39 _ (Whole.new _ _ _) (by rw [HNS.out]; exact infoB64) (by rw [HNS.out]; rfl) hNa ?_)
    | ((with_reducible show wpList _ _ _ ((⟨_, Op.load 39 _, _, _, _, _⟩ : Oper) :: _) _ _); refine wpList_load_row rfl _ (.tmp 5) rfl w1.heap.size rfl 39 (nums (Sm.kb key)).toArray (0, 0) _ put_row undB64 rfl (by rw [HNS.out]; exact infoB64) ?_)
    | fail)
  rw [zero64b]
  have k2 : Whole ((w1.alloc (.cells (nums (zs 64)).toArray 39)).setRow w1.heap.size (nums (Sm.kb key)).toArray) B 24 (nums (zs 32)).toArray := put_far K1.out
  have p2 : Whole ((w1.alloc (.cells (nums (zs 64)).toArray 39)).setRow w1.heap.size (nums (Sm.kb key)).toArray) w1.heap.size 39 (nums (Sm.kb key)).toArray := put_row
  have b2 : Below B w ((w1.alloc (.cells (nums (zs 64)).toArray 39)).setRow w1.heap.size (nums (Sm.kb key)).toArray) := put_below B1.out (by omega)
  generalize (w1.alloc (.cells (nums (zs 64)).toArray 39)).setRow w1.heap.size (nums (Sm.kb key)).toArray = w2 at *
  generalize w1.heap.size = P at *
  refine (changed_any 54 (Sm.kb key) w2 (by omega) HBK.out HKL.out).mono ?_
  rintro e w3 ⟨rfl, hb3⟩
  have hPs := p2.lt
  have H3 := Lib.hid (And.intro (k2.below hb3 k2.lt) (And.intro (p2.below hb3 p2.lt) (b2.trans (hb3.mono (by omega)))))
  have hs3 : P < w3.heap.size := Nat.lt_of_lt_of_le p2.lt hb3.size
  clear k2 p2 b2 hb3 K1 B1 hPs
  have hNb := all_nums (Sm.chg 54 (Sm.kb key))
  have HNS2 : Hid ((nums (Sm.chg 54 (Sm.kb key))).toArray.size = 64) := Lib.hid (by simp [nums_len, chg_len, HKL.out])
  go_wp2_with (first
    | ((with_reducible show wpList _ _ _ ((⟨_, Op.store 39 _ _, _, _, _, _⟩ : Oper) :: _) _ _); refine wpList_store_row rfl _ (.tmp 6) (.tmp 12) rfl w3.heap.size _ rfl rfl 39 _ (Whole.new _ _ _) (by rw [HNS2.out]; exact infoB64) (by rw [HNS2.out]; rfl) hNb ?_)
    | fail)
  rw [zero64b]
  have k4 : Whole ((w3.alloc (.cells (nums (zs 64)).toArray 39)).setRow w3.heap.size (nums (Sm.chg 54 (Sm.kb key))).toArray) B 24 (nums (zs 32)).toArray := put_far H3.out.1
  have p4 : Whole ((w3.alloc (.cells (nums (zs 64)).toArray 39)).setRow w3.heap.size (nums (Sm.chg 54 (Sm.kb key))).toArray) P 39 (nums (Sm.kb key)).toArray := put_far H3.out.2.1
  have f4 : Whole ((w3.alloc (.cells (nums (zs 64)).toArray 39)).setRow w3.heap.size (nums (Sm.chg 54 (Sm.kb key))).toArray) w3.heap.size 39 (nums (Sm.chg 54 (Sm.kb key))).toArray := put_row
  have b4 : Below B w ((w3.alloc (.cells (nums (zs 64)).toArray 39)).setRow w3.heap.size (nums (Sm.chg 54 (Sm.kb key))).toArray) := put_below H3.out.2.2 (by omega)
  have z4 : ((w3.alloc (.cells (nums (zs 64)).toArray 39)).setRow w3.heap.size (nums (Sm.chg 54 (Sm.kb key))).toArray).heap.size = w3.heap.size + 1 := put_size
  generalize (w3.alloc (.cells (nums (zs 64)).toArray 39)).setRow w3.heap.size (nums (Sm.chg 54 (Sm.kb key))).toArray = w4 at *
  generalize w3.heap.size = F at *
  have q5 := Whole.new w4 22 #[.slice (some ⟨F, 0, none⟩) 64 64, .slice a' n' c']
  rw [z4] at q5
  have k5 := k4.alloc (.cells #[.slice (some ⟨F, 0, none⟩) 64 64, .slice a' n' c'] 22)
  have p5 := p4.alloc (.cells #[.slice (some ⟨F, 0, none⟩) 64 64, .slice a' n' c'] 22)
  have f5 := f4.alloc (.cells #[.slice (some ⟨F, 0, none⟩) 64 64, .slice a' n' c'] 22)
  have b5 := b4.alloc (by omega) (.cells #[.slice (some ⟨F, 0, none⟩) 64 64, .slice a' n' c'] 22)
  generalize w4.alloc (.cells #[.slice (some ⟨F, 0, none⟩) 64 64, .slice a' n' c'] 22) = w5 at *
  have t5 := txt_of_whole (fun _ => True) trivial f5 HB1.out 64 64 (by rw [chg_len, HKL.out]; omega) (by omega)
  rw [List.take_of_length_le (by rw [chg_len, HKL.out]; omega)] at t5
  have hp := parts_two (S := fun _ => True) q5 trivial t5 ((HT.out.below b5 (fun b _ h => h)).weak (fun _ _ _ => trivial))
  refine (sum_any hp (HR.out.below b5 (by omega)) (by simp [chg_len, HKL.out, HN'.out]; omega) (by omega)).mono ?_
  rintro e w6 ⟨rfl, hb6⟩
  rw [show [Sm.chg 54 (Sm.kb key), text].flatten = Sm.chg 54 (Sm.kb key) ++ text by simp]
  have hs5 : F + 1 < w5.heap.size := q5.lt
  have H6 := Lib.hid (And.intro (k5.below hb6 k5.lt) (And.intro (p5.below hb6 p5.lt) (b5.trans (hb6.mono (by omega)))))
  have hs6 : F + 1 < w6.heap.size := Nat.lt_of_lt_of_le hs5 hb6.size
  clear z4 k4 p4 f4 b4 k5 p5 f5 b5 q5 t5 hp hb6 hs5 H3
  have HC2 : Hid (res = Sm.dig (Sm.chg 92 (Sm.kb key) ++ Sm.dig (Sm.chg 54 (Sm.kb key) ++ text))) := HC
  clear HC
  have hbi := byt_dig (Sm.chg 54 (Sm.kb key) ++ text)
  have hli := dig_len (Sm.chg 54 (Sm.kb key) ++ text)
  have HBI := Lib.hid (And.intro hbi hli)
  clear hbi hli
  with_reducible generalize Sm.dig (Sm.chg 54 (Sm.kb key) ++ text) = inner at *
  have hNc := all_nums inner
  have HNS3 : Hid ((nums inner).toArray.size = 32) := Lib.hid (by simp [nums_len, HBI.out.2])
  go_wp2_with (first
    | ((with_reducible show wpList _ _ _ ((⟨_, Op.store 24 _ _, _, _, _, _⟩ : Oper) :: _) _ _); refine wpList_store_row rfl _ (.tmp 7) (.tmp 16) rfl w6.heap.size _ rfl rfl 24 _ (Whole.new _ _ _) (by rw [HNS3.out]; exact info32) (by rw [HNS3.out]; rfl) hNc ?_)
    | ((with_reducible show wpList _ _ _ ((⟨_, Op.load 39 _, _, _, _, _⟩ : Oper) :: _) _ _); refine wpList_load_row rfl _ (.tmp 5) rfl P rfl 39 (nums (Sm.kb key)).toArray (0, 0) _ (put_far H6.out.2.1) undB64 rfl (by rw [HNS.out]; exact infoB64) ?_)
    | fail)
  rw [zero32z]
  have k7 : Whole ((w6.alloc (.cells (nums (zs 32)).toArray 24)).setRow w6.heap.size (nums inner).toArray) B 24 (nums (zs 32)).toArray := put_far H6.out.1
  have i7 : Whole ((w6.alloc (.cells (nums (zs 32)).toArray 24)).setRow w6.heap.size (nums inner).toArray) w6.heap.size 24 (nums inner).toArray := put_row
  have b7 : Below B w ((w6.alloc (.cells (nums (zs 32)).toArray 24)).setRow w6.heap.size (nums inner).toArray) := put_below H6.out.2.2 (by omega)
  generalize (w6.alloc (.cells (nums (zs 32)).toArray 24)).setRow w6.heap.size (nums inner).toArray = w7 at *
  generalize w6.heap.size = I at *
  refine (changed_any 92 (Sm.kb key) w7 (by omega) HBK.out HKL.out).mono ?_
  rintro e w8 ⟨rfl, hb8⟩
  have hIs := i7.lt
  have H8 := Lib.hid (And.intro (k7.below hb8 k7.lt) (And.intro (i7.below hb8 i7.lt) (b7.trans (hb8.mono (by omega)))))
  have hs8 : I < w8.heap.size := Nat.lt_of_lt_of_le i7.lt hb8.size
  clear k7 i7 b7 hb8 H6 hIs hNa hNb hNc
  have hNd := all_nums (Sm.chg 92 (Sm.kb key))
  have HNS4 : Hid ((nums (Sm.chg 92 (Sm.kb key))).toArray.size = 64) := Lib.hid (by simp [nums_len, chg_len, HKL.out])
  go_wp2_with (first
    | ((with_reducible show wpList _ _ _ ((⟨_, Op.store 39 _ _, _, _, _, _⟩ : Oper) :: _) _ _); refine wpList_store_row rfl _ (.tmp 8) (.tmp 18) rfl w8.heap.size _ rfl rfl 39 _ (Whole.new _ _ _) (by rw [HNS4.out]; exact infoB64) (by rw [HNS4.out]; rfl) hNd ?_)
    | fail)
  rw [zero64b]
  have k9 : Whole ((w8.alloc (.cells (nums (zs 64)).toArray 39)).setRow w8.heap.size (nums (Sm.chg 92 (Sm.kb key))).toArray) B 24 (nums (zs 32)).toArray := put_far H8.out.1
  have i9 : Whole ((w8.alloc (.cells (nums (zs 64)).toArray 39)).setRow w8.heap.size (nums (Sm.chg 92 (Sm.kb key))).toArray) I 24 (nums inner).toArray := put_far H8.out.2.1
  have f9 : Whole ((w8.alloc (.cells (nums (zs 64)).toArray 39)).setRow w8.heap.size (nums (Sm.chg 92 (Sm.kb key))).toArray) w8.heap.size 39 (nums (Sm.chg 92 (Sm.kb key))).toArray := put_row
  have b9 : Below B w ((w8.alloc (.cells (nums (zs 64)).toArray 39)).setRow w8.heap.size (nums (Sm.chg 92 (Sm.kb key))).toArray) := put_below H8.out.2.2 (by omega)
  generalize (w8.alloc (.cells (nums (zs 64)).toArray 39)).setRow w8.heap.size (nums (Sm.chg 92 (Sm.kb key))).toArray = w9 at *
  generalize w8.heap.size = G at *
  go_still_tail 2, (by kernel_rfl)
  change wpList _ _ _ _ _ w9.drew
  have k10 : Whole w9.drew B 24 (nums (zs 32)).toArray := k9
  have i10 : Whole w9.drew I 24 (nums inner).toArray := i9
  have f10 : Whole w9.drew G 39 (nums (Sm.chg 92 (Sm.kb key))).toArray := f9
  have b10 : Below B w w9.drew := b9.drew
  have s10 : G < w9.drew.heap.size := f10.lt
  generalize w9.drew = w10 at *
  have H10 := Lib.hid (And.intro k10 (And.intro i10 (And.intro f10 b10)))
  clear k9 i9 f9 b9 k10 i10 f10 b10 H8
  go_wp2_with fail
  have q := Whole.new w10 22 #[.slice (some ⟨G, 0, none⟩) 64 64, .slice (some ⟨I, 0, none⟩) 32 32]
  have k := H10.out.1.alloc (.cells #[.slice (some ⟨G, 0, none⟩) 64 64, .slice (some ⟨I, 0, none⟩) 32 32] 22)
  have i := H10.out.2.1.alloc (.cells #[.slice (some ⟨G, 0, none⟩) 64 64, .slice (some ⟨I, 0, none⟩) 32 32] 22)
  have f := H10.out.2.2.1.alloc (.cells #[.slice (some ⟨G, 0, none⟩) 64 64, .slice (some ⟨I, 0, none⟩) 32 32] 22)
  have b := H10.out.2.2.2.alloc (by omega) (.cells #[.slice (some ⟨G, 0, none⟩) 64 64, .slice (some ⟨I, 0, none⟩) 32 32] 22)
  generalize w10.alloc (.cells #[.slice (some ⟨G, 0, none⟩) 64 64, .slice (some ⟨I, 0, none⟩) 32 32] 22) = w11 at *
  have t1 := txt_of_whole (fun _ => True) trivial f HB2.out 64 64 (by rw [chg_len, HKL.out]; omega) (by omega)
  rw [List.take_of_length_le (by rw [chg_len, HKL.out]; omega)] at t1
  have t2 := txt_of_whole (fun _ => True) trivial i HBI.out.1 32 32 (by rw [HBI.out.2]; omega) (by omega)
  rw [List.take_of_length_le (by rw [HBI.out.2]; omega)] at t2
  have hp := parts_two (S := fun _ => True) q trivial t1 t2
  refine (sum_any hp (HR.out.below b (by omega)) (by simp [chg_len, HKL.out, HBI.out.2]) (by omega)).mono ?_
  rintro e w12 ⟨rfl, hb12⟩
  rw [show [Sm.chg 92 (Sm.kb key), inner].flatten = Sm.chg 92 (Sm.kb key) ++ inner by simp, ← HC2.out]
  have hl := dig_len (Sm.chg 92 (Sm.kb key) ++ inner)
  rw [← HC2.out] at hl
  have HL := Lib.hid hl
  have H12 := Lib.hid (And.intro (k.below hb12 k.lt) (b.trans (hb12.mono (Nat.le_of_lt k.lt))))
  clear q k i f b t1 t2 hp hb12 hl H10
  have hNe := all_nums res
  have HNS5 : Hid ((nums res).toArray.size = 32) := Lib.hid (by simp [nums_len, HL.out])
  have HZ32 : Hid ((nums (zs 32)).toArray.size = 32) := Lib.hid rfl
  with_reducible generalize hN : (nums res).toArray = N at *
  go_wp2_with ((with_reducible show wpList _ _ _ ((⟨_, Op.store 24 _ _, _, _, _, _⟩ : Oper) :: _) _ _); refine wpList_store_row rfl _ (.tmp 4) (.tmp 22) rfl B N rfl rfl 24 _ H12.out.1 (by rw [HNS5.out]; exact info32) (by rw [HZ32.out, HNS5.out]) hNe ?_)
  refine bodyPost_ret (results_one_cell rfl _ _ _ _ rfl (run_loadVar_row _ _ _ _ _ (0, 0) _ (H12.out.1.row N) und32 rfl (by rw [HNS5.out]; exact info32))) rfl ?_
  exact ⟨by rw [hN], by rw [HBE.out]; exact below_row H12.out.2 (Nat.le_refl _) N⟩
end Go.Proofs.YtndiojiphoomgaaDoor
