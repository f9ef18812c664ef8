/-
  The walk of the statements' awake; names.
-/
import Derived.Test.YtjpgepodkeccmaaDoorUn
import Derived.Deep.DeepCutAuto
import Derived.Lib.ConvBytes
import Derived.Lib.Bytes
import Derived.Lib.SlBytesConst
import Derived.Great.CaseRows
namespace Go.Proofs.YtjpgepodkeccmaaDoor
open Go.RowKit
set_option linter.unusedVariables false
set_option linter.unusedSimpArgs false
set_option maxRecDepth 20000
theorem convert_txt {w : World} {S : Nat → Prop} {a : Option Addr} {n c : Nat} {l : List Int} (h : Txt w S a n c l) : (convert 26 9 (.slice a n c)).run Tryd.prog w = .ok (.string (strOfNums l)) w := by
  rcases h.2.2.2 with h0 | ⟨b, off, rfl, _, _, hc⟩
  · subst h0
    have hn : n = 0 := h.1.symm
    subst hn
    cases a with
    | none => exact run_convert_bytes_nil w 26 5 Tryd.underlying26 Tryd.underlying5 0 c 9 Tryd.underlying9
    | some ad =>
      rw [run_convert_bytes_string w 26 9 5 _ 0 c Tryd.underlying26 Tryd.underlying5 Tryd.underlying9]
      rw [run_bytesToString w ad 0 c [] rfl]
      rfl
  · exact run_convert_bytes_arg w 26 5 Tryd.underlying26 Tryd.underlying5 b off n c l h.1 hc 9 Tryd.underlying9
theorem Only.aft {S : List Nat} {a b w : World} (h : Only S a b) (hb : Below w.heap.size w a) (hS : ∀ x ∈ S, w.heap.size ≤ x) : Below w.heap.size w b := hb.trans (h.below hb.size hS)
theorem txt_new {w : World} {t : TypeId} {fr : Nat × Nat} {l : List Int} (hb : Byt l) : Txt (w.alloc (.cells (nums l).toArray t fr)) (· = w.heap.size) (some ⟨w.heap.size, 0, none⟩) l.length l.length l := by
  refine ⟨rfl, Nat.le_refl _, hb, Or.inr ⟨w.heap.size, 0, rfl, rfl, by simp, fun k hk => ?_⟩⟩
  rw [Nat.zero_add, cell_of_row _ _ k (nums l).toArray t fr (heap_alloc_new w _), List.getElem?_toArray, nums_get l k hk]
theorem built_132 (a s : Int) (h0 h1 h2 h3 h4 h5 h6 h7 h8 h9 h10 h11 h12 h13 h14 h15 h16 h17 h18 h19 h20 h21 h22 h23 h24 h25 h26 h27 h28 h29 h30 h31 : Int) : Tryd.prog.built 41 [(0, .int .i64 a), (2, .int .i64 s), (3, .agg (nums [h0, h1, h2, h3, h4, h5, h6, h7, h8, h9, h10, h11, h12, h13, h14, h15, h16, h17, h18, h19, h20, h21, h22, h23, h24, h25, h26, h27, h28, h29, h30, h31]).toArray)] = some (bc ⟨a, 0, s, [h0, h1, h2, h3, h4, h5, h6, h7, h8, h9, h10, h11, h12, h13, h14, h15, h16, h17, h18, h19, h20, h21, h22, h23, h24, h25, h26, h27, h28, h29, h30, h31]⟩).toArray := by kernel_rfl
theorem built_asw (a s : Int) (h : List Int) (hh : h.length = 32) : Tryd.prog.built 41 [(0, .int .i64 a), (2, .int .i64 s), (3, .agg (nums h).toArray)] = some (bc ⟨a, 0, s, h⟩).toArray := by
  match h, hh with
  | [h0, h1, h2, h3, h4, h5, h6, h7, h8, h9, h10, h11, h12, h13, h14, h15, h16, h17, h18, h19, h20, h21, h22, h23, h24, h25, h26, h27, h28, h29, h30, h31], _ => exact built_132 a s h0 h1 h2 h3 h4 h5 h6 h7 h8 h9 h10 h11 h12 h13 h14 h15 h16 h17 h18 h19 h20 h21 h22 h23 h24 h25 h26 h27 h28 h29 h30 h31
def abc : List Int := [97, 98, 99]
theorem byt_abc : Byt abc := byt_cons (by omega) (by omega) (byt_cons (by omega) (by omega) (byt_cons (by omega) (by omega) byt_nil))
def abcD : List Int := Sm.dig abc
theorem abc_not : Sm.dig [0, 0, 0] ≠ abcD := by
  intro h
  have h0 : (Sm.dig [0, 0, 0]).getD 0 0 = abcD.getD 0 0 := by rw [h]
  have : ¬ ((Sm.dig [0, 0, 0]).getD 0 0 = abcD.getD 0 0) := by decide +kernel
  exact this h0
def BA : Im.Bt := ⟨1, 0, 3, abcD⟩
theorem BA_may : Im.May BA := ⟨Or.inr rfl, by decide, by decide, by decide, by decide⟩
theorem BA_w : Im.W32 BA := ⟨dig_len _, byt_dig _⟩
theorem area_blk {C : List Int} {fr size : Nat} (h : size ≤ 64) : area C fr size = (Dm.blk C fr).take size := by
  unfold area Dm.blk
  rw [List.take_take, Nat.min_eq_left h]
theorem area_put {C b : List Int} {n fr at_ : Nat} (hC : C.length = 64 * n) (h : 64 * fr + at_ + b.length ≤ 64 * n) : (area (Dm.put C (64 * fr + at_) b) fr (at_ + b.length)).drop at_ = b := by
  apply List.ext_getElem?
  intro i
  rw [List.getElem?_drop, area_get, Dm.put_get (by omega)]
  by_cases e : i < b.length
  · rw [if_pos (by omega), if_pos (by omega)]
    congr 1; omega
  · rw [if_neg (by omega), List.getElem?_eq_none (by omega)]
theorem area_far {C b : List Int} {o fr size : Nat} (hC : o + b.length ≤ C.length) (h : 64 * fr + size ≤ o ∨ o + b.length ≤ 64 * fr) : area (Dm.put C o b) fr size = area C fr size := by
  apply List.ext_getElem?
  intro i
  rw [area_get, area_get]
  by_cases e : i < size
  · rw [if_pos e, if_pos e, Dm.put_get hC, if_neg (by omega)]
  · rw [if_neg e, if_neg e]
theorem fits_190 : fitsB 10 2 3 190 3 = false := by decide
set_option maxHeartbeats 8000000 in
theorem awake_any {w : World} (hR : Sh.Roots w) : Calls Tryd.prog 10 #[] w fun e w' => e = .returned (.bool true) ∧ Below w.heap.size w w' := by
  obtain ⟨fsB, hun⟩ := und_bt
  have hzb := zero_bt
  have HR := Lib.hid (And.intro hR hR.two)
  clear hR
  go_enter Tryd.func10, Tryd.ntmps10
  go_wp2_with fail
  refine (new_ok (n := 10) (by omega)).mono ?_
  rintro e w1 ⟨p, bb, mb, rfl, hd1, hp, hbb, hmb, hb1⟩
  have HP : Hid (w.heap.size ≤ p ∧ w.heap.size ≤ bb ∧ w.heap.size ≤ mb ∧ p < w1.heap.size ∧ bb < w1.heap.size ∧ mb < w1.heap.size) := Lib.hid ⟨hp, hbb, hmb, hd1.cells.lt, hd1.bytes.lt, hd1.map.lt⟩
  have H1 := Lib.hid (And.intro hd1 hb1)
  clear hd1 hb1 hp hbb hmb
  go_wp2_with fail
  refine (istart_pr H1.out.1 rfl (by omega) (fresh_pr 10 (by omega)) (by omega)).mono ?_
  rintro e w2 ⟨D0, rfl, hD0, hb2⟩
  obtain ⟨w3, h3, k3, b3⟩ := boxedb w2 (D := D0)
  have hbe3 := hb2.trans (b3.mono hb2.size)
  have H3 := Lib.hid (And.intro h3 (And.intro hD0 (And.intro (H1.out.1.old hbe3) (H1.out.2.trans (hbe3.mono H1.out.2.size)))))
  clear h3 k3 b3 hbe3 hb2 hD0
  have kc := fun (w : World) (C : Array Value) (n c : Nat) => Lib.run_convert_bytes_const (P := Tryd.prog) w 26 5 C n c Tryd.underlying26 Tryd.underlying5
  go_wp2_with (first | ((with_reducible show wpList _ _ _ ((⟨_, Op.store 41 _ _, _, _, _, _⟩ : Oper) :: _) _ _); refine wpList_store_row rfl 41 (.tmp 3) (.tmp 20) rfl w2.heap.size D0 rfl rfl 41 zbt (Whole.new w2 _ _) (KC.info H3.out.2.1) (Eq.trans (b := 35) rfl (KC.size H3.out.2.1).symm) (KC.all H3.out.2.1) ?_; rw [H3.out.1]) | fail)
  have ht3 : Txt (w3.alloc (.cells #[.int .u8 97, .int .u8 98, .int .u8 99] 5 (3, 4))) (· = w3.heap.size) (some ⟨w3.heap.size, 0, none⟩) 3 3 abc := txt_new (l := abc) byt_abc
  have hk4 := Whole.new (w3.alloc (.cells #[.int .u8 97, .int .u8 98, .int .u8 99] 5 (3, 4))) 26 #[.slice (some ⟨w3.heap.size, 0, none⟩) 3 3]
  have hb4 : Below w3.heap.size w3 ((w3.alloc (.cells #[.int .u8 97, .int .u8 98, .int .u8 99] 5 (3, 4))).alloc (.cells #[.slice (some ⟨w3.heap.size, 0, none⟩) 3 3] 26)) := (below_alloc w3 _).alloc (by simp) _
  have ht4 : Txt ((w3.alloc (.cells #[.int .u8 97, .int .u8 98, .int .u8 99] 5 (3, 4))).alloc (.cells #[.slice (some ⟨w3.heap.size, 0, none⟩) 3 3] 26)) (fun _ => True) (some ⟨w3.heap.size, 0, none⟩) 3 3 abc := (ht3.keep (by simp) (fun b hb _ => Below.heap_alloc _ _ _ hb)).weak (fun _ _ _ => trivial)
  rw [size_alloc] at hk4
  generalize (w3.alloc (.cells #[.int .u8 97, .int .u8 98, .int .u8 99] 5 (3, 4))).alloc (.cells #[.slice (some ⟨w3.heap.size, 0, none⟩) 3 3] 26) = w4 at *
  have hpa := parts_one (S := fun _ => True) hk4 trivial ht4
  have hbw4 := H3.out.2.2.2.trans (hb4.mono H3.out.2.2.2.size)
  refine (Sh.sum_any hpa (HR.out.1.below hbw4 HR.out.2) (by simp [abc]) (by omega)).mono ?_
  rintro e w5 ⟨rfl, hb5⟩
  rw [show Sm.dig [abc].flatten = abcD from rfl]
  have H5 : Hid (Dk w5 p bb mb (fresh 10) 10 ∧ Below w.heap.size w w5) := Lib.hid ⟨(H3.out.2.2.1.old hb4).old hb5, hbw4.trans (hb5.mono hbw4.size)⟩
  clear ht3 hk4 hb4 ht4 hpa hbw4 hb5 kc
  go_wp2_with (first | ((with_reducible show wpList _ _ _ ((⟨_, Op.build 41 _, _, _, _, _⟩ : Oper) :: _) _ _); refine wpList_built rfl _ rfl [(0, .int .i64 1), (2, .int .i64 3), (3, .agg (nums abcD).toArray)] rfl _ (built_asw 1 3 abcD (dig_len abc)) ?_) | fail)
  have hBA : KC (bc ⟨1, 0, 3, abcD⟩).toArray BA := ⟨rfl, BA_w⟩
  refine (ipoint_pr H5.out.1 rfl (by omega) (fresh_pr 10 (by omega)) (by omega) hBA BA_may).mono ?_
  rintro e w6 ⟨rfl, A1, hd6, hdn6, hpr6, hrd6, ho6⟩
  have H6 : Hid (Dk w6 p bb mb A1 10 ∧ A1.down = false ∧ Im.Pr (Dm.read A1) (0 + 1) BA ∧ (∀ m, Dm.read A1 m = if m = 1 - (0 + 1) % 2 then Im.blkOf BA (0 + 1) else Dm.read (fresh 10) m) ∧ Below w.heap.size w w6) := Lib.hid ⟨hd6, hdn6, hpr6, hrd6, ho6.aft H5.out.2 (by have := HP.out; intro x hx; simp at hx; omega)⟩
  clear hd6 hdn6 hpr6 hrd6 ho6 hBA
  go_wp2_with fail
  refine (istart_pr H6.out.1 H6.out.2.1 (by omega) H6.out.2.2.1 (by omega)).mono ?_
  rintro e w7 ⟨D1, rfl, hD1, hb7⟩
  obtain ⟨w8, h8, k8, b8⟩ := boxedb w7 (D := D1)
  have hbe8 := hb7.trans (b8.mono hb7.size)
  have H8 := Lib.hid (And.intro h8 (And.intro hD1 (And.intro (H6.out.1.old hbe8) (And.intro (H6.out.2.2.2.2.trans (hbe8.mono H6.out.2.2.2.2.size)) k8))))
  have HP8 : Hid (w.heap.size ≤ w7.heap.size ∧ w7.heap.size ≠ p ∧ w7.heap.size ≠ bb ∧ w7.heap.size ≠ mb) := Lib.hid ⟨Nat.le_trans H6.out.2.2.2.2.size hb7.size, by have := H6.out.1.cells.lt; have := hb7.size; omega, by have := H6.out.1.bytes.lt; have := hb7.size; omega, by have := H6.out.1.map.lt; have := hb7.size; omega⟩
  clear h8 k8 b8 hbe8 hb7 hD1
  have kc := fun (w : World) (C : Array Value) (n c : Nat) => Lib.run_convert_bytes_const (P := Tryd.prog) w 26 5 C n c Tryd.underlying26 Tryd.underlying5
  go_wp2_with (first | ((with_reducible show wpList _ _ _ ((⟨_, Op.store 41 _ _, _, _, _, _⟩ : Oper) :: _) _ _); refine wpList_store_row rfl 41 (.tmp 7) (.tmp 33) rfl w7.heap.size D1 rfl rfl 41 zbt (Whole.new w7 _ _) (KC.info H8.out.2.1) (Eq.trans (b := 35) rfl (KC.size H8.out.2.1).symm) (KC.all H8.out.2.1) ?_; rw [H8.out.1]) | fail)
  have hb9 := below_alloc w8 (.cells #[.int .u8 97, .int .u8 98, .int .u8 99] 5 (3, 4))
  have ht9 : Txt (w8.alloc (.cells #[.int .u8 97, .int .u8 98, .int .u8 99] 5 (3, 4))) (· = w8.heap.size) (some ⟨w8.heap.size, 0, none⟩) 3 3 abc := txt_new (l := abc) byt_abc
  have hd9 := H8.out.2.2.1.old hb9
  have hk9 := H8.out.2.2.2.2.keep (hb9.block _ H8.out.2.2.2.2.lt)
  have hpl := H8.out.2.2.1.cells.lt
  have hbl := H8.out.2.2.1.bytes.lt
  have hml := H8.out.2.2.1.map.lt
  have hw9 := H8.out.2.2.2.1.trans (hb9.mono H8.out.2.2.2.1.size)
  generalize w8.alloc (.cells #[.int .u8 97, .int .u8 98, .int .u8 99] 5 (3, 4)) = w9 at *
  refine (put_ok (fr := 2) (room := 3) (at_ := 0) hd9 H6.out.2.1 (by omega) (by omega) ht9 (fun x hx => by have hx' : x = w8.heap.size := hx; omega)).mono ?_
  rintro e w10 ⟨rfl, A2, hd10, hdn10, hnow10, ho10⟩
  have hk10 := hk9.keep (ho10.block _ hk9.lt (by have := HP8.out; simp; omega))
  have H10 : Hid (Dk w10 p bb mb A2 10 ∧ A2.down = false ∧ Dm.now A2 = Dm.put (Dm.now A1) (64 * 2 + 0) abc ∧ Whole w10 w7.heap.size 41 D1 ∧ Below w.heap.size w w10) := Lib.hid ⟨hd10, hdn10, hnow10, hk10, ho10.aft hw9 (by have := HP.out; intro x hx; simp at hx; omega)⟩
  clear hb9 ht9 hd9 hk9 hpl hbl hml hw9 hd10 hdn10 hnow10 ho10 hk10 kc
  go_wp2_with fail
  refine (get_ok (fr := 2) (room := 3) (size := 3) H10.out.1 H10.out.2.1 (by omega) (by omega)).mono ?_
  rintro e w11 ⟨g, rfl, hg, hgs, hb11⟩
  have hn1 := Dm.now_get H6.out.1.ok
  have har2 : area (Dm.now A2) 2 3 = abc := by rw [H10.out.2.2.1]; exact area_put (at_ := 0) (b := abc) hn1.1 (by simp [abc])
  have har5 : area (Dm.now A2) 5 3 = [0, 0, 0] := by
    rw [H10.out.2.2.1, area_far (by rw [hn1.1]; simp [abc]) (Or.inr (by simp [abc])), area_blk (by omega), hn1.2.2, H6.out.2.2.2.1, if_neg (by omega), read_fresh (by omega)]
    rfl
  rw [har2] at hg
  have htg : Txt w11 (fun _ => True) (some ⟨g, 0, none⟩) 3 3 abc := txt_part (fun _ => True) trivial hg byt_abc 0 3 3 (by simp [abc]) (by omega)
  have hcv := convert_txt htg
  rw [show strOfNums abc = ⟨#[97, 98, 99]⟩ by decide +kernel] at hcv
  have hk11 := H10.out.2.2.2.1.keep (hb11.block _ H10.out.2.2.2.1.lt)
  have hba : w11.cell? ⟨w7.heap.size, 0, none⟩ = some (.int .i64 1) := H8.out.2.1.c0 hk11
  have H11 : Hid (Dk w11 p bb mb A2 10 ∧ Below w.heap.size w w11 ∧ Whole w11 w7.heap.size 41 D1) := Lib.hid ⟨H10.out.1.old hb11, H10.out.2.2.2.2.trans (hb11.mono H10.out.2.2.2.2.size), hk11⟩
  have HAR := Lib.hid (And.intro har2 har5)
  clear hn1 har2 har5 hg hgs hb11 htg hk11
  go_wp2_with (first | ((with_reducible show wpList _ _ _ ((⟨_, Op.load 41 _, _, _, _, _⟩ : Oper) :: _) _ _); refine wpList_load_rowG (by rfl) 41 (.tmp 7) rfl w7.heap.size rfl 41 D1 (0, 0) _ H11.out.2.2 hun rfl (KC.info H8.out.2.1) ?_) | fail)
  refine (iwhole_ok (fr := 2) (room := 3) (size := 3) H11.out.1 (HR.out.1.below H11.out.2.1 HR.out.2) H10.out.2.1 (by omega) (by omega) H8.out.2.1 rfl).mono ?_
  rintro e w12 ⟨rfl, hb12⟩
  rw [HAR.out.1, if_pos (show Sm.dig abc = BA.whole from rfl)]
  have H12 : Hid (Dk w12 p bb mb A2 10 ∧ Below w.heap.size w w12 ∧ Whole w12 w7.heap.size 41 D1) := Lib.hid ⟨H11.out.1.old hb12, H11.out.2.1.trans (hb12.mono H11.out.2.1.size), H11.out.2.2.keep (hb12.block _ H11.out.2.2.lt)⟩
  clear hb12 hcv hba
  go_wp2_with (first | ((with_reducible show wpList _ _ _ ((⟨_, Op.load 41 _, _, _, _, _⟩ : Oper) :: _) _ _); refine wpList_load_rowG (by rfl) 41 (.tmp 7) rfl w7.heap.size rfl 41 D1 (0, 0) _ H12.out.2.2 hun rfl (KC.info H8.out.2.1) ?_) | fail)
  refine (iwhole_ok (fr := 5) (room := 3) (size := 3) H12.out.1 (HR.out.1.below H12.out.2.1 HR.out.2) H10.out.2.1 (by omega) (by omega) H8.out.2.1 rfl).mono ?_
  rintro e w13 ⟨rfl, hb13⟩
  rw [HAR.out.2, if_neg (show ¬ Sm.dig [0, 0, 0] = BA.whole from abc_not)]
  have H13 : Hid (Dk w13 p bb mb A2 10 ∧ Below w.heap.size w w13) := Lib.hid ⟨H12.out.1.old hb13, H12.out.2.1.trans (hb13.mono H12.out.2.1.size)⟩
  clear hb13
  have e65 : blks 65 = 2 := rfl
  have HI := Lib.hid fun (w : World) => iblocks_any (w := w) (z := 65) ⟨by omega, by omega⟩
  rw [e65] at HI
  have kc := fun (w : World) (C : Array Value) (n c : Nat) => Lib.run_convert_bytes_const (P := Tryd.prog) w 26 5 C n c Tryd.underlying26 Tryd.underlying5
  clear e65
  go_wp2_with (first | (go_at_call 11; refine (HI.out _).mono ?_; rintro e w' ⟨rfl, rfl⟩) | fail)
  have hb14 := below_alloc w13 (.cells #[.int .u8 97, .int .u8 98, .int .u8 99] 5 (3, 4))
  have hd14 := H13.out.1.old hb14
  have H14 : Hid (Below w.heap.size w (w13.alloc (.cells #[.int .u8 97, .int .u8 98, .int .u8 99] 5 (3, 4)))) := Lib.hid (H13.out.2.trans (hb14.mono H13.out.2.size))
  generalize w13.alloc (.cells #[.int .u8 97, .int .u8 98, .int .u8 99] 5 (3, 4)) = w14 at *
  refine (put_arg (len := 3) hd14 ⟨by omega, by omega⟩ ⟨by omega, by omega⟩ (by decide) fits_190).mono ?_
  rintro e w15 ⟨rfl, rfl⟩
  clear hb14 hd14 kc
  go_wp2
  go_ret
  exact ⟨rfl, H14.out⟩
set_option maxHeartbeats 4000000 in
theorem names_walk (w : World) (hR : Sh.Roots w) : Calls Tryd.prog 3 #[] w fun e w' => e = .returned (.bool true) ∧ Below w.heap.size w w' := by
  go_enter Tryd.func3, Tryd.ntmps3
  go_wp2_with (first | (go_at_call 10; refine (awake_any hR).mono ?_; rintro e w1 ⟨rfl, hb1⟩) | fail)
  go_ret
  exact ⟨rfl, hb1⟩
end Go.Proofs.YtjpgepodkeccmaaDoor
