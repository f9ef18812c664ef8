/-
  The walk of awake.
-/
import Derived.Test.YtfhaipeimpaeiaaZk
namespace Go.Proofs.Ytfhaipeimpaeiaa
open Go.RowKit
set_option linter.unusedVariables false
set_option linter.unusedSimpArgs false
theorem Only.after {p bb mb : Nat} {a b w : World} (h : Only [p, bb, mb] a b) (hb : Below w.heap.size w a) (hP : w.heap.size ≤ p ∧ w.heap.size ≤ bb ∧ w.heap.size ≤ mb) : Below w.heap.size w b :=
  hb.trans (h.below hb.size (fun j hj => by simp at hj; omega))
theorem its_one (w : World) (z : Int) {S : Nat → Prop} (hS : S w.heap.size) : Its (w.alloc (.cells #[.int .i64 z] 3)) S (some ⟨w.heap.size, 0, none⟩) 1 [z] := by
  refine ⟨rfl, Or.inr ⟨w.heap.size, 0, rfl, hS, by simp, fun k hk => ?_⟩⟩
  obtain rfl : k = 0 := by omega
  exact (Whole.new w _ _).cell 0
theorem boxed (w : World) (l : List Int) : ∃ w', (w.alloc (.cells zb 32)).setRow w.heap.size (nums l).toArray = w' ∧ Whole w' w.heap.size 32 (nums l).toArray ∧ Below w.heap.size w w' :=
  ⟨_, rfl, (Whole.new w _ _).row _, below_row ((Below.refl _ _).alloc (Nat.le_refl _) _) (Nat.le_refl _) _⟩
def A1 : Dm.A := Dm.write (fresh 2) 0 (all 1)
def A2 : Dm.A := Dm.flush A1
def A3 : Dm.A := Dm.write A2 0 (all 2)
def A4 : Dm.A := Dm.crash A3 [3]
def A5 : Dm.A := Dm.start A4
def R5 : List Int := Dm.read A5 0
theorem wpList_load_rowG {P : Program} {ops : Array Oper} {rest : List Oper} {o : Oper} {a : Act} {w : World} {Q : Exit → Act → World → Prop} (hgd : Region.wanted o (yielded ops a.tmps) = true) (ty : TypeId) (x : Operand) (ho : o.op = .load ty x)
    (g : Nat) (hx : a.eval x = .pointer (some ⟨g, 0, none⟩)) (t : TypeId) (cs : Array Value) (fr : Nat × Nat) (d : TypeDesc) (hg : w.heap[g]? = some (.cells cs t fr))
    (hu : P.underlying ty = some d) (hd : (match d with | .struct _ | .array _ _ => true | _ => false) = true) (hi : (P.info? ty).map (·.size) = some cs.size)
    (h : wpList P ops Q rest (a.put o.dst (.agg cs)) w) : wpList P ops Q (o :: rest) a w :=
  wpList_step fun _ hK => by rw [if_pos hgd]; exact wp_load_row ty x ho g hx t cs fr d hg hu hd hi (hK _ _ h)
set_option maxHeartbeats 8000000 in
theorem awake_any {w : World} : Calls Try.prog 10 #[] w fun e w' => e = .returned (.bool true) ∧ Below w.heap.size w w' := by
  go_enter Try.func10, Try.ntmps10
  go_wp2_with fail
  refine (new_ok (n := 2) (by omega)).mono ?_
  rintro e w1 ⟨p, bb, mb, rfl, hd1, hp, hbb, hmb, hb1⟩
  have HP : Hid (w.heap.size ≤ p ∧ w.heap.size ≤ bb ∧ w.heap.size ≤ mb) := Lib.hid ⟨hp, hbb, hmb⟩
  clear hp hbb hmb
  have H1 := Lib.hid (And.intro hd1 hb1)
  clear hd1 hb1
  go_wp2_with (first | (go_at_call 24; refine all_any.mono ?_; rintro e w2 ⟨rfl, hb2⟩) | fail)
  have H2 := Lib.hid (And.intro (H1.out.1.old hb2) (H1.out.2.trans (hb2.mono H1.out.2.size)))
  clear hb2 H1
  refine (write_at (z := 0) H2.out.1 rfl (by omega) (by omega) (all_len 1) (all_byt (by omega) (by omega))).mono ?_
  rintro e w3 ⟨rfl, hd3, ho3⟩
  have H3 : Hid (Dk w3 p bb mb A1 2 ∧ Below w.heap.size w w3) := Lib.hid ⟨hd3, ho3.after H2.out.2 HP.out⟩
  clear hd3 ho3 H2
  go_wp2_with fail
  refine (flush_any H3.out.1 rfl).mono ?_
  rintro e w4 ⟨rfl, hd4, ho4⟩
  have H4 : Hid (Dk w4 p bb mb A2 2 ∧ Below w.heap.size w w4) := Lib.hid ⟨hd4, ho4.after H3.out.2 HP.out⟩
  clear hd4 ho4 H3
  go_wp2_with (first | (go_at_call 24; refine all_any.mono ?_; rintro e w5 ⟨rfl, hb5⟩) | fail)
  have H5 := Lib.hid (And.intro (H4.out.1.old hb5) (H4.out.2.trans (hb5.mono H4.out.2.size)))
  clear hb5 H4
  refine (write_at (z := 0) H5.out.1 rfl (by omega) (by omega) (all_len 2) (all_byt (by omega) (by omega))).mono ?_
  rintro e w6 ⟨rfl, hd6, ho6⟩
  have H6 : Hid (Dk w6 p bb mb A3 2 ∧ Below w.heap.size w w6) := Lib.hid ⟨hd6, ho6.after H5.out.2 HP.out⟩
  clear hd6 ho6 H5
  go_wp2_with fail
  have hb7 : Below w6.heap.size w6 (w6.alloc (.cells #[.int .i64 3] 3)) := (Below.refl _ _).alloc (Nat.le_refl _) _
  have hit := its_one w6 3 (S := fun b => b ≠ p ∧ b ≠ bb ∧ b ≠ mb) ⟨fun e => by have := H6.out.1.cells.lt; omega, fun e => by have := H6.out.1.bytes.lt; omega, fun e => by have := H6.out.1.map.lt; omega⟩
  refine (crash_any (H6.out.1.old hb7) rfl hit (by unfold maxLen; omega)).mono ?_
  rintro e w7 ⟨rfl, hd7, ho7⟩
  have H7 : Hid (Dk w7 p bb mb A4 2 ∧ Below w.heap.size w w7) := Lib.hid ⟨hd7, ho7.after (H6.out.2.trans (hb7.mono H6.out.2.size)) HP.out⟩
  clear hd7 ho7 H6 hb7 hit
  have hzb := zero_b
  go_wp2_with fail
  refine (read_err H7.out.1 (z := 0) (by decide)).mono ?_
  rintro e w8 ⟨rfl, hb8⟩
  have e60 : bad A4 2 0 = 60 := rfl
  rw [e60]
  have H8 := Lib.hid (And.intro (H7.out.1.old hb8) (H7.out.2.trans (hb8.mono H7.out.2.size)))
  clear hb8 H7 e60
  have k9 : Whole ((w8.alloc (.cells zb 32)).setRow w8.heap.size (nums z64).toArray) w8.heap.size 32 (nums z64).toArray := (Whole.new w8 _ _).row _
  have b9 : Below w8.heap.size w8 ((w8.alloc (.cells zb 32)).setRow w8.heap.size (nums z64).toArray) := below_row ((Below.refl _ _).alloc (Nat.le_refl _) _) (Nat.le_refl _) _
  obtain ⟨w9, h9⟩ : ∃ w9, (w8.alloc (.cells zb 32)).setRow w8.heap.size (nums z64).toArray = w9 := ⟨_, rfl⟩
  rw [h9] at k9 b9
  have H9 := Lib.hid (And.intro (H8.out.1.old b9) (H8.out.2.trans (b9.mono H8.out.2.size)))
  have HW9 := Lib.hid h9
  clear k9 b9 h9
  go_wp2_with (first | ((with_reducible show wpList _ _ _ ((⟨_, Op.store 32 _ _, _, _, _, _⟩ : Oper) :: _) _ _); refine wpList_store_row rfl 32 (.tmp 6) (.tmp 28) rfl w8.heap.size (nums z64).toArray rfl rfl 32 zb (Whole.new w8 _ _) (info_bn z64_len) (size_bn z64_len) (all_nums _) ?_; rw [HW9.out]) | fail)
  refine (start_any H9.out.1).mono ?_
  rintro e w10 ⟨rfl, hd10, hg10, hs10⟩
  have H10 : Hid (Dk w10 p bb mb A5 2 ∧ Below w.heap.size w w10) := Lib.hid ⟨hd10, (Only.of_grown hg10 (by simp)).after H9.out.2 HP.out⟩
  clear hd10 hg10 hs10 H9 HW9 H8
  go_wp2_with fail
  refine (read_at (z := 0) H10.out.1 rfl (by omega) (by omega)).mono ?_
  rintro e w11 ⟨rfl, hb11⟩
  obtain ⟨R, hR⟩ : ∃ R, Dm.read A5 (Int.toNat 0) = R := ⟨_, rfl⟩
  rw [hR]
  have hRl : R.length = 64 := by rw [← hR]; rfl
  have h2 : R[2]? = some 2 := by rw [← hR]; rfl
  have h3 : R[3]? = some 1 := by rw [← hR]; rfl
  have H11 := Lib.hid (And.intro (H10.out.1.old hb11) (H10.out.2.trans (hb11.mono H10.out.2.size)))
  have k12 : Whole ((w11.alloc (.cells zb 32)).setRow w11.heap.size (nums R).toArray) w11.heap.size 32 (nums R).toArray := (Whole.new w11 _ _).row _
  have b12 : Below w11.heap.size w11 ((w11.alloc (.cells zb 32)).setRow w11.heap.size (nums R).toArray) := below_row ((Below.refl _ _).alloc (Nat.le_refl _) _) (Nat.le_refl _) _
  obtain ⟨w12, h12⟩ : ∃ w12, (w11.alloc (.cells zb 32)).setRow w11.heap.size (nums R).toArray = w12 := ⟨_, rfl⟩
  rw [h12] at k12 b12
  have c2 : w12.cell? ⟨w11.heap.size, 2, none⟩ = some (.int .u8 2) := (k12.cell 2).trans (by rw [List.getElem?_toArray]; simp [nums, h2])
  have c3 : w12.cell? ⟨w11.heap.size, 3, none⟩ = some (.int .u8 1) := (k12.cell 3).trans (by rw [List.getElem?_toArray]; simp [nums, h3])
  have H12 := Lib.hid (And.intro (H11.out.1.old b12) (And.intro (H11.out.2.trans (b12.mono H11.out.2.size)) (And.intro k12 hRl)))
  have HW12 := Lib.hid h12
  have d0 := H12.out.1.c0
  clear k12 b12 h12 hb11 H10 H11 hR h2 h3 hRl
  have e61 : bad A5 2 2 ≠ 0 := by decide
  go_wp2_with (first | ((with_reducible show wpList _ _ _ ((⟨_, Op.store 32 _ _, _, _, _, _⟩ : Oper) :: _) _ _); refine wpList_store_row rfl 32 (.tmp 8) (.tmp 35) rfl w11.heap.size (nums R).toArray rfl rfl 32 zb (Whole.new w11 _ _) (info_bn H12.out.2.2.2) (size_bn H12.out.2.2.2) (all_nums _) ?_; rw [HW12.out]; clear hzb) | ((with_reducible show wpList _ _ _ ((⟨_, Op.load 32 _, _, _, _, _⟩ : Oper) :: _) _ _); refine wpList_load_rowG (by rfl) 32 (.tmp 8) rfl w11.heap.size rfl 32 (nums R).toArray (0, 0) _ H12.out.2.2.1 und_b rfl (info_bn H12.out.2.2.2) ?_) | fail)
  refine (write_err H12.out.1 e61).mono ?_
  rintro e w13 ⟨rfl, hb13⟩
  have e61' : bad A5 2 2 = 61 := rfl
  rw [e61']
  have hd13 := H12.out.1.old hb13
  have d0' := hd13.c0
  have H13 := Lib.hid (And.intro hd13 (H12.out.2.1.trans (hb13.mono H12.out.2.1.size)))
  clear hd13 hb13 e61 e61' d0 c2 c3
  go_wp2_with (first | (go_at_call 17; refine (blocks_any (n := 2) (by omega) d0').mono ?_; rintro e w14 ⟨rfl, rfl⟩) | fail)
  go_ret
  exact ⟨rfl, H13.out.2⟩
theorem names_walk (w : World) : Calls Try.prog 3 #[] w fun e w' => e = .returned (.bool true) ∧ Below w.heap.size w w' := by
  go_enter Try.func3, Try.ntmps3
  go_wp2_with (go_at_call 10; refine awake_any.mono ?_; rintro e w' ⟨rfl, hb⟩)
  go_ret
  exact ⟨rfl, hb⟩
end Go.Proofs.Ytfhaipeimpaeiaa
