/-
  The walks of head, tail, many, last, formed, good, text: what a block says.
-/
import Derived.Test.YtfecobkpdmjaeaaQb
namespace Go.Proofs.Ytfecobkpdmjaeaa
open Go.RowKit
set_option linter.unusedVariables false
set_option linter.unusedSimpArgs false
set_option maxRecDepth 20000
theorem und_k : Try.prog.underlying 80 = some (.array 64 5) := by kernel_rfl
theorem info_k : (Try.prog.info? 80).map (·.size) = some 64 := by kernel_rfl
theorem slice_12 {g N : Nat} (h : N ≤ 52) (w : World) : (Instr.sliceAt 80 (.pointer (some ⟨g, 0, none⟩)) (some (.int .i64 12)) (some (.int .i64 (12 + (N : Int)))) none).run Try.prog w = .ok (.slice (some ⟨g, 12, none⟩) N 52) w := by
  have hb : (12 : Int) ≤ 12 + (N : Int) ∧ 12 + (N : Int) ≤ ((64 : Nat) : Int) := by omega
  have hc : (0 : Int) ≤ 12 ∧ (12 : Int) ≤ 12 + (N : Int) := by omega
  have e : (12 + (N : Int)).toNat = 12 + N := by omega
  simp only [Instr.sliceAt, Instr.sureAddr, Instr.sliceBounds, Instr.sliceBound, Sem.run_bind, Sem.run_pure, Result.andThen_ok, run_underlying und_k, asIntOf, size_u8, e]
  rw [if_pos ⟨by omega, by omega⟩]
  simp only [Sem.run_pure, Result.andThen_ok]
  rw [if_pos ⟨by omega, by omega⟩]
  simp only [Sem.run_pure, Result.andThen_ok]
  rw [if_neg (by decide)]
  have e2 : 12 + N - Int.toNat 12 = N := by simp
  rw [e2]
  rfl
def Blk (b : List Int) : Prop := b.length = 64 ∧ Byt b
theorem txt_part {w : World} {g : Nat} {t : TypeId} {l : List Int} (S : Nat → Prop) (hS : S g) (h : Whole w g t (nums l).toArray) (hb : Byt l) (i k c : Nat) (hk : i + k ≤ l.length) (hc : k ≤ c) : Txt w S (some ⟨g, i, none⟩) k c ((l.drop i).take k) := by
  refine ⟨by simp; omega, hc, byt_take (byt_drop hb _) _, Or.inr ⟨g, i, rfl, hS, h.lt, fun j hj => ?_⟩⟩
  rw [h.cell, List.getElem?_toArray, nums_get l (i + j) (by omega)]
  congr 2
  simp only [List.getD_eq_getElem?_getD, List.getElem?_take, if_pos hj, List.getElem?_drop]
/-- The cells of a block. -/
def KB (C : Array Value) (b : List Int) : Prop := C = (nums b).toArray ∧ Blk b
theorem KB.size {C : Array Value} {b : List Int} (h : KB C b) : C.size = 64 := by rw [h.1, List.size_toArray, nums_len]; exact h.2.1
theorem KB.info {C : Array Value} {b : List Int} (h : KB C b) : (Try.prog.info? 80).map (·.size) = some C.size := by rw [h.size]; exact info_k
theorem KB.infob {C : Array Value} {b : List Int} (h : KB C b) : (Try.prog.info? 45).map (·.size) = some C.size := by rw [h.size]; exact info_b
theorem KB.all {C : Array Value} {b : List Int} (h : KB C b) : C.all (·.oneCell') = true := by rw [h.1]; exact all_nums b
theorem KB.cell {w : World} {g : Nat} {t : TypeId} {C : Array Value} {b : List Int} (h : KB C b) (hw : Whole w g t C) (k : Nat) (hk : k < 64) : w.cell? ⟨g, k, none⟩ = some (.int .u8 ((Jl.byt b k : Nat) : Int)) := by
  obtain ⟨rfl, hb⟩ := h
  rw [hw.cell, List.getElem?_toArray, nums_get b k (by have := hb.1; omega)]
  have := byt_getD hb.2 k
  unfold Jl.byt
  congr 2
  omega
theorem KB.txt {w : World} {g : Nat} {t : TypeId} {C : Array Value} {b : List Int} (S : Nat → Prop) (hS : S g) (h : KB C b) (hw : Whole w g t C) (i k c : Nat) (hk : i + k ≤ 64) (hc : k ≤ c) : Txt w S (some ⟨g, i, none⟩) k c ((b.drop i).take k) := by
  obtain ⟨rfl, hb⟩ := h
  exact txt_part S hS hw hb.2 i k c (by rw [hb.1]; exact hk) hc
theorem bound8 {l : List Int} (h : Byt l) (hl : l.length ≤ 8) : Jl.num l < 18446744073709551616 := Nat.lt_of_lt_of_le (num_lt h) (Nat.pow_le_pow_right (n := 256) (by omega) hl)
def hd (b : List Int) : Nat := Jl.num ((b.drop 0).take 8)
def tl (b : List Int) : Nat := Jl.num ((b.drop 56).take 8)
theorem hd_lt {b : List Int} (hb : Blk b) : hd b < 18446744073709551616 := bound8 (byt_take (byt_drop hb.2 _) _) (by simp; omega)
theorem tl_lt {b : List Int} (hb : Blk b) : tl b < 18446744073709551616 := bound8 (byt_take (byt_drop hb.2 _) _) (by simp; omega)
theorem cnt_is {b : List Int} (hb : Blk b) : Jl.num ((b.drop 8).take 2) = Jl.cnt b := by
  have h1 := hb.1
  have e : (b.drop 8).take 2 = [b.getD 8 0, b.getD 9 0] := by
    rw [List.drop_eq_getElem_cons (by omega), List.drop_eq_getElem_cons (by omega)]
    simp only [List.take_succ_cons, List.take_zero]
    simp [List.getD, h1]
  rw [e]
  simp [Jl.num, Jl.cnt, Jl.byt]
theorem cnt_lt {b : List Int} (hb : Blk b) : Jl.cnt b < 65536 := by
  have := byt_getD hb.2 8
  have := byt_getD hb.2 9
  unfold Jl.cnt Jl.byt
  omega
set_option maxHeartbeats 4000000 in
theorem head_any {C : Array Value} {b : List Int} {w : World} (hb : KB C b) : Calls Try.prog 52 #[.agg C] w fun e w' => e = .returned (.int .u64 ((hd b : Nat) : Int)) ∧ Below w.heap.size w w' := by
  have ht := Lib.hid (hb.txt (fun _ => True) trivial (Whole.new w 80 C) 0 8 64 (by omega) (by omega))
  clear hb
  go_enter Try.func52, Try.ntmps52
  go_wp2_with fail
  refine (number_any ht.out (by omega)).mono ?_
  rintro e w' ⟨rfl, rfl⟩
  go_wp2
  go_ret
  exact ⟨rfl, below_alloc _ _⟩
set_option maxHeartbeats 4000000 in
theorem tail_any {C : Array Value} {b : List Int} {w : World} (hb : KB C b) : Calls Try.prog 54 #[.agg C] w fun e w' => e = .returned (.int .u64 ((tl b : Nat) : Int)) ∧ Below w.heap.size w w' := by
  have ht := Lib.hid (hb.txt (fun _ => True) trivial (Whole.new w 80 C) 56 8 8 (by omega) (by omega))
  clear hb
  go_enter Try.func54, Try.ntmps54
  go_wp2_with fail
  refine (number_any ht.out (by omega)).mono ?_
  rintro e w' ⟨rfl, rfl⟩
  go_wp2
  go_ret
  exact ⟨rfl, below_alloc _ _⟩
set_option maxHeartbeats 4000000 in
theorem many_any {C : Array Value} {b : List Int} {w : World} (hb : KB C b) : Calls Try.prog 59 #[.agg C] w fun e w' => e = .returned (.int .i64 ((Jl.cnt b : Nat) : Int)) ∧ Below w.heap.size w w' := by
  have hn := number_any (hb.txt (fun _ => True) trivial (Whole.new w 80 C) 8 2 56 (by omega) (by omega)) (by omega)
  rw [cnt_is hb.2] at hn
  have HN := Lib.hid hn
  have hc := cnt_lt hb.2
  clear hn hb
  go_enter Try.func59, Try.ntmps59
  go_wp2_with fail
  refine HN.out.mono ?_
  rintro e w' ⟨rfl, rfl⟩
  go_wp2
  go_ret
  exact ⟨rfl, below_alloc _ _⟩
set_option maxHeartbeats 4000000 in
theorem last_any {C : Array Value} {b : List Int} {w : World} (hb : KB C b) : Calls Try.prog 53 #[.agg C] w fun e w' => e = .returned (.bool (decide (Jl.byt b 10 = 1))) ∧ Below w.heap.size w w' := by
  have c10 := hb.cell (Whole.new w 80 C) 10 (by omega)
  clear hb
  obtain ⟨m, hm⟩ : ∃ m, Jl.byt b 10 = m := ⟨_, rfl⟩
  rw [hm] at c10 ⊢
  have q1 : ((m : Int) == 1) = decide (m = 1) := by rw [Bool.eq_iff_iff]; simp; omega
  clear hm
  go_enter Try.func53, Try.ntmps53
  go_wp2
  go_ret
  exact ⟨rfl, below_alloc _ _⟩
def formedB (b : List Int) : Bool := if 1 < Jl.byt b 10 ∨ Jl.byt b 11 ≠ 0 then false else if Jl.byt b 10 = 1 then decide (1 ≤ Jl.cnt b ∧ Jl.cnt b ≤ 44) else decide (Jl.cnt b = 44)
set_option maxHeartbeats 4000000 in
theorem formed_any {C : Array Value} {b : List Int} {w : World} (hb : KB C b) : Calls Try.prog 58 #[.agg C] w fun e w' => e = .returned (.bool (formedB b)) ∧ Below w.heap.size w w' := by
  have hw : Whole (w.alloc (.cells C 80)) w.heap.size 80 C := Whole.new w _ _
  have c10 := hb.cell hw 10 (by omega)
  have c11 := hb.cell hw 11 (by omega)
  have hbl := below_alloc w (.cells C 80)
  have HW := Lib.hid (And.intro hw hbl)
  have HB := Lib.hid hb
  obtain ⟨m, hm⟩ : ∃ m, Jl.byt b 10 = m := ⟨_, rfl⟩
  obtain ⟨x, hx⟩ : ∃ x, Jl.byt b 11 = x := ⟨_, rfl⟩
  rw [hm] at c10
  rw [hx] at c11
  have HM := Lib.hid (And.intro hm hx)
  obtain ⟨r, hr⟩ : ∃ r, formedB b = r := ⟨_, rfl⟩
  rw [hr]
  have HR := Lib.hid hr
  clear hw hbl hm hx hr hb
  go_enter Try.func58, Try.ntmps58
  by_cases q1 : 1 < m
  · have q1' : (1 : Int) < (m : Int) := by omega
    obtain rfl : r = false := by rw [← HR.out]; unfold formedB; rw [if_pos (Or.inl (by rw [HM.out.1]; exact q1))]
    go_wp2
    go_ret
    exact ⟨rfl, HW.out.2⟩
  · have q1' : ¬ (1 : Int) < (m : Int) := by omega
    by_cases q2 : x = 0
    · have q2' : ((x : Int) != 0) = false := by simp; omega
      go_wp2_with (first | ((with_reducible show wpList _ _ _ ((⟨_, Op.load 80 _, _, _, _, _⟩ : Oper) :: _) _ _); refine wpList_load_rowG (by rfl) 80 (.tmp 1) rfl w.heap.size rfl 80 C (0, 0) _ HW.out.1 und_k rfl HB.out.info ?_) | fail)
      refine (last_any (b := b) HB.out).mono ?_
      rintro e w1 ⟨rfl, hb1⟩
      have H1 := Lib.hid (And.intro (HW.out.1.below hb1 (by simp)) (HW.out.2.trans (hb1.mono (by simp))))
      obtain ⟨y, hy⟩ : ∃ y, decide (Jl.byt b 10 = 1) = y := ⟨_, rfl⟩
      rw [hy]
      obtain ⟨N, hN⟩ : ∃ N, Jl.cnt b = N := ⟨_, rfl⟩
      have HY := Lib.hid (And.intro hy hN)
      clear hb1 hy hN
      cases y with
      | true =>
        have q5 := HY.out.1
        simp only [decide_eq_true_eq] at q5
        have HR2 : Hid (r = decide (1 ≤ N ∧ N ≤ 44)) := Lib.hid (by rw [← HR.out]; unfold formedB; rw [if_neg (by rw [HM.out.1, HM.out.2]; omega), if_pos q5, HY.out.2])
        clear q5 c10 c11
        go_wp2_with (first | ((with_reducible show wpList _ _ _ ((⟨_, Op.load 80 _, _, _, _, _⟩ : Oper) :: _) _ _); refine wpList_load_rowG (by rfl) 80 (.tmp 1) rfl w.heap.size rfl 80 C (0, 0) _ H1.out.1 und_k rfl HB.out.info ?_) | fail)
        refine (many_any (b := b) HB.out).mono ?_
        rintro e w2 ⟨rfl, hb2⟩
        have H2 := Lib.hid (And.intro (H1.out.1.below hb2 H1.out.1.lt) (H1.out.2.trans (hb2.mono H1.out.2.size)))
        rw [HY.out.2]
        clear hb2
        by_cases q5 : 1 ≤ N
        · have q5' : (1 : Int) ≤ (N : Int) := by omega
          go_wp2_with (first | ((with_reducible show wpList _ _ _ ((⟨_, Op.load 80 _, _, _, _, _⟩ : Oper) :: _) _ _); refine wpList_load_rowG (by rfl) 80 (.tmp 1) rfl w.heap.size rfl 80 C (0, 0) _ H2.out.1 und_k rfl HB.out.info ?_) | fail)
          refine (many_any (b := b) HB.out).mono ?_
          rintro e w3 ⟨rfl, hb3⟩
          have H3 := Lib.hid (H2.out.2.trans (hb3.mono H2.out.2.size))
          rw [HY.out.2]
          clear hb3
          by_cases q6 : N ≤ 44
          · have q6' : (N : Int) ≤ 44 := by omega
            obtain rfl : r = true := by rw [HR2.out]; exact decide_eq_true ⟨q5, q6⟩
            go_wp2
            go_ret
            exact ⟨rfl, H3.out⟩
          · have q6' : decide ((N : Int) ≤ 44) = false := by simp; omega
            obtain rfl : r = false := by rw [HR2.out]; exact decide_eq_false (fun h => q6 h.2)
            go_wp2
            go_ret
            exact ⟨rfl, H3.out⟩
        · have q5' : ¬ (1 : Int) ≤ (N : Int) := by omega
          obtain rfl : r = false := by rw [HR2.out]; exact decide_eq_false (fun h => q5 h.1)
          go_wp2
          go_ret
          exact ⟨rfl, H2.out.2⟩
      | false =>
        have q5 := HY.out.1
        simp only [decide_eq_false_iff_not] at q5
        have HR2 : Hid (((N : Int) == 44) = r) := Lib.hid (by rw [← HR.out]; unfold formedB; rw [if_neg (by rw [HM.out.1, HM.out.2]; omega), if_neg q5, HY.out.2, Bool.eq_iff_iff]; simp; omega)
        clear q5 c10 c11
        go_wp2_with (first | ((with_reducible show wpList _ _ _ ((⟨_, Op.load 80 _, _, _, _, _⟩ : Oper) :: _) _ _); refine wpList_load_rowG (by rfl) 80 (.tmp 1) rfl w.heap.size rfl 80 C (0, 0) _ H1.out.1 und_k rfl HB.out.info ?_) | fail)
        refine (many_any (b := b) HB.out).mono ?_
        rintro e w2 ⟨rfl, hb2⟩
        have H2 := Lib.hid (H1.out.2.trans (hb2.mono H1.out.2.size))
        rw [HY.out.2]
        clear hb2
        have q7 := HR2.out
        go_wp2
        go_ret
        exact ⟨rfl, H2.out⟩
    · have q2' : ((x : Int) != 0) = true := by simp; omega
      obtain rfl : r = false := by rw [← HR.out]; unfold formedB; rw [if_pos (Or.inr (by rw [HM.out.2]; exact q2))]
      go_wp2
      go_ret
      exact ⟨rfl, HW.out.2⟩
def goodB (b : List Int) (ahead : Nat) (same : Bool) : Bool := decide (hd b = tl b ∧ hd b ≠ 0 ∧ hd b ≤ 1099511627776 ∧ ahead ≤ hd b ∧ (same = true → hd b = ahead)) && formedB b
set_option maxHeartbeats 4000000 in
theorem good_any {C : Array Value} {b : List Int} {ahead : Nat} {same : Bool} {w : World} (hb : KB C b) (ha : ahead < 18446744073709551616) :
    Calls Try.prog 50 #[.agg C, .int .u64 (ahead : Int), .bool same] w fun e w' => e = .returned (.bool (goodB b ahead same)) ∧ Below w.heap.size w w' := by
  have hw : Whole (w.alloc (.cells C 80)) w.heap.size 80 C := Whole.new w _ _
  have HW := Lib.hid (And.intro hw (below_alloc w (.cells C 80)))
  have HB := Lib.hid hb
  have hd1 := hd_lt hb.2
  have tl1 := tl_lt hb.2
  obtain ⟨r, hr⟩ : ∃ r, goodB b ahead same = r := ⟨_, rfl⟩
  rw [hr]
  have HR := Lib.hid hr
  obtain ⟨F, hF⟩ : ∃ F, formedB b = F := ⟨_, rfl⟩
  obtain ⟨x, hx⟩ : ∃ x, hd b = x := ⟨_, rfl⟩
  obtain ⟨y, hy⟩ : ∃ y, tl b = y := ⟨_, rfl⟩
  have HX := Lib.hid (And.intro hF (And.intro hx hy))
  rw [hx] at hd1
  rw [hy] at tl1
  clear hw hb hr hF hx hy
  have HR2 : Hid (r = (decide (x = y ∧ x ≠ 0 ∧ x ≤ 1099511627776 ∧ ahead ≤ x ∧ (same = true → x = ahead)) && F)) := Lib.hid (by rw [← HR.out]; unfold goodB; rw [HX.out.1, HX.out.2.1, HX.out.2.2])
  clear HR
  go_enter Try.func50, Try.ntmps50
  go_wp2_with (first | ((with_reducible show wpList _ _ _ ((⟨_, Op.load 80 _, _, _, _, _⟩ : Oper) :: _) _ _); refine wpList_load_rowG (by rfl) 80 (.tmp 3) rfl w.heap.size rfl 80 C (0, 0) _ HW.out.1 und_k rfl HB.out.info ?_) | fail)
  obtain ⟨w0, h0⟩ : ∃ w0, w.alloc (.cells C 80) = w0 := ⟨_, rfl⟩
  rw [h0] at HW ⊢
  clear h0
  refine (head_any (b := b) HB.out).mono ?_
  rintro e w1 ⟨rfl, hb1⟩
  rw [HX.out.2.1]
  have H1 := Lib.hid (And.intro (HW.out.1.below hb1 HW.out.1.lt) (HW.out.2.trans (hb1.mono HW.out.2.size)))
  clear hb1 HW
  go_wp2_with (first | ((with_reducible show wpList _ _ _ ((⟨_, Op.load 80 _, _, _, _, _⟩ : Oper) :: _) _ _); refine wpList_load_rowG (by rfl) 80 (.tmp 3) rfl w.heap.size rfl 80 C (0, 0) _ H1.out.1 und_k rfl HB.out.info ?_) | fail)
  refine (tail_any (b := b) HB.out).mono ?_
  rintro e w2 ⟨rfl, hb2⟩
  rw [HX.out.2.2]
  have H2 := Lib.hid (And.intro (H1.out.1.below hb2 H1.out.1.lt) (H1.out.2.trans (hb2.mono H1.out.2.size)))
  clear hb2 H1
  by_cases e1 : x = y
  · subst e1
    have q1 : ((x : Int) != (x : Int)) = false := by simp
    by_cases e2 : x = 0
    · obtain rfl : r = false := by rw [HR2.out]; simp [e2]
      have q2 : ((x : Int) == 0) = true := by simp [e2]
      clear e2
      go_wp2
      go_ret
      exact ⟨rfl, H2.out.2⟩
    · have q2 : ((x : Int) == 0) = false := by simp [e2]
      by_cases e3 : 1099511627776 < x
      · obtain rfl : r = false := by rw [HR2.out]; simp; omega
        have q3 : decide ((x : Int) > 1099511627776) = true := by simp; omega
        have q3' : (1099511627776 : Int) < (x : Int) := by omega
        clear e2 e3
        go_wp2
        go_ret
        exact ⟨rfl, H2.out.2⟩
      · have q3 : decide ((x : Int) > 1099511627776) = false := by simp; omega
        have q3' : ¬ (1099511627776 : Int) < (x : Int) := by omega
        by_cases e4 : x < ahead
        · obtain rfl : r = false := by rw [HR2.out]; simp; omega
          have q4 : (x : Int) < (ahead : Int) := by omega
          clear e2 e3
          go_wp2
          go_ret
          exact ⟨rfl, H2.out.2⟩
        · have q4 : ¬ (x : Int) < (ahead : Int) := by omega
          by_cases e5 : same = true ∧ x ≠ ahead
          · obtain ⟨rfl, e5⟩ := e5
            obtain rfl : r = false := by rw [HR2.out]; simp; omega
            have q5 : ((x : Int) != (ahead : Int)) = true := by simp; omega
            clear e2 e3
            go_wp2
            go_ret
            exact ⟨rfl, H2.out.2⟩
          · have HR3 : Hid (r = F) := Lib.hid (by rw [HR2.out, decide_eq_true ⟨rfl, e2, by omega, by omega, fun h => by by_cases h2 : x = ahead; exact h2; exact absurd ⟨h, h2⟩ e5⟩, Bool.true_and])
            have q5 : ∀ u, (same = true → u = ((x : Int) != (ahead : Int))) → same = true → u = false := fun u h1 h2 => by
              rw [h1 h2]
              have : x = ahead := Classical.byContradiction fun h => e5 ⟨h2, h⟩
              simp [this]
            clear e2 e3 e4
            cases same with
            | true =>
              have q6 : ((x : Int) != (ahead : Int)) = false := q5 _ (fun _ => rfl) rfl
              clear q5 e5
              go_wp2_with (first | ((with_reducible show wpList _ _ _ ((⟨_, Op.load 80 _, _, _, _, _⟩ : Oper) :: _) _ _); refine wpList_load_rowG (by rfl) 80 (.tmp 3) rfl w.heap.size rfl 80 C (0, 0) _ H2.out.1 und_k rfl HB.out.info ?_) | fail)
              refine (formed_any (b := b) HB.out).mono ?_
              rintro e w3 ⟨rfl, hb3⟩
              rw [HX.out.1, ← HR3.out]
              have H3 := Lib.hid (H2.out.2.trans (hb3.mono H2.out.2.size))
              clear hb3
              go_wp2
              go_ret
              exact ⟨rfl, H3.out⟩
            | false =>
              clear q5 e5
              go_wp2_with (first | ((with_reducible show wpList _ _ _ ((⟨_, Op.load 80 _, _, _, _, _⟩ : Oper) :: _) _ _); refine wpList_load_rowG (by rfl) 80 (.tmp 3) rfl w.heap.size rfl 80 C (0, 0) _ H2.out.1 und_k rfl HB.out.info ?_) | fail)
              refine (formed_any (b := b) HB.out).mono ?_
              rintro e w3 ⟨rfl, hb3⟩
              rw [HX.out.1, ← HR3.out]
              have H3 := Lib.hid (H2.out.2.trans (hb3.mono H2.out.2.size))
              clear hb3
              go_wp2
              go_ret
              exact ⟨rfl, H3.out⟩
  · have q1 : ((x : Int) != (y : Int)) = true := by simp; omega
    obtain rfl : r = false := by rw [HR2.out]; simp [e1]
    clear e1
    go_wp2
    go_ret
    exact ⟨rfl, H2.out.2⟩
set_option maxHeartbeats 4000000 in
/-- The bytes of a good block that are its record's lie in a block of their own. -/
theorem text_any {C : Array Value} {b : List Int} {w : World} (hb : KB C b) (hc : Jl.cnt b ≤ 44) :
    Calls Try.prog 51 #[.agg C] w fun e w' => e = .returned (.slice (some ⟨w.heap.size, 12, none⟩) (Jl.cnt b) 52) ∧ Txt w' (fun q => q = w.heap.size) (some ⟨w.heap.size, 12, none⟩) (Jl.cnt b) 52 (Jl.body b) ∧ Below w.heap.size w w' := by
  have hw : Whole (w.alloc (.cells C 80)) w.heap.size 80 C := Whole.new w _ _
  have HW := Lib.hid (And.intro hw (below_alloc w (.cells C 80)))
  have HB := Lib.hid hb
  obtain ⟨N, hN⟩ : ∃ N, Jl.cnt b = N := ⟨_, rfl⟩
  have HN := Lib.hid hN
  rw [hN] at hc ⊢
  clear hw hb hN
  go_enter Try.func51, Try.ntmps51
  go_wp2_with (first | ((with_reducible show wpList _ _ _ ((⟨_, Op.load 80 _, _, _, _, _⟩ : Oper) :: _) _ _); refine wpList_load_rowG (by rfl) 80 (.tmp 1) rfl w.heap.size rfl 80 C (0, 0) _ HW.out.1 und_k rfl HB.out.info ?_) | fail)
  refine (many_any (b := b) HB.out).mono ?_
  rintro e w1 ⟨rfl, hb1⟩
  rw [HN.out]
  have H1 := Lib.hid (And.intro (HW.out.1.below hb1 HW.out.1.lt) (HW.out.2.trans (hb1.mono HW.out.2.size)))
  clear hb1
  have hsl := slice_12 (g := w.heap.size) (N := N) (by omega)
  go_wp2
  go_ret
  refine ⟨rfl, ?_, H1.out.2⟩
  have := HB.out.txt (fun q => q = w.heap.size) rfl H1.out.1 12 N 52 (by omega) (by omega)
  unfold Jl.body
  rw [HN.out]
  exact this
end Go.Proofs.Ytfecobkpdmjaeaa
