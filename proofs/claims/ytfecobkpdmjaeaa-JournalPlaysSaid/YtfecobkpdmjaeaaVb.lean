/-
  The document's piece.
-/
import Derived.Test.YtfecobkpdmjaeaaVa
namespace Go.Proofs.Ytfecobkpdmjaeaa
open Go.RowKit
set_option linter.unusedVariables false
set_option linter.unusedSimpArgs false
set_option maxRecDepth 20000
theorem if_wanted {c : Bool} {p q : Prop} (h : c = true) (hp : p) : if c = true then p else q := by rw [if_pos h]; exact hp
theorem slice_12b {g N : Nat} (h : N ≤ 52) (w : World) : (Instr.sliceAt 45 (.pointer (some ⟨g, 0, none⟩)) (some (.int .i64 12)) (some (.int .i64 (12 + (N : Int)))) none).run Try.prog w = .ok (.slice (some ⟨g, 12, none⟩) N 52) w := by
  have hb : (12 : Int) ≤ 12 + (N : Int) ∧ 12 + (N : Int) ≤ ((64 : Nat) : Int) := by omega
  have hc : (0 : Int) ≤ 12 ∧ (12 : Int) ≤ 12 + (N : Int) := by omega
  have e : (12 + (N : Int)).toNat = 12 + N := by omega
  simp only [Instr.sliceAt, Instr.sureAddr, Instr.sliceBounds, Instr.sliceBound, Sem.run_bind, Sem.run_pure, Result.andThen_ok, run_underlying und_b, asIntOf, size_u8, e]
  rw [if_pos ⟨by omega, by omega⟩]
  simp only [Sem.run_pure, Result.andThen_ok]
  rw [if_pos ⟨by omega, by omega⟩]
  simp only [Sem.run_pure, Result.andThen_ok]
  rw [if_neg (by decide)]
  have e2 : 12 + N - Int.toNat 12 = N := by simp
  rw [e2]
  rfl
/-- Whether a block is a good one, as the document's piece sees it. -/
def pgood (h t least N y x : Nat) (within : Bool) : Prop := h ≠ 0 ∧ h = t ∧ least ≤ h ∧ (within = true → h = least) ∧ (N = 44 ∨ (y = 1 ∧ 1 ≤ N ∧ N ≤ 44)) ∧ y ≤ 1 ∧ x = 0
instance (h t least N y x : Nat) (within : Bool) : Decidable (pgood h t least N y x within) := by unfold pgood; infer_instance
theorem pgood_is (s : Jl.S) (b : List Int) (within : Bool) (hs : within = true ↔ s.part ≠ []) : pgood (lfa b 0) (lfa b 56) s.least (Jl.cnt b) (Jl.byt b 10) (Jl.byt b 11) within ↔ Jl.good s b := by
  unfold pgood Jl.good
  rw [lfa_lf, lfa_lf, hs]
/-- What piece answers. -/
def Pq (w w' : World) (e : Ending) (b : List Int) (y : Nat) (r : Bool) : Prop := ∃ v l, e = .returned (.tuple #[v, .bool l, .bool r]) ∧ Below w.heap.size w w' ∧ (r = true → l = decide (y = 1) ∧ RowU w' w.heap.size v (Jl.body b))
theorem Pq.no {w w' : World} {b : List Int} {y : Nat} {v : Value} {l : Bool} (h : Below w.heap.size w w') : Pq w w' (.returned (.tuple #[v, .bool l, .bool false])) b y false := ⟨_, _, rfl, h, fun h => by cases h⟩
set_option maxHeartbeats 8000000 in
theorem rpiece_any {C : Array Value} {b : List Int} {least : Nat} {within : Bool} {w : World} (hb : KB C b) (hl : least ≤ 1099511627777) : Calls Try.prog 38 #[.agg C, .int .i64 (least : Int), .bool within] w fun e w' => Pq w w' e b (Jl.byt b 10) (decide (pgood (lfa b 0) (lfa b 56) least (Jl.cnt b) (Jl.byt b 10) (Jl.byt b 11) within)) := by
  have hw : Whole (w.alloc (.cells C 45)) w.heap.size 45 C := Whole.new w _ _
  have HW := Lib.hid (And.intro hw (below_alloc w (.cells C 45)))
  have HB := Lib.hid hb
  obtain ⟨h, hh⟩ : ∃ h, lfa b 0 = h := ⟨_, rfl⟩
  obtain ⟨t, ht⟩ : ∃ t, lfa b 56 = t := ⟨_, rfl⟩
  obtain ⟨y8, hy8⟩ : ∃ y, Jl.byt b 8 = y := ⟨_, rfl⟩
  obtain ⟨y9, hy9⟩ : ∃ y, Jl.byt b 9 = y := ⟨_, rfl⟩
  obtain ⟨y, hy⟩ : ∃ y, Jl.byt b 10 = y := ⟨_, rfl⟩
  obtain ⟨x, hx⟩ : ∃ y, Jl.byt b 11 = y := ⟨_, rfl⟩
  have hN : Jl.cnt b = y8 * 256 + y9 := by unfold Jl.cnt; rw [hy8, hy9]
  have hhl : h ≤ 1099511627776 := by rw [← hh]; exact cap_le _
  have htl : t ≤ 1099511627776 := by rw [← ht]; exact cap_le _
  have hy8l : y8 < 256 := by rw [← hy8]; have := byt_getD hb.2.2 8; unfold Jl.byt; omega
  have hy9l : y9 < 256 := by rw [← hy9]; have := byt_getD hb.2.2 9; unfold Jl.byt; omega
  have HX := Lib.hid (And.intro hh (And.intro ht (And.intro hy8 (And.intro hy9 (And.intro hy (And.intro hx hN))))))
  rw [hh, ht, hN, hy, hx]
  obtain ⟨r, hr⟩ : ∃ r, decide (pgood h t least (y8 * 256 + y9) y x within) = r := ⟨_, rfl⟩
  rw [hr]
  have HR := Lib.hid hr
  clear hw hb hh ht hy8 hy9 hy hx hN hr
  go_enter Try.func38, Try.ntmps38
  go_wp2_with (first | ((with_reducible show wpList _ _ _ ((⟨_, Op.load 45 _, _, _, _, _⟩ : Oper) :: _) _ _); refine wpList_load_rowG (by rfl) 45 (.tmp 3) rfl w.heap.size rfl 45 C (0, 0) _ HW.out.1 und_b rfl HB.out.infob ?_) | fail)
  obtain ⟨w0, h0⟩ : ∃ w0, w.alloc (.cells C 45) = w0 := ⟨_, rfl⟩
  rw [h0] at HW ⊢
  clear h0
  refine (rlife_any (b := b) (o := 0) HB.out (by omega)).mono ?_
  rintro e w1 ⟨rfl, hb1⟩
  rw [HX.out.1]
  have H1 := Lib.hid (And.intro (HW.out.1.below hb1 HW.out.1.lt) (HW.out.2.trans (hb1.mono HW.out.2.size)))
  clear hb1 HW
  go_wp2_with (first | ((with_reducible show wpList _ _ _ ((⟨_, Op.load 45 _, _, _, _, _⟩ : Oper) :: _) _ _); refine wpList_load_rowG (by rfl) 45 (.tmp 3) rfl w.heap.size rfl 45 C (0, 0) _ H1.out.1 und_b rfl HB.out.infob ?_) | fail)
  refine (rlife_any (b := b) (o := 56) HB.out (by omega)).mono ?_
  rintro e w2 ⟨rfl, hb2⟩
  rw [HX.out.2.1]
  have H2 := Lib.hid (And.intro (H1.out.1.below hb2 H1.out.1.lt) (H1.out.2.trans (hb2.mono H1.out.2.size)))
  clear hb2 H1
  have c8 := HB.out.cell H2.out.1 8 (by omega)
  have c9 := HB.out.cell H2.out.1 9 (by omega)
  have c10 := HB.out.cell H2.out.1 10 (by omega)
  have c11 := HB.out.cell H2.out.1 11 (by omega)
  rw [HX.out.2.2.1] at c8
  rw [HX.out.2.2.2.1] at c9
  rw [HX.out.2.2.2.2.1] at c10
  rw [HX.out.2.2.2.2.2.1] at c11
  have HG : Hid True := Lib.hid trivial
  by_cases a1 : y8 * 256 + y9 = 44
  · have p1 : ((y8 : Int) * 256 + (y9 : Int) == 44) = true := by simp; omega
    go_upto_region 5 with fail
    cases within with
    | true =>
      by_cases e1 : h = 0
      (focus (have q1 : ((h : Int) == 0) = true := (by simp; omega); obtain rfl : r = false := (by rw [← HR.out]; exact decide_eq_false (fun hh => by obtain ⟨z1, z2, z3, z4, z5, z6, z7⟩ := hh; exact z1 e1)); clear HG; go_wp2; go_ret3; exact Pq.no H2.out.2))
      have q1 : ((h : Int) == 0) = false := by simp; omega
      by_cases e2 : h ≠ t
      (focus (have q2 : ((h : Int) != (t : Int)) = true := (by simp; omega); obtain rfl : r = false := (by rw [← HR.out]; exact decide_eq_false (fun hh => by obtain ⟨z1, z2, z3, z4, z5, z6, z7⟩ := hh; exact e2 z2)); clear HG; go_wp2; go_ret3; exact Pq.no H2.out.2))
      have q2 : ((h : Int) != (t : Int)) = false := by simp; omega
      by_cases e3 : h < least
      (focus (have q3 : (h : Int) < (least : Int) := (by omega); obtain rfl : r = false := (by rw [← HR.out]; exact decide_eq_false (fun hh => by obtain ⟨z1, z2, z3, z4, z5, z6, z7⟩ := hh; omega)); clear HG; go_wp2; go_ret3; exact Pq.no H2.out.2))
      have q3 : ¬ (h : Int) < (least : Int) := by omega
      by_cases e4 : h ≠ least
      (focus (have q4 : ((h : Int) != (least : Int)) = true := (by simp; omega); obtain rfl : r = false := (by rw [← HR.out]; exact decide_eq_false (fun hh => by obtain ⟨z1, z2, z3, z4, z5, z6, z7⟩ := hh; exact e4 (z4 rfl))); clear HG; go_wp2; go_ret3; exact Pq.no H2.out.2))
      have q4 : ((h : Int) != (least : Int)) = false := by simp; omega
      by_cases e6 : 1 < y
      (focus (have q6 : (1 : Int) < (y : Int) := (by omega); obtain rfl : r = false := (by rw [← HR.out]; exact decide_eq_false (fun hh => by obtain ⟨z1, z2, z3, z4, z5, z6, z7⟩ := hh; omega)); clear HG; go_wp2; go_ret3; exact Pq.no H2.out.2))
      have q6 : ¬ (1 : Int) < (y : Int) := by omega
      by_cases e7 : x ≠ 0
      (focus (have q7 : ((x : Int) != 0) = true := (by simp; omega); obtain rfl : r = false := (by rw [← HR.out]; exact decide_eq_false (fun hh => by obtain ⟨z1, z2, z3, z4, z5, z6, z7⟩ := hh; exact e7 z7)); clear HG; go_wp2; go_ret3; exact Pq.no H2.out.2))
      have q7 : ((x : Int) != 0) = false := by simp; omega
      obtain rfl : r = true := (by rw [← HR.out]; exact decide_eq_true ⟨e1, by omega, by omega, fun hh => by first | omega | (exact absurd hh (by decide)), by omega, by omega, by omega⟩)
      obtain ⟨N, hNe⟩ : ∃ N, y8 * 256 + y9 = N := ⟨_, rfl⟩
      have hNl : N ≤ 44 := by omega
      have hsl := slice_12b (g := w.heap.size) (N := N) (by omega)
      have hNi : (y8 : Int) * 256 + (y9 : Int) = (N : Int) := by omega
      have HNe := Lib.hid (HX.out.2.2.2.2.2.2.trans hNe)
      have hsum : IntKind.i64.wrap (12 + (N : Int)) = 12 + (N : Int) := IntWalk.i64_in _ (by omega)
      rw [hNi]
      go_upto_region 7 with fail
      refine wp_region_held_drew (S := fun w' => w'.cell? ⟨w.heap.size, 10, none⟩ = some (.int .u8 (y : Int))) (by kernel_rfl) c10 (fun hHeld => ?_)
      refine wpAnyH_take (i := 1) (v := .int .i64 (N : Int)) rfl (by kernel_rfl) (by kernel_rfl) (by kernel_rfl) (fun _ _ _ h => h) (Or.inl ⟨by rfl, (by intro w hSw; (try dsimp only at hSw); go_simp)⟩) (by assumption) ?_
      try simp only [Act.put, List.getElem_toArray, List.getElem_cons_zero, List.getElem_cons_succ, List.setIfInBounds_toArray, List.set_cons_zero, List.set_cons_succ]
      refine wpAnyH_take (i := 2) (v := .int .i64 (12 + (N : Int))) rfl (by kernel_rfl) (by kernel_rfl) (by kernel_rfl) (fun _ _ _ h => h) (Or.inl ⟨by rfl, (by intro w hSw; (try dsimp only at hSw); go_simp)⟩) (by assumption) ?_
      try simp only [Act.put, List.getElem_toArray, List.getElem_cons_zero, List.getElem_cons_succ, List.setIfInBounds_toArray, List.set_cons_zero, List.set_cons_succ]
      refine wpAnyH_take (i := 3) (v := .slice (some ⟨w.heap.size, 12, none⟩) N 52) rfl (by kernel_rfl) (by kernel_rfl) (by kernel_rfl) (fun _ _ _ h => h) (Or.inl ⟨by rfl, (by intro w hSw; (try dsimp only at hSw); go_simp)⟩) (by assumption) ?_
      try simp only [Act.put, List.getElem_toArray, List.getElem_cons_zero, List.getElem_cons_succ, List.setIfInBounds_toArray, List.set_cons_zero, List.set_cons_succ]
      clear hsl hsum hNi hNe p1 q1 q2 q3 q7 c8 c9 c11
      (try clear q4)
      (try clear q6)
      refine wpAnyH_take (i := 5) (v := .pointer (some ⟨w.heap.size, 10, none⟩)) rfl (by kernel_rfl) (by kernel_rfl) (by kernel_rfl) (fun _ _ _ h => h) (Or.inl ⟨by rfl, (by intro w hSw; (try dsimp only at hSw); go_simp)⟩) (by assumption) ?_
      try simp only [Act.put, List.getElem_toArray, List.getElem_cons_zero, List.getElem_cons_succ, List.setIfInBounds_toArray, List.set_cons_zero, List.set_cons_succ]
      refine wpAnyH_take (i := 6) (v := .int .u8 (y : Int)) rfl (by kernel_rfl) (by kernel_rfl) (by kernel_rfl) (fun _ _ _ h => h) (Or.inl ⟨by rfl, (by intro w hSw; (try dsimp only at hSw); go_simp)⟩) (by assumption) ?_
      try simp only [Act.put, List.getElem_toArray, List.getElem_cons_zero, List.getElem_cons_succ, List.setIfInBounds_toArray, List.set_cons_zero, List.set_cons_succ]
      refine wpAnyH_take (i := 7) (v := .bool ((y : Int) == 1)) rfl (by kernel_rfl) (by kernel_rfl) (by kernel_rfl) (fun _ _ _ h => h) (Or.inl ⟨by rfl, (by intro w hSw; (try dsimp only at hSw); go_simp)⟩) (by assumption) ?_
      try simp only [Act.put, List.getElem_toArray, List.getElem_cons_zero, List.getElem_cons_succ, List.setIfInBounds_toArray, List.set_cons_zero, List.set_cons_succ]
      refine wpAnyH_ready (rs := [0]) (by kernel_rfl) (by simp) (AllReadyH.cons rfl (fun K hK => ?_) AllReadyH.nil)
      try simp only [List.getElem_toArray, List.getElem_cons_zero, List.getElem_cons_succ]
      go_simp
      obtain ⟨w3, hw3⟩ : ∃ w3, (w2.alloc (.cells #[] 5)).drew = w3 := ⟨_, rfl⟩
      have hbl3 : Below w2.heap.size w2 w3 := by have hz := below_alloc w2 (.cells #[] 5); rw [← hw3]; exact ⟨hz.os, hz.tape, hz.output, hz.size, hz.block⟩
      have ho3 : w3.ownsRow w2.heap.size 5 1 (.slice (some ⟨w2.heap.size, 0, none⟩) 0 0) 0 [] := by rw [← hw3]; exact World.ownsRow_made w2 (e := 5) (base := w2.heap.size) (size := 1) #[] 0 (Nat.le_refl _) (Nat.zero_le _) rfl
      rw [hw3]
      have hk3 := H2.out.1.below hbl3 H2.out.1.lt
      have c3 := HB.out.cell hk3 10 (by omega)
      rw [HX.out.2.2.2.2.1] at c3
      have ht3 := HB.out.txt (fun q => q = w.heap.size) rfl hk3 12 N 52 (by omega) (by omega)
      have H3 := Lib.hid (And.intro hbl3 (And.intro ho3 (And.intro hk3 ht3)))
      have hws : w2.heap.size ≤ w3.heap.size := hbl3.size
      clear hbl3 ho3 hk3 ht3 hw3 hHeld c10
      refine hK.out _ _ c3 (fun hHeld => ?_)
      clear hK K
      try simp only [Act.put, List.getElem_toArray, List.getElem_cons_zero, List.getElem_cons_succ, List.setIfInBounds_toArray, List.set_cons_zero, List.set_cons_succ]
      obtain ⟨iu, hu1, hu2, hu3, hu4⟩ := info_parts u8_info
      refine wpAnyH_ready (rs := [4]) (by kernel_rfl) (by simp) (AllReadyH.cons rfl (fun K hK => ?_) AllReadyH.nil)
      try simp only [List.getElem_toArray, List.getElem_cons_zero, List.getElem_cons_succ]
      refine if_wanted (by rfl) ?_
      refine wp_append_txt _ (.tmp 74) (.tmp 77) 37 rfl w2.heap.size 5 iu (.int .u8 0) 1 Try.underlying37 hu1 hu2 hu3 hu4 rfl _ 0 [] rfl H3.out.2.1 (fun q => q = w.heap.size) (some ⟨w.heap.size, 12, none⟩) N 52 ((b.drop 12).take N) rfl H3.out.2.2.2 (by unfold maxLen; omega) (by omega) hws ?_
      intro v6 w6 ho6 hg6 _
      have hb6 := below_own H3.out.1 hws hg6 (fun q hq => (row_block H3.out.2.1 hq).choose_spec.1)
      have hk6 := H2.out.1.below hb6 H2.out.1.lt
      have c6 := HB.out.cell hk6 10 (by omega)
      rw [HX.out.2.2.2.2.1] at c6
      have HF : Hid (RowU w6 w.heap.size v6 (Jl.body b) ∧ Below w.heap.size w w6) := Lib.hid (by
        refine ⟨⟨?_, ?_⟩, H2.out.2.trans (hb6.mono H2.out.2.size)⟩
        · have hq := own_base ho6 H2.out.2.size
          have he : (b.drop 12).take N = Jl.body b := by unfold Jl.body; rw [HNe.out]
          have hle : (Jl.body b).length = 0 + N := by rw [← he, List.length_take, List.length_drop, HB.out.2.1]; omega
          rw [hle, ← he]
          exact hq
        · unfold Jl.body; exact byt_take (byt_drop HB.out.2.2 _) _)
      clear ho6 hg6 hb6 hk6 hu1 hu2 hu3 hu4 hHeld c3
      refine hK.out _ _ c6 (fun hHeld => ?_)
      clear hK K
      try simp only [Act.put, List.getElem_toArray, List.getElem_cons_zero, List.getElem_cons_succ, List.setIfInBounds_toArray, List.set_cons_zero, List.set_cons_succ]
      refine wpAnyH_take (i := 8) (v := v6) rfl (by kernel_rfl) (by kernel_rfl) (by kernel_rfl) (fun _ _ _ h => h) (Or.inl ⟨by rfl, (by intro w hSw; (try dsimp only at hSw); go_simp)⟩) (by assumption) ?_
      try simp only [Act.put, List.getElem_toArray, List.getElem_cons_zero, List.getElem_cons_succ, List.setIfInBounds_toArray, List.set_cons_zero, List.set_cons_succ]
      refine wpAnyH_take (i := 9) (v := .bool ((y : Int) == 1)) rfl (by kernel_rfl) (by kernel_rfl) (by kernel_rfl) (fun _ _ _ h => h) (Or.inl ⟨by rfl, (by intro w hSw; (try dsimp only at hSw); go_simp)⟩) (by assumption) ?_
      try simp only [Act.put, List.getElem_toArray, List.getElem_cons_zero, List.getElem_cons_succ, List.setIfInBounds_toArray, List.set_cons_zero, List.set_cons_succ]
      refine wpAnyH_take (i := 10) (v := .bool true) rfl (by kernel_rfl) (by kernel_rfl) (by kernel_rfl) (fun _ _ _ h => h) (Or.inl ⟨by rfl, (by intro w hSw; (try dsimp only at hSw); go_simp)⟩) (by assumption) ?_
      try simp only [Act.put, List.getElem_toArray, List.getElem_cons_zero, List.getElem_cons_succ, List.setIfInBounds_toArray, List.set_cons_zero, List.set_cons_succ]
      refine wpAnyH_done (by kernel_rfl) ?_ _
      clear hHeld c6
      go_wp2
      go_ret3
      exact ⟨_, _, rfl, HF.out.2, fun _ => ⟨by rw [Bool.eq_iff_iff]; simp; omega, HF.out.1⟩⟩
    | false =>
      by_cases e1 : h = 0
      (focus (have q1 : ((h : Int) == 0) = true := (by simp; omega); obtain rfl : r = false := (by rw [← HR.out]; exact decide_eq_false (fun hh => by obtain ⟨z1, z2, z3, z4, z5, z6, z7⟩ := hh; exact z1 e1)); clear HG; go_wp2; go_ret3; exact Pq.no H2.out.2))
      have q1 : ((h : Int) == 0) = false := by simp; omega
      by_cases e2 : h ≠ t
      (focus (have q2 : ((h : Int) != (t : Int)) = true := (by simp; omega); obtain rfl : r = false := (by rw [← HR.out]; exact decide_eq_false (fun hh => by obtain ⟨z1, z2, z3, z4, z5, z6, z7⟩ := hh; exact e2 z2)); clear HG; go_wp2; go_ret3; exact Pq.no H2.out.2))
      have q2 : ((h : Int) != (t : Int)) = false := by simp; omega
      by_cases e3 : h < least
      (focus (have q3 : (h : Int) < (least : Int) := (by omega); obtain rfl : r = false := (by rw [← HR.out]; exact decide_eq_false (fun hh => by obtain ⟨z1, z2, z3, z4, z5, z6, z7⟩ := hh; omega)); clear HG; go_wp2; go_ret3; exact Pq.no H2.out.2))
      have q3 : ¬ (h : Int) < (least : Int) := by omega
      by_cases e6 : 1 < y
      (focus (have q6 : (1 : Int) < (y : Int) := (by omega); obtain rfl : r = false := (by rw [← HR.out]; exact decide_eq_false (fun hh => by obtain ⟨z1, z2, z3, z4, z5, z6, z7⟩ := hh; omega)); clear HG; go_wp2; go_ret3; exact Pq.no H2.out.2))
      have q6 : ¬ (1 : Int) < (y : Int) := by omega
      by_cases e7 : x ≠ 0
      (focus (have q7 : ((x : Int) != 0) = true := (by simp; omega); obtain rfl : r = false := (by rw [← HR.out]; exact decide_eq_false (fun hh => by obtain ⟨z1, z2, z3, z4, z5, z6, z7⟩ := hh; exact e7 z7)); clear HG; go_wp2; go_ret3; exact Pq.no H2.out.2))
      have q7 : ((x : Int) != 0) = false := by simp; omega
      obtain rfl : r = true := (by rw [← HR.out]; exact decide_eq_true ⟨e1, by omega, by omega, fun hh => by first | omega | (exact absurd hh (by decide)), by omega, by omega, by omega⟩)
      obtain ⟨N, hNe⟩ : ∃ N, y8 * 256 + y9 = N := ⟨_, rfl⟩
      have hNl : N ≤ 44 := by omega
      have hsl := slice_12b (g := w.heap.size) (N := N) (by omega)
      have hNi : (y8 : Int) * 256 + (y9 : Int) = (N : Int) := by omega
      have HNe := Lib.hid (HX.out.2.2.2.2.2.2.trans hNe)
      have hsum : IntKind.i64.wrap (12 + (N : Int)) = 12 + (N : Int) := IntWalk.i64_in _ (by omega)
      rw [hNi]
      go_upto_region 7 with fail
      refine wp_region_held_drew (S := fun w' => w'.cell? ⟨w.heap.size, 10, none⟩ = some (.int .u8 (y : Int))) (by kernel_rfl) c10 (fun hHeld => ?_)
      refine wpAnyH_take (i := 1) (v := .int .i64 (N : Int)) rfl (by kernel_rfl) (by kernel_rfl) (by kernel_rfl) (fun _ _ _ h => h) (Or.inl ⟨by rfl, (by intro w hSw; (try dsimp only at hSw); go_simp)⟩) (by assumption) ?_
      try simp only [Act.put, List.getElem_toArray, List.getElem_cons_zero, List.getElem_cons_succ, List.setIfInBounds_toArray, List.set_cons_zero, List.set_cons_succ]
      refine wpAnyH_take (i := 2) (v := .int .i64 (12 + (N : Int))) rfl (by kernel_rfl) (by kernel_rfl) (by kernel_rfl) (fun _ _ _ h => h) (Or.inl ⟨by rfl, (by intro w hSw; (try dsimp only at hSw); go_simp)⟩) (by assumption) ?_
      try simp only [Act.put, List.getElem_toArray, List.getElem_cons_zero, List.getElem_cons_succ, List.setIfInBounds_toArray, List.set_cons_zero, List.set_cons_succ]
      refine wpAnyH_take (i := 3) (v := .slice (some ⟨w.heap.size, 12, none⟩) N 52) rfl (by kernel_rfl) (by kernel_rfl) (by kernel_rfl) (fun _ _ _ h => h) (Or.inl ⟨by rfl, (by intro w hSw; (try dsimp only at hSw); go_simp)⟩) (by assumption) ?_
      try simp only [Act.put, List.getElem_toArray, List.getElem_cons_zero, List.getElem_cons_succ, List.setIfInBounds_toArray, List.set_cons_zero, List.set_cons_succ]
      clear hsl hsum hNi hNe p1 q1 q2 q3 q7 c8 c9 c11
      (try clear q4)
      (try clear q6)
      refine wpAnyH_take (i := 5) (v := .pointer (some ⟨w.heap.size, 10, none⟩)) rfl (by kernel_rfl) (by kernel_rfl) (by kernel_rfl) (fun _ _ _ h => h) (Or.inl ⟨by rfl, (by intro w hSw; (try dsimp only at hSw); go_simp)⟩) (by assumption) ?_
      try simp only [Act.put, List.getElem_toArray, List.getElem_cons_zero, List.getElem_cons_succ, List.setIfInBounds_toArray, List.set_cons_zero, List.set_cons_succ]
      refine wpAnyH_take (i := 6) (v := .int .u8 (y : Int)) rfl (by kernel_rfl) (by kernel_rfl) (by kernel_rfl) (fun _ _ _ h => h) (Or.inl ⟨by rfl, (by intro w hSw; (try dsimp only at hSw); go_simp)⟩) (by assumption) ?_
      try simp only [Act.put, List.getElem_toArray, List.getElem_cons_zero, List.getElem_cons_succ, List.setIfInBounds_toArray, List.set_cons_zero, List.set_cons_succ]
      refine wpAnyH_take (i := 7) (v := .bool ((y : Int) == 1)) rfl (by kernel_rfl) (by kernel_rfl) (by kernel_rfl) (fun _ _ _ h => h) (Or.inl ⟨by rfl, (by intro w hSw; (try dsimp only at hSw); go_simp)⟩) (by assumption) ?_
      try simp only [Act.put, List.getElem_toArray, List.getElem_cons_zero, List.getElem_cons_succ, List.setIfInBounds_toArray, List.set_cons_zero, List.set_cons_succ]
      refine wpAnyH_ready (rs := [0]) (by kernel_rfl) (by simp) (AllReadyH.cons rfl (fun K hK => ?_) AllReadyH.nil)
      try simp only [List.getElem_toArray, List.getElem_cons_zero, List.getElem_cons_succ]
      go_simp
      obtain ⟨w3, hw3⟩ : ∃ w3, (w2.alloc (.cells #[] 5)).drew = w3 := ⟨_, rfl⟩
      have hbl3 : Below w2.heap.size w2 w3 := by have hz := below_alloc w2 (.cells #[] 5); rw [← hw3]; exact ⟨hz.os, hz.tape, hz.output, hz.size, hz.block⟩
      have ho3 : w3.ownsRow w2.heap.size 5 1 (.slice (some ⟨w2.heap.size, 0, none⟩) 0 0) 0 [] := by rw [← hw3]; exact World.ownsRow_made w2 (e := 5) (base := w2.heap.size) (size := 1) #[] 0 (Nat.le_refl _) (Nat.zero_le _) rfl
      rw [hw3]
      have hk3 := H2.out.1.below hbl3 H2.out.1.lt
      have c3 := HB.out.cell hk3 10 (by omega)
      rw [HX.out.2.2.2.2.1] at c3
      have ht3 := HB.out.txt (fun q => q = w.heap.size) rfl hk3 12 N 52 (by omega) (by omega)
      have H3 := Lib.hid (And.intro hbl3 (And.intro ho3 (And.intro hk3 ht3)))
      have hws : w2.heap.size ≤ w3.heap.size := hbl3.size
      clear hbl3 ho3 hk3 ht3 hw3 hHeld c10
      refine hK.out _ _ c3 (fun hHeld => ?_)
      clear hK K
      try simp only [Act.put, List.getElem_toArray, List.getElem_cons_zero, List.getElem_cons_succ, List.setIfInBounds_toArray, List.set_cons_zero, List.set_cons_succ]
      obtain ⟨iu, hu1, hu2, hu3, hu4⟩ := info_parts u8_info
      refine wpAnyH_ready (rs := [4]) (by kernel_rfl) (by simp) (AllReadyH.cons rfl (fun K hK => ?_) AllReadyH.nil)
      try simp only [List.getElem_toArray, List.getElem_cons_zero, List.getElem_cons_succ]
      refine if_wanted (by rfl) ?_
      refine wp_append_txt _ (.tmp 74) (.tmp 77) 37 rfl w2.heap.size 5 iu (.int .u8 0) 1 Try.underlying37 hu1 hu2 hu3 hu4 rfl _ 0 [] rfl H3.out.2.1 (fun q => q = w.heap.size) (some ⟨w.heap.size, 12, none⟩) N 52 ((b.drop 12).take N) rfl H3.out.2.2.2 (by unfold maxLen; omega) (by omega) hws ?_
      intro v6 w6 ho6 hg6 _
      have hb6 := below_own H3.out.1 hws hg6 (fun q hq => (row_block H3.out.2.1 hq).choose_spec.1)
      have hk6 := H2.out.1.below hb6 H2.out.1.lt
      have c6 := HB.out.cell hk6 10 (by omega)
      rw [HX.out.2.2.2.2.1] at c6
      have HF : Hid (RowU w6 w.heap.size v6 (Jl.body b) ∧ Below w.heap.size w w6) := Lib.hid (by
        refine ⟨⟨?_, ?_⟩, H2.out.2.trans (hb6.mono H2.out.2.size)⟩
        · have hq := own_base ho6 H2.out.2.size
          have he : (b.drop 12).take N = Jl.body b := by unfold Jl.body; rw [HNe.out]
          have hle : (Jl.body b).length = 0 + N := by rw [← he, List.length_take, List.length_drop, HB.out.2.1]; omega
          rw [hle, ← he]
          exact hq
        · unfold Jl.body; exact byt_take (byt_drop HB.out.2.2 _) _)
      clear ho6 hg6 hb6 hk6 hu1 hu2 hu3 hu4 hHeld c3
      refine hK.out _ _ c6 (fun hHeld => ?_)
      clear hK K
      try simp only [Act.put, List.getElem_toArray, List.getElem_cons_zero, List.getElem_cons_succ, List.setIfInBounds_toArray, List.set_cons_zero, List.set_cons_succ]
      refine wpAnyH_take (i := 8) (v := v6) rfl (by kernel_rfl) (by kernel_rfl) (by kernel_rfl) (fun _ _ _ h => h) (Or.inl ⟨by rfl, (by intro w hSw; (try dsimp only at hSw); go_simp)⟩) (by assumption) ?_
      try simp only [Act.put, List.getElem_toArray, List.getElem_cons_zero, List.getElem_cons_succ, List.setIfInBounds_toArray, List.set_cons_zero, List.set_cons_succ]
      refine wpAnyH_take (i := 9) (v := .bool ((y : Int) == 1)) rfl (by kernel_rfl) (by kernel_rfl) (by kernel_rfl) (fun _ _ _ h => h) (Or.inl ⟨by rfl, (by intro w hSw; (try dsimp only at hSw); go_simp)⟩) (by assumption) ?_
      try simp only [Act.put, List.getElem_toArray, List.getElem_cons_zero, List.getElem_cons_succ, List.setIfInBounds_toArray, List.set_cons_zero, List.set_cons_succ]
      refine wpAnyH_take (i := 10) (v := .bool true) rfl (by kernel_rfl) (by kernel_rfl) (by kernel_rfl) (fun _ _ _ h => h) (Or.inl ⟨by rfl, (by intro w hSw; (try dsimp only at hSw); go_simp)⟩) (by assumption) ?_
      try simp only [Act.put, List.getElem_toArray, List.getElem_cons_zero, List.getElem_cons_succ, List.setIfInBounds_toArray, List.set_cons_zero, List.set_cons_succ]
      refine wpAnyH_done (by kernel_rfl) ?_ _
      clear hHeld c6
      go_wp2
      go_ret3
      exact ⟨_, _, rfl, HF.out.2, fun _ => ⟨by rw [Bool.eq_iff_iff]; simp; omega, HF.out.1⟩⟩
  · have p1 : ((y8 : Int) * 256 + (y9 : Int) == 44) = false := by simp; omega
    by_cases a2 : y = 1
    · have p2 : ((y : Int) == 1) = true := by simp; omega
      by_cases a3 : 1 ≤ y8 * 256 + y9
      · have p3 : (1 : Int) ≤ (y8 : Int) * 256 + (y9 : Int) := by omega
        by_cases a4 : y8 * 256 + y9 ≤ 44
        · have p4 : (y8 : Int) * 256 + (y9 : Int) ≤ 44 := by omega
          go_upto_region 5 with fail
          cases within with
          | true =>
            by_cases e1 : h = 0
            (focus (have q1 : ((h : Int) == 0) = true := (by simp; omega); obtain rfl : r = false := (by rw [← HR.out]; exact decide_eq_false (fun hh => by obtain ⟨z1, z2, z3, z4, z5, z6, z7⟩ := hh; exact z1 e1)); clear HG; go_wp2; go_ret3; exact Pq.no H2.out.2))
            have q1 : ((h : Int) == 0) = false := by simp; omega
            by_cases e2 : h ≠ t
            (focus (have q2 : ((h : Int) != (t : Int)) = true := (by simp; omega); obtain rfl : r = false := (by rw [← HR.out]; exact decide_eq_false (fun hh => by obtain ⟨z1, z2, z3, z4, z5, z6, z7⟩ := hh; exact e2 z2)); clear HG; go_wp2; go_ret3; exact Pq.no H2.out.2))
            have q2 : ((h : Int) != (t : Int)) = false := by simp; omega
            by_cases e3 : h < least
            (focus (have q3 : (h : Int) < (least : Int) := (by omega); obtain rfl : r = false := (by rw [← HR.out]; exact decide_eq_false (fun hh => by obtain ⟨z1, z2, z3, z4, z5, z6, z7⟩ := hh; omega)); clear HG; go_wp2; go_ret3; exact Pq.no H2.out.2))
            have q3 : ¬ (h : Int) < (least : Int) := by omega
            by_cases e4 : h ≠ least
            (focus (have q4 : ((h : Int) != (least : Int)) = true := (by simp; omega); obtain rfl : r = false := (by rw [← HR.out]; exact decide_eq_false (fun hh => by obtain ⟨z1, z2, z3, z4, z5, z6, z7⟩ := hh; exact e4 (z4 rfl))); clear HG; go_wp2; go_ret3; exact Pq.no H2.out.2))
            have q4 : ((h : Int) != (least : Int)) = false := by simp; omega
            have q6 : ¬ (1 : Int) < (y : Int) := by omega
            by_cases e7 : x ≠ 0
            (focus (have q7 : ((x : Int) != 0) = true := (by simp; omega); obtain rfl : r = false := (by rw [← HR.out]; exact decide_eq_false (fun hh => by obtain ⟨z1, z2, z3, z4, z5, z6, z7⟩ := hh; exact e7 z7)); clear HG; go_wp2; go_ret3; exact Pq.no H2.out.2))
            have q7 : ((x : Int) != 0) = false := by simp; omega
            obtain rfl : r = true := (by rw [← HR.out]; exact decide_eq_true ⟨e1, by omega, by omega, fun hh => by first | omega | (exact absurd hh (by decide)), by omega, by omega, by omega⟩)
            obtain ⟨N, hNe⟩ : ∃ N, y8 * 256 + y9 = N := ⟨_, rfl⟩
            have hNl : N ≤ 44 := by omega
            have hsl := slice_12b (g := w.heap.size) (N := N) (by omega)
            have hNi : (y8 : Int) * 256 + (y9 : Int) = (N : Int) := by omega
            have HNe := Lib.hid (HX.out.2.2.2.2.2.2.trans hNe)
            have hsum : IntKind.i64.wrap (12 + (N : Int)) = 12 + (N : Int) := IntWalk.i64_in _ (by omega)
            rw [hNi]
            go_upto_region 7 with fail
            refine wp_region_held_drew (S := fun w' => w'.cell? ⟨w.heap.size, 10, none⟩ = some (.int .u8 (y : Int))) (by kernel_rfl) c10 (fun hHeld => ?_)
            refine wpAnyH_take (i := 1) (v := .int .i64 (N : Int)) rfl (by kernel_rfl) (by kernel_rfl) (by kernel_rfl) (fun _ _ _ h => h) (Or.inl ⟨by rfl, (by intro w hSw; (try dsimp only at hSw); go_simp)⟩) (by assumption) ?_
            try simp only [Act.put, List.getElem_toArray, List.getElem_cons_zero, List.getElem_cons_succ, List.setIfInBounds_toArray, List.set_cons_zero, List.set_cons_succ]
            refine wpAnyH_take (i := 2) (v := .int .i64 (12 + (N : Int))) rfl (by kernel_rfl) (by kernel_rfl) (by kernel_rfl) (fun _ _ _ h => h) (Or.inl ⟨by rfl, (by intro w hSw; (try dsimp only at hSw); go_simp)⟩) (by assumption) ?_
            try simp only [Act.put, List.getElem_toArray, List.getElem_cons_zero, List.getElem_cons_succ, List.setIfInBounds_toArray, List.set_cons_zero, List.set_cons_succ]
            refine wpAnyH_take (i := 3) (v := .slice (some ⟨w.heap.size, 12, none⟩) N 52) rfl (by kernel_rfl) (by kernel_rfl) (by kernel_rfl) (fun _ _ _ h => h) (Or.inl ⟨by rfl, (by intro w hSw; (try dsimp only at hSw); go_simp)⟩) (by assumption) ?_
            try simp only [Act.put, List.getElem_toArray, List.getElem_cons_zero, List.getElem_cons_succ, List.setIfInBounds_toArray, List.set_cons_zero, List.set_cons_succ]
            clear hsl hsum hNi hNe p1 q1 q2 q3 q7 c8 c9 c11
            (try clear q4)
            (try clear q6)
            refine wpAnyH_take (i := 5) (v := .pointer (some ⟨w.heap.size, 10, none⟩)) rfl (by kernel_rfl) (by kernel_rfl) (by kernel_rfl) (fun _ _ _ h => h) (Or.inl ⟨by rfl, (by intro w hSw; (try dsimp only at hSw); go_simp)⟩) (by assumption) ?_
            try simp only [Act.put, List.getElem_toArray, List.getElem_cons_zero, List.getElem_cons_succ, List.setIfInBounds_toArray, List.set_cons_zero, List.set_cons_succ]
            refine wpAnyH_take (i := 6) (v := .int .u8 (y : Int)) rfl (by kernel_rfl) (by kernel_rfl) (by kernel_rfl) (fun _ _ _ h => h) (Or.inl ⟨by rfl, (by intro w hSw; (try dsimp only at hSw); go_simp)⟩) (by assumption) ?_
            try simp only [Act.put, List.getElem_toArray, List.getElem_cons_zero, List.getElem_cons_succ, List.setIfInBounds_toArray, List.set_cons_zero, List.set_cons_succ]
            refine wpAnyH_take (i := 7) (v := .bool ((y : Int) == 1)) rfl (by kernel_rfl) (by kernel_rfl) (by kernel_rfl) (fun _ _ _ h => h) (Or.inl ⟨by rfl, (by intro w hSw; (try dsimp only at hSw); go_simp)⟩) (by assumption) ?_
            try simp only [Act.put, List.getElem_toArray, List.getElem_cons_zero, List.getElem_cons_succ, List.setIfInBounds_toArray, List.set_cons_zero, List.set_cons_succ]
            refine wpAnyH_ready (rs := [0]) (by kernel_rfl) (by simp) (AllReadyH.cons rfl (fun K hK => ?_) AllReadyH.nil)
            try simp only [List.getElem_toArray, List.getElem_cons_zero, List.getElem_cons_succ]
            go_simp
            obtain ⟨w3, hw3⟩ : ∃ w3, (w2.alloc (.cells #[] 5)).drew = w3 := ⟨_, rfl⟩
            have hbl3 : Below w2.heap.size w2 w3 := by have hz := below_alloc w2 (.cells #[] 5); rw [← hw3]; exact ⟨hz.os, hz.tape, hz.output, hz.size, hz.block⟩
            have ho3 : w3.ownsRow w2.heap.size 5 1 (.slice (some ⟨w2.heap.size, 0, none⟩) 0 0) 0 [] := by rw [← hw3]; exact World.ownsRow_made w2 (e := 5) (base := w2.heap.size) (size := 1) #[] 0 (Nat.le_refl _) (Nat.zero_le _) rfl
            rw [hw3]
            have hk3 := H2.out.1.below hbl3 H2.out.1.lt
            have c3 := HB.out.cell hk3 10 (by omega)
            rw [HX.out.2.2.2.2.1] at c3
            have ht3 := HB.out.txt (fun q => q = w.heap.size) rfl hk3 12 N 52 (by omega) (by omega)
            have H3 := Lib.hid (And.intro hbl3 (And.intro ho3 (And.intro hk3 ht3)))
            have hws : w2.heap.size ≤ w3.heap.size := hbl3.size
            clear hbl3 ho3 hk3 ht3 hw3 hHeld c10
            refine hK.out _ _ c3 (fun hHeld => ?_)
            clear hK K
            try simp only [Act.put, List.getElem_toArray, List.getElem_cons_zero, List.getElem_cons_succ, List.setIfInBounds_toArray, List.set_cons_zero, List.set_cons_succ]
            obtain ⟨iu, hu1, hu2, hu3, hu4⟩ := info_parts u8_info
            refine wpAnyH_ready (rs := [4]) (by kernel_rfl) (by simp) (AllReadyH.cons rfl (fun K hK => ?_) AllReadyH.nil)
            try simp only [List.getElem_toArray, List.getElem_cons_zero, List.getElem_cons_succ]
            refine if_wanted (by rfl) ?_
            refine wp_append_txt _ (.tmp 74) (.tmp 77) 37 rfl w2.heap.size 5 iu (.int .u8 0) 1 Try.underlying37 hu1 hu2 hu3 hu4 rfl _ 0 [] rfl H3.out.2.1 (fun q => q = w.heap.size) (some ⟨w.heap.size, 12, none⟩) N 52 ((b.drop 12).take N) rfl H3.out.2.2.2 (by unfold maxLen; omega) (by omega) hws ?_
            intro v6 w6 ho6 hg6 _
            have hb6 := below_own H3.out.1 hws hg6 (fun q hq => (row_block H3.out.2.1 hq).choose_spec.1)
            have hk6 := H2.out.1.below hb6 H2.out.1.lt
            have c6 := HB.out.cell hk6 10 (by omega)
            rw [HX.out.2.2.2.2.1] at c6
            have HF : Hid (RowU w6 w.heap.size v6 (Jl.body b) ∧ Below w.heap.size w w6) := Lib.hid (by
              refine ⟨⟨?_, ?_⟩, H2.out.2.trans (hb6.mono H2.out.2.size)⟩
              · have hq := own_base ho6 H2.out.2.size
                have he : (b.drop 12).take N = Jl.body b := by unfold Jl.body; rw [HNe.out]
                have hle : (Jl.body b).length = 0 + N := by rw [← he, List.length_take, List.length_drop, HB.out.2.1]; omega
                rw [hle, ← he]
                exact hq
              · unfold Jl.body; exact byt_take (byt_drop HB.out.2.2 _) _)
            clear ho6 hg6 hb6 hk6 hu1 hu2 hu3 hu4 hHeld c3
            refine hK.out _ _ c6 (fun hHeld => ?_)
            clear hK K
            try simp only [Act.put, List.getElem_toArray, List.getElem_cons_zero, List.getElem_cons_succ, List.setIfInBounds_toArray, List.set_cons_zero, List.set_cons_succ]
            refine wpAnyH_take (i := 8) (v := v6) rfl (by kernel_rfl) (by kernel_rfl) (by kernel_rfl) (fun _ _ _ h => h) (Or.inl ⟨by rfl, (by intro w hSw; (try dsimp only at hSw); go_simp)⟩) (by assumption) ?_
            try simp only [Act.put, List.getElem_toArray, List.getElem_cons_zero, List.getElem_cons_succ, List.setIfInBounds_toArray, List.set_cons_zero, List.set_cons_succ]
            refine wpAnyH_take (i := 9) (v := .bool ((y : Int) == 1)) rfl (by kernel_rfl) (by kernel_rfl) (by kernel_rfl) (fun _ _ _ h => h) (Or.inl ⟨by rfl, (by intro w hSw; (try dsimp only at hSw); go_simp)⟩) (by assumption) ?_
            try simp only [Act.put, List.getElem_toArray, List.getElem_cons_zero, List.getElem_cons_succ, List.setIfInBounds_toArray, List.set_cons_zero, List.set_cons_succ]
            refine wpAnyH_take (i := 10) (v := .bool true) rfl (by kernel_rfl) (by kernel_rfl) (by kernel_rfl) (fun _ _ _ h => h) (Or.inl ⟨by rfl, (by intro w hSw; (try dsimp only at hSw); go_simp)⟩) (by assumption) ?_
            try simp only [Act.put, List.getElem_toArray, List.getElem_cons_zero, List.getElem_cons_succ, List.setIfInBounds_toArray, List.set_cons_zero, List.set_cons_succ]
            refine wpAnyH_done (by kernel_rfl) ?_ _
            clear hHeld c6
            go_wp2
            go_ret3
            exact ⟨_, _, rfl, HF.out.2, fun _ => ⟨by rw [Bool.eq_iff_iff]; simp; omega, HF.out.1⟩⟩
          | false =>
            by_cases e1 : h = 0
            (focus (have q1 : ((h : Int) == 0) = true := (by simp; omega); obtain rfl : r = false := (by rw [← HR.out]; exact decide_eq_false (fun hh => by obtain ⟨z1, z2, z3, z4, z5, z6, z7⟩ := hh; exact z1 e1)); clear HG; go_wp2; go_ret3; exact Pq.no H2.out.2))
            have q1 : ((h : Int) == 0) = false := by simp; omega
            by_cases e2 : h ≠ t
            (focus (have q2 : ((h : Int) != (t : Int)) = true := (by simp; omega); obtain rfl : r = false := (by rw [← HR.out]; exact decide_eq_false (fun hh => by obtain ⟨z1, z2, z3, z4, z5, z6, z7⟩ := hh; exact e2 z2)); clear HG; go_wp2; go_ret3; exact Pq.no H2.out.2))
            have q2 : ((h : Int) != (t : Int)) = false := by simp; omega
            by_cases e3 : h < least
            (focus (have q3 : (h : Int) < (least : Int) := (by omega); obtain rfl : r = false := (by rw [← HR.out]; exact decide_eq_false (fun hh => by obtain ⟨z1, z2, z3, z4, z5, z6, z7⟩ := hh; omega)); clear HG; go_wp2; go_ret3; exact Pq.no H2.out.2))
            have q3 : ¬ (h : Int) < (least : Int) := by omega
            have q6 : ¬ (1 : Int) < (y : Int) := by omega
            by_cases e7 : x ≠ 0
            (focus (have q7 : ((x : Int) != 0) = true := (by simp; omega); obtain rfl : r = false := (by rw [← HR.out]; exact decide_eq_false (fun hh => by obtain ⟨z1, z2, z3, z4, z5, z6, z7⟩ := hh; exact e7 z7)); clear HG; go_wp2; go_ret3; exact Pq.no H2.out.2))
            have q7 : ((x : Int) != 0) = false := by simp; omega
            obtain rfl : r = true := (by rw [← HR.out]; exact decide_eq_true ⟨e1, by omega, by omega, fun hh => by first | omega | (exact absurd hh (by decide)), by omega, by omega, by omega⟩)
            obtain ⟨N, hNe⟩ : ∃ N, y8 * 256 + y9 = N := ⟨_, rfl⟩
            have hNl : N ≤ 44 := by omega
            have hsl := slice_12b (g := w.heap.size) (N := N) (by omega)
            have hNi : (y8 : Int) * 256 + (y9 : Int) = (N : Int) := by omega
            have HNe := Lib.hid (HX.out.2.2.2.2.2.2.trans hNe)
            have hsum : IntKind.i64.wrap (12 + (N : Int)) = 12 + (N : Int) := IntWalk.i64_in _ (by omega)
            rw [hNi]
            go_upto_region 7 with fail
            refine wp_region_held_drew (S := fun w' => w'.cell? ⟨w.heap.size, 10, none⟩ = some (.int .u8 (y : Int))) (by kernel_rfl) c10 (fun hHeld => ?_)
            refine wpAnyH_take (i := 1) (v := .int .i64 (N : Int)) rfl (by kernel_rfl) (by kernel_rfl) (by kernel_rfl) (fun _ _ _ h => h) (Or.inl ⟨by rfl, (by intro w hSw; (try dsimp only at hSw); go_simp)⟩) (by assumption) ?_
            try simp only [Act.put, List.getElem_toArray, List.getElem_cons_zero, List.getElem_cons_succ, List.setIfInBounds_toArray, List.set_cons_zero, List.set_cons_succ]
            refine wpAnyH_take (i := 2) (v := .int .i64 (12 + (N : Int))) rfl (by kernel_rfl) (by kernel_rfl) (by kernel_rfl) (fun _ _ _ h => h) (Or.inl ⟨by rfl, (by intro w hSw; (try dsimp only at hSw); go_simp)⟩) (by assumption) ?_
            try simp only [Act.put, List.getElem_toArray, List.getElem_cons_zero, List.getElem_cons_succ, List.setIfInBounds_toArray, List.set_cons_zero, List.set_cons_succ]
            refine wpAnyH_take (i := 3) (v := .slice (some ⟨w.heap.size, 12, none⟩) N 52) rfl (by kernel_rfl) (by kernel_rfl) (by kernel_rfl) (fun _ _ _ h => h) (Or.inl ⟨by rfl, (by intro w hSw; (try dsimp only at hSw); go_simp)⟩) (by assumption) ?_
            try simp only [Act.put, List.getElem_toArray, List.getElem_cons_zero, List.getElem_cons_succ, List.setIfInBounds_toArray, List.set_cons_zero, List.set_cons_succ]
            clear hsl hsum hNi hNe p1 q1 q2 q3 q7 c8 c9 c11
            (try clear q4)
            (try clear q6)
            refine wpAnyH_take (i := 5) (v := .pointer (some ⟨w.heap.size, 10, none⟩)) rfl (by kernel_rfl) (by kernel_rfl) (by kernel_rfl) (fun _ _ _ h => h) (Or.inl ⟨by rfl, (by intro w hSw; (try dsimp only at hSw); go_simp)⟩) (by assumption) ?_
            try simp only [Act.put, List.getElem_toArray, List.getElem_cons_zero, List.getElem_cons_succ, List.setIfInBounds_toArray, List.set_cons_zero, List.set_cons_succ]
            refine wpAnyH_take (i := 6) (v := .int .u8 (y : Int)) rfl (by kernel_rfl) (by kernel_rfl) (by kernel_rfl) (fun _ _ _ h => h) (Or.inl ⟨by rfl, (by intro w hSw; (try dsimp only at hSw); go_simp)⟩) (by assumption) ?_
            try simp only [Act.put, List.getElem_toArray, List.getElem_cons_zero, List.getElem_cons_succ, List.setIfInBounds_toArray, List.set_cons_zero, List.set_cons_succ]
            refine wpAnyH_take (i := 7) (v := .bool ((y : Int) == 1)) rfl (by kernel_rfl) (by kernel_rfl) (by kernel_rfl) (fun _ _ _ h => h) (Or.inl ⟨by rfl, (by intro w hSw; (try dsimp only at hSw); go_simp)⟩) (by assumption) ?_
            try simp only [Act.put, List.getElem_toArray, List.getElem_cons_zero, List.getElem_cons_succ, List.setIfInBounds_toArray, List.set_cons_zero, List.set_cons_succ]
            refine wpAnyH_ready (rs := [0]) (by kernel_rfl) (by simp) (AllReadyH.cons rfl (fun K hK => ?_) AllReadyH.nil)
            try simp only [List.getElem_toArray, List.getElem_cons_zero, List.getElem_cons_succ]
            go_simp
            obtain ⟨w3, hw3⟩ : ∃ w3, (w2.alloc (.cells #[] 5)).drew = w3 := ⟨_, rfl⟩
            have hbl3 : Below w2.heap.size w2 w3 := by have hz := below_alloc w2 (.cells #[] 5); rw [← hw3]; exact ⟨hz.os, hz.tape, hz.output, hz.size, hz.block⟩
            have ho3 : w3.ownsRow w2.heap.size 5 1 (.slice (some ⟨w2.heap.size, 0, none⟩) 0 0) 0 [] := by rw [← hw3]; exact World.ownsRow_made w2 (e := 5) (base := w2.heap.size) (size := 1) #[] 0 (Nat.le_refl _) (Nat.zero_le _) rfl
            rw [hw3]
            have hk3 := H2.out.1.below hbl3 H2.out.1.lt
            have c3 := HB.out.cell hk3 10 (by omega)
            rw [HX.out.2.2.2.2.1] at c3
            have ht3 := HB.out.txt (fun q => q = w.heap.size) rfl hk3 12 N 52 (by omega) (by omega)
            have H3 := Lib.hid (And.intro hbl3 (And.intro ho3 (And.intro hk3 ht3)))
            have hws : w2.heap.size ≤ w3.heap.size := hbl3.size
            clear hbl3 ho3 hk3 ht3 hw3 hHeld c10
            refine hK.out _ _ c3 (fun hHeld => ?_)
            clear hK K
            try simp only [Act.put, List.getElem_toArray, List.getElem_cons_zero, List.getElem_cons_succ, List.setIfInBounds_toArray, List.set_cons_zero, List.set_cons_succ]
            obtain ⟨iu, hu1, hu2, hu3, hu4⟩ := info_parts u8_info
            refine wpAnyH_ready (rs := [4]) (by kernel_rfl) (by simp) (AllReadyH.cons rfl (fun K hK => ?_) AllReadyH.nil)
            try simp only [List.getElem_toArray, List.getElem_cons_zero, List.getElem_cons_succ]
            refine if_wanted (by rfl) ?_
            refine wp_append_txt _ (.tmp 74) (.tmp 77) 37 rfl w2.heap.size 5 iu (.int .u8 0) 1 Try.underlying37 hu1 hu2 hu3 hu4 rfl _ 0 [] rfl H3.out.2.1 (fun q => q = w.heap.size) (some ⟨w.heap.size, 12, none⟩) N 52 ((b.drop 12).take N) rfl H3.out.2.2.2 (by unfold maxLen; omega) (by omega) hws ?_
            intro v6 w6 ho6 hg6 _
            have hb6 := below_own H3.out.1 hws hg6 (fun q hq => (row_block H3.out.2.1 hq).choose_spec.1)
            have hk6 := H2.out.1.below hb6 H2.out.1.lt
            have c6 := HB.out.cell hk6 10 (by omega)
            rw [HX.out.2.2.2.2.1] at c6
            have HF : Hid (RowU w6 w.heap.size v6 (Jl.body b) ∧ Below w.heap.size w w6) := Lib.hid (by
              refine ⟨⟨?_, ?_⟩, H2.out.2.trans (hb6.mono H2.out.2.size)⟩
              · have hq := own_base ho6 H2.out.2.size
                have he : (b.drop 12).take N = Jl.body b := by unfold Jl.body; rw [HNe.out]
                have hle : (Jl.body b).length = 0 + N := by rw [← he, List.length_take, List.length_drop, HB.out.2.1]; omega
                rw [hle, ← he]
                exact hq
              · unfold Jl.body; exact byt_take (byt_drop HB.out.2.2 _) _)
            clear ho6 hg6 hb6 hk6 hu1 hu2 hu3 hu4 hHeld c3
            refine hK.out _ _ c6 (fun hHeld => ?_)
            clear hK K
            try simp only [Act.put, List.getElem_toArray, List.getElem_cons_zero, List.getElem_cons_succ, List.setIfInBounds_toArray, List.set_cons_zero, List.set_cons_succ]
            refine wpAnyH_take (i := 8) (v := v6) rfl (by kernel_rfl) (by kernel_rfl) (by kernel_rfl) (fun _ _ _ h => h) (Or.inl ⟨by rfl, (by intro w hSw; (try dsimp only at hSw); go_simp)⟩) (by assumption) ?_
            try simp only [Act.put, List.getElem_toArray, List.getElem_cons_zero, List.getElem_cons_succ, List.setIfInBounds_toArray, List.set_cons_zero, List.set_cons_succ]
            refine wpAnyH_take (i := 9) (v := .bool ((y : Int) == 1)) rfl (by kernel_rfl) (by kernel_rfl) (by kernel_rfl) (fun _ _ _ h => h) (Or.inl ⟨by rfl, (by intro w hSw; (try dsimp only at hSw); go_simp)⟩) (by assumption) ?_
            try simp only [Act.put, List.getElem_toArray, List.getElem_cons_zero, List.getElem_cons_succ, List.setIfInBounds_toArray, List.set_cons_zero, List.set_cons_succ]
            refine wpAnyH_take (i := 10) (v := .bool true) rfl (by kernel_rfl) (by kernel_rfl) (by kernel_rfl) (fun _ _ _ h => h) (Or.inl ⟨by rfl, (by intro w hSw; (try dsimp only at hSw); go_simp)⟩) (by assumption) ?_
            try simp only [Act.put, List.getElem_toArray, List.getElem_cons_zero, List.getElem_cons_succ, List.setIfInBounds_toArray, List.set_cons_zero, List.set_cons_succ]
            refine wpAnyH_done (by kernel_rfl) ?_ _
            clear hHeld c6
            go_wp2
            go_ret3
            exact ⟨_, _, rfl, HF.out.2, fun _ => ⟨by rw [Bool.eq_iff_iff]; simp; omega, HF.out.1⟩⟩
        · have p4 : ¬ (y8 : Int) * 256 + (y9 : Int) ≤ 44 := by omega
          go_upto_region 5 with fail
          cases within with
          | true =>
            by_cases e1 : h = 0
            (focus (have q1 : ((h : Int) == 0) = true := (by simp; omega); obtain rfl : r = false := (by rw [← HR.out]; exact decide_eq_false (fun hh => by obtain ⟨z1, z2, z3, z4, z5, z6, z7⟩ := hh; exact z1 e1)); clear HG; go_wp2; go_ret3; exact Pq.no H2.out.2))
            have q1 : ((h : Int) == 0) = false := by simp; omega
            by_cases e2 : h ≠ t
            (focus (have q2 : ((h : Int) != (t : Int)) = true := (by simp; omega); obtain rfl : r = false := (by rw [← HR.out]; exact decide_eq_false (fun hh => by obtain ⟨z1, z2, z3, z4, z5, z6, z7⟩ := hh; exact e2 z2)); clear HG; go_wp2; go_ret3; exact Pq.no H2.out.2))
            have q2 : ((h : Int) != (t : Int)) = false := by simp; omega
            by_cases e3 : h < least
            (focus (have q3 : (h : Int) < (least : Int) := (by omega); obtain rfl : r = false := (by rw [← HR.out]; exact decide_eq_false (fun hh => by obtain ⟨z1, z2, z3, z4, z5, z6, z7⟩ := hh; omega)); clear HG; go_wp2; go_ret3; exact Pq.no H2.out.2))
            have q3 : ¬ (h : Int) < (least : Int) := by omega
            by_cases e4 : h ≠ least
            (focus (have q4 : ((h : Int) != (least : Int)) = true := (by simp; omega); obtain rfl : r = false := (by rw [← HR.out]; exact decide_eq_false (fun hh => by obtain ⟨z1, z2, z3, z4, z5, z6, z7⟩ := hh; exact e4 (z4 rfl))); clear HG; go_wp2; go_ret3; exact Pq.no H2.out.2))
            have q4 : ((h : Int) != (least : Int)) = false := by simp; omega
            (focus (have q5 : True := trivial; obtain rfl : r = false := (by rw [← HR.out]; exact decide_eq_false (fun hh => by obtain ⟨z1, z2, z3, z4, z5, z6, z7⟩ := hh; omega)); clear HG; go_wp2; go_ret3; exact Pq.no H2.out.2))
          | false =>
            by_cases e1 : h = 0
            (focus (have q1 : ((h : Int) == 0) = true := (by simp; omega); obtain rfl : r = false := (by rw [← HR.out]; exact decide_eq_false (fun hh => by obtain ⟨z1, z2, z3, z4, z5, z6, z7⟩ := hh; exact z1 e1)); clear HG; go_wp2; go_ret3; exact Pq.no H2.out.2))
            have q1 : ((h : Int) == 0) = false := by simp; omega
            by_cases e2 : h ≠ t
            (focus (have q2 : ((h : Int) != (t : Int)) = true := (by simp; omega); obtain rfl : r = false := (by rw [← HR.out]; exact decide_eq_false (fun hh => by obtain ⟨z1, z2, z3, z4, z5, z6, z7⟩ := hh; exact e2 z2)); clear HG; go_wp2; go_ret3; exact Pq.no H2.out.2))
            have q2 : ((h : Int) != (t : Int)) = false := by simp; omega
            by_cases e3 : h < least
            (focus (have q3 : (h : Int) < (least : Int) := (by omega); obtain rfl : r = false := (by rw [← HR.out]; exact decide_eq_false (fun hh => by obtain ⟨z1, z2, z3, z4, z5, z6, z7⟩ := hh; omega)); clear HG; go_wp2; go_ret3; exact Pq.no H2.out.2))
            have q3 : ¬ (h : Int) < (least : Int) := by omega
            (focus (have q5 : True := trivial; obtain rfl : r = false := (by rw [← HR.out]; exact decide_eq_false (fun hh => by obtain ⟨z1, z2, z3, z4, z5, z6, z7⟩ := hh; omega)); clear HG; go_wp2; go_ret3; exact Pq.no H2.out.2))
      · have p3 : ¬ (1 : Int) ≤ (y8 : Int) * 256 + (y9 : Int) := by omega
        go_upto_region 5 with fail
        cases within with
        | true =>
          by_cases e1 : h = 0
          (focus (have q1 : ((h : Int) == 0) = true := (by simp; omega); obtain rfl : r = false := (by rw [← HR.out]; exact decide_eq_false (fun hh => by obtain ⟨z1, z2, z3, z4, z5, z6, z7⟩ := hh; exact z1 e1)); clear HG; go_wp2; go_ret3; exact Pq.no H2.out.2))
          have q1 : ((h : Int) == 0) = false := by simp; omega
          by_cases e2 : h ≠ t
          (focus (have q2 : ((h : Int) != (t : Int)) = true := (by simp; omega); obtain rfl : r = false := (by rw [← HR.out]; exact decide_eq_false (fun hh => by obtain ⟨z1, z2, z3, z4, z5, z6, z7⟩ := hh; exact e2 z2)); clear HG; go_wp2; go_ret3; exact Pq.no H2.out.2))
          have q2 : ((h : Int) != (t : Int)) = false := by simp; omega
          by_cases e3 : h < least
          (focus (have q3 : (h : Int) < (least : Int) := (by omega); obtain rfl : r = false := (by rw [← HR.out]; exact decide_eq_false (fun hh => by obtain ⟨z1, z2, z3, z4, z5, z6, z7⟩ := hh; omega)); clear HG; go_wp2; go_ret3; exact Pq.no H2.out.2))
          have q3 : ¬ (h : Int) < (least : Int) := by omega
          by_cases e4 : h ≠ least
          (focus (have q4 : ((h : Int) != (least : Int)) = true := (by simp; omega); obtain rfl : r = false := (by rw [← HR.out]; exact decide_eq_false (fun hh => by obtain ⟨z1, z2, z3, z4, z5, z6, z7⟩ := hh; exact e4 (z4 rfl))); clear HG; go_wp2; go_ret3; exact Pq.no H2.out.2))
          have q4 : ((h : Int) != (least : Int)) = false := by simp; omega
          (focus (have q5 : True := trivial; obtain rfl : r = false := (by rw [← HR.out]; exact decide_eq_false (fun hh => by obtain ⟨z1, z2, z3, z4, z5, z6, z7⟩ := hh; omega)); clear HG; go_wp2; go_ret3; exact Pq.no H2.out.2))
        | false =>
          by_cases e1 : h = 0
          (focus (have q1 : ((h : Int) == 0) = true := (by simp; omega); obtain rfl : r = false := (by rw [← HR.out]; exact decide_eq_false (fun hh => by obtain ⟨z1, z2, z3, z4, z5, z6, z7⟩ := hh; exact z1 e1)); clear HG; go_wp2; go_ret3; exact Pq.no H2.out.2))
          have q1 : ((h : Int) == 0) = false := by simp; omega
          by_cases e2 : h ≠ t
          (focus (have q2 : ((h : Int) != (t : Int)) = true := (by simp; omega); obtain rfl : r = false := (by rw [← HR.out]; exact decide_eq_false (fun hh => by obtain ⟨z1, z2, z3, z4, z5, z6, z7⟩ := hh; exact e2 z2)); clear HG; go_wp2; go_ret3; exact Pq.no H2.out.2))
          have q2 : ((h : Int) != (t : Int)) = false := by simp; omega
          by_cases e3 : h < least
          (focus (have q3 : (h : Int) < (least : Int) := (by omega); obtain rfl : r = false := (by rw [← HR.out]; exact decide_eq_false (fun hh => by obtain ⟨z1, z2, z3, z4, z5, z6, z7⟩ := hh; omega)); clear HG; go_wp2; go_ret3; exact Pq.no H2.out.2))
          have q3 : ¬ (h : Int) < (least : Int) := by omega
          (focus (have q5 : True := trivial; obtain rfl : r = false := (by rw [← HR.out]; exact decide_eq_false (fun hh => by obtain ⟨z1, z2, z3, z4, z5, z6, z7⟩ := hh; omega)); clear HG; go_wp2; go_ret3; exact Pq.no H2.out.2))
    · have p2 : ((y : Int) == 1) = false := by simp; omega
      go_upto_region 5 with fail
      cases within with
      | true =>
        by_cases e1 : h = 0
        (focus (have q1 : ((h : Int) == 0) = true := (by simp; omega); obtain rfl : r = false := (by rw [← HR.out]; exact decide_eq_false (fun hh => by obtain ⟨z1, z2, z3, z4, z5, z6, z7⟩ := hh; exact z1 e1)); clear HG; go_wp2; go_ret3; exact Pq.no H2.out.2))
        have q1 : ((h : Int) == 0) = false := by simp; omega
        by_cases e2 : h ≠ t
        (focus (have q2 : ((h : Int) != (t : Int)) = true := (by simp; omega); obtain rfl : r = false := (by rw [← HR.out]; exact decide_eq_false (fun hh => by obtain ⟨z1, z2, z3, z4, z5, z6, z7⟩ := hh; exact e2 z2)); clear HG; go_wp2; go_ret3; exact Pq.no H2.out.2))
        have q2 : ((h : Int) != (t : Int)) = false := by simp; omega
        by_cases e3 : h < least
        (focus (have q3 : (h : Int) < (least : Int) := (by omega); obtain rfl : r = false := (by rw [← HR.out]; exact decide_eq_false (fun hh => by obtain ⟨z1, z2, z3, z4, z5, z6, z7⟩ := hh; omega)); clear HG; go_wp2; go_ret3; exact Pq.no H2.out.2))
        have q3 : ¬ (h : Int) < (least : Int) := by omega
        by_cases e4 : h ≠ least
        (focus (have q4 : ((h : Int) != (least : Int)) = true := (by simp; omega); obtain rfl : r = false := (by rw [← HR.out]; exact decide_eq_false (fun hh => by obtain ⟨z1, z2, z3, z4, z5, z6, z7⟩ := hh; exact e4 (z4 rfl))); clear HG; go_wp2; go_ret3; exact Pq.no H2.out.2))
        have q4 : ((h : Int) != (least : Int)) = false := by simp; omega
        (focus (have q5 : True := trivial; obtain rfl : r = false := (by rw [← HR.out]; exact decide_eq_false (fun hh => by obtain ⟨z1, z2, z3, z4, z5, z6, z7⟩ := hh; omega)); clear HG; go_wp2; go_ret3; exact Pq.no H2.out.2))
      | false =>
        by_cases e1 : h = 0
        (focus (have q1 : ((h : Int) == 0) = true := (by simp; omega); obtain rfl : r = false := (by rw [← HR.out]; exact decide_eq_false (fun hh => by obtain ⟨z1, z2, z3, z4, z5, z6, z7⟩ := hh; exact z1 e1)); clear HG; go_wp2; go_ret3; exact Pq.no H2.out.2))
        have q1 : ((h : Int) == 0) = false := by simp; omega
        by_cases e2 : h ≠ t
        (focus (have q2 : ((h : Int) != (t : Int)) = true := (by simp; omega); obtain rfl : r = false := (by rw [← HR.out]; exact decide_eq_false (fun hh => by obtain ⟨z1, z2, z3, z4, z5, z6, z7⟩ := hh; exact e2 z2)); clear HG; go_wp2; go_ret3; exact Pq.no H2.out.2))
        have q2 : ((h : Int) != (t : Int)) = false := by simp; omega
        by_cases e3 : h < least
        (focus (have q3 : (h : Int) < (least : Int) := (by omega); obtain rfl : r = false := (by rw [← HR.out]; exact decide_eq_false (fun hh => by obtain ⟨z1, z2, z3, z4, z5, z6, z7⟩ := hh; omega)); clear HG; go_wp2; go_ret3; exact Pq.no H2.out.2))
        have q3 : ¬ (h : Int) < (least : Int) := by omega
        (focus (have q5 : True := trivial; obtain rfl : r = false := (by rw [← HR.out]; exact decide_eq_false (fun hh => by obtain ⟨z1, z2, z3, z4, z5, z6, z7⟩ := hh; omega)); clear HG; go_wp2; go_ret3; exact Pq.no H2.out.2))
end Go.Proofs.Ytfecobkpdmjaeaa
