/-
  What the package's functions are to answer (Rnd); the walks of the statements' awake and of RoundTells.
-/
import Derived.Test.YtanojjcbbjgefaaTd
namespace Go.Proofs.Ytanojjcbbjgefaa
open Go.RowKit Go.Great
set_option maxRecDepth 20000
set_option linter.unusedVariables false
set_option linter.unusedSimpArgs false
open Rn
/-- What the package's functions are to answer. -/
structure Rnd : Prop where
  draw : ∀ (d : Int) (w : World), U64 d → Calls Try.prog 11 #[.int .u64 d] w fun e w' => e = .returned (.int .u64 (dr d)) ∧ Below w.heap.size w w'
  order : ∀ (n me d : Int) (w : World), In64 n → In64 me → U64 d → Calls Try.prog 8 #[.int .i64 n, .int .i64 me, .int .u64 d] w (OrdQ w (ord n me d).1 (ord n me d).2)
  turn : ∀ (n me d t : Int) (w : World), In64 n → In64 me → U64 d → In64 t → Calls Try.prog 13 #[.int .i64 n, .int .i64 me, .int .u64 d, .int .i64 t] w fun e w' => e = .returned (.int .i64 (trn n me d t)) ∧ Below w.heap.size w w'
/-- At the head of all statements. -/
def Awake : Prop := ∀ w : World, Calls Try.prog 7 #[] w fun e w' => e = .returned (.bool true) ∧ Below w.heap.size w w'
theorem in_lit {x : Int} (h : -1000 ≤ x ∧ x ≤ 1000) : In64 x := by constructor <;> omega
theorem u_lit {x : Int} (h : 0 ≤ x ∧ x ≤ 1000) : U64 x := by constructor <;> omega
set_option maxHeartbeats 4000000 in
theorem awake_walk (hr : Rnd) : Awake := by
  intro w
  have HR := Lib.hid hr
  clear hr
  go_enter Try.func7, Try.ntmps7
  go_wp2_with fail
  refine (HR.out.order 2 0 5 w (in_lit (by omega)) (in_lit (by omega)) (u_lit (by omega))).mono ?_
  rintro e w1 ⟨a1, n1, c1, rfl, hm1, hb1⟩
  rw [show ord 2 0 5 = ([1], 5) by decide +kernel] at hm1 ⊢
  obtain ⟨g, rfl, hg, hgl, _, hcell⟩ := hm1.form (by rw [← hm1.len]; decide)
  have hl1 : n1 = 1 := hm1.len.symm
  subst hl1
  have c1 := (hcell 0 (by omega)).1
  have c1' : w1.cell? ⟨g, 0, none⟩ = some (.int .i64 1) := c1
  have HB := Lib.hid (And.intro hb1 (And.intro hgl c1'))
  clear hm1 hb1 hg hgl hcell c1 c1'
  go_wp2_with fail
  refine (HR.out.order 1 0 5 w1 (in_lit (by omega)) (in_lit (by omega)) (u_lit (by omega))).mono ?_
  rintro e w2 ⟨a2, n2, c2, rfl, hm2, hb2⟩
  rw [show ord 1 0 5 = ([], 5) by decide +kernel] at hm2 ⊢
  have hl2 : n2 = 0 := hm2.len.symm
  subst hl2
  have HB2 : Hid (Below w.heap.size w w2 ∧ w2.cell? ⟨g, 0, none⟩ = some (.int .i64 1) ∧ g < w2.heap.size) := Lib.hid ⟨HB.out.1.trans (hb2.mono HB.out.1.size), (hb2.cell (p := ⟨g, 0, none⟩) HB.out.2.1).trans HB.out.2.2, Nat.lt_of_lt_of_le HB.out.2.1 hb2.size⟩
  clear hm2 hb2 HB
  go_wp2_with fail
  refine (HR.out.draw 0 w2 (u_lit (by omega))).mono ?_
  rintro e w3 ⟨rfl, hb3⟩
  rw [show dr 0 = 1442695040888963407 by decide +kernel]
  have HB3 := Lib.hid (HB2.out.1.trans (hb3.mono HB2.out.1.size))
  have cc : w3.cell? ⟨g, 0, none⟩ = some (.int .i64 1) := (hb3.cell (p := ⟨g, 0, none⟩) HB2.out.2.2).trans HB2.out.2.1
  clear hb3 HB2
  go_wp2_with fail
  refine (HR.out.turn 2 1 5 77 w3 (in_lit (by omega)) (in_lit (by omega)) (u_lit (by omega)) (in_lit (by omega))).mono ?_
  rintro e w4 ⟨rfl, hb4⟩
  rw [show trn 2 1 5 77 = 0 by decide +kernel]
  have HB4 := Lib.hid (HB3.out.trans (hb4.mono HB3.out.size))
  clear hb4 HB3 cc
  go_wp2_with fail
  refine (HR.out.turn 1 0 5 0 w4 (in_lit (by omega)) (in_lit (by omega)) (u_lit (by omega)) (in_lit (by omega))).mono ?_
  rintro e w5 ⟨rfl, hb5⟩
  rw [show trn 1 0 5 0 = -1 by decide +kernel]
  have HB5 := Lib.hid (HB4.out.trans (hb5.mono HB4.out.size))
  clear hb5 HB4
  go_wp2
  go_ret
  exact ⟨rfl, HB5.out⟩
set_option maxHeartbeats 4000000 in
theorem tells_walk (hr : Rnd) (hw : Awake) (n me d t : Int) (hn : In64 n) (hme : In64 me) (hd : U64 d) (ht : In64 t) (w : World) : Calls Try.prog 3 #[.int .i64 n, .int .i64 me, .int .u64 d, .int .i64 t] w fun e w' => e = .returned (.bool true) ∧ Below w.heap.size w w' := by
  have HR := Lib.hid hr
  have HA := Lib.hid hw
  have HI := Lib.hid (And.intro hn (And.intro hme (And.intro hd ht)))
  clear hr hw hn hme hd ht
  go_enter Try.func3, Try.ntmps3
  go_wp2_with fail
  refine (HA.out w).mono ?_
  rintro e w1 ⟨rfl, hb1⟩
  have HB1 := Lib.hid hb1
  clear hb1
  by_cases z : t > 2000 ∧ t ≤ 1048576
  · have z1 := z.1
    have z2 := z.2
    clear z
    go_wp2
    go_ret
    exact ⟨rfl, HB1.out⟩
  have q : (decide (t > 2000) && decide (t ≤ 1048576)) = false := by
    by_cases h1 : t > 2000
    · have h2 : ¬ t ≤ 1048576 := fun h => z ⟨h1, h⟩
      simp [h1, h2]
    · simp [h1]
  obtain ⟨l, hl⟩ : ∃ l, ord n me d = l := ⟨_, rfl⟩
  have HL := Lib.hid hl
  have h8 : Hid (l.1.length ≤ 8) := Lib.hid (by rw [← hl]; exact ord_le n me d)
  clear hl
  by_cases z1 : t > 2000
  · have z2 : decide (t ≤ 1048576) = false := decide_eq_false fun h => z ⟨z1, h⟩
    clear q z
    go_wp2_with fail
    refine (HR.out.order n me d w1 HI.out.1 HI.out.2.1 HI.out.2.2.1).mono ?_
    rintro e w2 ⟨a2, n2, c2, rfl, hm2, hb2⟩
    rw [HL.out] at hm2 ⊢
    have H2 := Lib.hid (And.intro hm2 (HB1.out.trans (hb2.mono HB1.out.size)))
    have hn2 := hm2.len
    clear hm2 hb2
    go_wp2_with fail
    refine (rorder_any n me d HI.out.2.2.1 w2).mono ?_
    rintro e w3 ⟨a3, n3, c3, rfl, hm3, hb3⟩
    rw [HL.out] at hm3 ⊢
    have hn3 : n3 = n2 := by rw [← hm3.len, hn2]
    subst hn3
    have H3 := Lib.hid (And.intro (H2.out.1.below hb3) (And.intro hm3 (H2.out.2.trans (hb3.mono H2.out.2.size))))
    clear hm3 hb3
    go_wp2_with fail
    refine (rsame_any (w := w3) H3.out.1.ns H3.out.2.1.ns (by have := h8.out; omega)).mono ?_
    rintro e w4 ⟨rfl, hb4⟩
    have HB4 := Lib.hid (H3.out.2.2.trans (hb4.mono H3.out.2.2.size))
    clear hb4 H3 H2 hn2
    have q2 : (l.2 == l.2) = true := by simp
    obtain ⟨dd, hdd⟩ : ∃ dd, l.2 = dd := ⟨_, rfl⟩
    rw [hdd] at q2 ⊢
    clear hdd
    go_wp2_with fail
    refine (HR.out.draw d w4 HI.out.2.2.1).mono ?_
    rintro e w5 ⟨rfl, hb5⟩
    have HB5 := Lib.hid (HB4.out.trans (hb5.mono HB4.out.size))
    clear hb5
    obtain ⟨x, hx⟩ : ∃ x, dr d = x := ⟨_, rfl⟩
    have HX := Lib.hid hx
    rw [hx]
    clear hx
    go_wp2_with fail
    refine (rdraw_any d w5).mono ?_
    rintro e w6 ⟨rfl, hb6⟩
    have HB6 := Lib.hid (HB5.out.trans (hb6.mono HB5.out.size))
    clear hb6
    rw [HX.out]
    have q3 : (x == x) = true := by simp
    go_wp2_with fail
    refine (HR.out.turn n me d t w6 HI.out.1 HI.out.2.1 HI.out.2.2.1 HI.out.2.2.2).mono ?_
    rintro e w7 ⟨rfl, hb7⟩
    have HB7 := Lib.hid (HB6.out.trans (hb7.mono HB6.out.size))
    clear hb7
    obtain ⟨y, hy⟩ : ∃ y, trn n me d t = y := ⟨_, rfl⟩
    have HY := Lib.hid hy
    rw [hy]
    clear hy
    go_wp2_with fail
    refine (rturn_any n me d t HI.out.2.2.1 w7).mono ?_
    rintro e w8 ⟨rfl, hb8⟩
    have HB8 := Lib.hid (HB7.out.trans (hb8.mono HB7.out.size))
    clear hb8
    rw [HY.out]
    have q4 : (y == y) = true := by simp
    go_wp2
    go_ret
    exact ⟨rfl, HB8.out⟩
  · have z2 : decide (t > 2000) = false := decide_eq_false z1
    clear q z
    go_wp2_with fail
    refine (HR.out.order n me d w1 HI.out.1 HI.out.2.1 HI.out.2.2.1).mono ?_
    rintro e w2 ⟨a2, n2, c2, rfl, hm2, hb2⟩
    rw [HL.out] at hm2 ⊢
    have H2 := Lib.hid (And.intro hm2 (HB1.out.trans (hb2.mono HB1.out.size)))
    have hn2 := hm2.len
    clear hm2 hb2
    go_wp2_with fail
    refine (rorder_any n me d HI.out.2.2.1 w2).mono ?_
    rintro e w3 ⟨a3, n3, c3, rfl, hm3, hb3⟩
    rw [HL.out] at hm3 ⊢
    have hn3 : n3 = n2 := by rw [← hm3.len, hn2]
    subst hn3
    have H3 := Lib.hid (And.intro (H2.out.1.below hb3) (And.intro hm3 (H2.out.2.trans (hb3.mono H2.out.2.size))))
    clear hm3 hb3
    go_wp2_with fail
    refine (rsame_any (w := w3) H3.out.1.ns H3.out.2.1.ns (by have := h8.out; omega)).mono ?_
    rintro e w4 ⟨rfl, hb4⟩
    have HB4 := Lib.hid (H3.out.2.2.trans (hb4.mono H3.out.2.2.size))
    clear hb4 H3 H2 hn2
    have q2 : (l.2 == l.2) = true := by simp
    obtain ⟨dd, hdd⟩ : ∃ dd, l.2 = dd := ⟨_, rfl⟩
    rw [hdd] at q2 ⊢
    clear hdd
    go_wp2_with fail
    refine (HR.out.draw d w4 HI.out.2.2.1).mono ?_
    rintro e w5 ⟨rfl, hb5⟩
    have HB5 := Lib.hid (HB4.out.trans (hb5.mono HB4.out.size))
    clear hb5
    obtain ⟨x, hx⟩ : ∃ x, dr d = x := ⟨_, rfl⟩
    have HX := Lib.hid hx
    rw [hx]
    clear hx
    go_wp2_with fail
    refine (rdraw_any d w5).mono ?_
    rintro e w6 ⟨rfl, hb6⟩
    have HB6 := Lib.hid (HB5.out.trans (hb6.mono HB5.out.size))
    clear hb6
    rw [HX.out]
    have q3 : (x == x) = true := by simp
    go_wp2_with fail
    refine (HR.out.turn n me d t w6 HI.out.1 HI.out.2.1 HI.out.2.2.1 HI.out.2.2.2).mono ?_
    rintro e w7 ⟨rfl, hb7⟩
    have HB7 := Lib.hid (HB6.out.trans (hb7.mono HB6.out.size))
    clear hb7
    obtain ⟨y, hy⟩ : ∃ y, trn n me d t = y := ⟨_, rfl⟩
    have HY := Lib.hid hy
    rw [hy]
    clear hy
    go_wp2_with fail
    refine (rturn_any n me d t HI.out.2.2.1 w7).mono ?_
    rintro e w8 ⟨rfl, hb8⟩
    have HB8 := Lib.hid (HB7.out.trans (hb8.mono HB7.out.size))
    clear hb8
    rw [HY.out]
    have q4 : (y == y) = true := by simp
    go_wp2
    go_ret
    exact ⟨rfl, HB8.out⟩
end Go.Proofs.Ytanojjcbbjgefaa
