/-
  The walks of the statements ShaTells, ShaTrees.
-/
import Derived.Test.YtndiojiphoomgaaDoorJh
set_option linter.unusedSimpArgs false
namespace Go.Proofs.YtndiojiphoomgaaDoor
open Go.RowKit
theorem eq_same {d : List Int} (h : Dig d) (w : World) : (Op.equalIn 10000 24 (.agg (nums d).toArray) (.agg (nums d).toArray)).run Tryd.prog w = .ok true w := by
  rw [equal32 9999 (fun a b w => run_equalIn_int w 9998 5 .u8 .u8 a b Tryd.underlying5) d d h.1 h.1 w, decide_eq_true rfl]
set_option maxHeartbeats 4000000 in
theorem tells_walk (a0 : Option Addr) (n0 c0 : Nat) (l0 : List Int) (a1 : Option Addr) (n1 c1 : Nat) (l1 : List Int) (w : World) (hR : Roots w) (h0 : Txt w (· < w.heap.size) a0 n0 c0 l0) (h1 : Txt w (· < w.heap.size) a1 n1 c1 l1) :
    Calls Tryd.prog 3 #[.slice a0 n0 c0, .slice a1 n1 c1] w fun e w' => e = .returned (.bool true) ∧ Below w.heap.size w w' := by
  have H0 := Lib.hid h0
  have H1 := Lib.hid h1
  have HR := Lib.hid hR
  have hB2 := hR.two
  clear h0 h1 hR
  by_cases g0 : 500 < n0
  · have d0 : decide ((500 : Int) < (n0 : Int)) = true := by simp; omega
    go_enter Tryd.func3, Tryd.ntmps3
    go_wp2_with (go_at_call 9; refine (awake_any _ HR.out).mono ?_; rintro e w' ⟨rfl, hb⟩; have HB := Lib.hid hb; clear hb)
    go_ret
    exact ⟨rfl, HB.out⟩
  have d0 : decide ((500 : Int) < (n0 : Int)) = false := by simp; omega
  by_cases g1 : 500 < n1
  · have d1 : decide ((500 : Int) < (n1 : Int)) = true := by simp; omega
    go_enter Tryd.func3, Tryd.ntmps3
    go_wp2_with (go_at_call 9; refine (awake_any _ HR.out).mono ?_; rintro e w' ⟨rfl, hb⟩; have HB := Lib.hid hb; clear hb)
    go_ret
    exact ⟨rfl, HB.out⟩
  have d1 : decide ((500 : Int) < (n1 : Int)) = false := by simp; omega
  go_enter Tryd.func3, Tryd.ntmps3
  go_upto_region 4 with (go_at_call 9; refine (awake_any _ HR.out).mono ?_; rintro e w1 ⟨rfl, hb⟩; have HB := Lib.hid hb; clear hb)
  have s1 := HB.out.size
  go_wp2_with fail
  have q3 := Whole.new w1 22 #[.slice a0 n0 c0]
  have b3 := HB.out.alloc s1 (.cells #[.slice a0 n0 c0] 22)
  generalize w1.alloc (.cells #[.slice a0 n0 c0] 22) = w3 at *
  have hp := parts_one (S := fun _ => True) q3 trivial ((H0.out.below b3 (fun b _ h => h)).weak (fun _ _ _ => trivial))
  refine (sum_any hp (HR.out.below b3 (by omega)) (by simp; rw [H0.out.1]; omega) (by omega)).mono ?_
  rintro e w4 ⟨rfl, hb4⟩
  rw [show [l0].flatten = l0 by simp]
  have HB4 : Hid (Below w.heap.size w w4) := Lib.hid (b3.trans (hb4.mono b3.size))
  have HE1 := Lib.hid (eq_same (dig_ok l0))
  have hcl := dig_ok (Sm.chg 92 (Sm.kb l1) ++ Sm.dig (Sm.chg 54 (Sm.kb l1) ++ l0))
  rw [show Sm.dig (Sm.chg 92 (Sm.kb l1) ++ Sm.dig (Sm.chg 54 (Sm.kb l1) ++ l0)) = Sm.code l1 l0 from rfl] at hcl
  have HE2 := Lib.hid (eq_same hcl)
  clear q3 b3 hp hb4 hcl
  have q1 := HE1.out
  have q2 := HE2.out
  go_wp2_with fail
  refine (rsum_any (H0.out.below HB4.out (fun b _ h => h)) (by omega)).mono ?_
  rintro e w5 ⟨rfl, hb⟩
  have HB5 : Hid (Below w.heap.size w w5) := Lib.hid (HB4.out.trans (hb.mono HB4.out.size))
  clear hb
  with_reducible generalize Sm.dig l0 = res at *
  go_wp2_with fail
  refine (code_any (H1.out.below HB5.out (fun b _ h => h)) (H0.out.below HB5.out (fun b _ h => h)) (HR.out.below HB5.out (by omega)) (by omega) (by omega)).mono ?_
  rintro e w6 ⟨rfl, hb⟩
  have HB6 : Hid (Below w.heap.size w w6) := Lib.hid (HB5.out.trans (hb.mono HB5.out.size))
  clear hb
  go_wp2_with fail
  refine (rcode_any (H1.out.below HB6.out (fun b _ h => h)) (H0.out.below HB6.out (fun b _ h => h)) (by omega) (by omega)).mono ?_
  rintro e w7 ⟨rfl, hb⟩
  have HB7 : Hid (Below w.heap.size w w7) := Lib.hid (HB6.out.trans (hb.mono HB6.out.size))
  clear hb
  with_reducible generalize Sm.code l1 l0 = res2 at *
  go_wp2
  go_ret
  exact ⟨rfl, HB7.out⟩
set_option maxHeartbeats 4000000 in
theorem trees_walk (a0 : Option Addr) (n0 c0 : Nat) (l : List (List Int)) (w : World) (hR : Roots w) (hc : n0 ≤ c0) (h0 : Digs w (· < w.heap.size) a0 n0 l) :
    Calls Tryd.prog 4 #[.slice a0 n0 c0] w fun e w' => e = .returned (.bool true) ∧ Below w.heap.size w w' := by
  have H0 := Lib.hid h0
  have HR := Lib.hid hR
  have hB2 := hR.two
  clear h0 hR
  by_cases g0 : 40 < n0
  · have d0 : decide ((40 : Int) < (n0 : Int)) = true := by simp; omega
    go_enter Tryd.func4, Tryd.ntmps4
    go_wp2_with (go_at_call 9; refine (awake_any _ HR.out).mono ?_; rintro e w' ⟨rfl, hb⟩; have HB := Lib.hid hb; clear hb)
    go_ret
    exact ⟨rfl, HB.out⟩
  have d0 : decide ((40 : Int) < (n0 : Int)) = false := by simp; omega
  go_enter Tryd.func4, Tryd.ntmps4
  go_upto_region 4 with (go_at_call 9; refine (awake_any _ HR.out).mono ?_; rintro e w1 ⟨rfl, hb⟩; have HB := Lib.hid hb; clear hb)
  have q1 := eq_same (tree_ok l H0.out.2.1)
  go_wp2_with fail
  refine (tree_walk n0 (H0.out.below HB.out (fun b _ h => h)) (HR.out.below HB.out (by omega)) hc (by omega)).mono ?_
  rintro e w2 ⟨rfl, hb⟩
  have HB2 : Hid (Below w.heap.size w w2) := Lib.hid (HB.out.trans (hb.mono HB.out.size))
  clear hb
  go_wp2_with fail
  refine (rtree_any n0 (H0.out.below HB2.out (fun b _ h => h)) hc (by omega)).mono ?_
  rintro e w3 ⟨rfl, hb⟩
  have HB3 : Hid (Below w.heap.size w w3) := Lib.hid (HB2.out.trans (hb.mono HB2.out.size))
  clear hb
  with_reducible generalize Sm.tree l = res at *
  go_wp2
  go_ret
  exact ⟨rfl, HB3.out⟩
end Go.Proofs.YtndiojiphoomgaaDoor
