/-
  The walks of MemberNames, MemberLists and MemberJoins.
-/
import Derived.Test.YtlcpiompmpccoaaCh
namespace Go.Proofs.Ytlcpiompmpccoaa
open Go.RowKit Go.Great
set_option linter.unusedVariables false
set_option linter.unusedSimpArgs false
set_option maxRecDepth 20000
open Mb
theorem names_walk (hw : Awake) (w : World) : Calls Try.prog 3 #[] w fun e w' => e = .returned (.bool true) ∧ Below w.heap.size w w' := by
  have HA := Lib.hid hw
  clear hw
  go_enter Try.func3, Try.ntmps3
  go_wp2_with fail
  refine (HA.out w).mono ?_
  rintro e w2 ⟨rfl, hb2⟩
  have HB := Lib.hid hb2
  clear hb2
  go_wp2
  go_ret
  exact ⟨rfl, HB.out⟩
set_option maxHeartbeats 4000000 in
theorem lists_walk (hm : Mem) (hw : Awake) {w : World} {S S' : Nat → Prop} {a a' : Option Addr} {n n' c c' : Nat} {l l' : List M} (h : Ms w S a n l) (hc : n ≤ c) (h' : Ms w S' a' n' l') (hc' : n' ≤ c') :
    Calls Try.prog 5 #[.slice a n c, .slice a' n' c'] w fun e w' => e = .returned (.bool true) ∧ Below w.heap.size w w' := by
  have HM := Lib.hid hm
  have HA := Lib.hid hw
  have H := Lib.hid (And.intro h.old h'.old)
  have HC := Lib.hid (And.intro hc hc')
  clear hm hw h h' hc hc'
  go_enter Try.func5, Try.ntmps5
  go_wp2_with fail
  refine (HA.out w).mono ?_
  rintro e w2 ⟨rfl, hb2⟩
  have HB := Lib.hid hb2
  clear hb2
  by_cases z : (n : Int) > 50
  · go_wp2
    go_ret
    exact ⟨rfl, HB.out⟩
  by_cases z' : (n' : Int) > 50
  · go_wp2
    go_ret
    exact ⟨rfl, HB.out⟩
  have H2 := Lib.hid (And.intro (H.out.1.below HB.out (fun _ _ h => h)) (H.out.2.below HB.out (fun _ _ h => h)))
  go_wp2_with fail
  refine (HM.out.all (w := w2) H2.out.1 HC.out.1 H2.out.2 HC.out.2 (by omega) (by omega)).mono ?_
  rintro e w3 ⟨a3, n3, c3, rfl, hm3, hb3⟩
  have H3 := Lib.hid (And.intro hm3 (And.intro hb3 (HB.out.trans (hb3.mono HB.out.size))))
  have s3 := HB.out.size
  clear hm3 hb3
  go_wp2_with fail
  refine (rall_any (w := w3) (H2.out.1.old.below H3.out.2.1 (fun _ _ h => h)) (H2.out.2.old.below H3.out.2.1 (fun _ _ h => h)) (by omega) (by omega)).mono ?_
  rintro e w4 ⟨a4, n4, c4, rfl, hm4, hb4⟩
  have H4 := Lib.hid (And.intro hm4 (And.intro hb4 (H3.out.2.2.trans (hb4.mono H3.out.2.2.size))))
  clear hm4 hb4
  go_wp2_with fail
  have hlen : n3 ≤ 100 := by
    have := H3.out.1.len
    have e2 := all_len l l'
    have e3 := H.out.1.1
    have e4 := H.out.2.1
    omega
  refine (rsame_any (w := w4) (H3.out.1.below H4.out.2.1).get.2 H4.out.1.get.2 (by omega)).mono ?_
  rintro e w5 ⟨rfl, hb5⟩
  have H5 := Lib.hid (H4.out.2.2.trans (hb5.mono H4.out.2.2.size))
  rw [decide_eq_true rfl]
  clear hb5 s3 hlen
  go_wp2
  go_ret
  exact ⟨rfl, H5.out⟩
/-- A row that came in, in some later world. -/
abbrev Any : Nat → Prop := fun _ => True
theorem Ms.on {w w' : World} {a : Option Addr} {n : Nat} {l : List M} (h : Ms w Any a n l) (hb : Below w.heap.size w w') : Ms w' Any a n l := h.below hb (fun _ h _ => h)
theorem Ms.any {w : World} {S : Nat → Prop} {a : Option Addr} {n : Nat} {l : List M} (h : Ms w S a n l) : Ms w Any a n l := h.weak fun _ _ _ => trivial
/-- Three rows that came in. -/
def Tri (w0 w : World) (a b c : Option Addr) (n m k : Nat) (l l' l'' : List M) : Prop := Ms w Any a n l ∧ Ms w Any b m l' ∧ Ms w Any c k l'' ∧ Below w0.heap.size w0 w
theorem Tri.below {w0 w w' : World} {a b c : Option Addr} {n m k : Nat} {l l' l'' : List M} (h : Tri w0 w a b c n m k l l' l'') (hb : Below w.heap.size w w') : Tri w0 w' a b c n m k l l' l'' :=
  ⟨h.1.on hb, h.2.1.on hb, h.2.2.1.on hb, h.2.2.2.trans (hb.mono h.2.2.2.size)⟩
theorem Mow.any {w : World} {B : Nat} {a : Option Addr} {n c : Nat} {l : List M} (h : Mow w B a n c l) : Ms w Any a n l := h.get.2.any
theorem len_all {l l' : List M} {n m k : Nat} (h : l.length = n) (h' : l'.length = m) (hn : n ≤ 50) (hm : m ≤ 50) (hk : (all l l').length = k) : k ≤ 50 := by
  have := all_len l l'
  omega
set_option maxHeartbeats 8000000 in
theorem joins_walk (hm : Mem) (hw : Awake) {w : World} {S S' S'' : Nat → Prop} {a b d : Option Addr} {n n' n'' c c' c'' : Nat} {l l' l'' : List M} (h : Ms w S a n l) (hc : n ≤ c) (h' : Ms w S' b n' l') (hc' : n' ≤ c') (h'' : Ms w S'' d n'' l'') (hc'' : n'' ≤ c'') :
    Calls Try.prog 6 #[.slice a n c, .slice b n' c', .slice d n'' c''] w fun e w' => e = .returned (.bool true) ∧ Below w.heap.size w w' := by
  have HM := Lib.hid hm
  have HA := Lib.hid hw
  have HL := Lib.hid (And.intro h.1 (And.intro h'.1 h''.1))
  have H : Hid (Tri w w a b d n n' n'' l l' l'') := Lib.hid ⟨h.any, h'.any, h''.any, Below.refl _ _⟩
  have HC := Lib.hid (And.intro hc (And.intro hc' hc''))
  clear hm hw h h' h'' hc hc' hc''
  go_enter Try.func6, Try.ntmps6
  go_wp2_with fail
  refine (HA.out w).mono ?_
  rintro e w2 ⟨rfl, hb2⟩
  have H2 := Lib.hid (H.out.below hb2)
  clear hb2 H
  by_cases z : (n : Int) > 50
  · go_wp2
    go_ret
    exact ⟨rfl, H2.out.2.2.2⟩
  by_cases z' : (n' : Int) > 50
  · go_wp2
    go_ret
    exact ⟨rfl, H2.out.2.2.2⟩
  by_cases z'' : (n'' : Int) > 50
  · go_wp2
    go_ret
    exact ⟨rfl, H2.out.2.2.2⟩
  have HN : Hid (n ≤ 50 ∧ n' ≤ 50 ∧ n'' ≤ 50) := Lib.hid ⟨by omega, by omega, by omega⟩
  go_wp2_with fail
  -- ab
  refine (HM.out.all (w := w2) H2.out.1 HC.out.1 H2.out.2.1 HC.out.2.1 HN.out.1 HN.out.2.1).mono ?_
  rintro e w3 ⟨a3, n3, c3, rfl, hm3, hb3⟩
  have H3 := Lib.hid (And.intro (H2.out.below hb3) hm3)
  have HN3 : Hid (n3 ≤ 50) := Lib.hid (len_all HL.out.1 HL.out.2.1 HN.out.1 HN.out.2.1 hm3.len)
  clear hm3 hb3 H2 z z' z''
  go_wp2_with fail
  -- one
  refine (HM.out.all (w := w3) H3.out.1.2.1 HC.out.2.1 H3.out.1.1 HC.out.1 HN.out.2.1 HN.out.1).mono ?_
  rintro e w4 ⟨a4, n4, c4, rfl, hm4, hb4⟩
  have H4 := Lib.hid (And.intro (H3.out.1.below hb4) (And.intro (H3.out.2.below (hb4)) hm4))
  clear hm4 hb4 H3
  go_wp2_with fail
  refine (rsame_any (w := w4) H4.out.2.1.any H4.out.2.2.any (by have := HN3.out; omega)).mono ?_
  rintro e w5 ⟨rfl, hb5⟩
  have H5 := Lib.hid (And.intro (H4.out.1.below hb5) (H4.out.2.1.below hb5))
  rw [decide_eq_true (all_comm l l')]
  clear hb5 H4
  go_wp2_with fail
  -- two
  refine (HM.out.all (w := w5) H5.out.2.any H5.out.2.get.1 H5.out.1.2.2.1 HC.out.2.2 HN3.out HN.out.2.2).mono ?_
  rintro e w6 ⟨a6, n6, c6, rfl, hm6, hb6⟩
  have H6 := Lib.hid (And.intro (H5.out.1.below hb6) (And.intro (H5.out.2.below hb6) hm6))
  have HN6 : Hid (n6 ≤ 50) := Lib.hid (len_all H5.out.2.len HL.out.2.2 HN3.out HN.out.2.2 hm6.len)
  clear hm6 hb6 H5
  go_wp2_with fail
  refine (HM.out.all (w := w6) H6.out.1.2.1 HC.out.2.1 H6.out.1.2.2.1 HC.out.2.2 HN.out.2.1 HN.out.2.2).mono ?_
  rintro e w7 ⟨a7, n7, c7, rfl, hm7, hb7⟩
  have H7 := Lib.hid (And.intro (H6.out.1.below hb7) (And.intro (H6.out.2.1.below hb7) (And.intro (H6.out.2.2.below hb7) hm7)))
  have HN7 : Hid (n7 ≤ 50) := Lib.hid (len_all HL.out.2.1 HL.out.2.2 HN.out.2.1 HN.out.2.2 hm7.len)
  clear hm7 hb7 H6
  go_wp2_with fail
  refine (HM.out.all (w := w7) H7.out.1.1 HC.out.1 H7.out.2.2.2.any H7.out.2.2.2.get.1 HN.out.1 HN7.out).mono ?_
  rintro e w8 ⟨a8, n8, c8, rfl, hm8, hb8⟩
  have H8 := Lib.hid (And.intro (H7.out.1.below hb8) (And.intro (H7.out.2.1.below hb8) (And.intro (H7.out.2.2.1.below hb8) hm8)))
  clear hm8 hb8 H7
  go_wp2_with fail
  refine (rsame_any (w := w8) H8.out.2.2.1.any H8.out.2.2.2.any (by have := HN6.out; omega)).mono ?_
  rintro e w9 ⟨rfl, hb9⟩
  have H9 := Lib.hid (And.intro (H8.out.1.below hb9) (H8.out.2.1.below hb9))
  rw [decide_eq_true (all_assoc l l' l'')]
  clear hb9 H8
  go_wp2_with fail
  -- three
  refine (HM.out.all (w := w9) H9.out.2.any H9.out.2.get.1 H9.out.1.2.1 HC.out.2.1 HN3.out HN.out.2.1).mono ?_
  rintro e w10 ⟨a10, n10, c10, rfl, hm10, hb10⟩
  have H10 := Lib.hid (And.intro (H9.out.1.below hb10) (And.intro (H9.out.2.below hb10) hm10))
  have HN10 : Hid (n10 ≤ 50) := Lib.hid (len_all H9.out.2.len HL.out.2.1 HN3.out HN.out.2.1 hm10.len)
  clear hm10 hb10 H9
  go_wp2_with fail
  refine (rsame_any (w := w10) H10.out.2.2.any H10.out.2.1.any (by have := HN10.out; omega)).mono ?_
  rintro e w11 ⟨rfl, hb11⟩
  have H11 := Lib.hid (H10.out.1.below hb11)
  rw [decide_eq_true (all_again l l')]
  clear hb11 H10
  go_wp2_with fail
  refine (HM.out.all (w := w11) H11.out.1 HC.out.1 H11.out.1 HC.out.1 HN.out.1 HN.out.1).mono ?_
  rintro e w12 ⟨a12, n12, c12, rfl, hm12, hb12⟩
  have H12 := Lib.hid (And.intro (H11.out.below hb12) hm12)
  have HN12 : Hid (n12 ≤ 50) := Lib.hid (len_all HL.out.1 HL.out.1 HN.out.1 HN.out.1 hm12.len)
  clear hm12 hb12 H11
  go_wp2_with fail
  refine (rsame_any (w := w12) H12.out.2.any H12.out.1.1 (by have := HN12.out; omega)).mono ?_
  rintro e w13 ⟨rfl, hb13⟩
  have H13 := Lib.hid (H12.out.1.below hb13)
  rw [decide_eq_true (all_self l)]
  clear hb13 H12
  go_wp2
  go_ret
  exact ⟨rfl, H13.out.2.2.2⟩
end Go.Proofs.Ytlcpiompmpccoaa
