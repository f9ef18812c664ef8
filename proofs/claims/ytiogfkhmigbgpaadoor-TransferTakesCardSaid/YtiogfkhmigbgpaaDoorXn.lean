/-
  The walks of the statements over the package's own functions, their arguments in the frames' order. (XXp: TO WRITE: 'theorem trn : Trn', imports Xf.)
-/
import Derived.Test.YtiogfkhmigbgpaaDoorXm
import Derived.Test.YtiogfkhmigbgpaaDoorXp
namespace Go.Proofs.YtiogfkhmigbgpaaDoor
open Go.RowKit Go.Great
set_option linter.unusedVariables false
set_option maxRecDepth 20000
theorem awake : Awake := awake_walk trn
theorem picks_w (a : Option Addr) (n c : Nat) (hv : List Bool) (b : Option Addr) (m c' : Nat) (ps : List (List Bool)) (d : Int) (w : World) (hR : Roots w) (h : BE.Row w (· < w.heap.size) a n hv ∧ n ≤ c) (h' : Bns w (· < w.heap.size) b m ps) (hd : 0 ≤ d ∧ d < 18446744073709551616) :
    Calls Tryd.prog 3 #[.slice a n c, .slice b m c', .int .u64 d] w fun e w' => e = .returned (.bool true) ∧ Below w.heap.size w w' :=
  picks_walk trn awake h.1 h' d hd.1 hd.2 hR
theorem takes_w (v : Value) (m : Mf.Man) (a : Option Addr) (n c : Nat) (hv : List Bool) (i : Int) (a0 : Option Addr) (n0 p0 : Nat) (l0 : List Int) (a1 : Option Addr) (n1 p1 : Nat) (l1 : List Int) (w : World) (hR : Roots w) (hm : Mv w (· < w.heap.size) v m) (h : BE.Row w (· < w.heap.size) a n hv ∧ n ≤ c) (hi : -9223372036854775808 ≤ i ∧ i ≤ 9223372036854775807) (h0 : Txt w (· < w.heap.size) a0 n0 p0 l0) (h1 : Txt w (· < w.heap.size) a1 n1 p1 l1) :
    Calls Tryd.prog 4 #[v, .slice a n c, .int .i64 i, .slice a0 n0 p0, .slice a1 n1 p1] w fun e w' => e = .returned (.bool true) ∧ Below w.heap.size w w' := by
  obtain ⟨P, rfl, _, _⟩ := mv_agg' hm
  exact takes_walk trn awake hm h.1 h.2 i hi h0 h1 hR
theorem ends_w (a1 : Option Addr) (n1 p1 : Nat) (l1 : List Int) (ch : Int) (a2 : Option Addr) (n2 p2 : Nat) (ps : List (List Bool)) (d : Int) (w : World) (hR : Roots w) (h1 : Txt w (· < w.heap.size) a1 n1 p1 l1 ∧ n1 ≤ 9223372036854775807) (hc : -9223372036854775808 ≤ ch ∧ ch ≤ 9223372036854775807) (h' : Bns w (· < w.heap.size) a2 n2 ps) (hd : 0 ≤ d ∧ d < 18446744073709551616) :
    Calls Tryd.prog 5 #[.slice a1 n1 p1, .int .i64 ch, .slice a2 n2 p2, .int .u64 d] w fun e w' => e = .returned (.bool true) ∧ Below w.heap.size w w' :=
  ends_walk trn awake h1.1 h1.2 ch hc h' d hd.1 hd.2 hR
theorem grows_w (a1 : Option Addr) (n1 p1 : Nat) (l1 : List Int) (ch : Int) (a : Option Addr) (n c : Nat) (hv : List Bool) (i : Int) (a0 : Option Addr) (n0 p0 : Nat) (l0 : List Int) (w : World) (hR : Roots w) (h1 : Txt w (· < w.heap.size) a1 n1 p1 l1) (hc : -9223372036854775808 ≤ ch ∧ ch ≤ 9223372036854775807) (h : BE.Row w (· < w.heap.size) a n hv ∧ n ≤ c) (hi : -9223372036854775808 ≤ i ∧ i ≤ 9223372036854775807) (h0 : Txt w (· < w.heap.size) a0 n0 p0 l0) :
    Calls Tryd.prog 6 #[.slice a1 n1 p1, .int .i64 ch, .slice a n c, .int .i64 i, .slice a0 n0 p0] w fun e w' => e = .returned (.bool true) ∧ Below w.heap.size w w' :=
  grows_walk trn awake h1 ch hc h.1 h.2 i hi h0 hR
theorem finds_w (a1 : Option Addr) (n1 p1 : Nat) (l1 : List Int) (ch nn : Int) (a0 : Option Addr) (n0 p0 : Nat) (l0 : List Int) (w : World) (hR : Roots w) (h1 : Txt w (· < w.heap.size) a1 n1 p1 l1) (hc : -9223372036854775808 ≤ ch ∧ ch ≤ 9223372036854775807) (hn : -9223372036854775808 ≤ nn ∧ nn ≤ 9223372036854775807) (h0 : Txt w (· < w.heap.size) a0 n0 p0 l0) :
    Calls Tryd.prog 7 #[.slice a1 n1 p1, .int .i64 ch, .int .i64 nn, .slice a0 n0 p0] w fun e w' => e = .returned (.bool true) ∧ Below w.heap.size w w' :=
  finds_walk trn awake h1 ch hc nn hn h0 hR
end Go.Proofs.YtiogfkhmigbgpaaDoor
