/-
  The walks of the statements over the package's own functions, their arguments in the frames' order.
-/
import Derived.Test.YtalfcaepobbdeaaMo
import Derived.Test.YtalfcaepobbdeaaMp
import Derived.Test.YtalfcaepobbdeaaMr
namespace Go.Proofs.Ytalfcaepobbdeaa
open Go.RowKit Go.Great
set_option linter.unusedVariables false
set_option maxRecDepth 20000
theorem awake : Awake := awake_walk grs.grn
theorem plays_w (C : Array Value) (p : Dr.P) (a : Option Addr) (n c : Nat) (l : List Cl) (w : World) (h : Cc w (· < w.heap.size) C p) (hs : CE.Row w (· < w.heap.size) a n l) :
    Calls Try.prog 3 #[.agg C, .slice a n c] w fun e w' => e = .returned (.bool true) ∧ Below w.heap.size w w' := plays_walk grs.grn awake h hs
theorem one_w (C : Array Value) (p : Dr.P) (a : Option Addr) (n c : Nat) (l : List Cl) (w : World) (h : Cc w (· < w.heap.size) C p) (hs : CE.Row w (· < w.heap.size) a n l) :
    Calls Try.prog 4 #[.agg C, .slice a n c] w fun e w' => e = .returned (.bool true) ∧ Below w.heap.size w w' := one_walk grs awake h hs
theorem back_w (C : Array Value) (p : Dr.P) (x2 x3 x4 x5 x6 : Int) (w : World) (h : Cc w (· < w.heap.size) C p) (l2 : 0 ≤ x2) (h2 : x2 < 256) (l3 : 0 ≤ x3) (h3 : x3 < 256) (l4 : 0 ≤ x4) (h4 : x4 < 256) (l5 : 0 ≤ x5) (h5 : x5 < 65536) (l6 : 0 ≤ x6) (h6 : x6 < 4294967296) :
    Calls Try.prog 5 #[.agg C, .int .u8 x2, .int .u8 x3, .int .u8 x4, .int .u16 x5, .int .u32 x6] w fun e w' => e = .returned (.bool true) ∧ Below w.heap.size w w' :=
  back_walk grs.grn awake h x2 x3 x4 x5 x6 ⟨l2, h2⟩ ⟨l3, h3⟩ ⟨l4, h4⟩ ⟨l5, h5⟩ ⟨l6, h6⟩
end Go.Proofs.Ytalfcaepobbdeaa
