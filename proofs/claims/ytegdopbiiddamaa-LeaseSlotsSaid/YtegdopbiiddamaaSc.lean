/-
  The walks of the statements over the package's own functions, their arguments in the frames' order. (XSp: TO WRITE: 'theorem lea : Lea', imports S5.)
-/
import Derived.Test.YtegdopbiiddamaaS7
import Derived.Test.YtegdopbiiddamaaS8
import Derived.Test.YtegdopbiiddamaaS9
import Derived.Test.YtegdopbiiddamaaSb
import Derived.Test.YtegdopbiiddamaaSp
namespace Go.Proofs.Ytegdopbiiddamaa
open Go.RowKit Go.Great
set_option linter.unusedVariables false
set_option maxRecDepth 20000
theorem lawake : LAwake := lawake_walk lea
theorem ltells_w (C : Array Value) (p : Dr.P) (V : Array Value) (l : Ln.L) (x2 x3 x4 x5 : Int) (w : World) (h : Cc w (· < w.heap.size) C p) (hl : Lse w V l) (l2 : -9223372036854775808 ≤ x2) (h2 : x2 ≤ 9223372036854775807) (l3 : -9223372036854775808 ≤ x3) (h3 : x3 ≤ 9223372036854775807) (l4 : -9223372036854775808 ≤ x4) (h4 : x4 ≤ 9223372036854775807) (l5 : -9223372036854775808 ≤ x5) (h5 : x5 ≤ 9223372036854775807) :
    Calls Try.prog 3 #[.agg C, .agg V, .int .i64 x2, .int .i64 x3, .int .i64 x4, .int .i64 x5] w fun e w' => e = .returned (.bool true) ∧ Below w.heap.size w w' :=
  ltells_walk lea lawake h hl x2 x3 x4 x5 ⟨l2, h2⟩ ⟨l3, h3⟩ ⟨l4, h4⟩ ⟨l5, h5⟩
theorem lfits_w (C : Array Value) (p : Dr.P) (V : Array Value) (l : Ln.L) (x2 x3 : Int) (w : World) (h : Cc w (· < w.heap.size) C p) (hl : Lse w V l) (l2 : -9223372036854775808 ≤ x2) (h2 : x2 ≤ 9223372036854775807) (l3 : 0 ≤ x3) (h3 : x3 < 65536) :
    Calls Try.prog 4 #[.agg C, .agg V, .int .i64 x2, .int .u16 x3] w fun e w' => e = .returned (.bool true) ∧ Below w.heap.size w w' :=
  lfits_walk lea lawake h hl x2 x3 ⟨l2, h2⟩ ⟨l3, h3⟩
theorem lmore_w (C : Array Value) (p : Dr.P) (V : Array Value) (l : Ln.L) (x2 x3 : Int) (w : World) (h : Cc w (· < w.heap.size) C p) (hl : Lse w V l) (l2 : -9223372036854775808 ≤ x2) (h2 : x2 ≤ 9223372036854775807) (l3 : -9223372036854775808 ≤ x3) (h3 : x3 ≤ 9223372036854775807) :
    Calls Try.prog 6 #[.agg C, .agg V, .int .i64 x2, .int .i64 x3] w fun e w' => e = .returned (.bool true) ∧ Below w.heap.size w w' :=
  lmore_walk lea lawake h hl x2 x3 ⟨l2, h2⟩ ⟨l3, h3⟩
theorem lslots_w (C : Array Value) (p : Dr.P) (x1 x2 : Int) (w : World) (h : Cc w (· < w.heap.size) C p) (l1 : 0 ≤ x1) (h1 : x1 < 256) (l2 : 0 ≤ x2) (h2 : x2 < 65536) :
    Calls Try.prog 7 #[.agg C, .int .u8 x1, .int .u16 x2] w fun e w' => e = .returned (.bool true) ∧ Below w.heap.size w w' :=
  lslots_walk lea lawake h x1 x2 ⟨l1, h1⟩ ⟨l2, h2⟩
end Go.Proofs.Ytegdopbiiddamaa
