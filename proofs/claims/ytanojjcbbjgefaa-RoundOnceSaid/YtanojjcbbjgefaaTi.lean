/-
  The walks of the statements over the package's own functions, their arguments in the frames' order; numbers that came in.
-/
import Derived.Test.YtanojjcbbjgefaaTf
import Derived.Test.YtanojjcbbjgefaaTg
import Derived.Test.YtanojjcbbjgefaaTh
import Derived.Test.YtanojjcbbjgefaaTp
import Derived.ProofKit
import Derived.OpenShut
namespace Go.Proofs.Ytanojjcbbjgefaa
open Go.RowKit Go.Great Go.ChangeShapes Go.WideShapes
set_option linter.unusedVariables false
set_option maxRecDepth 20000
open Rn
theorem i64_in {n : Int} (h : (Lit.int .i64 n).wf = true) : -9223372036854775808 ≤ n ∧ n ≤ 9223372036854775807 := by
  simp [Lit.wf, IntKind.min, IntKind.max, IntKind.signed, IntKind.bits] at h
  omega
theorem u64_in {n : Int} (h : (Lit.int .u64 n).wf = true) : 0 ≤ n ∧ n < 18446744073709551616 := by
  simp [Lit.wf, IntKind.min, IntKind.max, IntKind.signed, IntKind.bits] at h
  omega
theorem u8_in {n : Int} (h : (Lit.int .u8 n).wf = true) : 0 ≤ n ∧ n < 256 := by
  simp [Lit.wf, IntKind.min, IntKind.max, IntKind.signed, IntKind.bits] at h
  omega
theorem awake : Awake := awake_walk rnd
theorem tells_w (x1 x2 x3 x4 : Int) (w : World) (l1 : -9223372036854775808 ≤ x1) (h1 : x1 ≤ 9223372036854775807) (l2 : -9223372036854775808 ≤ x2) (h2 : x2 ≤ 9223372036854775807) (l3 : 0 ≤ x3) (h3 : x3 < 18446744073709551616) (l4 : -9223372036854775808 ≤ x4) (h4 : x4 ≤ 9223372036854775807) :
    Calls Try.prog 3 #[.int .i64 x1, .int .i64 x2, .int .u64 x3, .int .i64 x4] w fun e w' => e = .returned (.bool true) ∧ Below w.heap.size w w' :=
  tells_walk rnd awake x1 x2 x3 x4 ⟨l1, h1⟩ ⟨l2, h2⟩ ⟨l3, h3⟩ ⟨l4, h4⟩ w
theorem once_w (x1 x2 x3 : Int) (w : World) (l1 : -9223372036854775808 ≤ x1) (h1 : x1 ≤ 9223372036854775807) (l2 : -9223372036854775808 ≤ x2) (h2 : x2 ≤ 9223372036854775807) (l3 : 0 ≤ x3) (h3 : x3 < 18446744073709551616) :
    Calls Try.prog 4 #[.int .i64 x1, .int .i64 x2, .int .u64 x3] w fun e w' => e = .returned (.bool true) ∧ Below w.heap.size w w' :=
  once_walk rnd awake x1 x2 x3 ⟨l1, h1⟩ ⟨l2, h2⟩ ⟨l3, h3⟩ w
theorem fair_w (x1 x2 x3 : Int) (w : World) (l1 : -9223372036854775808 ≤ x1) (h1 : x1 ≤ 9223372036854775807) (l2 : -9223372036854775808 ≤ x2) (h2 : x2 ≤ 9223372036854775807) (l3 : 0 ≤ x3) (h3 : x3 < 18446744073709551616) :
    Calls Try.prog 5 #[.int .i64 x1, .int .i64 x2, .int .u64 x3] w fun e w' => e = .returned (.bool true) ∧ Below w.heap.size w w' :=
  fair_walk rnd awake x1 x2 x3 ⟨l1, h1⟩ ⟨l2, h2⟩ ⟨l3, h3⟩ w
theorem goes_w (x1 x2 x3 x4 x5 : Int) (w : World) (l1 : -9223372036854775808 ≤ x1) (h1 : x1 ≤ 9223372036854775807) (l2 : -9223372036854775808 ≤ x2) (h2 : x2 ≤ 9223372036854775807) (l3 : 0 ≤ x3) (h3 : x3 < 18446744073709551616) (l4 : 0 ≤ x4) (h4 : x4 < 18446744073709551616) (l5 : 0 ≤ x5) (h5 : x5 < 256) :
    Calls Try.prog 6 #[.int .i64 x1, .int .i64 x2, .int .u64 x3, .int .u64 x4, .int .u8 x5] w fun e w' => e = .returned (.bool true) ∧ Below w.heap.size w w' :=
  goes_walk rnd awake x1 x2 x3 x4 x5 ⟨l1, h1⟩ ⟨l2, h2⟩ ⟨l3, h3⟩ ⟨l4, h4⟩ ⟨l5, h5⟩ w
end Go.Proofs.Ytanojjcbbjgefaa
