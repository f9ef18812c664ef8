/-
  The walk of LeaseMeets over the package's own functions, its arguments in the frame's order. (XSp: TO WRITE: 'theorem les : Les', and Lea out of it; XMr: 'theorem grsA : GrsA'.)
-/
import Derived.Test.YtegdopbiiddamaaSg
import Derived.Test.YtegdopbiiddamaaSi
import Derived.Test.YtegdopbiiddamaaSp
import Derived.Test.YtegdopbiiddamaaMr
namespace Go.Proofs.Ytegdopbiiddamaa
open Go.RowKit Go.Great
set_option linter.unusedVariables false
set_option maxRecDepth 20000
theorem lmeets_w (C : Array Value) (p : Dr.P) (a1 : Option Addr) (n1 c1 : Nat) (l1 : List (List Int)) (x2 x3 : Int) (a4 : Option Addr) (n4 c4 : Nat) (l4 : List Int) (w : World) (h : Cc w (· < w.heap.size) C p) (h1 : Gns w (· < w.heap.size) a1 n1 l1) (l2 : 0 ≤ x2) (h2 : x2 < 256) (l3 : 0 ≤ x3) (h3 : x3 < 256) (h4 : Txt w (· < w.heap.size) a4 n4 c4 l4) :
    Calls Try.prog 5 #[.agg C, .slice a1 n1 c1, .int .u8 x2, .int .u8 x3, .slice a4 n4 c4] w fun e w' => e = .returned (.bool true) ∧ Below w.heap.size w w' := by
  obtain ⟨A, rfl⟩ : ∃ A : Nat, x2 = (A : Int) := ⟨x2.toNat, by omega⟩
  obtain ⟨B, rfl⟩ : ∃ B : Nat, x3 = (B : Int) := ⟨x3.toNat, by omega⟩
  exact meets_walk grsA les (lawake_walk lea) h h1 h4 A B (by omega) (by omega)
end Go.Proofs.Ytegdopbiiddamaa
