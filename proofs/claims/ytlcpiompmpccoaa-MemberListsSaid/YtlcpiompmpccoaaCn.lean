/-
  The walks of the statements over the package's own functions, their arguments in the frames' order.
-/
import Derived.Test.YtlcpiompmpccoaaCl
import Derived.Test.YtlcpiompmpccoaaCm
import Derived.Test.YtlcpiompmpccoaaCp
namespace Go.Proofs.Ytlcpiompmpccoaa
open Go.RowKit Go.Great
set_option linter.unusedVariables false
set_option maxRecDepth 20000
open Mb
theorem awake : Awake := awake_walk mem
theorem names_w (w : World) :
    Calls Try.prog 3 #[] w fun e w' => e = .returned (.bool true) ∧ Below w.heap.size w w' := by
  exact names_walk awake w
theorem tells_w (C1 : Array Value) (x1 : M) (C2 : Array Value) (x2 : M) (w : World) (h1 : C1 = mc x1 ∧ Min x1) (h2 : C2 = mc x2 ∧ Min x2) :
    Calls Try.prog 4 #[.agg C1, .agg C2] w fun e w' => e = .returned (.bool true) ∧ Below w.heap.size w w' := by
  obtain ⟨rfl, h1'⟩ := h1
  obtain ⟨rfl, h2'⟩ := h2
  exact tells_walk mem awake x1 x2 h1' h2' w
theorem lists_w (a1 : Option Addr) (n1 c1 : Nat) (l1 : List M) (a2 : Option Addr) (n2 c2 : Nat) (l2 : List M) (w : World) (h1 : Ms w (· < w.heap.size) a1 n1 l1 ∧ n1 ≤ c1) (h2 : Ms w (· < w.heap.size) a2 n2 l2 ∧ n2 ≤ c2) :
    Calls Try.prog 5 #[.slice a1 n1 c1, .slice a2 n2 c2] w fun e w' => e = .returned (.bool true) ∧ Below w.heap.size w w' := by
  exact lists_walk mem awake h1.1 h1.2 h2.1 h2.2
theorem joins_w (a1 : Option Addr) (n1 c1 : Nat) (l1 : List M) (a2 : Option Addr) (n2 c2 : Nat) (l2 : List M) (a3 : Option Addr) (n3 c3 : Nat) (l3 : List M) (w : World) (h1 : Ms w (· < w.heap.size) a1 n1 l1 ∧ n1 ≤ c1) (h2 : Ms w (· < w.heap.size) a2 n2 l2 ∧ n2 ≤ c2) (h3 : Ms w (· < w.heap.size) a3 n3 l3 ∧ n3 ≤ c3) :
    Calls Try.prog 6 #[.slice a1 n1 c1, .slice a2 n2 c2, .slice a3 n3 c3] w fun e w' => e = .returned (.bool true) ∧ Below w.heap.size w w' := by
  exact joins_walk mem awake h1.1 h1.2 h2.1 h2.2 h3.1 h3.2
theorem speaks_w (C1 : Array Value) (x1 : M) (C2 : Array Value) (x2 : M) (w : World) (h1 : C1 = mc x1 ∧ Min x1) (h2 : C2 = mc x2 ∧ Min x2) :
    Calls Try.prog 7 #[.agg C1, .agg C2] w fun e w' => e = .returned (.bool true) ∧ Below w.heap.size w w' := by
  obtain ⟨rfl, h1'⟩ := h1
  obtain ⟨rfl, h2'⟩ := h2
  exact speaks_walk mem awake x1 x2 h1' h2' w
theorem ends_w (C1 : Array Value) (x1 : M) (a2 : Option Addr) (n2 c2 : Nat) (l2 : List M) (w : World) (h1 : C1 = mc x1 ∧ Min x1) (h2 : Ms w (· < w.heap.size) a2 n2 l2 ∧ n2 ≤ c2) :
    Calls Try.prog 8 #[.agg C1, .slice a2 n2 c2] w fun e w' => e = .returned (.bool true) ∧ Below w.heap.size w w' := by
  obtain ⟨rfl, h1'⟩ := h1
  exact ends_walk mem awake x1 h1' h2.1 h2.2
theorem own_w (a1 : Option Addr) (n1 c1 : Nat) (l1 : List M) (a2 : Option Addr) (n2 c2 : Nat) (l2 : List M) (w : World) (h1 : Ms w (· < w.heap.size) a1 n1 l1 ∧ n1 ≤ c1) (h2 : Ms w (· < w.heap.size) a2 n2 l2 ∧ n2 ≤ c2) :
    Calls Try.prog 9 #[.slice a1 n1 c1, .slice a2 n2 c2] w fun e w' => e = .returned (.bool true) ∧ Below w.heap.size w w' := by
  exact own_walk mem awake h1.1 h1.2 h2.1 h2.2
end Go.Proofs.Ytlcpiompmpccoaa
