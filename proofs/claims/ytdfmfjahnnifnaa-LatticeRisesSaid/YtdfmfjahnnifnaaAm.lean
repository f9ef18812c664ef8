/-
  The walks of the laws over what lattice answers; what came in.
-/
import Derived.Test.YtdfmfjahnnifnaaAl
import Derived.Test.YtdfmfjahnnifnaaLd
import Derived.Test.YtdfmfjahnnifnaaLf
import Derived.Test.YtdfmfjahnnifnaaLg
import Derived.Test.YtdfmfjahnnifnaaLi
import Derived.Test.YtdfmfjahnnifnaaLj
namespace Go.Proofs.Ytdfmfjahnnifnaa
set_option maxRecDepth 20000
set_option linter.unusedVariables false
open Go.RowKit Go.Great Go.ChangeShapes Go.WideShapes Go.Deep
theorem u16_in {n : Int} (h : (Lit.int .u16 n).wf = true) : 0 ≤ n ∧ n < 65536 := by
  simp [Lit.wf, IntKind.min, IntKind.max, IntKind.signed, IntKind.bits] at h
  omega
section
variable {H : Type} {enc : TypeId × Value → H} {w : World}
/-- A list of facts that came in. -/
theorem open_list {m : Nat} {a : Option Addr} {len cap : Nat} {x : DataW H × List MemPlace} (h : DataW.trod enc Try.prog w 0 (fun _ => true) true m 23 [.slice a len cap] = some x) :
    ∃ R, Fts w (· < w.heap.size) (· < w.heap.size) a len R := by
  obtain ⟨R, _, h⟩ := open_facts factsU h
  exact ⟨R, h⟩
/-- A fact that came in. -/
theorem open_one {base : Nat} {r : Reach} {v : Value} {d : DataW H} {ps : List MemPlace} (hv : Value.okWide Try.prog w r base 30 v) (h : DataW.Trod enc Try.prog w 0 (fun _ => true) true 30 v d ps) :
    ∃ (C : Array Value) (x : Fm), v = .agg C ∧ (C = (fc x).toArray ∧ Rw w (fun b => b < w.heap.size) x) := by
  obtain ⟨C, f, rfl, hf⟩ := open_fact hv h
  obtain ⟨P, M, e, h1, h2, h3, h4⟩ := fv_agg hf
  injection e with e
  exact ⟨C, (f, M), rfl, e.trans h1, h2, h3, h4⟩
end
def Ok (w : World) (e : Ending) (w' : World) : Prop := e = .returned (.bool true) ∧ Below w.heap.size w w'
theorem names_w  (w : World)  :
    Calls Try.prog 3 #[] w fun e w' => e = .returned (.bool true) ∧ Below w.heap.size w w' := names_walk lat w
theorem tells_w (N : Int) (a1 : Option Addr) (n1 c1 : Nat) (R1 : List Fm) (K : Int) (E : Int) (M : Int) (w : World) (hN1 : -9223372036854775808 ≤ N) (hN2 : N ≤ 9223372036854775807) (h1 : Fts w (· < w.heap.size) (· < w.heap.size) a1 n1 R1) (hK1 : -9223372036854775808 ≤ K) (hK2 : K ≤ 9223372036854775807) (hE1 : -9223372036854775808 ≤ E) (hE2 : E ≤ 9223372036854775807) (hM1 : -9223372036854775808 ≤ M) (hM2 : M ≤ 9223372036854775807) :
    Calls Try.prog 4 #[.int .i64 N, .slice a1 n1 c1, .int .i64 K, .int .i64 E, .int .i64 M] w fun e w' => e = .returned (.bool true) ∧ Below w.heap.size w w' := tells_walk lat h1 N K E M
theorem merges_w (N : Int) (a1 : Option Addr) (n1 c1 : Nat) (R1 : List Fm) (a2 : Option Addr) (n2 c2 : Nat) (R2 : List Fm) (w : World) (hN1 : -9223372036854775808 ≤ N) (hN2 : N ≤ 9223372036854775807) (h1 : Fts w (· < w.heap.size) (· < w.heap.size) a1 n1 R1) (h2 : Fts w (· < w.heap.size) (· < w.heap.size) a2 n2 R2) :
    Calls Try.prog 5 #[.int .i64 N, .slice a1 n1 c1, .slice a2 n2 c2] w fun e w' => e = .returned (.bool true) ∧ Below w.heap.size w w' := merges_walk lat h1 h2 N
theorem joins_w (N : Int) (a1 : Option Addr) (n1 c1 : Nat) (R1 : List Fm) (a2 : Option Addr) (n2 c2 : Nat) (R2 : List Fm) (a3 : Option Addr) (n3 c3 : Nat) (R3 : List Fm) (w : World) (hN1 : -9223372036854775808 ≤ N) (hN2 : N ≤ 9223372036854775807) (h1 : Fts w (· < w.heap.size) (· < w.heap.size) a1 n1 R1) (h2 : Fts w (· < w.heap.size) (· < w.heap.size) a2 n2 R2) (h3 : Fts w (· < w.heap.size) (· < w.heap.size) a3 n3 R3) :
    Calls Try.prog 6 #[.int .i64 N, .slice a1 n1 c1, .slice a2 n2 c2, .slice a3 n3 c3] w fun e w' => e = .returned (.bool true) ∧ Below w.heap.size w w' := joins_walk lat h1 h2 h3 N
theorem rises_w (N : Int) (a1 : Option Addr) (n1 c1 : Nat) (R1 : List Fm) (C2 : Array Value) (x2 : Fm) (w : World) (hN1 : -9223372036854775808 ≤ N) (hN2 : N ≤ 9223372036854775807) (h1 : Fts w (· < w.heap.size) (· < w.heap.size) a1 n1 R1) (hx2 : C2 = (fc x2).toArray ∧ Rw w (fun b => b < w.heap.size) x2) :
    Calls Try.prog 7 #[.int .i64 N, .slice a1 n1 c1, .agg C2] w fun e w' => e = .returned (.bool true) ∧ Below w.heap.size w w' := by
  obtain ⟨rfl, hx⟩ := hx2
  exact rises_walk lat h1 hx N
theorem best_w (N : Int) (a1 : Option Addr) (n1 c1 : Nat) (R1 : List Fm) (a2 : Option Addr) (n2 c2 : Nat) (R2 : List Fm) (M : Int) (w : World) (hN1 : -9223372036854775808 ≤ N) (hN2 : N ≤ 9223372036854775807) (h1 : Fts w (· < w.heap.size) (· < w.heap.size) a1 n1 R1) (h2 : Fts w (· < w.heap.size) (· < w.heap.size) a2 n2 R2) (hM1 : -9223372036854775808 ≤ M) (hM2 : M ≤ 9223372036854775807) :
    Calls Try.prog 8 #[.int .i64 N, .slice a1 n1 c1, .slice a2 n2 c2, .int .i64 M] w fun e w' => e = .returned (.bool true) ∧ Below w.heap.size w w' := best_walk lat h1 h2 N M
theorem many_w (M : Int) (C1 : Array Value) (x1 : Fm) (w : World) (hM1 : 0 ≤ M) (hM2 : M < 65536) (hx1 : C1 = (fc x1).toArray ∧ Rw w (fun b => b < w.heap.size) x1) :
    Calls Try.prog 9 #[.int .u16 M, .agg C1] w fun e w' => e = .returned (.bool true) ∧ Below w.heap.size w w' := by
  obtain ⟨rfl, hx⟩ := hx1
  exact many_walk lat hx M ⟨hM1, hM2⟩
theorem who_w (N : Int) (a1 : Option Addr) (n1 c1 : Nat) (R1 : List Fm) (K : Int) (E : Int) (M : Int) (w : World) (hN1 : -9223372036854775808 ≤ N) (hN2 : N ≤ 9223372036854775807) (h1 : Fts w (· < w.heap.size) (· < w.heap.size) a1 n1 R1) (hK1 : -9223372036854775808 ≤ K) (hK2 : K ≤ 9223372036854775807) (hE1 : -9223372036854775808 ≤ E) (hE2 : E ≤ 9223372036854775807) (hM1 : -9223372036854775808 ≤ M) (hM2 : M ≤ 9223372036854775807) :
    Calls Try.prog 10 #[.int .i64 N, .slice a1 n1 c1, .int .i64 K, .int .i64 E, .int .i64 M] w fun e w' => e = .returned (.bool true) ∧ Below w.heap.size w w' := who_walk lat h1 N K E M ⟨hM1, hM2⟩
end Go.Proofs.Ytdfmfjahnnifnaa
