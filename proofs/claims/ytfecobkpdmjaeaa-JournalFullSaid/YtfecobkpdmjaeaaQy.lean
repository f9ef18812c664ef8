/-
  What the frames of the laws of journals take.
-/
import Derived.Test.YtfecobkpdmjaeaaQx
namespace Go.Proofs.Ytfecobkpdmjaeaa
open Go.ChangeShapes Go.WideShapes Go.RowKit Go.Deep
set_option linter.unusedVariables false
set_option maxRecDepth 20000
section
variable {H : Type} {enc : TypeId × Value → H} {w : World}
theorem open_txs {m : Nat} {a : Option Addr} {len cap : Nat} {x : DataW H × List MemPlace} (h : DataW.trod enc Try.prog w 0 (fun _ => true) true m 48 [.slice a len cap] = some x) : ∃ ps, Txs w (· < w.heap.size) a len ps := by
  obtain ⟨ps, h1, h2, h3⟩ := open_txts h
  refine ⟨ps, h1, h2, ?_⟩
  rcases h3 with h3 | ⟨b, off, e, hb, hc⟩
  · exact Or.inl h3
  · exact Or.inr ⟨b, off, e, hb, hb, hc⟩
theorem open_jcs {m : Nat} {a : Option Addr} {len cap : Nat} {x : DataW H × List MemPlace} (h : DataW.trod enc Try.prog w 0 (fun _ => true) true m 23 [.slice a len cap] = some x) : ∃ cs, Jcs w (· < w.heap.size) a len cs := by
  obtain ⟨ps, h1, h2, h3⟩ := open_calls h
  refine ⟨ps, h1, h2, ?_⟩
  rcases h3 with h3 | ⟨b, off, e, hb, hc⟩
  · exact Or.inl h3
  · exact Or.inr ⟨b, off, e, hb, hb, hc⟩
end
theorem nil_walk2 (a : Option Addr) (n c : Nat) (l : List Int) (z : Int) (w : World) (h : Txt w (· < w.heap.size) a n c l ∧ c ≤ maxLen) (h0 : -9223372036854775808 ≤ z) (h1 : z ≤ 9223372036854775807) : Calls Try.prog 7 #[.slice a n c, .int .i64 z] w fun e w' => e = .returned (.bool true) ∧ Below w.heap.size w w' := nil_walk a n c l z w
end Go.Proofs.Ytfecobkpdmjaeaa
