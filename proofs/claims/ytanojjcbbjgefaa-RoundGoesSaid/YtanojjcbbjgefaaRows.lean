/-
  No cell of these rows narrows 'for every input' (looked for: loops, veiled, ifaces, maps, wideKeys, modest, calm, conditions, laid).
  DERIVED. THE GIVEN ROWS OF THIS SEAT. 4 by the template 'for every input the law returns true; each argument reads behind the call as it read before'; 0 by the template 'total and deterministic' (their statements: YtanojjcbbjgefaaTotals.lean).
  GIVEN WITH THE SEED: the statements are not yours to turn. If you find one false, say at which input.
  Laid BY PROGRAM, IN A SANDBOX (cutbox-rows.mjs): the forced cells as the released guide's own fill.sh prints them over the translation daae1e9ab3e61d48… (all of the seat's roots in one cut). By AI agents, Wed Nov 11 2026. No macro, syntax, notation, axiom, sorry.
-/
import Derived.Test.YtanojjcbbjgefaaChecked
import GoSem.Claim
import GoSem.ClaimJoined
import GoSem.ClaimMapViews
import Derived.JoinedTies
import Derived.KernelRfl
namespace Go.Proofs.Ytanojjcbbjgefaa
/- THE CELL 'sum', in the pinned program and in every row, IS THE sha256 OF THE DUMP (.gsa) THAT YtanojjcbbjgefaaProg.lean LOADS. Nothing in Lean hashes anything: it is a label: what it is worth is what the hold of that sum in a sandbox is worth. -/
noncomputable def Try.pinned : Pinned := { name := "ytanojjcbbjgefaa", sum := "daae1e9ab3e61d48980d62aea5d83bebb62d62d028d4d0adeed675fab9dff361", checked := Try.checked }
namespace Rows
def none {H : Type} : Left H := { results := [], args := [] }

/-- 'shipwrightlaw14.RoundTells': WHATEVER THE INPUT: true; the input reads as it did. -/
def roundTellsSpec : ChangeSpec := { name := "roundTells", fn := fun _ => fun
  | [d1, d2, d3, d4] => { results := [.lit (.bool true)], args := [d1, d2, d3, d4] }
  | _ => none }
def roundTellsRow : OpenClaim := { program := "ytanojjcbbjgefaa", sum := "daae1e9ab3e61d48980d62aea5d83bebb62d62d028d4d0adeed675fab9dff361", func := "shipwright/shipwrightlaw14.RoundTells", spec := "roundTells", unfollowed := true, recurses := true, apart := false }
def RoundTellsSaid : Prop := roundTellsRow.holds Try.pinned (OpenSpec.ofChange roundTellsSpec)

/-- ITS FALSE NEIGHBOUR: 'it returns false'. Refute it at one input. -/
def roundTellsWrong : ChangeSpec := { name := "roundTells", fn := fun _ => fun
  | [d1, d2, d3, d4] => { results := [.lit (.bool false)], args := [d1, d2, d3, d4] }
  | _ => none }
def RoundTellsWrongFalsely : Prop := roundTellsRow.holds Try.pinned (OpenSpec.ofChange roundTellsWrong)

/-- 'shipwrightlaw14.RoundOnce': WHATEVER THE INPUT: true; the input reads as it did. -/
def roundOnceSpec : ChangeSpec := { name := "roundOnce", fn := fun _ => fun
  | [d1, d2, d3] => { results := [.lit (.bool true)], args := [d1, d2, d3] }
  | _ => none }
def roundOnceRow : OpenClaim := { program := "ytanojjcbbjgefaa", sum := "daae1e9ab3e61d48980d62aea5d83bebb62d62d028d4d0adeed675fab9dff361", func := "shipwright/shipwrightlaw14.RoundOnce", spec := "roundOnce", unfollowed := true, recurses := true, apart := false }
def RoundOnceSaid : Prop := roundOnceRow.holds Try.pinned (OpenSpec.ofChange roundOnceSpec)

/-- ITS FALSE NEIGHBOUR: 'it returns false'. Refute it at one input. -/
def roundOnceWrong : ChangeSpec := { name := "roundOnce", fn := fun _ => fun
  | [d1, d2, d3] => { results := [.lit (.bool false)], args := [d1, d2, d3] }
  | _ => none }
def RoundOnceWrongFalsely : Prop := roundOnceRow.holds Try.pinned (OpenSpec.ofChange roundOnceWrong)

/-- 'shipwrightlaw14.RoundFair': WHATEVER THE INPUT: true; the input reads as it did. -/
def roundFairSpec : ChangeSpec := { name := "roundFair", fn := fun _ => fun
  | [d1, d2, d3] => { results := [.lit (.bool true)], args := [d1, d2, d3] }
  | _ => none }
def roundFairRow : OpenClaim := { program := "ytanojjcbbjgefaa", sum := "daae1e9ab3e61d48980d62aea5d83bebb62d62d028d4d0adeed675fab9dff361", func := "shipwright/shipwrightlaw14.RoundFair", spec := "roundFair", unfollowed := true, recurses := true, apart := false }
def RoundFairSaid : Prop := roundFairRow.holds Try.pinned (OpenSpec.ofChange roundFairSpec)

/-- ITS FALSE NEIGHBOUR: 'it returns false'. Refute it at one input. -/
def roundFairWrong : ChangeSpec := { name := "roundFair", fn := fun _ => fun
  | [d1, d2, d3] => { results := [.lit (.bool false)], args := [d1, d2, d3] }
  | _ => none }
def RoundFairWrongFalsely : Prop := roundFairRow.holds Try.pinned (OpenSpec.ofChange roundFairWrong)

/-- 'shipwrightlaw14.RoundGoes': WHATEVER THE INPUT: true; the input reads as it did. -/
def roundGoesSpec : ChangeSpec := { name := "roundGoes", fn := fun _ => fun
  | [d1, d2, d3, d4, d5] => { results := [.lit (.bool true)], args := [d1, d2, d3, d4, d5] }
  | _ => none }
def roundGoesRow : OpenClaim := { program := "ytanojjcbbjgefaa", sum := "daae1e9ab3e61d48980d62aea5d83bebb62d62d028d4d0adeed675fab9dff361", func := "shipwright/shipwrightlaw14.RoundGoes", spec := "roundGoes", unfollowed := true, recurses := true, apart := false }
def RoundGoesSaid : Prop := roundGoesRow.holds Try.pinned (OpenSpec.ofChange roundGoesSpec)

/-- ITS FALSE NEIGHBOUR: 'it returns false'. Refute it at one input. -/
def roundGoesWrong : ChangeSpec := { name := "roundGoes", fn := fun _ => fun
  | [d1, d2, d3, d4, d5] => { results := [.lit (.bool false)], args := [d1, d2, d3, d4, d5] }
  | _ => none }
def RoundGoesWrongFalsely : Prop := roundGoesRow.holds Try.pinned (OpenSpec.ofChange roundGoesWrong)

/- THE SECOND FORM. 'bulk': how many values and letters a reading holds, each counted each time it is reached (what is shared counts as often as it is met; a slice's spare places count too). A statement '..UptoSaid' is the law's where the arguments, and the package variables that the reading takes, are together of bulk at most 1048576: NARROWER than '..Said'. Prove '..Said' where nothing that the law and all that it calls make is longer than what came in: it says more and counts as full. Else prove '..UptoSaid'. A law counts once. -/
mutual
def uptoBulk {H : Type} : DataW H → Nat
  | .lit (.string bytes) => bytes.length + 1
  | .lit _ => 1
  | .nil => 1
  | .ptr d => uptoBulk d + 1
  | .slice elems spare => uptoBulkAll elems + uptoBulkAll spare + 1
  | .agg parts => uptoBulkAll parts + 1
  | .iface _ d => uptoBulk d + 1
  | .map entries => uptoBulkEntries entries + 1
  | .held _ => 1
def uptoBulkAll {H : Type} : List (DataW H) → Nat
  | [] => 0
  | d :: r => uptoBulk d + uptoBulkAll r
def uptoBulkEntries {H : Type} : List (Lit × DataW H) → Nat
  | [] => 0
  | x :: r => uptoBulkEntry x + uptoBulkEntries r
def uptoBulkEntry {H : Type} : Lit × DataW H → Nat
  | (.string bytes, d) => bytes.length + uptoBulk d + 1
  | (_, d) => uptoBulk d + 1
 end
def uptoSmall : (H : Type) → List (DataW H) → Bool := fun _ ds => decide (uptoBulkAll ds ≤ 1048576)
def OpenSpec.upto (s : _root_.Go.ChangeSpec) : _root_.Go.OpenSpec := { _root_.Go.OpenSpec.ofChange s with cond := some uptoSmall }

/-- 'shipwrightlaw14.RoundTells', WHERE WHAT IT READS IS OF BULK AT MOST 1048576: true; the input reads as it did. -/
def roundTellsUptoRow : OpenClaim := { program := "ytanojjcbbjgefaa", sum := "daae1e9ab3e61d48980d62aea5d83bebb62d62d028d4d0adeed675fab9dff361", func := "shipwright/shipwrightlaw14.RoundTells", spec := "roundTells", unfollowed := true, recurses := true, apart := false, narrowed := true }
def RoundTellsUptoSaid : Prop := roundTellsUptoRow.holds Try.pinned (OpenSpec.upto roundTellsSpec)

/-- 'shipwrightlaw14.RoundOnce', WHERE WHAT IT READS IS OF BULK AT MOST 1048576: true; the input reads as it did. -/
def roundOnceUptoRow : OpenClaim := { program := "ytanojjcbbjgefaa", sum := "daae1e9ab3e61d48980d62aea5d83bebb62d62d028d4d0adeed675fab9dff361", func := "shipwright/shipwrightlaw14.RoundOnce", spec := "roundOnce", unfollowed := true, recurses := true, apart := false, narrowed := true }
def RoundOnceUptoSaid : Prop := roundOnceUptoRow.holds Try.pinned (OpenSpec.upto roundOnceSpec)

/-- 'shipwrightlaw14.RoundFair', WHERE WHAT IT READS IS OF BULK AT MOST 1048576: true; the input reads as it did. -/
def roundFairUptoRow : OpenClaim := { program := "ytanojjcbbjgefaa", sum := "daae1e9ab3e61d48980d62aea5d83bebb62d62d028d4d0adeed675fab9dff361", func := "shipwright/shipwrightlaw14.RoundFair", spec := "roundFair", unfollowed := true, recurses := true, apart := false, narrowed := true }
def RoundFairUptoSaid : Prop := roundFairUptoRow.holds Try.pinned (OpenSpec.upto roundFairSpec)

/-- 'shipwrightlaw14.RoundGoes', WHERE WHAT IT READS IS OF BULK AT MOST 1048576: true; the input reads as it did. -/
def roundGoesUptoRow : OpenClaim := { program := "ytanojjcbbjgefaa", sum := "daae1e9ab3e61d48980d62aea5d83bebb62d62d028d4d0adeed675fab9dff361", func := "shipwright/shipwrightlaw14.RoundGoes", spec := "roundGoes", unfollowed := true, recurses := true, apart := false, narrowed := true }
def RoundGoesUptoSaid : Prop := roundGoesUptoRow.holds Try.pinned (OpenSpec.upto roundGoesSpec)

end Rows
end Go.Proofs.Ytanojjcbbjgefaa
