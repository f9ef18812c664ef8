/-
  No cell of these rows narrows 'for every input' (looked for: loops, veiled, ifaces, maps, wideKeys, modest, calm, conditions, laid).
  DERIVED. THE GIVEN ROWS OF THIS SEAT. 8 by the template 'for every input the law returns true; each argument reads behind the call as it read before'; 0 by the template 'total and deterministic' (their statements: YtcfchkffanfehaaTotals.lean).
  GIVEN WITH THE SEED: the statements are not yours to turn. If you find one false, say at which input.
  Laid BY PROGRAM, IN A SANDBOX (cutbox-rows.mjs): the forced cells as the released guide's own fill.sh prints them over the translation 805bb1289fa7bed3… (all of the seat's roots in one cut). By AI agents, Wed Nov 11 2026. No macro, syntax, notation, axiom, sorry.
-/
import Derived.Test.YtcfchkffanfehaaChecked
import GoSem.Claim
import GoSem.ClaimJoined
import GoSem.ClaimMapViews
import Derived.JoinedTies
import Derived.KernelRfl
namespace Go.Proofs.Ytcfchkffanfehaa
/- THE CELL 'sum', in the pinned program and in every row, IS THE sha256 OF THE DUMP (.gsa) THAT YtcfchkffanfehaaProg.lean LOADS. Nothing in Lean hashes anything: it is a label: what it is worth is what the hold of that sum in a sandbox is worth. -/
noncomputable def Try.pinned : Pinned := { name := "ytcfchkffanfehaa", sum := "805bb1289fa7bed3e842d91d1452d02b68e62a32c998b74fb7025709549410bd", checked := Try.checked }
namespace Rows
def none {H : Type} : Left H := { results := [], args := [] }

/-- 'shipwrightlaw10.FactNames': WHATEVER THE INPUT: true; the input reads as it did. -/
def factNamesSpec : ChangeSpec := { name := "factNames", fn := fun _ => fun
  | [] => { results := [.lit (.bool true)], args := [] }
  | _ => none }
def factNamesRow : OpenClaim := { program := "ytcfchkffanfehaa", sum := "805bb1289fa7bed3e842d91d1452d02b68e62a32c998b74fb7025709549410bd", func := "shipwright/shipwrightlaw10.FactNames", spec := "factNames", unfollowed := true, recurses := true, apart := false }
def FactNamesSaid : Prop := factNamesRow.holds Try.pinned (OpenSpec.ofChange factNamesSpec)

/-- ITS FALSE NEIGHBOUR: 'it returns false'. Refute it at one input. -/
def factNamesWrong : ChangeSpec := { name := "factNames", fn := fun _ => fun
  | [] => { results := [.lit (.bool false)], args := [] }
  | _ => none }
def FactNamesWrongFalsely : Prop := factNamesRow.holds Try.pinned (OpenSpec.ofChange factNamesWrong)

/-- 'shipwrightlaw10.FactTells': WHATEVER THE INPUT: true; the input reads as it did. -/
def factTellsSpec : ChangeSpec := { name := "factTells", fn := fun _ => fun
  | [d1, d2, d3, d4, d5, d6] => { results := [.lit (.bool true)], args := [d1, d2, d3, d4, d5, d6] }
  | _ => none }
def factTellsRow : OpenClaim := { program := "ytcfchkffanfehaa", sum := "805bb1289fa7bed3e842d91d1452d02b68e62a32c998b74fb7025709549410bd", func := "shipwright/shipwrightlaw10.FactTells", spec := "factTells", unfollowed := true, recurses := true, apart := false }
def FactTellsSaid : Prop := factTellsRow.holds Try.pinned (OpenSpec.ofChange factTellsSpec)

/-- ITS FALSE NEIGHBOUR: 'it returns false'. Refute it at one input. -/
def factTellsWrong : ChangeSpec := { name := "factTells", fn := fun _ => fun
  | [d1, d2, d3, d4, d5, d6] => { results := [.lit (.bool false)], args := [d1, d2, d3, d4, d5, d6] }
  | _ => none }
def FactTellsWrongFalsely : Prop := factTellsRow.holds Try.pinned (OpenSpec.ofChange factTellsWrong)

/-- 'shipwrightlaw10.FactDecodes': WHATEVER THE INPUT: true; the input reads as it did. -/
def factDecodesSpec : ChangeSpec := { name := "factDecodes", fn := fun _ => fun
  | [d] => { results := [.lit (.bool true)], args := [d] }
  | _ => none }
def factDecodesRow : OpenClaim := { program := "ytcfchkffanfehaa", sum := "805bb1289fa7bed3e842d91d1452d02b68e62a32c998b74fb7025709549410bd", func := "shipwright/shipwrightlaw10.FactDecodes", spec := "factDecodes", unfollowed := true, recurses := true, apart := false }
def FactDecodesSaid : Prop := factDecodesRow.holds Try.pinned (OpenSpec.ofChange factDecodesSpec)

/-- ITS FALSE NEIGHBOUR: 'it returns false'. Refute it at one input. -/
def factDecodesWrong : ChangeSpec := { name := "factDecodes", fn := fun _ => fun
  | [d] => { results := [.lit (.bool false)], args := [d] }
  | _ => none }
def FactDecodesWrongFalsely : Prop := factDecodesRow.holds Try.pinned (OpenSpec.ofChange factDecodesWrong)

/-- 'shipwrightlaw10.FactBack': WHATEVER THE INPUT: true; the input reads as it did. -/
def factBackSpec : ChangeSpec := { name := "factBack", fn := fun _ => fun
  | [d1, d2, d3] => { results := [.lit (.bool true)], args := [d1, d2, d3] }
  | _ => none }
def factBackRow : OpenClaim := { program := "ytcfchkffanfehaa", sum := "805bb1289fa7bed3e842d91d1452d02b68e62a32c998b74fb7025709549410bd", func := "shipwright/shipwrightlaw10.FactBack", spec := "factBack", unfollowed := true, recurses := true, apart := false }
def FactBackSaid : Prop := factBackRow.holds Try.pinned (OpenSpec.ofChange factBackSpec)

/-- ITS FALSE NEIGHBOUR: 'it returns false'. Refute it at one input. -/
def factBackWrong : ChangeSpec := { name := "factBack", fn := fun _ => fun
  | [d1, d2, d3] => { results := [.lit (.bool false)], args := [d1, d2, d3] }
  | _ => none }
def FactBackWrongFalsely : Prop := factBackRow.holds Try.pinned (OpenSpec.ofChange factBackWrong)

/-- 'shipwrightlaw10.FactEpochs': WHATEVER THE INPUT: true; the input reads as it did. -/
def factEpochsSpec : ChangeSpec := { name := "factEpochs", fn := fun _ => fun
  | [d1, d2, d3, d4] => { results := [.lit (.bool true)], args := [d1, d2, d3, d4] }
  | _ => none }
def factEpochsRow : OpenClaim := { program := "ytcfchkffanfehaa", sum := "805bb1289fa7bed3e842d91d1452d02b68e62a32c998b74fb7025709549410bd", func := "shipwright/shipwrightlaw10.FactEpochs", spec := "factEpochs", unfollowed := true, recurses := true, apart := false }
def FactEpochsSaid : Prop := factEpochsRow.holds Try.pinned (OpenSpec.ofChange factEpochsSpec)

/-- ITS FALSE NEIGHBOUR: 'it returns false'. Refute it at one input. -/
def factEpochsWrong : ChangeSpec := { name := "factEpochs", fn := fun _ => fun
  | [d1, d2, d3, d4] => { results := [.lit (.bool false)], args := [d1, d2, d3, d4] }
  | _ => none }
def FactEpochsWrongFalsely : Prop := factEpochsRow.holds Try.pinned (OpenSpec.ofChange factEpochsWrong)

/-- 'shipwrightlaw10.FactOrder': WHATEVER THE INPUT: true; the input reads as it did. -/
def factOrderSpec : ChangeSpec := { name := "factOrder", fn := fun _ => fun
  | [d1, d2, d3] => { results := [.lit (.bool true)], args := [d1, d2, d3] }
  | _ => none }
def factOrderRow : OpenClaim := { program := "ytcfchkffanfehaa", sum := "805bb1289fa7bed3e842d91d1452d02b68e62a32c998b74fb7025709549410bd", func := "shipwright/shipwrightlaw10.FactOrder", spec := "factOrder", unfollowed := true, recurses := true, apart := false }
def FactOrderSaid : Prop := factOrderRow.holds Try.pinned (OpenSpec.ofChange factOrderSpec)

/-- ITS FALSE NEIGHBOUR: 'it returns false'. Refute it at one input. -/
def factOrderWrong : ChangeSpec := { name := "factOrder", fn := fun _ => fun
  | [d1, d2, d3] => { results := [.lit (.bool false)], args := [d1, d2, d3] }
  | _ => none }
def FactOrderWrongFalsely : Prop := factOrderRow.holds Try.pinned (OpenSpec.ofChange factOrderWrong)

/-- 'shipwrightlaw10.FactApart': WHATEVER THE INPUT: true; the input reads as it did. -/
def factApartSpec : ChangeSpec := { name := "factApart", fn := fun _ => fun
  | [d1, d2] => { results := [.lit (.bool true)], args := [d1, d2] }
  | _ => none }
def factApartRow : OpenClaim := { program := "ytcfchkffanfehaa", sum := "805bb1289fa7bed3e842d91d1452d02b68e62a32c998b74fb7025709549410bd", func := "shipwright/shipwrightlaw10.FactApart", spec := "factApart", unfollowed := true, recurses := true, apart := false }
def FactApartSaid : Prop := factApartRow.holds Try.pinned (OpenSpec.ofChange factApartSpec)

/-- ITS FALSE NEIGHBOUR: 'it returns false'. Refute it at one input. -/
def factApartWrong : ChangeSpec := { name := "factApart", fn := fun _ => fun
  | [d1, d2] => { results := [.lit (.bool false)], args := [d1, d2] }
  | _ => none }
def FactApartWrongFalsely : Prop := factApartRow.holds Try.pinned (OpenSpec.ofChange factApartWrong)

/-- 'shipwrightlaw10.FactMore': WHATEVER THE INPUT: true; the input reads as it did. -/
def factMoreSpec : ChangeSpec := { name := "factMore", fn := fun _ => fun
  | [d1, d2] => { results := [.lit (.bool true)], args := [d1, d2] }
  | _ => none }
def factMoreRow : OpenClaim := { program := "ytcfchkffanfehaa", sum := "805bb1289fa7bed3e842d91d1452d02b68e62a32c998b74fb7025709549410bd", func := "shipwright/shipwrightlaw10.FactMore", spec := "factMore", unfollowed := true, recurses := true, apart := false }
def FactMoreSaid : Prop := factMoreRow.holds Try.pinned (OpenSpec.ofChange factMoreSpec)

/-- ITS FALSE NEIGHBOUR: 'it returns false'. Refute it at one input. -/
def factMoreWrong : ChangeSpec := { name := "factMore", fn := fun _ => fun
  | [d1, d2] => { results := [.lit (.bool false)], args := [d1, d2] }
  | _ => none }
def FactMoreWrongFalsely : Prop := factMoreRow.holds Try.pinned (OpenSpec.ofChange factMoreWrong)

/- THE SECOND FORM. 'bulk': how many values and letters a reading holds, each counted each time it is reached (what is shared counts as often as it is met; a slice's spare places count too). A statement '..UptoSaid' is the law's where the arguments, and the package variables that the reading takes, are together of bulk at most 1048576: NARROWER than '..Said'. Prove '..Said' where nothing that the law and all that it calls make is longer than what came in: it says more and counts as full. Else prove '..UptoSaid'. A law counts once. -/
mutual
def uptoBulk {H : Type} : DataW H → Nat
  | .lit (.string bytes) => bytes.length + 1
  | .lit _ => 1
  | .nil => 1
  | .ptr d => uptoBulk d + 1
  | .slice elems spare => uptoBulkAll elems + uptoBulkAll spare + 1
  | .agg parts => uptoBulkAll parts + 1
  | .iface _ d => uptoBulk d + 1
  | .map entries => uptoBulkEntries entries + 1
  | .held _ => 1
def uptoBulkAll {H : Type} : List (DataW H) → Nat
  | [] => 0
  | d :: r => uptoBulk d + uptoBulkAll r
def uptoBulkEntries {H : Type} : List (Lit × DataW H) → Nat
  | [] => 0
  | x :: r => uptoBulkEntry x + uptoBulkEntries r
def uptoBulkEntry {H : Type} : Lit × DataW H → Nat
  | (.string bytes, d) => bytes.length + uptoBulk d + 1
  | (_, d) => uptoBulk d + 1
 end
def uptoSmall : (H : Type) → List (DataW H) → Bool := fun _ ds => decide (uptoBulkAll ds ≤ 1048576)
def OpenSpec.upto (s : _root_.Go.ChangeSpec) : _root_.Go.OpenSpec := { _root_.Go.OpenSpec.ofChange s with cond := some uptoSmall }

/-- 'shipwrightlaw10.FactNames', WHERE WHAT IT READS IS OF BULK AT MOST 1048576: true; the input reads as it did. -/
def factNamesUptoRow : OpenClaim := { program := "ytcfchkffanfehaa", sum := "805bb1289fa7bed3e842d91d1452d02b68e62a32c998b74fb7025709549410bd", func := "shipwright/shipwrightlaw10.FactNames", spec := "factNames", unfollowed := true, recurses := true, apart := false, narrowed := true }
def FactNamesUptoSaid : Prop := factNamesUptoRow.holds Try.pinned (OpenSpec.upto factNamesSpec)

/-- 'shipwrightlaw10.FactTells', WHERE WHAT IT READS IS OF BULK AT MOST 1048576: true; the input reads as it did. -/
def factTellsUptoRow : OpenClaim := { program := "ytcfchkffanfehaa", sum := "805bb1289fa7bed3e842d91d1452d02b68e62a32c998b74fb7025709549410bd", func := "shipwright/shipwrightlaw10.FactTells", spec := "factTells", unfollowed := true, recurses := true, apart := false, narrowed := true }
def FactTellsUptoSaid : Prop := factTellsUptoRow.holds Try.pinned (OpenSpec.upto factTellsSpec)

/-- 'shipwrightlaw10.FactDecodes', WHERE WHAT IT READS IS OF BULK AT MOST 1048576: true; the input reads as it did. -/
def factDecodesUptoRow : OpenClaim := { program := "ytcfchkffanfehaa", sum := "805bb1289fa7bed3e842d91d1452d02b68e62a32c998b74fb7025709549410bd", func := "shipwright/shipwrightlaw10.FactDecodes", spec := "factDecodes", unfollowed := true, recurses := true, apart := false, narrowed := true }
def FactDecodesUptoSaid : Prop := factDecodesUptoRow.holds Try.pinned (OpenSpec.upto factDecodesSpec)

/-- 'shipwrightlaw10.FactBack', WHERE WHAT IT READS IS OF BULK AT MOST 1048576: true; the input reads as it did. -/
def factBackUptoRow : OpenClaim := { program := "ytcfchkffanfehaa", sum := "805bb1289fa7bed3e842d91d1452d02b68e62a32c998b74fb7025709549410bd", func := "shipwright/shipwrightlaw10.FactBack", spec := "factBack", unfollowed := true, recurses := true, apart := false, narrowed := true }
def FactBackUptoSaid : Prop := factBackUptoRow.holds Try.pinned (OpenSpec.upto factBackSpec)

/-- 'shipwrightlaw10.FactEpochs', WHERE WHAT IT READS IS OF BULK AT MOST 1048576: true; the input reads as it did. -/
def factEpochsUptoRow : OpenClaim := { program := "ytcfchkffanfehaa", sum := "805bb1289fa7bed3e842d91d1452d02b68e62a32c998b74fb7025709549410bd", func := "shipwright/shipwrightlaw10.FactEpochs", spec := "factEpochs", unfollowed := true, recurses := true, apart := false, narrowed := true }
def FactEpochsUptoSaid : Prop := factEpochsUptoRow.holds Try.pinned (OpenSpec.upto factEpochsSpec)

/-- 'shipwrightlaw10.FactOrder', WHERE WHAT IT READS IS OF BULK AT MOST 1048576: true; the input reads as it did. -/
def factOrderUptoRow : OpenClaim := { program := "ytcfchkffanfehaa", sum := "805bb1289fa7bed3e842d91d1452d02b68e62a32c998b74fb7025709549410bd", func := "shipwright/shipwrightlaw10.FactOrder", spec := "factOrder", unfollowed := true, recurses := true, apart := false, narrowed := true }
def FactOrderUptoSaid : Prop := factOrderUptoRow.holds Try.pinned (OpenSpec.upto factOrderSpec)

/-- 'shipwrightlaw10.FactApart', WHERE WHAT IT READS IS OF BULK AT MOST 1048576: true; the input reads as it did. -/
def factApartUptoRow : OpenClaim := { program := "ytcfchkffanfehaa", sum := "805bb1289fa7bed3e842d91d1452d02b68e62a32c998b74fb7025709549410bd", func := "shipwright/shipwrightlaw10.FactApart", spec := "factApart", unfollowed := true, recurses := true, apart := false, narrowed := true }
def FactApartUptoSaid : Prop := factApartUptoRow.holds Try.pinned (OpenSpec.upto factApartSpec)

/-- 'shipwrightlaw10.FactMore', WHERE WHAT IT READS IS OF BULK AT MOST 1048576: true; the input reads as it did. -/
def factMoreUptoRow : OpenClaim := { program := "ytcfchkffanfehaa", sum := "805bb1289fa7bed3e842d91d1452d02b68e62a32c998b74fb7025709549410bd", func := "shipwright/shipwrightlaw10.FactMore", spec := "factMore", unfollowed := true, recurses := true, apart := false, narrowed := true }
def FactMoreUptoSaid : Prop := factMoreUptoRow.holds Try.pinned (OpenSpec.upto factMoreSpec)

end Rows
end Go.Proofs.Ytcfchkffanfehaa
