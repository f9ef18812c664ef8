/-
  No cell of these rows narrows 'for every input' (looked for: loops, veiled, ifaces, maps, wideKeys, modest, calm, conditions, laid).
  DERIVED. THE GIVEN ROWS OF THIS SEAT. 7 by the template 'for every input the law returns true; each argument reads behind the call as it read before'; 0 by the template 'total and deterministic' (their statements: YtfjdjhjhpphogaaTotals.lean).
  GIVEN WITH THE SEED: the statements are not yours to turn. If you find one false, say at which input.
  Laid BY PROGRAM, IN A SANDBOX (cutbox-rows.mjs): the forced cells as the released guide's own fill.sh prints them over the translation b9f9caac16a22a55… (all of the seat's roots in one cut). By AI agents, Wed Nov 11 2026. No macro, syntax, notation, axiom, sorry.
-/
import Derived.Test.YtfjdjhjhpphogaaChecked
import GoSem.Claim
import GoSem.ClaimJoined
import GoSem.ClaimMapViews
import Derived.JoinedTies
import Derived.KernelRfl
namespace Go.Proofs.Ytfjdjhjhpphogaa
/- THE CELL 'sum', in the pinned program and in every row, IS THE sha256 OF THE DUMP (.gsa) THAT YtfjdjhjhpphogaaProg.lean LOADS. Nothing in Lean hashes anything: it is a label: what it is worth is what the hold of that sum in a sandbox is worth. -/
noncomputable def Try.pinned : Pinned := { name := "ytfjdjhjhpphogaa", sum := "b9f9caac16a22a557d7159552ea844075290de133a89964844b7bb0ea0186b20", checked := Try.checked }
namespace Rows
def none {H : Type} : Left H := { results := [], args := [] }

/-- 'shipwrightlaw09.DriftNames': WHATEVER THE INPUT: true; the input reads as it did. -/
def driftNamesSpec : ChangeSpec := { name := "driftNames", fn := fun _ => fun
  | [] => { results := [.lit (.bool true)], args := [] }
  | _ => none }
def driftNamesRow : OpenClaim := { program := "ytfjdjhjhpphogaa", sum := "b9f9caac16a22a557d7159552ea844075290de133a89964844b7bb0ea0186b20", func := "shipwright/shipwrightlaw09.DriftNames", spec := "driftNames", unfollowed := true, recurses := true, apart := false }
def DriftNamesSaid : Prop := driftNamesRow.holds Try.pinned (OpenSpec.ofChange driftNamesSpec)

/-- ITS FALSE NEIGHBOUR: 'it returns false'. Refute it at one input. -/
def driftNamesWrong : ChangeSpec := { name := "driftNames", fn := fun _ => fun
  | [] => { results := [.lit (.bool false)], args := [] }
  | _ => none }
def DriftNamesWrongFalsely : Prop := driftNamesRow.holds Try.pinned (OpenSpec.ofChange driftNamesWrong)

/-- 'shipwrightlaw09.DriftTells': WHATEVER THE INPUT: true; the input reads as it did. -/
def driftTellsSpec : ChangeSpec := { name := "driftTells", fn := fun _ => fun
  | [d1, d2, d3, d4] => { results := [.lit (.bool true)], args := [d1, d2, d3, d4] }
  | _ => none }
def driftTellsRow : OpenClaim := { program := "ytfjdjhjhpphogaa", sum := "b9f9caac16a22a557d7159552ea844075290de133a89964844b7bb0ea0186b20", func := "shipwright/shipwrightlaw09.DriftTells", spec := "driftTells", unfollowed := true, recurses := true, apart := false }
def DriftTellsSaid : Prop := driftTellsRow.holds Try.pinned (OpenSpec.ofChange driftTellsSpec)

/-- ITS FALSE NEIGHBOUR: 'it returns false'. Refute it at one input. -/
def driftTellsWrong : ChangeSpec := { name := "driftTells", fn := fun _ => fun
  | [d1, d2, d3, d4] => { results := [.lit (.bool false)], args := [d1, d2, d3, d4] }
  | _ => none }
def DriftTellsWrongFalsely : Prop := driftTellsRow.holds Try.pinned (OpenSpec.ofChange driftTellsWrong)

/-- 'shipwrightlaw09.DriftSafe': WHATEVER THE INPUT: true; the input reads as it did. -/
def driftSafeSpec : ChangeSpec := { name := "driftSafe", fn := fun _ => fun
  | [d1, d2, d3, d4, d5, d6] => { results := [.lit (.bool true)], args := [d1, d2, d3, d4, d5, d6] }
  | _ => none }
def driftSafeRow : OpenClaim := { program := "ytfjdjhjhpphogaa", sum := "b9f9caac16a22a557d7159552ea844075290de133a89964844b7bb0ea0186b20", func := "shipwright/shipwrightlaw09.DriftSafe", spec := "driftSafe", unfollowed := true, recurses := true, apart := false }
def DriftSafeSaid : Prop := driftSafeRow.holds Try.pinned (OpenSpec.ofChange driftSafeSpec)

/-- ITS FALSE NEIGHBOUR: 'it returns false'. Refute it at one input. -/
def driftSafeWrong : ChangeSpec := { name := "driftSafe", fn := fun _ => fun
  | [d1, d2, d3, d4, d5, d6] => { results := [.lit (.bool false)], args := [d1, d2, d3, d4, d5, d6] }
  | _ => none }
def DriftSafeWrongFalsely : Prop := driftSafeRow.holds Try.pinned (OpenSpec.ofChange driftSafeWrong)

/-- 'shipwrightlaw09.DriftGuard': WHATEVER THE INPUT: true; the input reads as it did. -/
def driftGuardSpec : ChangeSpec := { name := "driftGuard", fn := fun _ => fun
  | [d1, d2, d3, d4] => { results := [.lit (.bool true)], args := [d1, d2, d3, d4] }
  | _ => none }
def driftGuardRow : OpenClaim := { program := "ytfjdjhjhpphogaa", sum := "b9f9caac16a22a557d7159552ea844075290de133a89964844b7bb0ea0186b20", func := "shipwright/shipwrightlaw09.DriftGuard", spec := "driftGuard", unfollowed := true, recurses := true, apart := false }
def DriftGuardSaid : Prop := driftGuardRow.holds Try.pinned (OpenSpec.ofChange driftGuardSpec)

/-- ITS FALSE NEIGHBOUR: 'it returns false'. Refute it at one input. -/
def driftGuardWrong : ChangeSpec := { name := "driftGuard", fn := fun _ => fun
  | [d1, d2, d3, d4] => { results := [.lit (.bool false)], args := [d1, d2, d3, d4] }
  | _ => none }
def DriftGuardWrongFalsely : Prop := driftGuardRow.holds Try.pinned (OpenSpec.ofChange driftGuardWrong)

/-- 'shipwrightlaw09.DriftMost': WHATEVER THE INPUT: true; the input reads as it did. -/
def driftMostSpec : ChangeSpec := { name := "driftMost", fn := fun _ => fun
  | [d1, d2, d3] => { results := [.lit (.bool true)], args := [d1, d2, d3] }
  | _ => none }
def driftMostRow : OpenClaim := { program := "ytfjdjhjhpphogaa", sum := "b9f9caac16a22a557d7159552ea844075290de133a89964844b7bb0ea0186b20", func := "shipwright/shipwrightlaw09.DriftMost", spec := "driftMost", unfollowed := true, recurses := true, apart := false }
def DriftMostSaid : Prop := driftMostRow.holds Try.pinned (OpenSpec.ofChange driftMostSpec)

/-- ITS FALSE NEIGHBOUR: 'it returns false'. Refute it at one input. -/
def driftMostWrong : ChangeSpec := { name := "driftMost", fn := fun _ => fun
  | [d1, d2, d3] => { results := [.lit (.bool false)], args := [d1, d2, d3] }
  | _ => none }
def DriftMostWrongFalsely : Prop := driftMostRow.holds Try.pinned (OpenSpec.ofChange driftMostWrong)

/-- 'shipwrightlaw09.DriftTimes': WHATEVER THE INPUT: true; the input reads as it did. -/
def driftTimesSpec : ChangeSpec := { name := "driftTimes", fn := fun _ => fun
  | [d1, d2, d3, d4] => { results := [.lit (.bool true)], args := [d1, d2, d3, d4] }
  | _ => none }
def driftTimesRow : OpenClaim := { program := "ytfjdjhjhpphogaa", sum := "b9f9caac16a22a557d7159552ea844075290de133a89964844b7bb0ea0186b20", func := "shipwright/shipwrightlaw09.DriftTimes", spec := "driftTimes", unfollowed := true, recurses := true, apart := false }
def DriftTimesSaid : Prop := driftTimesRow.holds Try.pinned (OpenSpec.ofChange driftTimesSpec)

/-- ITS FALSE NEIGHBOUR: 'it returns false'. Refute it at one input. -/
def driftTimesWrong : ChangeSpec := { name := "driftTimes", fn := fun _ => fun
  | [d1, d2, d3, d4] => { results := [.lit (.bool false)], args := [d1, d2, d3, d4] }
  | _ => none }
def DriftTimesWrongFalsely : Prop := driftTimesRow.holds Try.pinned (OpenSpec.ofChange driftTimesWrong)

/-- 'shipwrightlaw09.DriftLess': WHATEVER THE INPUT: true; the input reads as it did. -/
def driftLessSpec : ChangeSpec := { name := "driftLess", fn := fun _ => fun
  | [d1, d2, d3] => { results := [.lit (.bool true)], args := [d1, d2, d3] }
  | _ => none }
def driftLessRow : OpenClaim := { program := "ytfjdjhjhpphogaa", sum := "b9f9caac16a22a557d7159552ea844075290de133a89964844b7bb0ea0186b20", func := "shipwright/shipwrightlaw09.DriftLess", spec := "driftLess", unfollowed := true, recurses := true, apart := false }
def DriftLessSaid : Prop := driftLessRow.holds Try.pinned (OpenSpec.ofChange driftLessSpec)

/-- ITS FALSE NEIGHBOUR: 'it returns false'. Refute it at one input. -/
def driftLessWrong : ChangeSpec := { name := "driftLess", fn := fun _ => fun
  | [d1, d2, d3] => { results := [.lit (.bool false)], args := [d1, d2, d3] }
  | _ => none }
def DriftLessWrongFalsely : Prop := driftLessRow.holds Try.pinned (OpenSpec.ofChange driftLessWrong)

/- THE SECOND FORM. 'bulk': how many values and letters a reading holds, each counted each time it is reached (what is shared counts as often as it is met; a slice's spare places count too). A statement '..UptoSaid' is the law's where the arguments, and the package variables that the reading takes, are together of bulk at most 1048576: NARROWER than '..Said'. Prove '..Said' where nothing that the law and all that it calls make is longer than what came in: it says more and counts as full. Else prove '..UptoSaid'. A law counts once. -/
mutual
def uptoBulk {H : Type} : DataW H → Nat
  | .lit (.string bytes) => bytes.length + 1
  | .lit _ => 1
  | .nil => 1
  | .ptr d => uptoBulk d + 1
  | .slice elems spare => uptoBulkAll elems + uptoBulkAll spare + 1
  | .agg parts => uptoBulkAll parts + 1
  | .iface _ d => uptoBulk d + 1
  | .map entries => uptoBulkEntries entries + 1
  | .held _ => 1
def uptoBulkAll {H : Type} : List (DataW H) → Nat
  | [] => 0
  | d :: r => uptoBulk d + uptoBulkAll r
def uptoBulkEntries {H : Type} : List (Lit × DataW H) → Nat
  | [] => 0
  | x :: r => uptoBulkEntry x + uptoBulkEntries r
def uptoBulkEntry {H : Type} : Lit × DataW H → Nat
  | (.string bytes, d) => bytes.length + uptoBulk d + 1
  | (_, d) => uptoBulk d + 1
 end
def uptoSmall : (H : Type) → List (DataW H) → Bool := fun _ ds => decide (uptoBulkAll ds ≤ 1048576)
def OpenSpec.upto (s : _root_.Go.ChangeSpec) : _root_.Go.OpenSpec := { _root_.Go.OpenSpec.ofChange s with cond := some uptoSmall }

/-- 'shipwrightlaw09.DriftNames', WHERE WHAT IT READS IS OF BULK AT MOST 1048576: true; the input reads as it did. -/
def driftNamesUptoRow : OpenClaim := { program := "ytfjdjhjhpphogaa", sum := "b9f9caac16a22a557d7159552ea844075290de133a89964844b7bb0ea0186b20", func := "shipwright/shipwrightlaw09.DriftNames", spec := "driftNames", unfollowed := true, recurses := true, apart := false, narrowed := true }
def DriftNamesUptoSaid : Prop := driftNamesUptoRow.holds Try.pinned (OpenSpec.upto driftNamesSpec)

/-- 'shipwrightlaw09.DriftTells', WHERE WHAT IT READS IS OF BULK AT MOST 1048576: true; the input reads as it did. -/
def driftTellsUptoRow : OpenClaim := { program := "ytfjdjhjhpphogaa", sum := "b9f9caac16a22a557d7159552ea844075290de133a89964844b7bb0ea0186b20", func := "shipwright/shipwrightlaw09.DriftTells", spec := "driftTells", unfollowed := true, recurses := true, apart := false, narrowed := true }
def DriftTellsUptoSaid : Prop := driftTellsUptoRow.holds Try.pinned (OpenSpec.upto driftTellsSpec)

/-- 'shipwrightlaw09.DriftSafe', WHERE WHAT IT READS IS OF BULK AT MOST 1048576: true; the input reads as it did. -/
def driftSafeUptoRow : OpenClaim := { program := "ytfjdjhjhpphogaa", sum := "b9f9caac16a22a557d7159552ea844075290de133a89964844b7bb0ea0186b20", func := "shipwright/shipwrightlaw09.DriftSafe", spec := "driftSafe", unfollowed := true, recurses := true, apart := false, narrowed := true }
def DriftSafeUptoSaid : Prop := driftSafeUptoRow.holds Try.pinned (OpenSpec.upto driftSafeSpec)

/-- 'shipwrightlaw09.DriftGuard', WHERE WHAT IT READS IS OF BULK AT MOST 1048576: true; the input reads as it did. -/
def driftGuardUptoRow : OpenClaim := { program := "ytfjdjhjhpphogaa", sum := "b9f9caac16a22a557d7159552ea844075290de133a89964844b7bb0ea0186b20", func := "shipwright/shipwrightlaw09.DriftGuard", spec := "driftGuard", unfollowed := true, recurses := true, apart := false, narrowed := true }
def DriftGuardUptoSaid : Prop := driftGuardUptoRow.holds Try.pinned (OpenSpec.upto driftGuardSpec)

/-- 'shipwrightlaw09.DriftMost', WHERE WHAT IT READS IS OF BULK AT MOST 1048576: true; the input reads as it did. -/
def driftMostUptoRow : OpenClaim := { program := "ytfjdjhjhpphogaa", sum := "b9f9caac16a22a557d7159552ea844075290de133a89964844b7bb0ea0186b20", func := "shipwright/shipwrightlaw09.DriftMost", spec := "driftMost", unfollowed := true, recurses := true, apart := false, narrowed := true }
def DriftMostUptoSaid : Prop := driftMostUptoRow.holds Try.pinned (OpenSpec.upto driftMostSpec)

/-- 'shipwrightlaw09.DriftTimes', WHERE WHAT IT READS IS OF BULK AT MOST 1048576: true; the input reads as it did. -/
def driftTimesUptoRow : OpenClaim := { program := "ytfjdjhjhpphogaa", sum := "b9f9caac16a22a557d7159552ea844075290de133a89964844b7bb0ea0186b20", func := "shipwright/shipwrightlaw09.DriftTimes", spec := "driftTimes", unfollowed := true, recurses := true, apart := false, narrowed := true }
def DriftTimesUptoSaid : Prop := driftTimesUptoRow.holds Try.pinned (OpenSpec.upto driftTimesSpec)

/-- 'shipwrightlaw09.DriftLess', WHERE WHAT IT READS IS OF BULK AT MOST 1048576: true; the input reads as it did. -/
def driftLessUptoRow : OpenClaim := { program := "ytfjdjhjhpphogaa", sum := "b9f9caac16a22a557d7159552ea844075290de133a89964844b7bb0ea0186b20", func := "shipwright/shipwrightlaw09.DriftLess", spec := "driftLess", unfollowed := true, recurses := true, apart := false, narrowed := true }
def DriftLessUptoSaid : Prop := driftLessUptoRow.holds Try.pinned (OpenSpec.upto driftLessSpec)

end Rows
end Go.Proofs.Ytfjdjhjhpphogaa
