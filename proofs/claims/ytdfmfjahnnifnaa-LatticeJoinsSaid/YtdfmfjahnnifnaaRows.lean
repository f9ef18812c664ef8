/-
  No cell of these rows narrows 'for every input' (looked for: loops, veiled, ifaces, maps, wideKeys, modest, calm, conditions, laid).
  DERIVED. THE GIVEN ROWS OF THIS SEAT. 9 by the template 'for every input the law returns true; each argument reads behind the call as it read before'; 0 by the template 'total and deterministic' (their statements: YtdfmfjahnnifnaaTotals.lean).
  GIVEN WITH THE SEED: the statements are not yours to turn. If you find one false, say at which input.
  Laid BY PROGRAM, IN A SANDBOX (cutbox-rows.mjs): the forced cells as the released guide's own fill.sh prints them over the translation 6f46dedfac6d68fa… (all of the seat's roots in one cut). By AI agents, Wed Nov 11 2026. No macro, syntax, notation, axiom, sorry.
-/
import Derived.Test.YtdfmfjahnnifnaaChecked
import GoSem.Claim
import GoSem.ClaimJoined
import GoSem.ClaimMapViews
import Derived.JoinedTies
import Derived.KernelRfl
namespace Go.Proofs.Ytdfmfjahnnifnaa
/- THE CELL 'sum', in the pinned program and in every row, IS THE sha256 OF THE DUMP (.gsa) THAT YtdfmfjahnnifnaaProg.lean LOADS. Nothing in Lean hashes anything: it is a label: what it is worth is what the hold of that sum in a sandbox is worth. -/
noncomputable def Try.pinned : Pinned := { name := "ytdfmfjahnnifnaa", sum := "6f46dedfac6d68fa57e250706592aac38a0f2dd269b402effa0e959ca99725c7", checked := Try.checked }
namespace Rows
def none {H : Type} : Left H := { results := [], args := [] }

/-- 'shipwrightlaw11.LatticeNames': WHATEVER THE INPUT: true; the input reads as it did. -/
def latticeNamesSpec : ChangeSpec := { name := "latticeNames", fn := fun _ => fun
  | [] => { results := [.lit (.bool true)], args := [] }
  | _ => none }
def latticeNamesRow : OpenClaim := { program := "ytdfmfjahnnifnaa", sum := "6f46dedfac6d68fa57e250706592aac38a0f2dd269b402effa0e959ca99725c7", func := "shipwright/shipwrightlaw11.LatticeNames", spec := "latticeNames", inPlace := ["slices.overlaps[shipwright/api.Fact]"], unfollowed := true, recurses := true, apart := false }
def LatticeNamesSaid : Prop := latticeNamesRow.holds Try.pinned (OpenSpec.ofChange latticeNamesSpec)

/-- ITS FALSE NEIGHBOUR: 'it returns false'. Refute it at one input. -/
def latticeNamesWrong : ChangeSpec := { name := "latticeNames", fn := fun _ => fun
  | [] => { results := [.lit (.bool false)], args := [] }
  | _ => none }
def LatticeNamesWrongFalsely : Prop := latticeNamesRow.holds Try.pinned (OpenSpec.ofChange latticeNamesWrong)

/-- 'shipwrightlaw11.LatticeTells': WHATEVER THE INPUT: true; the input reads as it did. -/
def latticeTellsSpec : ChangeSpec := { name := "latticeTells", fn := fun _ => fun
  | [d1, d2, d3, d4, d5] => { results := [.lit (.bool true)], args := [d1, d2, d3, d4, d5] }
  | _ => none }
def latticeTellsRow : OpenClaim := { program := "ytdfmfjahnnifnaa", sum := "6f46dedfac6d68fa57e250706592aac38a0f2dd269b402effa0e959ca99725c7", func := "shipwright/shipwrightlaw11.LatticeTells", spec := "latticeTells", inPlace := ["slices.overlaps[shipwright/api.Fact]"], unfollowed := true, recurses := true, apart := false }
def LatticeTellsSaid : Prop := latticeTellsRow.holds Try.pinned (OpenSpec.ofChange latticeTellsSpec)

/-- ITS FALSE NEIGHBOUR: 'it returns false'. Refute it at one input. -/
def latticeTellsWrong : ChangeSpec := { name := "latticeTells", fn := fun _ => fun
  | [d1, d2, d3, d4, d5] => { results := [.lit (.bool false)], args := [d1, d2, d3, d4, d5] }
  | _ => none }
def LatticeTellsWrongFalsely : Prop := latticeTellsRow.holds Try.pinned (OpenSpec.ofChange latticeTellsWrong)

/-- 'shipwrightlaw11.LatticeMerges': WHATEVER THE INPUT: true; the input reads as it did. -/
def latticeMergesSpec : ChangeSpec := { name := "latticeMerges", fn := fun _ => fun
  | [d1, d2, d3] => { results := [.lit (.bool true)], args := [d1, d2, d3] }
  | _ => none }
def latticeMergesRow : OpenClaim := { program := "ytdfmfjahnnifnaa", sum := "6f46dedfac6d68fa57e250706592aac38a0f2dd269b402effa0e959ca99725c7", func := "shipwright/shipwrightlaw11.LatticeMerges", spec := "latticeMerges", inPlace := ["slices.overlaps[shipwright/api.Fact]"], unfollowed := true, recurses := true, apart := false }
def LatticeMergesSaid : Prop := latticeMergesRow.holds Try.pinned (OpenSpec.ofChange latticeMergesSpec)

/-- ITS FALSE NEIGHBOUR: 'it returns false'. Refute it at one input. -/
def latticeMergesWrong : ChangeSpec := { name := "latticeMerges", fn := fun _ => fun
  | [d1, d2, d3] => { results := [.lit (.bool false)], args := [d1, d2, d3] }
  | _ => none }
def LatticeMergesWrongFalsely : Prop := latticeMergesRow.holds Try.pinned (OpenSpec.ofChange latticeMergesWrong)

/-- 'shipwrightlaw11.LatticeJoins': WHATEVER THE INPUT: true; the input reads as it did. -/
def latticeJoinsSpec : ChangeSpec := { name := "latticeJoins", fn := fun _ => fun
  | [d1, d2, d3, d4] => { results := [.lit (.bool true)], args := [d1, d2, d3, d4] }
  | _ => none }
def latticeJoinsRow : OpenClaim := { program := "ytdfmfjahnnifnaa", sum := "6f46dedfac6d68fa57e250706592aac38a0f2dd269b402effa0e959ca99725c7", func := "shipwright/shipwrightlaw11.LatticeJoins", spec := "latticeJoins", inPlace := ["slices.overlaps[shipwright/api.Fact]"], unfollowed := true, recurses := true, apart := false }
def LatticeJoinsSaid : Prop := latticeJoinsRow.holds Try.pinned (OpenSpec.ofChange latticeJoinsSpec)

/-- ITS FALSE NEIGHBOUR: 'it returns false'. Refute it at one input. -/
def latticeJoinsWrong : ChangeSpec := { name := "latticeJoins", fn := fun _ => fun
  | [d1, d2, d3, d4] => { results := [.lit (.bool false)], args := [d1, d2, d3, d4] }
  | _ => none }
def LatticeJoinsWrongFalsely : Prop := latticeJoinsRow.holds Try.pinned (OpenSpec.ofChange latticeJoinsWrong)

/-- 'shipwrightlaw11.LatticeRises': WHATEVER THE INPUT: true; the input reads as it did. -/
def latticeRisesSpec : ChangeSpec := { name := "latticeRises", fn := fun _ => fun
  | [d1, d2, d3] => { results := [.lit (.bool true)], args := [d1, d2, d3] }
  | _ => none }
def latticeRisesRow : OpenClaim := { program := "ytdfmfjahnnifnaa", sum := "6f46dedfac6d68fa57e250706592aac38a0f2dd269b402effa0e959ca99725c7", func := "shipwright/shipwrightlaw11.LatticeRises", spec := "latticeRises", inPlace := ["slices.overlaps[shipwright/api.Fact]"], unfollowed := true, recurses := true, apart := false }
def LatticeRisesSaid : Prop := latticeRisesRow.holds Try.pinned (OpenSpec.ofChange latticeRisesSpec)

/-- ITS FALSE NEIGHBOUR: 'it returns false'. Refute it at one input. -/
def latticeRisesWrong : ChangeSpec := { name := "latticeRises", fn := fun _ => fun
  | [d1, d2, d3] => { results := [.lit (.bool false)], args := [d1, d2, d3] }
  | _ => none }
def LatticeRisesWrongFalsely : Prop := latticeRisesRow.holds Try.pinned (OpenSpec.ofChange latticeRisesWrong)

/-- 'shipwrightlaw11.LatticeBest': WHATEVER THE INPUT: true; the input reads as it did. -/
def latticeBestSpec : ChangeSpec := { name := "latticeBest", fn := fun _ => fun
  | [d1, d2, d3, d4] => { results := [.lit (.bool true)], args := [d1, d2, d3, d4] }
  | _ => none }
def latticeBestRow : OpenClaim := { program := "ytdfmfjahnnifnaa", sum := "6f46dedfac6d68fa57e250706592aac38a0f2dd269b402effa0e959ca99725c7", func := "shipwright/shipwrightlaw11.LatticeBest", spec := "latticeBest", inPlace := ["slices.overlaps[shipwright/api.Fact]"], unfollowed := true, recurses := true, apart := false }
def LatticeBestSaid : Prop := latticeBestRow.holds Try.pinned (OpenSpec.ofChange latticeBestSpec)

/-- ITS FALSE NEIGHBOUR: 'it returns false'. Refute it at one input. -/
def latticeBestWrong : ChangeSpec := { name := "latticeBest", fn := fun _ => fun
  | [d1, d2, d3, d4] => { results := [.lit (.bool false)], args := [d1, d2, d3, d4] }
  | _ => none }
def LatticeBestWrongFalsely : Prop := latticeBestRow.holds Try.pinned (OpenSpec.ofChange latticeBestWrong)

/-- 'shipwrightlaw11.LatticeMany': WHATEVER THE INPUT: true; the input reads as it did. -/
def latticeManySpec : ChangeSpec := { name := "latticeMany", fn := fun _ => fun
  | [d1, d2] => { results := [.lit (.bool true)], args := [d1, d2] }
  | _ => none }
def latticeManyRow : OpenClaim := { program := "ytdfmfjahnnifnaa", sum := "6f46dedfac6d68fa57e250706592aac38a0f2dd269b402effa0e959ca99725c7", func := "shipwright/shipwrightlaw11.LatticeMany", spec := "latticeMany", inPlace := ["slices.overlaps[shipwright/api.Fact]"], unfollowed := true, recurses := true, apart := false }
def LatticeManySaid : Prop := latticeManyRow.holds Try.pinned (OpenSpec.ofChange latticeManySpec)

/-- ITS FALSE NEIGHBOUR: 'it returns false'. Refute it at one input. -/
def latticeManyWrong : ChangeSpec := { name := "latticeMany", fn := fun _ => fun
  | [d1, d2] => { results := [.lit (.bool false)], args := [d1, d2] }
  | _ => none }
def LatticeManyWrongFalsely : Prop := latticeManyRow.holds Try.pinned (OpenSpec.ofChange latticeManyWrong)

/-- 'shipwrightlaw11.LatticeWho': WHATEVER THE INPUT: true; the input reads as it did. -/
def latticeWhoSpec : ChangeSpec := { name := "latticeWho", fn := fun _ => fun
  | [d1, d2, d3, d4, d5] => { results := [.lit (.bool true)], args := [d1, d2, d3, d4, d5] }
  | _ => none }
def latticeWhoRow : OpenClaim := { program := "ytdfmfjahnnifnaa", sum := "6f46dedfac6d68fa57e250706592aac38a0f2dd269b402effa0e959ca99725c7", func := "shipwright/shipwrightlaw11.LatticeWho", spec := "latticeWho", inPlace := ["slices.overlaps[shipwright/api.Fact]"], unfollowed := true, recurses := true, apart := false }
def LatticeWhoSaid : Prop := latticeWhoRow.holds Try.pinned (OpenSpec.ofChange latticeWhoSpec)

/-- ITS FALSE NEIGHBOUR: 'it returns false'. Refute it at one input. -/
def latticeWhoWrong : ChangeSpec := { name := "latticeWho", fn := fun _ => fun
  | [d1, d2, d3, d4, d5] => { results := [.lit (.bool false)], args := [d1, d2, d3, d4, d5] }
  | _ => none }
def LatticeWhoWrongFalsely : Prop := latticeWhoRow.holds Try.pinned (OpenSpec.ofChange latticeWhoWrong)

/-- 'shipwrightlaw11.LatticeOwn': WHATEVER THE INPUT: true; the input reads as it did. -/
def latticeOwnSpec : ChangeSpec := { name := "latticeOwn", fn := fun _ => fun
  | [d1, d2, d3] => { results := [.lit (.bool true)], args := [d1, d2, d3] }
  | _ => none }
def latticeOwnRow : OpenClaim := { program := "ytdfmfjahnnifnaa", sum := "6f46dedfac6d68fa57e250706592aac38a0f2dd269b402effa0e959ca99725c7", func := "shipwright/shipwrightlaw11.LatticeOwn", spec := "latticeOwn", inPlace := ["slices.overlaps[shipwright/api.Fact]"], unfollowed := true, recurses := true, apart := false }
def LatticeOwnSaid : Prop := latticeOwnRow.holds Try.pinned (OpenSpec.ofChange latticeOwnSpec)

/-- ITS FALSE NEIGHBOUR: 'it returns false'. Refute it at one input. -/
def latticeOwnWrong : ChangeSpec := { name := "latticeOwn", fn := fun _ => fun
  | [d1, d2, d3] => { results := [.lit (.bool false)], args := [d1, d2, d3] }
  | _ => none }
def LatticeOwnWrongFalsely : Prop := latticeOwnRow.holds Try.pinned (OpenSpec.ofChange latticeOwnWrong)

/- THE SECOND FORM. 'bulk': how many values and letters a reading holds, each counted each time it is reached (what is shared counts as often as it is met; a slice's spare places count too). A statement '..UptoSaid' is the law's where the arguments, and the package variables that the reading takes, are together of bulk at most 1048576: NARROWER than '..Said'. Prove '..Said' where nothing that the law and all that it calls make is longer than what came in: it says more and counts as full. Else prove '..UptoSaid'. A law counts once. -/
mutual
def uptoBulk {H : Type} : DataW H → Nat
  | .lit (.string bytes) => bytes.length + 1
  | .lit _ => 1
  | .nil => 1
  | .ptr d => uptoBulk d + 1
  | .slice elems spare => uptoBulkAll elems + uptoBulkAll spare + 1
  | .agg parts => uptoBulkAll parts + 1
  | .iface _ d => uptoBulk d + 1
  | .map entries => uptoBulkEntries entries + 1
  | .held _ => 1
def uptoBulkAll {H : Type} : List (DataW H) → Nat
  | [] => 0
  | d :: r => uptoBulk d + uptoBulkAll r
def uptoBulkEntries {H : Type} : List (Lit × DataW H) → Nat
  | [] => 0
  | x :: r => uptoBulkEntry x + uptoBulkEntries r
def uptoBulkEntry {H : Type} : Lit × DataW H → Nat
  | (.string bytes, d) => bytes.length + uptoBulk d + 1
  | (_, d) => uptoBulk d + 1
 end
def uptoSmall : (H : Type) → List (DataW H) → Bool := fun _ ds => decide (uptoBulkAll ds ≤ 1048576)
def OpenSpec.upto (s : _root_.Go.ChangeSpec) : _root_.Go.OpenSpec := { _root_.Go.OpenSpec.ofChange s with cond := some uptoSmall }

/-- 'shipwrightlaw11.LatticeNames', WHERE WHAT IT READS IS OF BULK AT MOST 1048576: true; the input reads as it did. -/
def latticeNamesUptoRow : OpenClaim := { program := "ytdfmfjahnnifnaa", sum := "6f46dedfac6d68fa57e250706592aac38a0f2dd269b402effa0e959ca99725c7", func := "shipwright/shipwrightlaw11.LatticeNames", spec := "latticeNames", inPlace := ["slices.overlaps[shipwright/api.Fact]"], unfollowed := true, recurses := true, apart := false, narrowed := true }
def LatticeNamesUptoSaid : Prop := latticeNamesUptoRow.holds Try.pinned (OpenSpec.upto latticeNamesSpec)

/-- 'shipwrightlaw11.LatticeTells', WHERE WHAT IT READS IS OF BULK AT MOST 1048576: true; the input reads as it did. -/
def latticeTellsUptoRow : OpenClaim := { program := "ytdfmfjahnnifnaa", sum := "6f46dedfac6d68fa57e250706592aac38a0f2dd269b402effa0e959ca99725c7", func := "shipwright/shipwrightlaw11.LatticeTells", spec := "latticeTells", inPlace := ["slices.overlaps[shipwright/api.Fact]"], unfollowed := true, recurses := true, apart := false, narrowed := true }
def LatticeTellsUptoSaid : Prop := latticeTellsUptoRow.holds Try.pinned (OpenSpec.upto latticeTellsSpec)

/-- 'shipwrightlaw11.LatticeMerges', WHERE WHAT IT READS IS OF BULK AT MOST 1048576: true; the input reads as it did. -/
def latticeMergesUptoRow : OpenClaim := { program := "ytdfmfjahnnifnaa", sum := "6f46dedfac6d68fa57e250706592aac38a0f2dd269b402effa0e959ca99725c7", func := "shipwright/shipwrightlaw11.LatticeMerges", spec := "latticeMerges", inPlace := ["slices.overlaps[shipwright/api.Fact]"], unfollowed := true, recurses := true, apart := false, narrowed := true }
def LatticeMergesUptoSaid : Prop := latticeMergesUptoRow.holds Try.pinned (OpenSpec.upto latticeMergesSpec)

/-- 'shipwrightlaw11.LatticeJoins', WHERE WHAT IT READS IS OF BULK AT MOST 1048576: true; the input reads as it did. -/
def latticeJoinsUptoRow : OpenClaim := { program := "ytdfmfjahnnifnaa", sum := "6f46dedfac6d68fa57e250706592aac38a0f2dd269b402effa0e959ca99725c7", func := "shipwright/shipwrightlaw11.LatticeJoins", spec := "latticeJoins", inPlace := ["slices.overlaps[shipwright/api.Fact]"], unfollowed := true, recurses := true, apart := false, narrowed := true }
def LatticeJoinsUptoSaid : Prop := latticeJoinsUptoRow.holds Try.pinned (OpenSpec.upto latticeJoinsSpec)

/-- 'shipwrightlaw11.LatticeRises', WHERE WHAT IT READS IS OF BULK AT MOST 1048576: true; the input reads as it did. -/
def latticeRisesUptoRow : OpenClaim := { program := "ytdfmfjahnnifnaa", sum := "6f46dedfac6d68fa57e250706592aac38a0f2dd269b402effa0e959ca99725c7", func := "shipwright/shipwrightlaw11.LatticeRises", spec := "latticeRises", inPlace := ["slices.overlaps[shipwright/api.Fact]"], unfollowed := true, recurses := true, apart := false, narrowed := true }
def LatticeRisesUptoSaid : Prop := latticeRisesUptoRow.holds Try.pinned (OpenSpec.upto latticeRisesSpec)

/-- 'shipwrightlaw11.LatticeBest', WHERE WHAT IT READS IS OF BULK AT MOST 1048576: true; the input reads as it did. -/
def latticeBestUptoRow : OpenClaim := { program := "ytdfmfjahnnifnaa", sum := "6f46dedfac6d68fa57e250706592aac38a0f2dd269b402effa0e959ca99725c7", func := "shipwright/shipwrightlaw11.LatticeBest", spec := "latticeBest", inPlace := ["slices.overlaps[shipwright/api.Fact]"], unfollowed := true, recurses := true, apart := false, narrowed := true }
def LatticeBestUptoSaid : Prop := latticeBestUptoRow.holds Try.pinned (OpenSpec.upto latticeBestSpec)

/-- 'shipwrightlaw11.LatticeMany', WHERE WHAT IT READS IS OF BULK AT MOST 1048576: true; the input reads as it did. -/
def latticeManyUptoRow : OpenClaim := { program := "ytdfmfjahnnifnaa", sum := "6f46dedfac6d68fa57e250706592aac38a0f2dd269b402effa0e959ca99725c7", func := "shipwright/shipwrightlaw11.LatticeMany", spec := "latticeMany", inPlace := ["slices.overlaps[shipwright/api.Fact]"], unfollowed := true, recurses := true, apart := false, narrowed := true }
def LatticeManyUptoSaid : Prop := latticeManyUptoRow.holds Try.pinned (OpenSpec.upto latticeManySpec)

/-- 'shipwrightlaw11.LatticeWho', WHERE WHAT IT READS IS OF BULK AT MOST 1048576: true; the input reads as it did. -/
def latticeWhoUptoRow : OpenClaim := { program := "ytdfmfjahnnifnaa", sum := "6f46dedfac6d68fa57e250706592aac38a0f2dd269b402effa0e959ca99725c7", func := "shipwright/shipwrightlaw11.LatticeWho", spec := "latticeWho", inPlace := ["slices.overlaps[shipwright/api.Fact]"], unfollowed := true, recurses := true, apart := false, narrowed := true }
def LatticeWhoUptoSaid : Prop := latticeWhoUptoRow.holds Try.pinned (OpenSpec.upto latticeWhoSpec)

/-- 'shipwrightlaw11.LatticeOwn', WHERE WHAT IT READS IS OF BULK AT MOST 1048576: true; the input reads as it did. -/
def latticeOwnUptoRow : OpenClaim := { program := "ytdfmfjahnnifnaa", sum := "6f46dedfac6d68fa57e250706592aac38a0f2dd269b402effa0e959ca99725c7", func := "shipwright/shipwrightlaw11.LatticeOwn", spec := "latticeOwn", inPlace := ["slices.overlaps[shipwright/api.Fact]"], unfollowed := true, recurses := true, apart := false, narrowed := true }
def LatticeOwnUptoSaid : Prop := latticeOwnUptoRow.holds Try.pinned (OpenSpec.upto latticeOwnSpec)

end Rows
end Go.Proofs.Ytdfmfjahnnifnaa
