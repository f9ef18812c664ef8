/-
  No cell of these rows narrows 'for every input' (looked for: loops, veiled, ifaces, maps, wideKeys, modest, calm, conditions, laid).
  DERIVED. THE GIVEN ROWS OF THIS SEAT. 5 by the template 'for every input the law returns true; each argument reads behind the call as it read before'; 0 by the template 'total and deterministic' (their statements: YtegdopbiiddamaaTotals.lean).
  GIVEN WITH THE SEED: the statements are not yours to turn. If you find one false, say at which input.
  Laid BY PROGRAM, IN A SANDBOX (cutbox-rows.mjs): the forced cells as the released guide's own fill.sh prints them over the translation e7007e85c5eb1f7b… (all of the seat's roots in one cut). By AI agents, Wed Nov 11 2026. No macro, syntax, notation, axiom, sorry.
-/
import Derived.Test.YtegdopbiiddamaaChecked
import GoSem.Claim
import GoSem.ClaimJoined
import GoSem.ClaimMapViews
import Derived.JoinedTies
import Derived.KernelRfl
namespace Go.Proofs.Ytegdopbiiddamaa
/- THE CELL 'sum', in the pinned program and in every row, IS THE sha256 OF THE DUMP (.gsa) THAT YtegdopbiiddamaaProg.lean LOADS. Nothing in Lean hashes anything: it is a label: what it is worth is what the hold of that sum in a sandbox is worth. -/
noncomputable def Try.pinned : Pinned := { name := "ytegdopbiiddamaa", sum := "e7007e85c5eb1f7b0c14d3aeac9fd0381ca6e6713910fa5847c4bd7d860840e1", checked := Try.checked }
namespace Rows
def none {H : Type} : Left H := { results := [], args := [] }

/-- 'shipwrightlaw16.LeaseTells': WHATEVER THE INPUT: true; the input reads as it did. -/
def leaseTellsSpec : ChangeSpec := { name := "leaseTells", fn := fun _ => fun
  | [d1, d2, d3, d4, d5, d6] => { results := [.lit (.bool true)], args := [d1, d2, d3, d4, d5, d6] }
  | _ => none }
def leaseTellsRow : OpenClaim := { program := "ytegdopbiiddamaa", sum := "e7007e85c5eb1f7b0c14d3aeac9fd0381ca6e6713910fa5847c4bd7d860840e1", func := "shipwright/shipwrightlaw16.LeaseTells", spec := "leaseTells", unfollowed := true, recurses := true, apart := false }
def LeaseTellsSaid : Prop := leaseTellsRow.holds Try.pinned (OpenSpec.ofChange leaseTellsSpec)

/-- ITS FALSE NEIGHBOUR: 'it returns false'. Refute it at one input. -/
def leaseTellsWrong : ChangeSpec := { name := "leaseTells", fn := fun _ => fun
  | [d1, d2, d3, d4, d5, d6] => { results := [.lit (.bool false)], args := [d1, d2, d3, d4, d5, d6] }
  | _ => none }
def LeaseTellsWrongFalsely : Prop := leaseTellsRow.holds Try.pinned (OpenSpec.ofChange leaseTellsWrong)

/-- 'shipwrightlaw16.LeaseFits': WHATEVER THE INPUT: true; the input reads as it did. -/
def leaseFitsSpec : ChangeSpec := { name := "leaseFits", fn := fun _ => fun
  | [d1, d2, d3, d4] => { results := [.lit (.bool true)], args := [d1, d2, d3, d4] }
  | _ => none }
def leaseFitsRow : OpenClaim := { program := "ytegdopbiiddamaa", sum := "e7007e85c5eb1f7b0c14d3aeac9fd0381ca6e6713910fa5847c4bd7d860840e1", func := "shipwright/shipwrightlaw16.LeaseFits", spec := "leaseFits", unfollowed := true, recurses := true, apart := false }
def LeaseFitsSaid : Prop := leaseFitsRow.holds Try.pinned (OpenSpec.ofChange leaseFitsSpec)

/-- ITS FALSE NEIGHBOUR: 'it returns false'. Refute it at one input. -/
def leaseFitsWrong : ChangeSpec := { name := "leaseFits", fn := fun _ => fun
  | [d1, d2, d3, d4] => { results := [.lit (.bool false)], args := [d1, d2, d3, d4] }
  | _ => none }
def LeaseFitsWrongFalsely : Prop := leaseFitsRow.holds Try.pinned (OpenSpec.ofChange leaseFitsWrong)

/-- 'shipwrightlaw16.LeaseMeets': WHATEVER THE INPUT: true; the input reads as it did. -/
def leaseMeetsSpec : ChangeSpec := { name := "leaseMeets", fn := fun _ => fun
  | [d1, d2, d3, d4, d5] => { results := [.lit (.bool true)], args := [d1, d2, d3, d4, d5] }
  | _ => none }
def leaseMeetsRow : OpenClaim := { program := "ytegdopbiiddamaa", sum := "e7007e85c5eb1f7b0c14d3aeac9fd0381ca6e6713910fa5847c4bd7d860840e1", func := "shipwright/shipwrightlaw16.LeaseMeets", spec := "leaseMeets", unfollowed := true, recurses := true, apart := false }
def LeaseMeetsSaid : Prop := leaseMeetsRow.holds Try.pinned (OpenSpec.ofChange leaseMeetsSpec)

/-- ITS FALSE NEIGHBOUR: 'it returns false'. Refute it at one input. -/
def leaseMeetsWrong : ChangeSpec := { name := "leaseMeets", fn := fun _ => fun
  | [d1, d2, d3, d4, d5] => { results := [.lit (.bool false)], args := [d1, d2, d3, d4, d5] }
  | _ => none }
def LeaseMeetsWrongFalsely : Prop := leaseMeetsRow.holds Try.pinned (OpenSpec.ofChange leaseMeetsWrong)

/-- 'shipwrightlaw16.LeaseMore': WHATEVER THE INPUT: true; the input reads as it did. -/
def leaseMoreSpec : ChangeSpec := { name := "leaseMore", fn := fun _ => fun
  | [d1, d2, d3, d4] => { results := [.lit (.bool true)], args := [d1, d2, d3, d4] }
  | _ => none }
def leaseMoreRow : OpenClaim := { program := "ytegdopbiiddamaa", sum := "e7007e85c5eb1f7b0c14d3aeac9fd0381ca6e6713910fa5847c4bd7d860840e1", func := "shipwright/shipwrightlaw16.LeaseMore", spec := "leaseMore", unfollowed := true, recurses := true, apart := false }
def LeaseMoreSaid : Prop := leaseMoreRow.holds Try.pinned (OpenSpec.ofChange leaseMoreSpec)

/-- ITS FALSE NEIGHBOUR: 'it returns false'. Refute it at one input. -/
def leaseMoreWrong : ChangeSpec := { name := "leaseMore", fn := fun _ => fun
  | [d1, d2, d3, d4] => { results := [.lit (.bool false)], args := [d1, d2, d3, d4] }
  | _ => none }
def LeaseMoreWrongFalsely : Prop := leaseMoreRow.holds Try.pinned (OpenSpec.ofChange leaseMoreWrong)

/-- 'shipwrightlaw16.LeaseSlots': WHATEVER THE INPUT: true; the input reads as it did. -/
def leaseSlotsSpec : ChangeSpec := { name := "leaseSlots", fn := fun _ => fun
  | [d1, d2, d3] => { results := [.lit (.bool true)], args := [d1, d2, d3] }
  | _ => none }
def leaseSlotsRow : OpenClaim := { program := "ytegdopbiiddamaa", sum := "e7007e85c5eb1f7b0c14d3aeac9fd0381ca6e6713910fa5847c4bd7d860840e1", func := "shipwright/shipwrightlaw16.LeaseSlots", spec := "leaseSlots", unfollowed := true, recurses := true, apart := false }
def LeaseSlotsSaid : Prop := leaseSlotsRow.holds Try.pinned (OpenSpec.ofChange leaseSlotsSpec)

/-- ITS FALSE NEIGHBOUR: 'it returns false'. Refute it at one input. -/
def leaseSlotsWrong : ChangeSpec := { name := "leaseSlots", fn := fun _ => fun
  | [d1, d2, d3] => { results := [.lit (.bool false)], args := [d1, d2, d3] }
  | _ => none }
def LeaseSlotsWrongFalsely : Prop := leaseSlotsRow.holds Try.pinned (OpenSpec.ofChange leaseSlotsWrong)

/- THE SECOND FORM. 'bulk': how many values and letters a reading holds, each counted each time it is reached (what is shared counts as often as it is met; a slice's spare places count too). A statement '..UptoSaid' is the law's where the arguments, and the package variables that the reading takes, are together of bulk at most 1048576: NARROWER than '..Said'. Prove '..Said' where nothing that the law and all that it calls make is longer than what came in: it says more and counts as full. Else prove '..UptoSaid'. A law counts once. -/
mutual
def uptoBulk {H : Type} : DataW H → Nat
  | .lit (.string bytes) => bytes.length + 1
  | .lit _ => 1
  | .nil => 1
  | .ptr d => uptoBulk d + 1
  | .slice elems spare => uptoBulkAll elems + uptoBulkAll spare + 1
  | .agg parts => uptoBulkAll parts + 1
  | .iface _ d => uptoBulk d + 1
  | .map entries => uptoBulkEntries entries + 1
  | .held _ => 1
def uptoBulkAll {H : Type} : List (DataW H) → Nat
  | [] => 0
  | d :: r => uptoBulk d + uptoBulkAll r
def uptoBulkEntries {H : Type} : List (Lit × DataW H) → Nat
  | [] => 0
  | x :: r => uptoBulkEntry x + uptoBulkEntries r
def uptoBulkEntry {H : Type} : Lit × DataW H → Nat
  | (.string bytes, d) => bytes.length + uptoBulk d + 1
  | (_, d) => uptoBulk d + 1
 end
def uptoSmall : (H : Type) → List (DataW H) → Bool := fun _ ds => decide (uptoBulkAll ds ≤ 1048576)
def OpenSpec.upto (s : _root_.Go.ChangeSpec) : _root_.Go.OpenSpec := { _root_.Go.OpenSpec.ofChange s with cond := some uptoSmall }

/-- 'shipwrightlaw16.LeaseTells', WHERE WHAT IT READS IS OF BULK AT MOST 1048576: true; the input reads as it did. -/
def leaseTellsUptoRow : OpenClaim := { program := "ytegdopbiiddamaa", sum := "e7007e85c5eb1f7b0c14d3aeac9fd0381ca6e6713910fa5847c4bd7d860840e1", func := "shipwright/shipwrightlaw16.LeaseTells", spec := "leaseTells", unfollowed := true, recurses := true, apart := false, narrowed := true }
def LeaseTellsUptoSaid : Prop := leaseTellsUptoRow.holds Try.pinned (OpenSpec.upto leaseTellsSpec)

/-- 'shipwrightlaw16.LeaseFits', WHERE WHAT IT READS IS OF BULK AT MOST 1048576: true; the input reads as it did. -/
def leaseFitsUptoRow : OpenClaim := { program := "ytegdopbiiddamaa", sum := "e7007e85c5eb1f7b0c14d3aeac9fd0381ca6e6713910fa5847c4bd7d860840e1", func := "shipwright/shipwrightlaw16.LeaseFits", spec := "leaseFits", unfollowed := true, recurses := true, apart := false, narrowed := true }
def LeaseFitsUptoSaid : Prop := leaseFitsUptoRow.holds Try.pinned (OpenSpec.upto leaseFitsSpec)

/-- 'shipwrightlaw16.LeaseMeets', WHERE WHAT IT READS IS OF BULK AT MOST 1048576: true; the input reads as it did. -/
def leaseMeetsUptoRow : OpenClaim := { program := "ytegdopbiiddamaa", sum := "e7007e85c5eb1f7b0c14d3aeac9fd0381ca6e6713910fa5847c4bd7d860840e1", func := "shipwright/shipwrightlaw16.LeaseMeets", spec := "leaseMeets", unfollowed := true, recurses := true, apart := false, narrowed := true }
def LeaseMeetsUptoSaid : Prop := leaseMeetsUptoRow.holds Try.pinned (OpenSpec.upto leaseMeetsSpec)

/-- 'shipwrightlaw16.LeaseMore', WHERE WHAT IT READS IS OF BULK AT MOST 1048576: true; the input reads as it did. -/
def leaseMoreUptoRow : OpenClaim := { program := "ytegdopbiiddamaa", sum := "e7007e85c5eb1f7b0c14d3aeac9fd0381ca6e6713910fa5847c4bd7d860840e1", func := "shipwright/shipwrightlaw16.LeaseMore", spec := "leaseMore", unfollowed := true, recurses := true, apart := false, narrowed := true }
def LeaseMoreUptoSaid : Prop := leaseMoreUptoRow.holds Try.pinned (OpenSpec.upto leaseMoreSpec)

/-- 'shipwrightlaw16.LeaseSlots', WHERE WHAT IT READS IS OF BULK AT MOST 1048576: true; the input reads as it did. -/
def leaseSlotsUptoRow : OpenClaim := { program := "ytegdopbiiddamaa", sum := "e7007e85c5eb1f7b0c14d3aeac9fd0381ca6e6713910fa5847c4bd7d860840e1", func := "shipwright/shipwrightlaw16.LeaseSlots", spec := "leaseSlots", unfollowed := true, recurses := true, apart := false, narrowed := true }
def LeaseSlotsUptoSaid : Prop := leaseSlotsUptoRow.holds Try.pinned (OpenSpec.upto leaseSlotsSpec)

end Rows
end Go.Proofs.Ytegdopbiiddamaa
