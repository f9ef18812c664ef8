/-
  No cell of these rows narrows 'for every input' (looked for: loops, veiled, ifaces, maps, wideKeys, modest, calm, conditions, laid).
  DERIVED. THE GIVEN ROWS OF THIS SEAT. 7 by the template 'for every input the law returns true; each argument reads behind the call as it read before'; 0 by the template 'total and deterministic' (their statements: YtlcpiompmpccoaaTotals.lean).
  GIVEN WITH THE SEED: the statements are not yours to turn. If you find one false, say at which input.
  Laid BY PROGRAM, IN A SANDBOX (cutbox-rows.mjs): the forced cells as the released guide's own fill.sh prints them over the translation 1038c14cd0ac4f6b… (all of the seat's roots in one cut). By AI agents, Wed Nov 11 2026. No macro, syntax, notation, axiom, sorry.
-/
import Derived.Test.YtlcpiompmpccoaaChecked
import GoSem.Claim
import GoSem.ClaimJoined
import GoSem.ClaimMapViews
import Derived.JoinedTies
import Derived.KernelRfl
namespace Go.Proofs.Ytlcpiompmpccoaa
/- THE CELL 'sum', in the pinned program and in every row, IS THE sha256 OF THE DUMP (.gsa) THAT YtlcpiompmpccoaaProg.lean LOADS. Nothing in Lean hashes anything: it is a label: what it is worth is what the hold of that sum in a sandbox is worth. -/
noncomputable def Try.pinned : Pinned := { name := "ytlcpiompmpccoaa", sum := "1038c14cd0ac4f6b2304a191fe063637e8165e87d9268643dfe8f644d334b1fb", checked := Try.checked }
namespace Rows
def none {H : Type} : Left H := { results := [], args := [] }

/-- 'shipwrightlaw13.MemberNames': WHATEVER THE INPUT: true; the input reads as it did. -/
def memberNamesSpec : ChangeSpec := { name := "memberNames", fn := fun _ => fun
  | [] => { results := [.lit (.bool true)], args := [] }
  | _ => none }
def memberNamesRow : OpenClaim := { program := "ytlcpiompmpccoaa", sum := "1038c14cd0ac4f6b2304a191fe063637e8165e87d9268643dfe8f644d334b1fb", func := "shipwright/shipwrightlaw13.MemberNames", spec := "memberNames", unfollowed := true, recurses := true, apart := false }
def MemberNamesSaid : Prop := memberNamesRow.holds Try.pinned (OpenSpec.ofChange memberNamesSpec)

/-- ITS FALSE NEIGHBOUR: 'it returns false'. Refute it at one input. -/
def memberNamesWrong : ChangeSpec := { name := "memberNames", fn := fun _ => fun
  | [] => { results := [.lit (.bool false)], args := [] }
  | _ => none }
def MemberNamesWrongFalsely : Prop := memberNamesRow.holds Try.pinned (OpenSpec.ofChange memberNamesWrong)

/-- 'shipwrightlaw13.MemberTells': WHATEVER THE INPUT: true; the input reads as it did. -/
def memberTellsSpec : ChangeSpec := { name := "memberTells", fn := fun _ => fun
  | [d1, d2] => { results := [.lit (.bool true)], args := [d1, d2] }
  | _ => none }
def memberTellsRow : OpenClaim := { program := "ytlcpiompmpccoaa", sum := "1038c14cd0ac4f6b2304a191fe063637e8165e87d9268643dfe8f644d334b1fb", func := "shipwright/shipwrightlaw13.MemberTells", spec := "memberTells", unfollowed := true, recurses := true, apart := false }
def MemberTellsSaid : Prop := memberTellsRow.holds Try.pinned (OpenSpec.ofChange memberTellsSpec)

/-- ITS FALSE NEIGHBOUR: 'it returns false'. Refute it at one input. -/
def memberTellsWrong : ChangeSpec := { name := "memberTells", fn := fun _ => fun
  | [d1, d2] => { results := [.lit (.bool false)], args := [d1, d2] }
  | _ => none }
def MemberTellsWrongFalsely : Prop := memberTellsRow.holds Try.pinned (OpenSpec.ofChange memberTellsWrong)

/-- 'shipwrightlaw13.MemberLists': WHATEVER THE INPUT: true; the input reads as it did. -/
def memberListsSpec : ChangeSpec := { name := "memberLists", fn := fun _ => fun
  | [d1, d2] => { results := [.lit (.bool true)], args := [d1, d2] }
  | _ => none }
def memberListsRow : OpenClaim := { program := "ytlcpiompmpccoaa", sum := "1038c14cd0ac4f6b2304a191fe063637e8165e87d9268643dfe8f644d334b1fb", func := "shipwright/shipwrightlaw13.MemberLists", spec := "memberLists", unfollowed := true, recurses := true, apart := false }
def MemberListsSaid : Prop := memberListsRow.holds Try.pinned (OpenSpec.ofChange memberListsSpec)

/-- ITS FALSE NEIGHBOUR: 'it returns false'. Refute it at one input. -/
def memberListsWrong : ChangeSpec := { name := "memberLists", fn := fun _ => fun
  | [d1, d2] => { results := [.lit (.bool false)], args := [d1, d2] }
  | _ => none }
def MemberListsWrongFalsely : Prop := memberListsRow.holds Try.pinned (OpenSpec.ofChange memberListsWrong)

/-- 'shipwrightlaw13.MemberJoins': WHATEVER THE INPUT: true; the input reads as it did. -/
def memberJoinsSpec : ChangeSpec := { name := "memberJoins", fn := fun _ => fun
  | [d1, d2, d3] => { results := [.lit (.bool true)], args := [d1, d2, d3] }
  | _ => none }
def memberJoinsRow : OpenClaim := { program := "ytlcpiompmpccoaa", sum := "1038c14cd0ac4f6b2304a191fe063637e8165e87d9268643dfe8f644d334b1fb", func := "shipwright/shipwrightlaw13.MemberJoins", spec := "memberJoins", unfollowed := true, recurses := true, apart := false }
def MemberJoinsSaid : Prop := memberJoinsRow.holds Try.pinned (OpenSpec.ofChange memberJoinsSpec)

/-- ITS FALSE NEIGHBOUR: 'it returns false'. Refute it at one input. -/
def memberJoinsWrong : ChangeSpec := { name := "memberJoins", fn := fun _ => fun
  | [d1, d2, d3] => { results := [.lit (.bool false)], args := [d1, d2, d3] }
  | _ => none }
def MemberJoinsWrongFalsely : Prop := memberJoinsRow.holds Try.pinned (OpenSpec.ofChange memberJoinsWrong)

/-- 'shipwrightlaw13.MemberSpeaks': WHATEVER THE INPUT: true; the input reads as it did. -/
def memberSpeaksSpec : ChangeSpec := { name := "memberSpeaks", fn := fun _ => fun
  | [d1, d2] => { results := [.lit (.bool true)], args := [d1, d2] }
  | _ => none }
def memberSpeaksRow : OpenClaim := { program := "ytlcpiompmpccoaa", sum := "1038c14cd0ac4f6b2304a191fe063637e8165e87d9268643dfe8f644d334b1fb", func := "shipwright/shipwrightlaw13.MemberSpeaks", spec := "memberSpeaks", unfollowed := true, recurses := true, apart := false }
def MemberSpeaksSaid : Prop := memberSpeaksRow.holds Try.pinned (OpenSpec.ofChange memberSpeaksSpec)

/-- ITS FALSE NEIGHBOUR: 'it returns false'. Refute it at one input. -/
def memberSpeaksWrong : ChangeSpec := { name := "memberSpeaks", fn := fun _ => fun
  | [d1, d2] => { results := [.lit (.bool false)], args := [d1, d2] }
  | _ => none }
def MemberSpeaksWrongFalsely : Prop := memberSpeaksRow.holds Try.pinned (OpenSpec.ofChange memberSpeaksWrong)

/-- 'shipwrightlaw13.MemberEnds': WHATEVER THE INPUT: true; the input reads as it did. -/
def memberEndsSpec : ChangeSpec := { name := "memberEnds", fn := fun _ => fun
  | [d1, d2] => { results := [.lit (.bool true)], args := [d1, d2] }
  | _ => none }
def memberEndsRow : OpenClaim := { program := "ytlcpiompmpccoaa", sum := "1038c14cd0ac4f6b2304a191fe063637e8165e87d9268643dfe8f644d334b1fb", func := "shipwright/shipwrightlaw13.MemberEnds", spec := "memberEnds", unfollowed := true, recurses := true, apart := false }
def MemberEndsSaid : Prop := memberEndsRow.holds Try.pinned (OpenSpec.ofChange memberEndsSpec)

/-- ITS FALSE NEIGHBOUR: 'it returns false'. Refute it at one input. -/
def memberEndsWrong : ChangeSpec := { name := "memberEnds", fn := fun _ => fun
  | [d1, d2] => { results := [.lit (.bool false)], args := [d1, d2] }
  | _ => none }
def MemberEndsWrongFalsely : Prop := memberEndsRow.holds Try.pinned (OpenSpec.ofChange memberEndsWrong)

/-- 'shipwrightlaw13.MemberOwn': WHATEVER THE INPUT: true; the input reads as it did. -/
def memberOwnSpec : ChangeSpec := { name := "memberOwn", fn := fun _ => fun
  | [d1, d2] => { results := [.lit (.bool true)], args := [d1, d2] }
  | _ => none }
def memberOwnRow : OpenClaim := { program := "ytlcpiompmpccoaa", sum := "1038c14cd0ac4f6b2304a191fe063637e8165e87d9268643dfe8f644d334b1fb", func := "shipwright/shipwrightlaw13.MemberOwn", spec := "memberOwn", unfollowed := true, recurses := true, apart := false }
def MemberOwnSaid : Prop := memberOwnRow.holds Try.pinned (OpenSpec.ofChange memberOwnSpec)

/-- ITS FALSE NEIGHBOUR: 'it returns false'. Refute it at one input. -/
def memberOwnWrong : ChangeSpec := { name := "memberOwn", fn := fun _ => fun
  | [d1, d2] => { results := [.lit (.bool false)], args := [d1, d2] }
  | _ => none }
def MemberOwnWrongFalsely : Prop := memberOwnRow.holds Try.pinned (OpenSpec.ofChange memberOwnWrong)

/- THE SECOND FORM. 'bulk': how many values and letters a reading holds, each counted each time it is reached (what is shared counts as often as it is met; a slice's spare places count too). A statement '..UptoSaid' is the law's where the arguments, and the package variables that the reading takes, are together of bulk at most 1048576: NARROWER than '..Said'. Prove '..Said' where nothing that the law and all that it calls make is longer than what came in: it says more and counts as full. Else prove '..UptoSaid'. A law counts once. -/
mutual
def uptoBulk {H : Type} : DataW H → Nat
  | .lit (.string bytes) => bytes.length + 1
  | .lit _ => 1
  | .nil => 1
  | .ptr d => uptoBulk d + 1
  | .slice elems spare => uptoBulkAll elems + uptoBulkAll spare + 1
  | .agg parts => uptoBulkAll parts + 1
  | .iface _ d => uptoBulk d + 1
  | .map entries => uptoBulkEntries entries + 1
  | .held _ => 1
def uptoBulkAll {H : Type} : List (DataW H) → Nat
  | [] => 0
  | d :: r => uptoBulk d + uptoBulkAll r
def uptoBulkEntries {H : Type} : List (Lit × DataW H) → Nat
  | [] => 0
  | x :: r => uptoBulkEntry x + uptoBulkEntries r
def uptoBulkEntry {H : Type} : Lit × DataW H → Nat
  | (.string bytes, d) => bytes.length + uptoBulk d + 1
  | (_, d) => uptoBulk d + 1
 end
def uptoSmall : (H : Type) → List (DataW H) → Bool := fun _ ds => decide (uptoBulkAll ds ≤ 1048576)
def OpenSpec.upto (s : _root_.Go.ChangeSpec) : _root_.Go.OpenSpec := { _root_.Go.OpenSpec.ofChange s with cond := some uptoSmall }

/-- 'shipwrightlaw13.MemberNames', WHERE WHAT IT READS IS OF BULK AT MOST 1048576: true; the input reads as it did. -/
def memberNamesUptoRow : OpenClaim := { program := "ytlcpiompmpccoaa", sum := "1038c14cd0ac4f6b2304a191fe063637e8165e87d9268643dfe8f644d334b1fb", func := "shipwright/shipwrightlaw13.MemberNames", spec := "memberNames", unfollowed := true, recurses := true, apart := false, narrowed := true }
def MemberNamesUptoSaid : Prop := memberNamesUptoRow.holds Try.pinned (OpenSpec.upto memberNamesSpec)

/-- 'shipwrightlaw13.MemberTells', WHERE WHAT IT READS IS OF BULK AT MOST 1048576: true; the input reads as it did. -/
def memberTellsUptoRow : OpenClaim := { program := "ytlcpiompmpccoaa", sum := "1038c14cd0ac4f6b2304a191fe063637e8165e87d9268643dfe8f644d334b1fb", func := "shipwright/shipwrightlaw13.MemberTells", spec := "memberTells", unfollowed := true, recurses := true, apart := false, narrowed := true }
def MemberTellsUptoSaid : Prop := memberTellsUptoRow.holds Try.pinned (OpenSpec.upto memberTellsSpec)

/-- 'shipwrightlaw13.MemberLists', WHERE WHAT IT READS IS OF BULK AT MOST 1048576: true; the input reads as it did. -/
def memberListsUptoRow : OpenClaim := { program := "ytlcpiompmpccoaa", sum := "1038c14cd0ac4f6b2304a191fe063637e8165e87d9268643dfe8f644d334b1fb", func := "shipwright/shipwrightlaw13.MemberLists", spec := "memberLists", unfollowed := true, recurses := true, apart := false, narrowed := true }
def MemberListsUptoSaid : Prop := memberListsUptoRow.holds Try.pinned (OpenSpec.upto memberListsSpec)

/-- 'shipwrightlaw13.MemberJoins', WHERE WHAT IT READS IS OF BULK AT MOST 1048576: true; the input reads as it did. -/
def memberJoinsUptoRow : OpenClaim := { program := "ytlcpiompmpccoaa", sum := "1038c14cd0ac4f6b2304a191fe063637e8165e87d9268643dfe8f644d334b1fb", func := "shipwright/shipwrightlaw13.MemberJoins", spec := "memberJoins", unfollowed := true, recurses := true, apart := false, narrowed := true }
def MemberJoinsUptoSaid : Prop := memberJoinsUptoRow.holds Try.pinned (OpenSpec.upto memberJoinsSpec)

/-- 'shipwrightlaw13.MemberSpeaks', WHERE WHAT IT READS IS OF BULK AT MOST 1048576: true; the input reads as it did. -/
def memberSpeaksUptoRow : OpenClaim := { program := "ytlcpiompmpccoaa", sum := "1038c14cd0ac4f6b2304a191fe063637e8165e87d9268643dfe8f644d334b1fb", func := "shipwright/shipwrightlaw13.MemberSpeaks", spec := "memberSpeaks", unfollowed := true, recurses := true, apart := false, narrowed := true }
def MemberSpeaksUptoSaid : Prop := memberSpeaksUptoRow.holds Try.pinned (OpenSpec.upto memberSpeaksSpec)

/-- 'shipwrightlaw13.MemberEnds', WHERE WHAT IT READS IS OF BULK AT MOST 1048576: true; the input reads as it did. -/
def memberEndsUptoRow : OpenClaim := { program := "ytlcpiompmpccoaa", sum := "1038c14cd0ac4f6b2304a191fe063637e8165e87d9268643dfe8f644d334b1fb", func := "shipwright/shipwrightlaw13.MemberEnds", spec := "memberEnds", unfollowed := true, recurses := true, apart := false, narrowed := true }
def MemberEndsUptoSaid : Prop := memberEndsUptoRow.holds Try.pinned (OpenSpec.upto memberEndsSpec)

/-- 'shipwrightlaw13.MemberOwn', WHERE WHAT IT READS IS OF BULK AT MOST 1048576: true; the input reads as it did. -/
def memberOwnUptoRow : OpenClaim := { program := "ytlcpiompmpccoaa", sum := "1038c14cd0ac4f6b2304a191fe063637e8165e87d9268643dfe8f644d334b1fb", func := "shipwright/shipwrightlaw13.MemberOwn", spec := "memberOwn", unfollowed := true, recurses := true, apart := false, narrowed := true }
def MemberOwnUptoSaid : Prop := memberOwnUptoRow.holds Try.pinned (OpenSpec.upto memberOwnSpec)

end Rows
end Go.Proofs.Ytlcpiompmpccoaa
