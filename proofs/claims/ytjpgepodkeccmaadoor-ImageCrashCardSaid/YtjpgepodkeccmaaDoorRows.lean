/-
  NARROWER THAN 'FOR EVERY INPUT', by the rows' own cells (each row's printed sentence says how): ImageNames: laid · ImageBlocks: laid · ImageBack: laid · ImageCrash: laid · ImageNil: laid · ImageWholes: laid · ImageBoth: laid.
  DERIVED. THE GIVEN ROWS OF THIS SEAT. 7 by the template 'for every input the law returns true; each argument reads behind the call as it read before'; 0 by the template 'total and deterministic' (their statements: YtjpgepodkeccmaaDoorTotals.lean).
  GIVEN WITH THE SEED: the statements are not yours to turn. If you find one false, say at which input.
  Laid BY PROGRAM, IN A SANDBOX (cutbox-rows.mjs): the forced cells as the released guide's own fill.sh prints them over the translation e8f9ecc2c6442cba… (all of the seat's roots in one cut). By AI agents, Wed Nov 11 2026. No macro, syntax, notation, axiom, sorry.
-/
import Derived.Test.YtjpgepodkeccmaaDoorChecked
import GoSem.Claim
import GoSem.ClaimJoined
import GoSem.ClaimMapViews
import Derived.JoinedTies
import Derived.KernelRfl
namespace Go.Proofs.YtjpgepodkeccmaaDoor
/- THE CELL 'sum', in the pinned program and in every row, IS THE sha256 OF THE DUMP (.gsa) THAT YtjpgepodkeccmaaDoorProg.lean LOADS. Nothing in Lean hashes anything: it is a label: what it is worth is what the hold of that sum in a sandbox is worth. -/
noncomputable def Tryd.pinned : Pinned := { name := "ytjpgepodkeccmaadoor", sum := "e8f9ecc2c6442cba4e7b90f58139f1cd8da57d10b621f8d60f743fafe92c1df8", checked := Tryd.checked }
namespace Rows
def none {H : Type} : Left H := { results := [], args := [] }

/- WHAT THE LISTED PACKAGE-LEVEL VARIABLES READ AS WHEN THE CALL BEGINS. Each datum BY PROGRAM (the guide's laid-datum.mjs) off the statement by which the dump's own 'gosem.cut.vars' lays the variable. In a bare row this is a premise. The card (YtjpgepodkeccmaaDoorCards.lean) ties it to the program's text. -/
def laid_shipwright_sha_squareRoots {H : Type} : DataW H := .agg [.lit (.int .u32 1779033703), .lit (.int .u32 3144134277), .lit (.int .u32 1013904242), .lit (.int .u32 2773480762), .lit (.int .u32 1359893119), .lit (.int .u32 2600822924), .lit (.int .u32 528734635), .lit (.int .u32 1541459225)]
def laid_shipwright_sha_cubeRoots {H : Type} : DataW H := .agg [.lit (.int .u32 1116352408), .lit (.int .u32 1899447441), .lit (.int .u32 3049323471), .lit (.int .u32 3921009573), .lit (.int .u32 961987163), .lit (.int .u32 1508970993), .lit (.int .u32 2453635748), .lit (.int .u32 2870763221), .lit (.int .u32 3624381080), .lit (.int .u32 310598401), .lit (.int .u32 607225278), .lit (.int .u32 1426881987), .lit (.int .u32 1925078388), .lit (.int .u32 2162078206), .lit (.int .u32 2614888103), .lit (.int .u32 3248222580), .lit (.int .u32 3835390401), .lit (.int .u32 4022224774), .lit (.int .u32 264347078), .lit (.int .u32 604807628), .lit (.int .u32 770255983), .lit (.int .u32 1249150122), .lit (.int .u32 1555081692), .lit (.int .u32 1996064986), .lit (.int .u32 2554220882), .lit (.int .u32 2821834349), .lit (.int .u32 2952996808), .lit (.int .u32 3210313671), .lit (.int .u32 3336571891), .lit (.int .u32 3584528711), .lit (.int .u32 113926993), .lit (.int .u32 338241895), .lit (.int .u32 666307205), .lit (.int .u32 773529912), .lit (.int .u32 1294757372), .lit (.int .u32 1396182291), .lit (.int .u32 1695183700), .lit (.int .u32 1986661051), .lit (.int .u32 2177026350), .lit (.int .u32 2456956037), .lit (.int .u32 2730485921), .lit (.int .u32 2820302411), .lit (.int .u32 3259730800), .lit (.int .u32 3345764771), .lit (.int .u32 3516065817), .lit (.int .u32 3600352804), .lit (.int .u32 4094571909), .lit (.int .u32 275423344), .lit (.int .u32 430227734), .lit (.int .u32 506948616), .lit (.int .u32 659060556), .lit (.int .u32 883997877), .lit (.int .u32 958139571), .lit (.int .u32 1322822218), .lit (.int .u32 1537002063), .lit (.int .u32 1747873779), .lit (.int .u32 1955562222), .lit (.int .u32 2024104815), .lit (.int .u32 2227730452), .lit (.int .u32 2361852424), .lit (.int .u32 2428436474), .lit (.int .u32 2756734187), .lit (.int .u32 3204031479), .lit (.int .u32 3329325298)]

/-- 'shipwrightlaw08.ImageNames': WHATEVER THE INPUT: true; the input reads as it did. -/
def imageNamesSpec : ChangeSpec := { name := "imageNames", fn := fun _ => fun
  | [] => { results := [.lit (.bool true)], args := [] }
  | _ => none }
def imageNamesRow : OpenClaim := { program := "ytjpgepodkeccmaadoor", sum := "e8f9ecc2c6442cba4e7b90f58139f1cd8da57d10b621f8d60f743fafe92c1df8", func := "shipwright/shipwrightlaw08.ImageNames", spec := "imageNames", named := ["shipwright/sha.squareRoots", "shipwright/sha.cubeRoots"], apart := false, laid := [("shipwright/sha.squareRoots", laid_shipwright_sha_squareRoots), ("shipwright/sha.cubeRoots", laid_shipwright_sha_cubeRoots)] }
def ImageNamesSaid : Prop := imageNamesRow.holds Tryd.pinned (OpenSpec.ofChange imageNamesSpec)

/-- ITS FALSE NEIGHBOUR: 'it returns false'. Refute it at one input. -/
def imageNamesWrong : ChangeSpec := { name := "imageNames", fn := fun _ => fun
  | [] => { results := [.lit (.bool false)], args := [] }
  | _ => none }
def ImageNamesWrongFalsely : Prop := imageNamesRow.holds Tryd.pinned (OpenSpec.ofChange imageNamesWrong)

/-- 'shipwrightlaw08.ImageBlocks': WHATEVER THE INPUT: true; the input reads as it did. -/
def imageBlocksSpec : ChangeSpec := { name := "imageBlocks", fn := fun _ => fun
  | [d] => { results := [.lit (.bool true)], args := [d] }
  | _ => none }
def imageBlocksRow : OpenClaim := { program := "ytjpgepodkeccmaadoor", sum := "e8f9ecc2c6442cba4e7b90f58139f1cd8da57d10b621f8d60f743fafe92c1df8", func := "shipwright/shipwrightlaw08.ImageBlocks", spec := "imageBlocks", named := ["shipwright/sha.squareRoots", "shipwright/sha.cubeRoots"], apart := false, laid := [("shipwright/sha.squareRoots", laid_shipwright_sha_squareRoots), ("shipwright/sha.cubeRoots", laid_shipwright_sha_cubeRoots)] }
def ImageBlocksSaid : Prop := imageBlocksRow.holds Tryd.pinned (OpenSpec.ofChange imageBlocksSpec)

/-- ITS FALSE NEIGHBOUR: 'it returns false'. Refute it at one input. -/
def imageBlocksWrong : ChangeSpec := { name := "imageBlocks", fn := fun _ => fun
  | [d] => { results := [.lit (.bool false)], args := [d] }
  | _ => none }
def ImageBlocksWrongFalsely : Prop := imageBlocksRow.holds Tryd.pinned (OpenSpec.ofChange imageBlocksWrong)

/-- 'shipwrightlaw08.ImageBack': WHATEVER THE INPUT: true; the input reads as it did. -/
def imageBackSpec : ChangeSpec := { name := "imageBack", fn := fun _ => fun
  | [d1, d2, d3, d4, d5] => { results := [.lit (.bool true)], args := [d1, d2, d3, d4, d5] }
  | _ => none }
def imageBackRow : OpenClaim := { program := "ytjpgepodkeccmaadoor", sum := "e8f9ecc2c6442cba4e7b90f58139f1cd8da57d10b621f8d60f743fafe92c1df8", func := "shipwright/shipwrightlaw08.ImageBack", spec := "imageBack", named := ["shipwright/sha.squareRoots", "shipwright/sha.cubeRoots"], apart := false, laid := [("shipwright/sha.squareRoots", laid_shipwright_sha_squareRoots), ("shipwright/sha.cubeRoots", laid_shipwright_sha_cubeRoots)] }
def ImageBackSaid : Prop := imageBackRow.holds Tryd.pinned (OpenSpec.ofChange imageBackSpec)

/-- ITS FALSE NEIGHBOUR: 'it returns false'. Refute it at one input. -/
def imageBackWrong : ChangeSpec := { name := "imageBack", fn := fun _ => fun
  | [d1, d2, d3, d4, d5] => { results := [.lit (.bool false)], args := [d1, d2, d3, d4, d5] }
  | _ => none }
def ImageBackWrongFalsely : Prop := imageBackRow.holds Tryd.pinned (OpenSpec.ofChange imageBackWrong)

/-- 'shipwrightlaw08.ImageCrash': WHATEVER THE INPUT: true; the input reads as it did. -/
def imageCrashSpec : ChangeSpec := { name := "imageCrash", fn := fun _ => fun
  | [d1, d2, d3] => { results := [.lit (.bool true)], args := [d1, d2, d3] }
  | _ => none }
def imageCrashRow : OpenClaim := { program := "ytjpgepodkeccmaadoor", sum := "e8f9ecc2c6442cba4e7b90f58139f1cd8da57d10b621f8d60f743fafe92c1df8", func := "shipwright/shipwrightlaw08.ImageCrash", spec := "imageCrash", named := ["shipwright/sha.squareRoots", "shipwright/sha.cubeRoots"], apart := false, laid := [("shipwright/sha.squareRoots", laid_shipwright_sha_squareRoots), ("shipwright/sha.cubeRoots", laid_shipwright_sha_cubeRoots)] }
def ImageCrashSaid : Prop := imageCrashRow.holds Tryd.pinned (OpenSpec.ofChange imageCrashSpec)

/-- ITS FALSE NEIGHBOUR: 'it returns false'. Refute it at one input. -/
def imageCrashWrong : ChangeSpec := { name := "imageCrash", fn := fun _ => fun
  | [d1, d2, d3] => { results := [.lit (.bool false)], args := [d1, d2, d3] }
  | _ => none }
def ImageCrashWrongFalsely : Prop := imageCrashRow.holds Tryd.pinned (OpenSpec.ofChange imageCrashWrong)

/-- 'shipwrightlaw08.ImageNil': WHATEVER THE INPUT: true; the input reads as it did. -/
def imageNilSpec : ChangeSpec := { name := "imageNil", fn := fun _ => fun
  | [d1, d2] => { results := [.lit (.bool true)], args := [d1, d2] }
  | _ => none }
def imageNilRow : OpenClaim := { program := "ytjpgepodkeccmaadoor", sum := "e8f9ecc2c6442cba4e7b90f58139f1cd8da57d10b621f8d60f743fafe92c1df8", func := "shipwright/shipwrightlaw08.ImageNil", spec := "imageNil", named := ["shipwright/sha.squareRoots", "shipwright/sha.cubeRoots"], apart := false, laid := [("shipwright/sha.squareRoots", laid_shipwright_sha_squareRoots), ("shipwright/sha.cubeRoots", laid_shipwright_sha_cubeRoots)] }
def ImageNilSaid : Prop := imageNilRow.holds Tryd.pinned (OpenSpec.ofChange imageNilSpec)

/-- ITS FALSE NEIGHBOUR: 'it returns false'. Refute it at one input. -/
def imageNilWrong : ChangeSpec := { name := "imageNil", fn := fun _ => fun
  | [d1, d2] => { results := [.lit (.bool false)], args := [d1, d2] }
  | _ => none }
def ImageNilWrongFalsely : Prop := imageNilRow.holds Tryd.pinned (OpenSpec.ofChange imageNilWrong)

/-- 'shipwrightlaw08.ImageWholes': WHATEVER THE INPUT: true; the input reads as it did. -/
def imageWholesSpec : ChangeSpec := { name := "imageWholes", fn := fun _ => fun
  | [d1, d2, d3, d4] => { results := [.lit (.bool true)], args := [d1, d2, d3, d4] }
  | _ => none }
def imageWholesRow : OpenClaim := { program := "ytjpgepodkeccmaadoor", sum := "e8f9ecc2c6442cba4e7b90f58139f1cd8da57d10b621f8d60f743fafe92c1df8", func := "shipwright/shipwrightlaw08.ImageWholes", spec := "imageWholes", named := ["shipwright/sha.squareRoots", "shipwright/sha.cubeRoots"], apart := false, laid := [("shipwright/sha.squareRoots", laid_shipwright_sha_squareRoots), ("shipwright/sha.cubeRoots", laid_shipwright_sha_cubeRoots)] }
def ImageWholesSaid : Prop := imageWholesRow.holds Tryd.pinned (OpenSpec.ofChange imageWholesSpec)

/-- ITS FALSE NEIGHBOUR: 'it returns false'. Refute it at one input. -/
def imageWholesWrong : ChangeSpec := { name := "imageWholes", fn := fun _ => fun
  | [d1, d2, d3, d4] => { results := [.lit (.bool false)], args := [d1, d2, d3, d4] }
  | _ => none }
def ImageWholesWrongFalsely : Prop := imageWholesRow.holds Tryd.pinned (OpenSpec.ofChange imageWholesWrong)

/-- 'shipwrightlaw08.ImageBoth': WHATEVER THE INPUT: true; the input reads as it did. -/
def imageBothSpec : ChangeSpec := { name := "imageBoth", fn := fun _ => fun
  | [d1, d2, d3, d4] => { results := [.lit (.bool true)], args := [d1, d2, d3, d4] }
  | _ => none }
def imageBothRow : OpenClaim := { program := "ytjpgepodkeccmaadoor", sum := "e8f9ecc2c6442cba4e7b90f58139f1cd8da57d10b621f8d60f743fafe92c1df8", func := "shipwright/shipwrightlaw08.ImageBoth", spec := "imageBoth", named := ["shipwright/sha.squareRoots", "shipwright/sha.cubeRoots"], apart := false, laid := [("shipwright/sha.squareRoots", laid_shipwright_sha_squareRoots), ("shipwright/sha.cubeRoots", laid_shipwright_sha_cubeRoots)] }
def ImageBothSaid : Prop := imageBothRow.holds Tryd.pinned (OpenSpec.ofChange imageBothSpec)

/-- ITS FALSE NEIGHBOUR: 'it returns false'. Refute it at one input. -/
def imageBothWrong : ChangeSpec := { name := "imageBoth", fn := fun _ => fun
  | [d1, d2, d3, d4] => { results := [.lit (.bool false)], args := [d1, d2, d3, d4] }
  | _ => none }
def ImageBothWrongFalsely : Prop := imageBothRow.holds Tryd.pinned (OpenSpec.ofChange imageBothWrong)

/- THE SECOND FORM. 'bulk': how many values and letters a reading holds, each counted each time it is reached (what is shared counts as often as it is met; a slice's spare places count too). A statement '..UptoSaid' is the law's where the arguments, and the package variables that the reading takes, are together of bulk at most 1048576: NARROWER than '..Said'. Prove '..Said' where nothing that the law and all that it calls make is longer than what came in: it says more and counts as full. Else prove '..UptoSaid'. A law counts once. -/
mutual
def uptoBulk {H : Type} : DataW H → Nat
  | .lit (.string bytes) => bytes.length + 1
  | .lit _ => 1
  | .nil => 1
  | .ptr d => uptoBulk d + 1
  | .slice elems spare => uptoBulkAll elems + uptoBulkAll spare + 1
  | .agg parts => uptoBulkAll parts + 1
  | .iface _ d => uptoBulk d + 1
  | .map entries => uptoBulkEntries entries + 1
  | .held _ => 1
def uptoBulkAll {H : Type} : List (DataW H) → Nat
  | [] => 0
  | d :: r => uptoBulk d + uptoBulkAll r
def uptoBulkEntries {H : Type} : List (Lit × DataW H) → Nat
  | [] => 0
  | x :: r => uptoBulkEntry x + uptoBulkEntries r
def uptoBulkEntry {H : Type} : Lit × DataW H → Nat
  | (.string bytes, d) => bytes.length + uptoBulk d + 1
  | (_, d) => uptoBulk d + 1
 end
def uptoSmall : (H : Type) → List (DataW H) → Bool := fun _ ds => decide (uptoBulkAll ds ≤ 1048576)
def OpenSpec.upto (s : _root_.Go.ChangeSpec) : _root_.Go.OpenSpec := { _root_.Go.OpenSpec.ofChange s with cond := some uptoSmall }

/-- 'shipwrightlaw08.ImageNames', WHERE WHAT IT READS IS OF BULK AT MOST 1048576: true; the input reads as it did. -/
def imageNamesUptoRow : OpenClaim := { program := "ytjpgepodkeccmaadoor", sum := "e8f9ecc2c6442cba4e7b90f58139f1cd8da57d10b621f8d60f743fafe92c1df8", func := "shipwright/shipwrightlaw08.ImageNames", spec := "imageNames", named := ["shipwright/sha.squareRoots", "shipwright/sha.cubeRoots"], apart := false, laid := [("shipwright/sha.squareRoots", laid_shipwright_sha_squareRoots), ("shipwright/sha.cubeRoots", laid_shipwright_sha_cubeRoots)], narrowed := true }
def ImageNamesUptoSaid : Prop := imageNamesUptoRow.holds Tryd.pinned (OpenSpec.upto imageNamesSpec)

/-- 'shipwrightlaw08.ImageBlocks', WHERE WHAT IT READS IS OF BULK AT MOST 1048576: true; the input reads as it did. -/
def imageBlocksUptoRow : OpenClaim := { program := "ytjpgepodkeccmaadoor", sum := "e8f9ecc2c6442cba4e7b90f58139f1cd8da57d10b621f8d60f743fafe92c1df8", func := "shipwright/shipwrightlaw08.ImageBlocks", spec := "imageBlocks", named := ["shipwright/sha.squareRoots", "shipwright/sha.cubeRoots"], apart := false, laid := [("shipwright/sha.squareRoots", laid_shipwright_sha_squareRoots), ("shipwright/sha.cubeRoots", laid_shipwright_sha_cubeRoots)], narrowed := true }
def ImageBlocksUptoSaid : Prop := imageBlocksUptoRow.holds Tryd.pinned (OpenSpec.upto imageBlocksSpec)

/-- 'shipwrightlaw08.ImageBack', WHERE WHAT IT READS IS OF BULK AT MOST 1048576: true; the input reads as it did. -/
def imageBackUptoRow : OpenClaim := { program := "ytjpgepodkeccmaadoor", sum := "e8f9ecc2c6442cba4e7b90f58139f1cd8da57d10b621f8d60f743fafe92c1df8", func := "shipwright/shipwrightlaw08.ImageBack", spec := "imageBack", named := ["shipwright/sha.squareRoots", "shipwright/sha.cubeRoots"], apart := false, laid := [("shipwright/sha.squareRoots", laid_shipwright_sha_squareRoots), ("shipwright/sha.cubeRoots", laid_shipwright_sha_cubeRoots)], narrowed := true }
def ImageBackUptoSaid : Prop := imageBackUptoRow.holds Tryd.pinned (OpenSpec.upto imageBackSpec)

/-- 'shipwrightlaw08.ImageCrash', WHERE WHAT IT READS IS OF BULK AT MOST 1048576: true; the input reads as it did. -/
def imageCrashUptoRow : OpenClaim := { program := "ytjpgepodkeccmaadoor", sum := "e8f9ecc2c6442cba4e7b90f58139f1cd8da57d10b621f8d60f743fafe92c1df8", func := "shipwright/shipwrightlaw08.ImageCrash", spec := "imageCrash", named := ["shipwright/sha.squareRoots", "shipwright/sha.cubeRoots"], apart := false, laid := [("shipwright/sha.squareRoots", laid_shipwright_sha_squareRoots), ("shipwright/sha.cubeRoots", laid_shipwright_sha_cubeRoots)], narrowed := true }
def ImageCrashUptoSaid : Prop := imageCrashUptoRow.holds Tryd.pinned (OpenSpec.upto imageCrashSpec)

/-- 'shipwrightlaw08.ImageNil', WHERE WHAT IT READS IS OF BULK AT MOST 1048576: true; the input reads as it did. -/
def imageNilUptoRow : OpenClaim := { program := "ytjpgepodkeccmaadoor", sum := "e8f9ecc2c6442cba4e7b90f58139f1cd8da57d10b621f8d60f743fafe92c1df8", func := "shipwright/shipwrightlaw08.ImageNil", spec := "imageNil", named := ["shipwright/sha.squareRoots", "shipwright/sha.cubeRoots"], apart := false, laid := [("shipwright/sha.squareRoots", laid_shipwright_sha_squareRoots), ("shipwright/sha.cubeRoots", laid_shipwright_sha_cubeRoots)], narrowed := true }
def ImageNilUptoSaid : Prop := imageNilUptoRow.holds Tryd.pinned (OpenSpec.upto imageNilSpec)

/-- 'shipwrightlaw08.ImageWholes', WHERE WHAT IT READS IS OF BULK AT MOST 1048576: true; the input reads as it did. -/
def imageWholesUptoRow : OpenClaim := { program := "ytjpgepodkeccmaadoor", sum := "e8f9ecc2c6442cba4e7b90f58139f1cd8da57d10b621f8d60f743fafe92c1df8", func := "shipwright/shipwrightlaw08.ImageWholes", spec := "imageWholes", named := ["shipwright/sha.squareRoots", "shipwright/sha.cubeRoots"], apart := false, laid := [("shipwright/sha.squareRoots", laid_shipwright_sha_squareRoots), ("shipwright/sha.cubeRoots", laid_shipwright_sha_cubeRoots)], narrowed := true }
def ImageWholesUptoSaid : Prop := imageWholesUptoRow.holds Tryd.pinned (OpenSpec.upto imageWholesSpec)

/-- 'shipwrightlaw08.ImageBoth', WHERE WHAT IT READS IS OF BULK AT MOST 1048576: true; the input reads as it did. -/
def imageBothUptoRow : OpenClaim := { program := "ytjpgepodkeccmaadoor", sum := "e8f9ecc2c6442cba4e7b90f58139f1cd8da57d10b621f8d60f743fafe92c1df8", func := "shipwright/shipwrightlaw08.ImageBoth", spec := "imageBoth", named := ["shipwright/sha.squareRoots", "shipwright/sha.cubeRoots"], apart := false, laid := [("shipwright/sha.squareRoots", laid_shipwright_sha_squareRoots), ("shipwright/sha.cubeRoots", laid_shipwright_sha_cubeRoots)], narrowed := true }
def ImageBothUptoSaid : Prop := imageBothUptoRow.holds Tryd.pinned (OpenSpec.upto imageBothSpec)

end Rows
end Go.Proofs.YtjpgepodkeccmaaDoor
