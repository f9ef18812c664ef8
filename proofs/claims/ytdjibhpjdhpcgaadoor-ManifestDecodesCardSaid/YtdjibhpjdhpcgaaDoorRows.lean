/-
  NARROWER THAN 'FOR EVERY INPUT', by the rows' own cells (each row's printed sentence says how): ManifestNames: laid · ManifestBuilds: laid · ManifestTells: laid · ManifestVerifies: laid · ManifestDecodes: laid · ManifestBack: laid · ManifestOnce: laid · ManifestSizes: laid · ManifestLimits: laid.
  DERIVED. THE GIVEN ROWS OF THIS SEAT. 9 by the template 'for every input the law returns true; each argument reads behind the call as it read before'; 0 by the template 'total and deterministic' (their statements: YtdjibhpjdhpcgaaDoorTotals.lean).
  GIVEN WITH THE SEED: the statements are not yours to turn. If you find one false, say at which input.
  Laid BY PROGRAM, IN A SANDBOX (cutbox-rows.mjs): the forced cells as the released guide's own fill.sh prints them over the translation 509b61a24b107b8a… (all of the seat's roots in one cut). By AI agents, Wed Nov 11 2026. No macro, syntax, notation, axiom, sorry.
-/
import Derived.Test.YtdjibhpjdhpcgaaDoorChecked
import GoSem.Claim
import GoSem.ClaimJoined
import GoSem.ClaimMapViews
import Derived.JoinedTies
import Derived.KernelRfl
namespace Go.Proofs.YtdjibhpjdhpcgaaDoor
/- THE CELL 'sum', in the pinned program and in every row, IS THE sha256 OF THE DUMP (.gsa) THAT YtdjibhpjdhpcgaaDoorProg.lean LOADS. Nothing in Lean hashes anything: it is a label: what it is worth is what the hold of that sum in a sandbox is worth. -/
noncomputable def Tryd.pinned : Pinned := { name := "ytdjibhpjdhpcgaadoor", sum := "509b61a24b107b8ab5b2a2d98217d3046653703dbea046411d158fae14a2590a", checked := Tryd.checked }
namespace Rows
def none {H : Type} : Left H := { results := [], args := [] }

/- WHAT THE LISTED PACKAGE-LEVEL VARIABLES READ AS WHEN THE CALL BEGINS. Each datum BY PROGRAM (the guide's laid-datum.mjs) off the statement by which the dump's own 'gosem.cut.vars' lays the variable. In a bare row this is a premise. The card (YtdjibhpjdhpcgaaDoorCards.lean) ties it to the program's text. -/
def laid_shipwright_sha_squareRoots {H : Type} : DataW H := .agg [.lit (.int .u32 1779033703), .lit (.int .u32 3144134277), .lit (.int .u32 1013904242), .lit (.int .u32 2773480762), .lit (.int .u32 1359893119), .lit (.int .u32 2600822924), .lit (.int .u32 528734635), .lit (.int .u32 1541459225)]
def laid_shipwright_sha_cubeRoots {H : Type} : DataW H := .agg [.lit (.int .u32 1116352408), .lit (.int .u32 1899447441), .lit (.int .u32 3049323471), .lit (.int .u32 3921009573), .lit (.int .u32 961987163), .lit (.int .u32 1508970993), .lit (.int .u32 2453635748), .lit (.int .u32 2870763221), .lit (.int .u32 3624381080), .lit (.int .u32 310598401), .lit (.int .u32 607225278), .lit (.int .u32 1426881987), .lit (.int .u32 1925078388), .lit (.int .u32 2162078206), .lit (.int .u32 2614888103), .lit (.int .u32 3248222580), .lit (.int .u32 3835390401), .lit (.int .u32 4022224774), .lit (.int .u32 264347078), .lit (.int .u32 604807628), .lit (.int .u32 770255983), .lit (.int .u32 1249150122), .lit (.int .u32 1555081692), .lit (.int .u32 1996064986), .lit (.int .u32 2554220882), .lit (.int .u32 2821834349), .lit (.int .u32 2952996808), .lit (.int .u32 3210313671), .lit (.int .u32 3336571891), .lit (.int .u32 3584528711), .lit (.int .u32 113926993), .lit (.int .u32 338241895), .lit (.int .u32 666307205), .lit (.int .u32 773529912), .lit (.int .u32 1294757372), .lit (.int .u32 1396182291), .lit (.int .u32 1695183700), .lit (.int .u32 1986661051), .lit (.int .u32 2177026350), .lit (.int .u32 2456956037), .lit (.int .u32 2730485921), .lit (.int .u32 2820302411), .lit (.int .u32 3259730800), .lit (.int .u32 3345764771), .lit (.int .u32 3516065817), .lit (.int .u32 3600352804), .lit (.int .u32 4094571909), .lit (.int .u32 275423344), .lit (.int .u32 430227734), .lit (.int .u32 506948616), .lit (.int .u32 659060556), .lit (.int .u32 883997877), .lit (.int .u32 958139571), .lit (.int .u32 1322822218), .lit (.int .u32 1537002063), .lit (.int .u32 1747873779), .lit (.int .u32 1955562222), .lit (.int .u32 2024104815), .lit (.int .u32 2227730452), .lit (.int .u32 2361852424), .lit (.int .u32 2428436474), .lit (.int .u32 2756734187), .lit (.int .u32 3204031479), .lit (.int .u32 3329325298)]

/-- 'shipwrightlaw05.ManifestNames': WHATEVER THE INPUT: true; the input reads as it did. -/
def manifestNamesSpec : ChangeSpec := { name := "manifestNames", fn := fun _ => fun
  | [] => { results := [.lit (.bool true)], args := [] }
  | _ => none }
def manifestNamesRow : OpenClaim := { program := "ytdjibhpjdhpcgaadoor", sum := "509b61a24b107b8ab5b2a2d98217d3046653703dbea046411d158fae14a2590a", func := "shipwright/shipwrightlaw05.ManifestNames", spec := "manifestNames", unfollowed := true, recurses := true, named := ["shipwright/sha.squareRoots", "shipwright/sha.cubeRoots"], apart := false, laid := [("shipwright/sha.squareRoots", laid_shipwright_sha_squareRoots), ("shipwright/sha.cubeRoots", laid_shipwright_sha_cubeRoots)] }
def ManifestNamesSaid : Prop := manifestNamesRow.holds Tryd.pinned (OpenSpec.ofChange manifestNamesSpec)

/-- ITS FALSE NEIGHBOUR: 'it returns false'. Refute it at one input. -/
def manifestNamesWrong : ChangeSpec := { name := "manifestNames", fn := fun _ => fun
  | [] => { results := [.lit (.bool false)], args := [] }
  | _ => none }
def ManifestNamesWrongFalsely : Prop := manifestNamesRow.holds Tryd.pinned (OpenSpec.ofChange manifestNamesWrong)

/-- 'shipwrightlaw05.ManifestBuilds': WHATEVER THE INPUT: true; the input reads as it did. -/
def manifestBuildsSpec : ChangeSpec := { name := "manifestBuilds", fn := fun _ => fun
  | [d1, d2] => { results := [.lit (.bool true)], args := [d1, d2] }
  | _ => none }
def manifestBuildsRow : OpenClaim := { program := "ytdjibhpjdhpcgaadoor", sum := "509b61a24b107b8ab5b2a2d98217d3046653703dbea046411d158fae14a2590a", func := "shipwright/shipwrightlaw05.ManifestBuilds", spec := "manifestBuilds", inPlace := ["math/bits.Add64"], unfollowed := true, recurses := true, named := ["shipwright/sha.squareRoots", "shipwright/sha.cubeRoots"], apart := false, laid := [("shipwright/sha.squareRoots", laid_shipwright_sha_squareRoots), ("shipwright/sha.cubeRoots", laid_shipwright_sha_cubeRoots)] }
def ManifestBuildsSaid : Prop := manifestBuildsRow.holds Tryd.pinned (OpenSpec.ofChange manifestBuildsSpec)

/-- ITS FALSE NEIGHBOUR: 'it returns false'. Refute it at one input. -/
def manifestBuildsWrong : ChangeSpec := { name := "manifestBuilds", fn := fun _ => fun
  | [d1, d2] => { results := [.lit (.bool false)], args := [d1, d2] }
  | _ => none }
def ManifestBuildsWrongFalsely : Prop := manifestBuildsRow.holds Tryd.pinned (OpenSpec.ofChange manifestBuildsWrong)

/-- 'shipwrightlaw05.ManifestTells': WHATEVER THE INPUT: true; the input reads as it did. -/
def manifestTellsSpec : ChangeSpec := { name := "manifestTells", fn := fun _ => fun
  | [d1, d2] => { results := [.lit (.bool true)], args := [d1, d2] }
  | _ => none }
def manifestTellsRow : OpenClaim := { program := "ytdjibhpjdhpcgaadoor", sum := "509b61a24b107b8ab5b2a2d98217d3046653703dbea046411d158fae14a2590a", func := "shipwright/shipwrightlaw05.ManifestTells", spec := "manifestTells", inPlace := ["math/bits.Add64"], unfollowed := true, recurses := true, named := ["shipwright/sha.squareRoots", "shipwright/sha.cubeRoots"], apart := false, laid := [("shipwright/sha.squareRoots", laid_shipwright_sha_squareRoots), ("shipwright/sha.cubeRoots", laid_shipwright_sha_cubeRoots)] }
def ManifestTellsSaid : Prop := manifestTellsRow.holds Tryd.pinned (OpenSpec.ofChange manifestTellsSpec)

/-- ITS FALSE NEIGHBOUR: 'it returns false'. Refute it at one input. -/
def manifestTellsWrong : ChangeSpec := { name := "manifestTells", fn := fun _ => fun
  | [d1, d2] => { results := [.lit (.bool false)], args := [d1, d2] }
  | _ => none }
def ManifestTellsWrongFalsely : Prop := manifestTellsRow.holds Tryd.pinned (OpenSpec.ofChange manifestTellsWrong)

/-- 'shipwrightlaw05.ManifestVerifies': WHATEVER THE INPUT: true; the input reads as it did. -/
def manifestVerifiesSpec : ChangeSpec := { name := "manifestVerifies", fn := fun _ => fun
  | [d1, d2, d3] => { results := [.lit (.bool true)], args := [d1, d2, d3] }
  | _ => none }
def manifestVerifiesRow : OpenClaim := { program := "ytdjibhpjdhpcgaadoor", sum := "509b61a24b107b8ab5b2a2d98217d3046653703dbea046411d158fae14a2590a", func := "shipwright/shipwrightlaw05.ManifestVerifies", spec := "manifestVerifies", inPlace := ["math/bits.Add64"], unfollowed := true, recurses := true, named := ["shipwright/sha.squareRoots", "shipwright/sha.cubeRoots"], apart := false, laid := [("shipwright/sha.squareRoots", laid_shipwright_sha_squareRoots), ("shipwright/sha.cubeRoots", laid_shipwright_sha_cubeRoots)] }
def ManifestVerifiesSaid : Prop := manifestVerifiesRow.holds Tryd.pinned (OpenSpec.ofChange manifestVerifiesSpec)

/-- ITS FALSE NEIGHBOUR: 'it returns false'. Refute it at one input. -/
def manifestVerifiesWrong : ChangeSpec := { name := "manifestVerifies", fn := fun _ => fun
  | [d1, d2, d3] => { results := [.lit (.bool false)], args := [d1, d2, d3] }
  | _ => none }
def ManifestVerifiesWrongFalsely : Prop := manifestVerifiesRow.holds Tryd.pinned (OpenSpec.ofChange manifestVerifiesWrong)

/-- 'shipwrightlaw05.ManifestDecodes': WHATEVER THE INPUT: true; the input reads as it did. -/
def manifestDecodesSpec : ChangeSpec := { name := "manifestDecodes", fn := fun _ => fun
  | [d] => { results := [.lit (.bool true)], args := [d] }
  | _ => none }
def manifestDecodesRow : OpenClaim := { program := "ytdjibhpjdhpcgaadoor", sum := "509b61a24b107b8ab5b2a2d98217d3046653703dbea046411d158fae14a2590a", func := "shipwright/shipwrightlaw05.ManifestDecodes", spec := "manifestDecodes", unfollowed := true, recurses := true, named := ["shipwright/sha.squareRoots", "shipwright/sha.cubeRoots"], apart := false, laid := [("shipwright/sha.squareRoots", laid_shipwright_sha_squareRoots), ("shipwright/sha.cubeRoots", laid_shipwright_sha_cubeRoots)] }
def ManifestDecodesSaid : Prop := manifestDecodesRow.holds Tryd.pinned (OpenSpec.ofChange manifestDecodesSpec)

/-- ITS FALSE NEIGHBOUR: 'it returns false'. Refute it at one input. -/
def manifestDecodesWrong : ChangeSpec := { name := "manifestDecodes", fn := fun _ => fun
  | [d] => { results := [.lit (.bool false)], args := [d] }
  | _ => none }
def ManifestDecodesWrongFalsely : Prop := manifestDecodesRow.holds Tryd.pinned (OpenSpec.ofChange manifestDecodesWrong)

/-- 'shipwrightlaw05.ManifestBack': WHATEVER THE INPUT: true; the input reads as it did. -/
def manifestBackSpec : ChangeSpec := { name := "manifestBack", fn := fun _ => fun
  | [d1, d2] => { results := [.lit (.bool true)], args := [d1, d2] }
  | _ => none }
def manifestBackRow : OpenClaim := { program := "ytdjibhpjdhpcgaadoor", sum := "509b61a24b107b8ab5b2a2d98217d3046653703dbea046411d158fae14a2590a", func := "shipwright/shipwrightlaw05.ManifestBack", spec := "manifestBack", unfollowed := true, recurses := true, named := ["shipwright/sha.squareRoots", "shipwright/sha.cubeRoots"], apart := false, laid := [("shipwright/sha.squareRoots", laid_shipwright_sha_squareRoots), ("shipwright/sha.cubeRoots", laid_shipwright_sha_cubeRoots)] }
def ManifestBackSaid : Prop := manifestBackRow.holds Tryd.pinned (OpenSpec.ofChange manifestBackSpec)

/-- ITS FALSE NEIGHBOUR: 'it returns false'. Refute it at one input. -/
def manifestBackWrong : ChangeSpec := { name := "manifestBack", fn := fun _ => fun
  | [d1, d2] => { results := [.lit (.bool false)], args := [d1, d2] }
  | _ => none }
def ManifestBackWrongFalsely : Prop := manifestBackRow.holds Tryd.pinned (OpenSpec.ofChange manifestBackWrong)

/-- 'shipwrightlaw05.ManifestOnce': WHATEVER THE INPUT: true; the input reads as it did. -/
def manifestOnceSpec : ChangeSpec := { name := "manifestOnce", fn := fun _ => fun
  | [d] => { results := [.lit (.bool true)], args := [d] }
  | _ => none }
def manifestOnceRow : OpenClaim := { program := "ytdjibhpjdhpcgaadoor", sum := "509b61a24b107b8ab5b2a2d98217d3046653703dbea046411d158fae14a2590a", func := "shipwright/shipwrightlaw05.ManifestOnce", spec := "manifestOnce", unfollowed := true, recurses := true, named := ["shipwright/sha.squareRoots", "shipwright/sha.cubeRoots"], apart := false, laid := [("shipwright/sha.squareRoots", laid_shipwright_sha_squareRoots), ("shipwright/sha.cubeRoots", laid_shipwright_sha_cubeRoots)] }
def ManifestOnceSaid : Prop := manifestOnceRow.holds Tryd.pinned (OpenSpec.ofChange manifestOnceSpec)

/-- ITS FALSE NEIGHBOUR: 'it returns false'. Refute it at one input. -/
def manifestOnceWrong : ChangeSpec := { name := "manifestOnce", fn := fun _ => fun
  | [d] => { results := [.lit (.bool false)], args := [d] }
  | _ => none }
def ManifestOnceWrongFalsely : Prop := manifestOnceRow.holds Tryd.pinned (OpenSpec.ofChange manifestOnceWrong)

/-- 'shipwrightlaw05.ManifestSizes': WHATEVER THE INPUT: true; the input reads as it did. -/
def manifestSizesSpec : ChangeSpec := { name := "manifestSizes", fn := fun _ => fun
  | [d1, d2] => { results := [.lit (.bool true)], args := [d1, d2] }
  | _ => none }
def manifestSizesRow : OpenClaim := { program := "ytdjibhpjdhpcgaadoor", sum := "509b61a24b107b8ab5b2a2d98217d3046653703dbea046411d158fae14a2590a", func := "shipwright/shipwrightlaw05.ManifestSizes", spec := "manifestSizes", unfollowed := true, recurses := true, named := ["shipwright/sha.squareRoots", "shipwright/sha.cubeRoots"], apart := false, laid := [("shipwright/sha.squareRoots", laid_shipwright_sha_squareRoots), ("shipwright/sha.cubeRoots", laid_shipwright_sha_cubeRoots)] }
def ManifestSizesSaid : Prop := manifestSizesRow.holds Tryd.pinned (OpenSpec.ofChange manifestSizesSpec)

/-- ITS FALSE NEIGHBOUR: 'it returns false'. Refute it at one input. -/
def manifestSizesWrong : ChangeSpec := { name := "manifestSizes", fn := fun _ => fun
  | [d1, d2] => { results := [.lit (.bool false)], args := [d1, d2] }
  | _ => none }
def ManifestSizesWrongFalsely : Prop := manifestSizesRow.holds Tryd.pinned (OpenSpec.ofChange manifestSizesWrong)

/-- 'shipwrightlaw05.ManifestLimits': WHATEVER THE INPUT: true; the input reads as it did. -/
def manifestLimitsSpec : ChangeSpec := { name := "manifestLimits", fn := fun _ => fun
  | [d1, d2] => { results := [.lit (.bool true)], args := [d1, d2] }
  | _ => none }
def manifestLimitsRow : OpenClaim := { program := "ytdjibhpjdhpcgaadoor", sum := "509b61a24b107b8ab5b2a2d98217d3046653703dbea046411d158fae14a2590a", func := "shipwright/shipwrightlaw05.ManifestLimits", spec := "manifestLimits", unfollowed := true, recurses := true, named := ["shipwright/sha.squareRoots", "shipwright/sha.cubeRoots"], apart := false, laid := [("shipwright/sha.squareRoots", laid_shipwright_sha_squareRoots), ("shipwright/sha.cubeRoots", laid_shipwright_sha_cubeRoots)] }
def ManifestLimitsSaid : Prop := manifestLimitsRow.holds Tryd.pinned (OpenSpec.ofChange manifestLimitsSpec)

/-- ITS FALSE NEIGHBOUR: 'it returns false'. Refute it at one input. -/
def manifestLimitsWrong : ChangeSpec := { name := "manifestLimits", fn := fun _ => fun
  | [d1, d2] => { results := [.lit (.bool false)], args := [d1, d2] }
  | _ => none }
def ManifestLimitsWrongFalsely : Prop := manifestLimitsRow.holds Tryd.pinned (OpenSpec.ofChange manifestLimitsWrong)

/- THE SECOND FORM. 'bulk': how many values and letters a reading holds, each counted each time it is reached (what is shared counts as often as it is met; a slice's spare places count too). A statement '..UptoSaid' is the law's where the arguments, and the package variables that the reading takes, are together of bulk at most 1048576: NARROWER than '..Said'. Prove '..Said' where nothing that the law and all that it calls make is longer than what came in: it says more and counts as full. Else prove '..UptoSaid'. A law counts once. -/
mutual
def uptoBulk {H : Type} : DataW H → Nat
  | .lit (.string bytes) => bytes.length + 1
  | .lit _ => 1
  | .nil => 1
  | .ptr d => uptoBulk d + 1
  | .slice elems spare => uptoBulkAll elems + uptoBulkAll spare + 1
  | .agg parts => uptoBulkAll parts + 1
  | .iface _ d => uptoBulk d + 1
  | .map entries => uptoBulkEntries entries + 1
  | .held _ => 1
def uptoBulkAll {H : Type} : List (DataW H) → Nat
  | [] => 0
  | d :: r => uptoBulk d + uptoBulkAll r
def uptoBulkEntries {H : Type} : List (Lit × DataW H) → Nat
  | [] => 0
  | x :: r => uptoBulkEntry x + uptoBulkEntries r
def uptoBulkEntry {H : Type} : Lit × DataW H → Nat
  | (.string bytes, d) => bytes.length + uptoBulk d + 1
  | (_, d) => uptoBulk d + 1
 end
def uptoSmall : (H : Type) → List (DataW H) → Bool := fun _ ds => decide (uptoBulkAll ds ≤ 1048576)
def OpenSpec.upto (s : _root_.Go.ChangeSpec) : _root_.Go.OpenSpec := { _root_.Go.OpenSpec.ofChange s with cond := some uptoSmall }

/-- 'shipwrightlaw05.ManifestNames', WHERE WHAT IT READS IS OF BULK AT MOST 1048576: true; the input reads as it did. -/
def manifestNamesUptoRow : OpenClaim := { program := "ytdjibhpjdhpcgaadoor", sum := "509b61a24b107b8ab5b2a2d98217d3046653703dbea046411d158fae14a2590a", func := "shipwright/shipwrightlaw05.ManifestNames", spec := "manifestNames", unfollowed := true, recurses := true, named := ["shipwright/sha.squareRoots", "shipwright/sha.cubeRoots"], apart := false, laid := [("shipwright/sha.squareRoots", laid_shipwright_sha_squareRoots), ("shipwright/sha.cubeRoots", laid_shipwright_sha_cubeRoots)], narrowed := true }
def ManifestNamesUptoSaid : Prop := manifestNamesUptoRow.holds Tryd.pinned (OpenSpec.upto manifestNamesSpec)

/-- 'shipwrightlaw05.ManifestBuilds', WHERE WHAT IT READS IS OF BULK AT MOST 1048576: true; the input reads as it did. -/
def manifestBuildsUptoRow : OpenClaim := { program := "ytdjibhpjdhpcgaadoor", sum := "509b61a24b107b8ab5b2a2d98217d3046653703dbea046411d158fae14a2590a", func := "shipwright/shipwrightlaw05.ManifestBuilds", spec := "manifestBuilds", inPlace := ["math/bits.Add64"], unfollowed := true, recurses := true, named := ["shipwright/sha.squareRoots", "shipwright/sha.cubeRoots"], apart := false, laid := [("shipwright/sha.squareRoots", laid_shipwright_sha_squareRoots), ("shipwright/sha.cubeRoots", laid_shipwright_sha_cubeRoots)], narrowed := true }
def ManifestBuildsUptoSaid : Prop := manifestBuildsUptoRow.holds Tryd.pinned (OpenSpec.upto manifestBuildsSpec)

/-- 'shipwrightlaw05.ManifestTells', WHERE WHAT IT READS IS OF BULK AT MOST 1048576: true; the input reads as it did. -/
def manifestTellsUptoRow : OpenClaim := { program := "ytdjibhpjdhpcgaadoor", sum := "509b61a24b107b8ab5b2a2d98217d3046653703dbea046411d158fae14a2590a", func := "shipwright/shipwrightlaw05.ManifestTells", spec := "manifestTells", inPlace := ["math/bits.Add64"], unfollowed := true, recurses := true, named := ["shipwright/sha.squareRoots", "shipwright/sha.cubeRoots"], apart := false, laid := [("shipwright/sha.squareRoots", laid_shipwright_sha_squareRoots), ("shipwright/sha.cubeRoots", laid_shipwright_sha_cubeRoots)], narrowed := true }
def ManifestTellsUptoSaid : Prop := manifestTellsUptoRow.holds Tryd.pinned (OpenSpec.upto manifestTellsSpec)

/-- 'shipwrightlaw05.ManifestVerifies', WHERE WHAT IT READS IS OF BULK AT MOST 1048576: true; the input reads as it did. -/
def manifestVerifiesUptoRow : OpenClaim := { program := "ytdjibhpjdhpcgaadoor", sum := "509b61a24b107b8ab5b2a2d98217d3046653703dbea046411d158fae14a2590a", func := "shipwright/shipwrightlaw05.ManifestVerifies", spec := "manifestVerifies", inPlace := ["math/bits.Add64"], unfollowed := true, recurses := true, named := ["shipwright/sha.squareRoots", "shipwright/sha.cubeRoots"], apart := false, laid := [("shipwright/sha.squareRoots", laid_shipwright_sha_squareRoots), ("shipwright/sha.cubeRoots", laid_shipwright_sha_cubeRoots)], narrowed := true }
def ManifestVerifiesUptoSaid : Prop := manifestVerifiesUptoRow.holds Tryd.pinned (OpenSpec.upto manifestVerifiesSpec)

/-- 'shipwrightlaw05.ManifestDecodes', WHERE WHAT IT READS IS OF BULK AT MOST 1048576: true; the input reads as it did. -/
def manifestDecodesUptoRow : OpenClaim := { program := "ytdjibhpjdhpcgaadoor", sum := "509b61a24b107b8ab5b2a2d98217d3046653703dbea046411d158fae14a2590a", func := "shipwright/shipwrightlaw05.ManifestDecodes", spec := "manifestDecodes", unfollowed := true, recurses := true, named := ["shipwright/sha.squareRoots", "shipwright/sha.cubeRoots"], apart := false, laid := [("shipwright/sha.squareRoots", laid_shipwright_sha_squareRoots), ("shipwright/sha.cubeRoots", laid_shipwright_sha_cubeRoots)], narrowed := true }
def ManifestDecodesUptoSaid : Prop := manifestDecodesUptoRow.holds Tryd.pinned (OpenSpec.upto manifestDecodesSpec)

/-- 'shipwrightlaw05.ManifestBack', WHERE WHAT IT READS IS OF BULK AT MOST 1048576: true; the input reads as it did. -/
def manifestBackUptoRow : OpenClaim := { program := "ytdjibhpjdhpcgaadoor", sum := "509b61a24b107b8ab5b2a2d98217d3046653703dbea046411d158fae14a2590a", func := "shipwright/shipwrightlaw05.ManifestBack", spec := "manifestBack", unfollowed := true, recurses := true, named := ["shipwright/sha.squareRoots", "shipwright/sha.cubeRoots"], apart := false, laid := [("shipwright/sha.squareRoots", laid_shipwright_sha_squareRoots), ("shipwright/sha.cubeRoots", laid_shipwright_sha_cubeRoots)], narrowed := true }
def ManifestBackUptoSaid : Prop := manifestBackUptoRow.holds Tryd.pinned (OpenSpec.upto manifestBackSpec)

/-- 'shipwrightlaw05.ManifestOnce', WHERE WHAT IT READS IS OF BULK AT MOST 1048576: true; the input reads as it did. -/
def manifestOnceUptoRow : OpenClaim := { program := "ytdjibhpjdhpcgaadoor", sum := "509b61a24b107b8ab5b2a2d98217d3046653703dbea046411d158fae14a2590a", func := "shipwright/shipwrightlaw05.ManifestOnce", spec := "manifestOnce", unfollowed := true, recurses := true, named := ["shipwright/sha.squareRoots", "shipwright/sha.cubeRoots"], apart := false, laid := [("shipwright/sha.squareRoots", laid_shipwright_sha_squareRoots), ("shipwright/sha.cubeRoots", laid_shipwright_sha_cubeRoots)], narrowed := true }
def ManifestOnceUptoSaid : Prop := manifestOnceUptoRow.holds Tryd.pinned (OpenSpec.upto manifestOnceSpec)

/-- 'shipwrightlaw05.ManifestSizes', WHERE WHAT IT READS IS OF BULK AT MOST 1048576: true; the input reads as it did. -/
def manifestSizesUptoRow : OpenClaim := { program := "ytdjibhpjdhpcgaadoor", sum := "509b61a24b107b8ab5b2a2d98217d3046653703dbea046411d158fae14a2590a", func := "shipwright/shipwrightlaw05.ManifestSizes", spec := "manifestSizes", unfollowed := true, recurses := true, named := ["shipwright/sha.squareRoots", "shipwright/sha.cubeRoots"], apart := false, laid := [("shipwright/sha.squareRoots", laid_shipwright_sha_squareRoots), ("shipwright/sha.cubeRoots", laid_shipwright_sha_cubeRoots)], narrowed := true }
def ManifestSizesUptoSaid : Prop := manifestSizesUptoRow.holds Tryd.pinned (OpenSpec.upto manifestSizesSpec)

/-- 'shipwrightlaw05.ManifestLimits', WHERE WHAT IT READS IS OF BULK AT MOST 1048576: true; the input reads as it did. -/
def manifestLimitsUptoRow : OpenClaim := { program := "ytdjibhpjdhpcgaadoor", sum := "509b61a24b107b8ab5b2a2d98217d3046653703dbea046411d158fae14a2590a", func := "shipwright/shipwrightlaw05.ManifestLimits", spec := "manifestLimits", unfollowed := true, recurses := true, named := ["shipwright/sha.squareRoots", "shipwright/sha.cubeRoots"], apart := false, laid := [("shipwright/sha.squareRoots", laid_shipwright_sha_squareRoots), ("shipwright/sha.cubeRoots", laid_shipwright_sha_cubeRoots)], narrowed := true }
def ManifestLimitsUptoSaid : Prop := manifestLimitsUptoRow.holds Tryd.pinned (OpenSpec.upto manifestLimitsSpec)

end Rows
end Go.Proofs.YtdjibhpjdhpcgaaDoor
