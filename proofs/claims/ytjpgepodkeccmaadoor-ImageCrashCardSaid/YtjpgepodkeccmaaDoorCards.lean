/-
  DERIVED. GIVEN WITH THE SEED: THE CARDS: each row of YtjpgepodkeccmaaDoorRows.lean that lists a variable, with what it lists TIED to the program's text (the seventh form; the later family's looks); each row that meets fmt, with fmt's text TOLD by the authors' own Lean function (tested against real Go, not proved from fmt's source: count such statements apart). THE CARD IS WHAT COUNTS. Prove the row's statement (the work); the ties are given (YtjpgepodkeccmaaDoorTie.lean); close each card by the builder's one call (the guide's Derived/Test/ToyasCard.lean, 'card_holds'). Laid BY PROGRAM, IN A SANDBOX (cutbox-door.mjs). By AI agents, Wed Nov 11 2026. No macro, syntax, notation, axiom, sorry.
-/
import Derived.Test.YtjpgepodkeccmaaDoorRows
import GoSem.ClaimSeven
namespace Go.Proofs.YtjpgepodkeccmaaDoor
namespace Rows

/-- THE TIED CARD OF 'shipwrightlaw08.ImageNames'. -/
def imageNamesCard : Claim7 := { stood := { row := imageNamesRow, standIns := [], harness := (true, "f526ec34929bc69548b32bc1b67d51ec5ca2f6aad6141f5206e72f4b0a68ad3d"), looks := false }, kinds := [], alts := [], laidByText := true, laidKinds := [.data, .data], laidTests := true, laidLooks := .later }
def ImageNamesCardSaid : Prop := Claim7.holds Tryd.pinned (.plain (OpenSpec.ofChange imageNamesSpec)) imageNamesCard

/-- THE TIED CARD OF 'shipwrightlaw08.ImageBlocks'. -/
def imageBlocksCard : Claim7 := { stood := { row := imageBlocksRow, standIns := [], harness := (true, "f526ec34929bc69548b32bc1b67d51ec5ca2f6aad6141f5206e72f4b0a68ad3d"), looks := false }, kinds := [], alts := [], laidByText := true, laidKinds := [.data, .data], laidTests := true, laidLooks := .later }
def ImageBlocksCardSaid : Prop := Claim7.holds Tryd.pinned (.plain (OpenSpec.ofChange imageBlocksSpec)) imageBlocksCard

/-- THE TIED CARD OF 'shipwrightlaw08.ImageBack'. -/
def imageBackCard : Claim7 := { stood := { row := imageBackRow, standIns := [], harness := (true, "f526ec34929bc69548b32bc1b67d51ec5ca2f6aad6141f5206e72f4b0a68ad3d"), looks := false }, kinds := [], alts := [], laidByText := true, laidKinds := [.data, .data], laidTests := true, laidLooks := .later }
def ImageBackCardSaid : Prop := Claim7.holds Tryd.pinned (.plain (OpenSpec.ofChange imageBackSpec)) imageBackCard

/-- THE TIED CARD OF 'shipwrightlaw08.ImageCrash'. -/
def imageCrashCard : Claim7 := { stood := { row := imageCrashRow, standIns := [], harness := (true, "f526ec34929bc69548b32bc1b67d51ec5ca2f6aad6141f5206e72f4b0a68ad3d"), looks := false }, kinds := [], alts := [], laidByText := true, laidKinds := [.data, .data], laidTests := true, laidLooks := .later }
def ImageCrashCardSaid : Prop := Claim7.holds Tryd.pinned (.plain (OpenSpec.ofChange imageCrashSpec)) imageCrashCard

/-- THE TIED CARD OF 'shipwrightlaw08.ImageNil'. -/
def imageNilCard : Claim7 := { stood := { row := imageNilRow, standIns := [], harness := (true, "f526ec34929bc69548b32bc1b67d51ec5ca2f6aad6141f5206e72f4b0a68ad3d"), looks := false }, kinds := [], alts := [], laidByText := true, laidKinds := [.data, .data], laidTests := true, laidLooks := .later }
def ImageNilCardSaid : Prop := Claim7.holds Tryd.pinned (.plain (OpenSpec.ofChange imageNilSpec)) imageNilCard

/-- THE TIED CARD OF 'shipwrightlaw08.ImageWholes'. -/
def imageWholesCard : Claim7 := { stood := { row := imageWholesRow, standIns := [], harness := (true, "f526ec34929bc69548b32bc1b67d51ec5ca2f6aad6141f5206e72f4b0a68ad3d"), looks := false }, kinds := [], alts := [], laidByText := true, laidKinds := [.data, .data], laidTests := true, laidLooks := .later }
def ImageWholesCardSaid : Prop := Claim7.holds Tryd.pinned (.plain (OpenSpec.ofChange imageWholesSpec)) imageWholesCard

/-- THE TIED CARD OF 'shipwrightlaw08.ImageBoth'. -/
def imageBothCard : Claim7 := { stood := { row := imageBothRow, standIns := [], harness := (true, "f526ec34929bc69548b32bc1b67d51ec5ca2f6aad6141f5206e72f4b0a68ad3d"), looks := false }, kinds := [], alts := [], laidByText := true, laidKinds := [.data, .data], laidTests := true, laidLooks := .later }
def ImageBothCardSaid : Prop := Claim7.holds Tryd.pinned (.plain (OpenSpec.ofChange imageBothSpec)) imageBothCard

/-- THE SECOND FORM's CARD OF 'shipwrightlaw08.ImageNames'. -/
def imageNamesUptoCard : Claim7 := { stood := { row := imageNamesUptoRow, standIns := [], harness := (true, "f526ec34929bc69548b32bc1b67d51ec5ca2f6aad6141f5206e72f4b0a68ad3d"), looks := false }, kinds := [], alts := [], laidByText := true, laidKinds := [.data, .data], laidTests := true, laidLooks := .later }
def ImageNamesUptoCardSaid : Prop := Claim7.holds Tryd.pinned (.plain (OpenSpec.upto imageNamesSpec)) imageNamesUptoCard

/-- THE SECOND FORM's CARD OF 'shipwrightlaw08.ImageBlocks'. -/
def imageBlocksUptoCard : Claim7 := { stood := { row := imageBlocksUptoRow, standIns := [], harness := (true, "f526ec34929bc69548b32bc1b67d51ec5ca2f6aad6141f5206e72f4b0a68ad3d"), looks := false }, kinds := [], alts := [], laidByText := true, laidKinds := [.data, .data], laidTests := true, laidLooks := .later }
def ImageBlocksUptoCardSaid : Prop := Claim7.holds Tryd.pinned (.plain (OpenSpec.upto imageBlocksSpec)) imageBlocksUptoCard

/-- THE SECOND FORM's CARD OF 'shipwrightlaw08.ImageBack'. -/
def imageBackUptoCard : Claim7 := { stood := { row := imageBackUptoRow, standIns := [], harness := (true, "f526ec34929bc69548b32bc1b67d51ec5ca2f6aad6141f5206e72f4b0a68ad3d"), looks := false }, kinds := [], alts := [], laidByText := true, laidKinds := [.data, .data], laidTests := true, laidLooks := .later }
def ImageBackUptoCardSaid : Prop := Claim7.holds Tryd.pinned (.plain (OpenSpec.upto imageBackSpec)) imageBackUptoCard

/-- THE SECOND FORM's CARD OF 'shipwrightlaw08.ImageCrash'. -/
def imageCrashUptoCard : Claim7 := { stood := { row := imageCrashUptoRow, standIns := [], harness := (true, "f526ec34929bc69548b32bc1b67d51ec5ca2f6aad6141f5206e72f4b0a68ad3d"), looks := false }, kinds := [], alts := [], laidByText := true, laidKinds := [.data, .data], laidTests := true, laidLooks := .later }
def ImageCrashUptoCardSaid : Prop := Claim7.holds Tryd.pinned (.plain (OpenSpec.upto imageCrashSpec)) imageCrashUptoCard

/-- THE SECOND FORM's CARD OF 'shipwrightlaw08.ImageNil'. -/
def imageNilUptoCard : Claim7 := { stood := { row := imageNilUptoRow, standIns := [], harness := (true, "f526ec34929bc69548b32bc1b67d51ec5ca2f6aad6141f5206e72f4b0a68ad3d"), looks := false }, kinds := [], alts := [], laidByText := true, laidKinds := [.data, .data], laidTests := true, laidLooks := .later }
def ImageNilUptoCardSaid : Prop := Claim7.holds Tryd.pinned (.plain (OpenSpec.upto imageNilSpec)) imageNilUptoCard

/-- THE SECOND FORM's CARD OF 'shipwrightlaw08.ImageWholes'. -/
def imageWholesUptoCard : Claim7 := { stood := { row := imageWholesUptoRow, standIns := [], harness := (true, "f526ec34929bc69548b32bc1b67d51ec5ca2f6aad6141f5206e72f4b0a68ad3d"), looks := false }, kinds := [], alts := [], laidByText := true, laidKinds := [.data, .data], laidTests := true, laidLooks := .later }
def ImageWholesUptoCardSaid : Prop := Claim7.holds Tryd.pinned (.plain (OpenSpec.upto imageWholesSpec)) imageWholesUptoCard

/-- THE SECOND FORM's CARD OF 'shipwrightlaw08.ImageBoth'. -/
def imageBothUptoCard : Claim7 := { stood := { row := imageBothUptoRow, standIns := [], harness := (true, "f526ec34929bc69548b32bc1b67d51ec5ca2f6aad6141f5206e72f4b0a68ad3d"), looks := false }, kinds := [], alts := [], laidByText := true, laidKinds := [.data, .data], laidTests := true, laidLooks := .later }
def ImageBothUptoCardSaid : Prop := Claim7.holds Tryd.pinned (.plain (OpenSpec.upto imageBothSpec)) imageBothUptoCard
end Rows
end Go.Proofs.YtjpgepodkeccmaaDoor
