/-
  DERIVED. GIVEN WITH THE SEED: THE CARDS: each row of YtndiojiphoomgaaDoorRows.lean that lists a variable, with what it lists TIED to the program's text (the seventh form; the later family's looks); each row that meets fmt, with fmt's text TOLD by the authors' own Lean function (tested against real Go, not proved from fmt's source: count such statements apart). THE CARD IS WHAT COUNTS. Prove the row's statement (the work); the ties are given (YtndiojiphoomgaaDoorTie.lean); close each card by the builder's one call (the guide's Derived/Test/ToyasCard.lean, 'card_holds'). Laid BY PROGRAM, IN A SANDBOX (cutbox-door.mjs). By AI agents, Wed Nov 11 2026. No macro, syntax, notation, axiom, sorry.
-/
import Derived.Test.YtndiojiphoomgaaDoorRows
import GoSem.ClaimSeven
namespace Go.Proofs.YtndiojiphoomgaaDoor
namespace Rows

/-- THE TIED CARD OF 'shipwrightlaw03.ShaTells'. -/
def shaTellsCard : Claim7 := { stood := { row := shaTellsRow, standIns := [], harness := (true, "32fc2ce46d197e294be64d2836a3c9424903e6ba2b1b6898764f12d075d3f09f"), looks := false }, kinds := [], alts := [], laidByText := true, laidKinds := [.data, .data], laidTests := true, laidLooks := .later }
def ShaTellsCardSaid : Prop := Claim7.holds Tryd.pinned (.plain (OpenSpec.ofChange shaTellsSpec)) shaTellsCard

/-- THE TIED CARD OF 'shipwrightlaw03.ShaTrees'. -/
def shaTreesCard : Claim7 := { stood := { row := shaTreesRow, standIns := [], harness := (true, "32fc2ce46d197e294be64d2836a3c9424903e6ba2b1b6898764f12d075d3f09f"), looks := false }, kinds := [], alts := [], laidByText := true, laidKinds := [.data, .data], laidTests := true, laidLooks := .later }
def ShaTreesCardSaid : Prop := Claim7.holds Tryd.pinned (.plain (OpenSpec.ofChange shaTreesSpec)) shaTreesCard

/-- THE TIED CARD OF 'shipwrightlaw03.ShaParts'. -/
def shaPartsCard : Claim7 := { stood := { row := shaPartsRow, standIns := [], harness := (true, "32fc2ce46d197e294be64d2836a3c9424903e6ba2b1b6898764f12d075d3f09f"), looks := false }, kinds := [], alts := [], laidByText := true, laidKinds := [.data, .data], laidTests := true, laidLooks := .later }
def ShaPartsCardSaid : Prop := Claim7.holds Tryd.pinned (.plain (OpenSpec.ofChange shaPartsSpec)) shaPartsCard

/-- THE TIED CARD OF 'shipwrightlaw03.ShaKeys'. -/
def shaKeysCard : Claim7 := { stood := { row := shaKeysRow, standIns := [], harness := (true, "32fc2ce46d197e294be64d2836a3c9424903e6ba2b1b6898764f12d075d3f09f"), looks := false }, kinds := [], alts := [], laidByText := true, laidKinds := [.data, .data], laidTests := true, laidLooks := .later }
def ShaKeysCardSaid : Prop := Claim7.holds Tryd.pinned (.plain (OpenSpec.ofChange shaKeysSpec)) shaKeysCard

/-- THE TIED CARD OF 'shipwrightlaw03.ShaTwo'. -/
def shaTwoCard : Claim7 := { stood := { row := shaTwoRow, standIns := [], harness := (true, "32fc2ce46d197e294be64d2836a3c9424903e6ba2b1b6898764f12d075d3f09f"), looks := false }, kinds := [], alts := [], laidByText := true, laidKinds := [.data, .data], laidTests := true, laidLooks := .later }
def ShaTwoCardSaid : Prop := Claim7.holds Tryd.pinned (.plain (OpenSpec.ofChange shaTwoSpec)) shaTwoCard

/-- THE TIED CARD OF 'shipwrightlaw03.ShaNests'. -/
def shaNestsCard : Claim7 := { stood := { row := shaNestsRow, standIns := [], harness := (true, "32fc2ce46d197e294be64d2836a3c9424903e6ba2b1b6898764f12d075d3f09f"), looks := false }, kinds := [], alts := [], laidByText := true, laidKinds := [.data, .data], laidTests := true, laidLooks := .later }
def ShaNestsCardSaid : Prop := Claim7.holds Tryd.pinned (.plain (OpenSpec.ofChange shaNestsSpec)) shaNestsCard

/-- THE SECOND FORM's CARD OF 'shipwrightlaw03.ShaTells'. -/
def shaTellsUptoCard : Claim7 := { stood := { row := shaTellsUptoRow, standIns := [], harness := (true, "32fc2ce46d197e294be64d2836a3c9424903e6ba2b1b6898764f12d075d3f09f"), looks := false }, kinds := [], alts := [], laidByText := true, laidKinds := [.data, .data], laidTests := true, laidLooks := .later }
def ShaTellsUptoCardSaid : Prop := Claim7.holds Tryd.pinned (.plain (OpenSpec.upto shaTellsSpec)) shaTellsUptoCard

/-- THE SECOND FORM's CARD OF 'shipwrightlaw03.ShaTrees'. -/
def shaTreesUptoCard : Claim7 := { stood := { row := shaTreesUptoRow, standIns := [], harness := (true, "32fc2ce46d197e294be64d2836a3c9424903e6ba2b1b6898764f12d075d3f09f"), looks := false }, kinds := [], alts := [], laidByText := true, laidKinds := [.data, .data], laidTests := true, laidLooks := .later }
def ShaTreesUptoCardSaid : Prop := Claim7.holds Tryd.pinned (.plain (OpenSpec.upto shaTreesSpec)) shaTreesUptoCard

/-- THE SECOND FORM's CARD OF 'shipwrightlaw03.ShaParts'. -/
def shaPartsUptoCard : Claim7 := { stood := { row := shaPartsUptoRow, standIns := [], harness := (true, "32fc2ce46d197e294be64d2836a3c9424903e6ba2b1b6898764f12d075d3f09f"), looks := false }, kinds := [], alts := [], laidByText := true, laidKinds := [.data, .data], laidTests := true, laidLooks := .later }
def ShaPartsUptoCardSaid : Prop := Claim7.holds Tryd.pinned (.plain (OpenSpec.upto shaPartsSpec)) shaPartsUptoCard

/-- THE SECOND FORM's CARD OF 'shipwrightlaw03.ShaKeys'. -/
def shaKeysUptoCard : Claim7 := { stood := { row := shaKeysUptoRow, standIns := [], harness := (true, "32fc2ce46d197e294be64d2836a3c9424903e6ba2b1b6898764f12d075d3f09f"), looks := false }, kinds := [], alts := [], laidByText := true, laidKinds := [.data, .data], laidTests := true, laidLooks := .later }
def ShaKeysUptoCardSaid : Prop := Claim7.holds Tryd.pinned (.plain (OpenSpec.upto shaKeysSpec)) shaKeysUptoCard

/-- THE SECOND FORM's CARD OF 'shipwrightlaw03.ShaTwo'. -/
def shaTwoUptoCard : Claim7 := { stood := { row := shaTwoUptoRow, standIns := [], harness := (true, "32fc2ce46d197e294be64d2836a3c9424903e6ba2b1b6898764f12d075d3f09f"), looks := false }, kinds := [], alts := [], laidByText := true, laidKinds := [.data, .data], laidTests := true, laidLooks := .later }
def ShaTwoUptoCardSaid : Prop := Claim7.holds Tryd.pinned (.plain (OpenSpec.upto shaTwoSpec)) shaTwoUptoCard

/-- THE SECOND FORM's CARD OF 'shipwrightlaw03.ShaNests'. -/
def shaNestsUptoCard : Claim7 := { stood := { row := shaNestsUptoRow, standIns := [], harness := (true, "32fc2ce46d197e294be64d2836a3c9424903e6ba2b1b6898764f12d075d3f09f"), looks := false }, kinds := [], alts := [], laidByText := true, laidKinds := [.data, .data], laidTests := true, laidLooks := .later }
def ShaNestsUptoCardSaid : Prop := Claim7.holds Tryd.pinned (.plain (OpenSpec.upto shaNestsSpec)) shaNestsUptoCard
end Rows
end Go.Proofs.YtndiojiphoomgaaDoor
