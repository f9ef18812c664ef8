/-
  DERIVED. GIVEN WITH THE SEED: THE CARDS: each row of YtiogfkhmigbgpaaDoorRows.lean that lists a variable, with what it lists TIED to the program's text (the seventh form; the later family's looks); each row that meets fmt, with fmt's text TOLD by the authors' own Lean function (tested against real Go, not proved from fmt's source: count such statements apart). THE CARD IS WHAT COUNTS. Prove the row's statement (the work); the ties are given (YtiogfkhmigbgpaaDoorTie.lean); close each card by the builder's one call (the guide's Derived/Test/ToyasCard.lean, 'card_holds'). Laid BY PROGRAM, IN A SANDBOX (cutbox-door.mjs). By AI agents, Wed Nov 11 2026. No macro, syntax, notation, axiom, sorry.
-/
import Derived.Test.YtiogfkhmigbgpaaDoorRows
import GoSem.ClaimSeven
namespace Go.Proofs.YtiogfkhmigbgpaaDoor
namespace Rows

/-- THE TIED CARD OF 'shipwrightlaw17.TransferPicks'. -/
def transferPicksCard : Claim7 := { stood := { row := transferPicksRow, standIns := [], harness := (true, "dce9fd0d4da1ff9ee832f4bc0153b393b0851e85b01981a2ba4d1a8718ed3d5d"), looks := false }, kinds := [], alts := [], laidByText := true, laidKinds := [.data, .data], laidTests := true, laidLooks := .later }
def TransferPicksCardSaid : Prop := Claim7.holds Tryd.pinned (.plain (OpenSpec.ofChange transferPicksSpec)) transferPicksCard

/-- THE TIED CARD OF 'shipwrightlaw17.TransferTakes'. -/
def transferTakesCard : Claim7 := { stood := { row := transferTakesRow, standIns := [], harness := (true, "dce9fd0d4da1ff9ee832f4bc0153b393b0851e85b01981a2ba4d1a8718ed3d5d"), looks := false }, kinds := [], alts := [], laidByText := true, laidKinds := [.data, .data], laidTests := true, laidLooks := .later }
def TransferTakesCardSaid : Prop := Claim7.holds Tryd.pinned (.plain (OpenSpec.ofChange transferTakesSpec)) transferTakesCard

/-- THE TIED CARD OF 'shipwrightlaw17.TransferEnds'. -/
def transferEndsCard : Claim7 := { stood := { row := transferEndsRow, standIns := [], harness := (true, "dce9fd0d4da1ff9ee832f4bc0153b393b0851e85b01981a2ba4d1a8718ed3d5d"), looks := false }, kinds := [], alts := [], laidByText := true, laidKinds := [.data, .data], laidTests := true, laidLooks := .later }
def TransferEndsCardSaid : Prop := Claim7.holds Tryd.pinned (.plain (OpenSpec.ofChange transferEndsSpec)) transferEndsCard

/-- THE TIED CARD OF 'shipwrightlaw17.TransferGrows'. -/
def transferGrowsCard : Claim7 := { stood := { row := transferGrowsRow, standIns := [], harness := (true, "dce9fd0d4da1ff9ee832f4bc0153b393b0851e85b01981a2ba4d1a8718ed3d5d"), looks := false }, kinds := [], alts := [], laidByText := true, laidKinds := [.data, .data], laidTests := true, laidLooks := .later }
def TransferGrowsCardSaid : Prop := Claim7.holds Tryd.pinned (.plain (OpenSpec.ofChange transferGrowsSpec)) transferGrowsCard

/-- THE TIED CARD OF 'shipwrightlaw17.TransferFinds'. -/
def transferFindsCard : Claim7 := { stood := { row := transferFindsRow, standIns := [], harness := (true, "dce9fd0d4da1ff9ee832f4bc0153b393b0851e85b01981a2ba4d1a8718ed3d5d"), looks := false }, kinds := [], alts := [], laidByText := true, laidKinds := [.data, .data], laidTests := true, laidLooks := .later }
def TransferFindsCardSaid : Prop := Claim7.holds Tryd.pinned (.plain (OpenSpec.ofChange transferFindsSpec)) transferFindsCard

/-- THE SECOND FORM's CARD OF 'shipwrightlaw17.TransferPicks'. -/
def transferPicksUptoCard : Claim7 := { stood := { row := transferPicksUptoRow, standIns := [], harness := (true, "dce9fd0d4da1ff9ee832f4bc0153b393b0851e85b01981a2ba4d1a8718ed3d5d"), looks := false }, kinds := [], alts := [], laidByText := true, laidKinds := [.data, .data], laidTests := true, laidLooks := .later }
def TransferPicksUptoCardSaid : Prop := Claim7.holds Tryd.pinned (.plain (OpenSpec.upto transferPicksSpec)) transferPicksUptoCard

/-- THE SECOND FORM's CARD OF 'shipwrightlaw17.TransferTakes'. -/
def transferTakesUptoCard : Claim7 := { stood := { row := transferTakesUptoRow, standIns := [], harness := (true, "dce9fd0d4da1ff9ee832f4bc0153b393b0851e85b01981a2ba4d1a8718ed3d5d"), looks := false }, kinds := [], alts := [], laidByText := true, laidKinds := [.data, .data], laidTests := true, laidLooks := .later }
def TransferTakesUptoCardSaid : Prop := Claim7.holds Tryd.pinned (.plain (OpenSpec.upto transferTakesSpec)) transferTakesUptoCard

/-- THE SECOND FORM's CARD OF 'shipwrightlaw17.TransferEnds'. -/
def transferEndsUptoCard : Claim7 := { stood := { row := transferEndsUptoRow, standIns := [], harness := (true, "dce9fd0d4da1ff9ee832f4bc0153b393b0851e85b01981a2ba4d1a8718ed3d5d"), looks := false }, kinds := [], alts := [], laidByText := true, laidKinds := [.data, .data], laidTests := true, laidLooks := .later }
def TransferEndsUptoCardSaid : Prop := Claim7.holds Tryd.pinned (.plain (OpenSpec.upto transferEndsSpec)) transferEndsUptoCard

/-- THE SECOND FORM's CARD OF 'shipwrightlaw17.TransferGrows'. -/
def transferGrowsUptoCard : Claim7 := { stood := { row := transferGrowsUptoRow, standIns := [], harness := (true, "dce9fd0d4da1ff9ee832f4bc0153b393b0851e85b01981a2ba4d1a8718ed3d5d"), looks := false }, kinds := [], alts := [], laidByText := true, laidKinds := [.data, .data], laidTests := true, laidLooks := .later }
def TransferGrowsUptoCardSaid : Prop := Claim7.holds Tryd.pinned (.plain (OpenSpec.upto transferGrowsSpec)) transferGrowsUptoCard

/-- THE SECOND FORM's CARD OF 'shipwrightlaw17.TransferFinds'. -/
def transferFindsUptoCard : Claim7 := { stood := { row := transferFindsUptoRow, standIns := [], harness := (true, "dce9fd0d4da1ff9ee832f4bc0153b393b0851e85b01981a2ba4d1a8718ed3d5d"), looks := false }, kinds := [], alts := [], laidByText := true, laidKinds := [.data, .data], laidTests := true, laidLooks := .later }
def TransferFindsUptoCardSaid : Prop := Claim7.holds Tryd.pinned (.plain (OpenSpec.upto transferFindsSpec)) transferFindsUptoCard
end Rows
end Go.Proofs.YtiogfkhmigbgpaaDoor
