/-
  DERIVED. GIVEN WITH THE SEED: THE CARDS: each row of YtdjibhpjdhpcgaaDoorRows.lean that lists a variable, with what it lists TIED to the program's text (the seventh form; the later family's looks); each row that meets fmt, with fmt's text TOLD by the authors' own Lean function (tested against real Go, not proved from fmt's source: count such statements apart). THE CARD IS WHAT COUNTS. Prove the row's statement (the work); the ties are given (YtdjibhpjdhpcgaaDoorTie.lean); close each card by the builder's one call (the guide's Derived/Test/ToyasCard.lean, 'card_holds'). Laid BY PROGRAM, IN A SANDBOX (cutbox-door.mjs). By AI agents, Wed Nov 11 2026. No macro, syntax, notation, axiom, sorry.
-/
import Derived.Test.YtdjibhpjdhpcgaaDoorRows
import GoSem.ClaimSeven
namespace Go.Proofs.YtdjibhpjdhpcgaaDoor
namespace Rows

/-- THE TIED CARD OF 'shipwrightlaw05.ManifestNames'. -/
def manifestNamesCard : Claim7 := { stood := { row := manifestNamesRow, standIns := [], harness := (true, "7383946325371b3d6416bf15485e00262a5778d2f759e2e6c77b8d4f36ad679d"), looks := false }, kinds := [], alts := [], laidByText := true, laidKinds := [.data, .data], laidTests := true, laidLooks := .later }
def ManifestNamesCardSaid : Prop := Claim7.holds Tryd.pinned (.plain (OpenSpec.ofChange manifestNamesSpec)) manifestNamesCard

/-- THE TIED CARD OF 'shipwrightlaw05.ManifestBuilds'. -/
def manifestBuildsCard : Claim7 := { stood := { row := manifestBuildsRow, standIns := [], harness := (true, "7383946325371b3d6416bf15485e00262a5778d2f759e2e6c77b8d4f36ad679d"), looks := false }, kinds := [], alts := [], laidByText := true, laidKinds := [.data, .data], laidTests := true, laidLooks := .later }
def ManifestBuildsCardSaid : Prop := Claim7.holds Tryd.pinned (.plain (OpenSpec.ofChange manifestBuildsSpec)) manifestBuildsCard

/-- THE TIED CARD OF 'shipwrightlaw05.ManifestTells'. -/
def manifestTellsCard : Claim7 := { stood := { row := manifestTellsRow, standIns := [], harness := (true, "7383946325371b3d6416bf15485e00262a5778d2f759e2e6c77b8d4f36ad679d"), looks := false }, kinds := [], alts := [], laidByText := true, laidKinds := [.data, .data], laidTests := true, laidLooks := .later }
def ManifestTellsCardSaid : Prop := Claim7.holds Tryd.pinned (.plain (OpenSpec.ofChange manifestTellsSpec)) manifestTellsCard

/-- THE TIED CARD OF 'shipwrightlaw05.ManifestVerifies'. -/
def manifestVerifiesCard : Claim7 := { stood := { row := manifestVerifiesRow, standIns := [], harness := (true, "7383946325371b3d6416bf15485e00262a5778d2f759e2e6c77b8d4f36ad679d"), looks := false }, kinds := [], alts := [], laidByText := true, laidKinds := [.data, .data], laidTests := true, laidLooks := .later }
def ManifestVerifiesCardSaid : Prop := Claim7.holds Tryd.pinned (.plain (OpenSpec.ofChange manifestVerifiesSpec)) manifestVerifiesCard

/-- THE TIED CARD OF 'shipwrightlaw05.ManifestDecodes'. -/
def manifestDecodesCard : Claim7 := { stood := { row := manifestDecodesRow, standIns := [], harness := (true, "7383946325371b3d6416bf15485e00262a5778d2f759e2e6c77b8d4f36ad679d"), looks := false }, kinds := [], alts := [], laidByText := true, laidKinds := [.data, .data], laidTests := true, laidLooks := .later }
def ManifestDecodesCardSaid : Prop := Claim7.holds Tryd.pinned (.plain (OpenSpec.ofChange manifestDecodesSpec)) manifestDecodesCard

/-- THE TIED CARD OF 'shipwrightlaw05.ManifestBack'. -/
def manifestBackCard : Claim7 := { stood := { row := manifestBackRow, standIns := [], harness := (true, "7383946325371b3d6416bf15485e00262a5778d2f759e2e6c77b8d4f36ad679d"), looks := false }, kinds := [], alts := [], laidByText := true, laidKinds := [.data, .data], laidTests := true, laidLooks := .later }
def ManifestBackCardSaid : Prop := Claim7.holds Tryd.pinned (.plain (OpenSpec.ofChange manifestBackSpec)) manifestBackCard

/-- THE TIED CARD OF 'shipwrightlaw05.ManifestOnce'. -/
def manifestOnceCard : Claim7 := { stood := { row := manifestOnceRow, standIns := [], harness := (true, "7383946325371b3d6416bf15485e00262a5778d2f759e2e6c77b8d4f36ad679d"), looks := false }, kinds := [], alts := [], laidByText := true, laidKinds := [.data, .data], laidTests := true, laidLooks := .later }
def ManifestOnceCardSaid : Prop := Claim7.holds Tryd.pinned (.plain (OpenSpec.ofChange manifestOnceSpec)) manifestOnceCard

/-- THE TIED CARD OF 'shipwrightlaw05.ManifestSizes'. -/
def manifestSizesCard : Claim7 := { stood := { row := manifestSizesRow, standIns := [], harness := (true, "7383946325371b3d6416bf15485e00262a5778d2f759e2e6c77b8d4f36ad679d"), looks := false }, kinds := [], alts := [], laidByText := true, laidKinds := [.data, .data], laidTests := true, laidLooks := .later }
def ManifestSizesCardSaid : Prop := Claim7.holds Tryd.pinned (.plain (OpenSpec.ofChange manifestSizesSpec)) manifestSizesCard

/-- THE TIED CARD OF 'shipwrightlaw05.ManifestLimits'. -/
def manifestLimitsCard : Claim7 := { stood := { row := manifestLimitsRow, standIns := [], harness := (true, "7383946325371b3d6416bf15485e00262a5778d2f759e2e6c77b8d4f36ad679d"), looks := false }, kinds := [], alts := [], laidByText := true, laidKinds := [.data, .data], laidTests := true, laidLooks := .later }
def ManifestLimitsCardSaid : Prop := Claim7.holds Tryd.pinned (.plain (OpenSpec.ofChange manifestLimitsSpec)) manifestLimitsCard

/-- THE SECOND FORM's CARD OF 'shipwrightlaw05.ManifestNames'. -/
def manifestNamesUptoCard : Claim7 := { stood := { row := manifestNamesUptoRow, standIns := [], harness := (true, "7383946325371b3d6416bf15485e00262a5778d2f759e2e6c77b8d4f36ad679d"), looks := false }, kinds := [], alts := [], laidByText := true, laidKinds := [.data, .data], laidTests := true, laidLooks := .later }
def ManifestNamesUptoCardSaid : Prop := Claim7.holds Tryd.pinned (.plain (OpenSpec.upto manifestNamesSpec)) manifestNamesUptoCard

/-- THE SECOND FORM's CARD OF 'shipwrightlaw05.ManifestBuilds'. -/
def manifestBuildsUptoCard : Claim7 := { stood := { row := manifestBuildsUptoRow, standIns := [], harness := (true, "7383946325371b3d6416bf15485e00262a5778d2f759e2e6c77b8d4f36ad679d"), looks := false }, kinds := [], alts := [], laidByText := true, laidKinds := [.data, .data], laidTests := true, laidLooks := .later }
def ManifestBuildsUptoCardSaid : Prop := Claim7.holds Tryd.pinned (.plain (OpenSpec.upto manifestBuildsSpec)) manifestBuildsUptoCard

/-- THE SECOND FORM's CARD OF 'shipwrightlaw05.ManifestTells'. -/
def manifestTellsUptoCard : Claim7 := { stood := { row := manifestTellsUptoRow, standIns := [], harness := (true, "7383946325371b3d6416bf15485e00262a5778d2f759e2e6c77b8d4f36ad679d"), looks := false }, kinds := [], alts := [], laidByText := true, laidKinds := [.data, .data], laidTests := true, laidLooks := .later }
def ManifestTellsUptoCardSaid : Prop := Claim7.holds Tryd.pinned (.plain (OpenSpec.upto manifestTellsSpec)) manifestTellsUptoCard

/-- THE SECOND FORM's CARD OF 'shipwrightlaw05.ManifestVerifies'. -/
def manifestVerifiesUptoCard : Claim7 := { stood := { row := manifestVerifiesUptoRow, standIns := [], harness := (true, "7383946325371b3d6416bf15485e00262a5778d2f759e2e6c77b8d4f36ad679d"), looks := false }, kinds := [], alts := [], laidByText := true, laidKinds := [.data, .data], laidTests := true, laidLooks := .later }
def ManifestVerifiesUptoCardSaid : Prop := Claim7.holds Tryd.pinned (.plain (OpenSpec.upto manifestVerifiesSpec)) manifestVerifiesUptoCard

/-- THE SECOND FORM's CARD OF 'shipwrightlaw05.ManifestDecodes'. -/
def manifestDecodesUptoCard : Claim7 := { stood := { row := manifestDecodesUptoRow, standIns := [], harness := (true, "7383946325371b3d6416bf15485e00262a5778d2f759e2e6c77b8d4f36ad679d"), looks := false }, kinds := [], alts := [], laidByText := true, laidKinds := [.data, .data], laidTests := true, laidLooks := .later }
def ManifestDecodesUptoCardSaid : Prop := Claim7.holds Tryd.pinned (.plain (OpenSpec.upto manifestDecodesSpec)) manifestDecodesUptoCard

/-- THE SECOND FORM's CARD OF 'shipwrightlaw05.ManifestBack'. -/
def manifestBackUptoCard : Claim7 := { stood := { row := manifestBackUptoRow, standIns := [], harness := (true, "7383946325371b3d6416bf15485e00262a5778d2f759e2e6c77b8d4f36ad679d"), looks := false }, kinds := [], alts := [], laidByText := true, laidKinds := [.data, .data], laidTests := true, laidLooks := .later }
def ManifestBackUptoCardSaid : Prop := Claim7.holds Tryd.pinned (.plain (OpenSpec.upto manifestBackSpec)) manifestBackUptoCard

/-- THE SECOND FORM's CARD OF 'shipwrightlaw05.ManifestOnce'. -/
def manifestOnceUptoCard : Claim7 := { stood := { row := manifestOnceUptoRow, standIns := [], harness := (true, "7383946325371b3d6416bf15485e00262a5778d2f759e2e6c77b8d4f36ad679d"), looks := false }, kinds := [], alts := [], laidByText := true, laidKinds := [.data, .data], laidTests := true, laidLooks := .later }
def ManifestOnceUptoCardSaid : Prop := Claim7.holds Tryd.pinned (.plain (OpenSpec.upto manifestOnceSpec)) manifestOnceUptoCard

/-- THE SECOND FORM's CARD OF 'shipwrightlaw05.ManifestSizes'. -/
def manifestSizesUptoCard : Claim7 := { stood := { row := manifestSizesUptoRow, standIns := [], harness := (true, "7383946325371b3d6416bf15485e00262a5778d2f759e2e6c77b8d4f36ad679d"), looks := false }, kinds := [], alts := [], laidByText := true, laidKinds := [.data, .data], laidTests := true, laidLooks := .later }
def ManifestSizesUptoCardSaid : Prop := Claim7.holds Tryd.pinned (.plain (OpenSpec.upto manifestSizesSpec)) manifestSizesUptoCard

/-- THE SECOND FORM's CARD OF 'shipwrightlaw05.ManifestLimits'. -/
def manifestLimitsUptoCard : Claim7 := { stood := { row := manifestLimitsUptoRow, standIns := [], harness := (true, "7383946325371b3d6416bf15485e00262a5778d2f759e2e6c77b8d4f36ad679d"), looks := false }, kinds := [], alts := [], laidByText := true, laidKinds := [.data, .data], laidTests := true, laidLooks := .later }
def ManifestLimitsUptoCardSaid : Prop := Claim7.holds Tryd.pinned (.plain (OpenSpec.upto manifestLimitsSpec)) manifestLimitsUptoCard
end Rows
end Go.Proofs.YtdjibhpjdhpcgaaDoor
