/-
  DERIVED. GIVEN WITH THE SEED: THE CARDS: each row of YtfpgdicacjkfoaaDoorRows.lean that lists a variable, with what it lists TIED to the program's text (the seventh form; the later family's looks); each row that meets fmt, with fmt's text TOLD by the authors' own Lean function (tested against real Go, not proved from fmt's source: count such statements apart). THE CARD IS WHAT COUNTS. Prove the row's statement (the work); the ties are given (YtfpgdicacjkfoaaDoorTie.lean); close each card by the builder's one call (the guide's Derived/Test/ToyasCard.lean, 'card_holds'). Laid BY PROGRAM, IN A SANDBOX (cutbox-door.mjs). By AI agents, Wed Nov 11 2026. No macro, syntax, notation, axiom, sorry.
-/
import Derived.Test.YtfpgdicacjkfoaaDoorRows
import GoSem.ClaimSeven
namespace Go.Proofs.YtfpgdicacjkfoaaDoor
namespace Rows

/-- THE TIED CARD OF 'flightdecklaw13.WindEncloses'. -/
def windEnclosesCard : Claim7 := { stood := { row := windEnclosesRow, standIns := [], harness := (true, "255cfe2bdcc86939add730a7cc2e1cb1ec0da4f0824ad3d48a6d831e98b90929"), looks := true }, kinds := [], alts := [], laidByText := true, laidKinds := [.data, .data, .data, .sentinel, .sentinel], laidTests := true, laidLooks := .later }
def WindEnclosesCardSaid : Prop := Claim7.holds Tryd.pinned (.plain (OpenSpec.ofChange windEnclosesSpec)) windEnclosesCard

/-- THE TIED CARD OF 'flightdecklaw13.WindBounds'. -/
def windBoundsCard : Claim7 := { stood := { row := windBoundsRow, standIns := [], harness := (true, "255cfe2bdcc86939add730a7cc2e1cb1ec0da4f0824ad3d48a6d831e98b90929"), looks := true }, kinds := [], alts := [], laidByText := true, laidKinds := [.data, .data, .data, .sentinel, .sentinel], laidTests := true, laidLooks := .later }
def WindBoundsCardSaid : Prop := Claim7.holds Tryd.pinned (.plain (OpenSpec.ofChange windBoundsSpec)) windBoundsCard

/-- THE TIED CARD OF 'flightdecklaw13.WindTriangle'. -/
def windTriangleCard : Claim7 := { stood := { row := windTriangleRow, standIns := [], harness := (true, "255cfe2bdcc86939add730a7cc2e1cb1ec0da4f0824ad3d48a6d831e98b90929"), looks := true }, kinds := [], alts := [], laidByText := true, laidKinds := [.data, .data, .data, .sentinel, .sentinel], laidTests := true, laidLooks := .later }
def WindTriangleCardSaid : Prop := Claim7.holds Tryd.pinned (.plain (OpenSpec.ofChange windTriangleSpec)) windTriangleCard

/-- THE TIED CARD OF 'flightdecklaw13.WindBoxes'. -/
def windBoxesCard : Claim7 := { stood := { row := windBoxesRow, standIns := [], harness := (true, "255cfe2bdcc86939add730a7cc2e1cb1ec0da4f0824ad3d48a6d831e98b90929"), looks := true }, kinds := [], alts := [], laidByText := true, laidKinds := [.data, .data, .data, .sentinel, .sentinel], laidTests := true, laidLooks := .later }
def WindBoxesCardSaid : Prop := Claim7.holds Tryd.pinned (.plain (OpenSpec.ofChange windBoxesSpec)) windBoxesCard

/-- THE TIED CARD OF 'flightdecklaw13.WindDirections'. -/
def windDirectionsCard : Claim7 := { stood := { row := windDirectionsRow, standIns := [], harness := (true, "255cfe2bdcc86939add730a7cc2e1cb1ec0da4f0824ad3d48a6d831e98b90929"), looks := true }, kinds := [], alts := [], laidByText := true, laidKinds := [.data, .data, .data, .sentinel, .sentinel], laidTests := true, laidLooks := .later }
def WindDirectionsCardSaid : Prop := Claim7.holds Tryd.pinned (.plain (OpenSpec.ofChange windDirectionsSpec)) windDirectionsCard

/-- THE TIED CARD OF 'flightdecklaw13.WindTexts'. -/
def windTextsCard : Claim7 := { stood := { row := windTextsRow, standIns := [], harness := (true, "255cfe2bdcc86939add730a7cc2e1cb1ec0da4f0824ad3d48a6d831e98b90929"), looks := true }, kinds := [], alts := [], laidByText := true, laidKinds := [.data, .data, .data, .sentinel, .sentinel], laidTests := true, laidLooks := .later }
def WindTextsCardSaid : Prop := Claim7.holds Tryd.pinned (.plain (OpenSpec.ofChange windTextsSpec)) windTextsCard

/-- THE SECOND FORM's CARD OF 'flightdecklaw13.WindEncloses'. -/
def windEnclosesUptoCard : Claim7 := { stood := { row := windEnclosesUptoRow, standIns := [], harness := (true, "255cfe2bdcc86939add730a7cc2e1cb1ec0da4f0824ad3d48a6d831e98b90929"), looks := true }, kinds := [], alts := [], laidByText := true, laidKinds := [.data, .data, .data, .sentinel, .sentinel], laidTests := true, laidLooks := .later }
def WindEnclosesUptoCardSaid : Prop := Claim7.holds Tryd.pinned (.plain (OpenSpec.upto windEnclosesSpec)) windEnclosesUptoCard

/-- THE SECOND FORM's CARD OF 'flightdecklaw13.WindBounds'. -/
def windBoundsUptoCard : Claim7 := { stood := { row := windBoundsUptoRow, standIns := [], harness := (true, "255cfe2bdcc86939add730a7cc2e1cb1ec0da4f0824ad3d48a6d831e98b90929"), looks := true }, kinds := [], alts := [], laidByText := true, laidKinds := [.data, .data, .data, .sentinel, .sentinel], laidTests := true, laidLooks := .later }
def WindBoundsUptoCardSaid : Prop := Claim7.holds Tryd.pinned (.plain (OpenSpec.upto windBoundsSpec)) windBoundsUptoCard

/-- THE SECOND FORM's CARD OF 'flightdecklaw13.WindTriangle'. -/
def windTriangleUptoCard : Claim7 := { stood := { row := windTriangleUptoRow, standIns := [], harness := (true, "255cfe2bdcc86939add730a7cc2e1cb1ec0da4f0824ad3d48a6d831e98b90929"), looks := true }, kinds := [], alts := [], laidByText := true, laidKinds := [.data, .data, .data, .sentinel, .sentinel], laidTests := true, laidLooks := .later }
def WindTriangleUptoCardSaid : Prop := Claim7.holds Tryd.pinned (.plain (OpenSpec.upto windTriangleSpec)) windTriangleUptoCard

/-- THE SECOND FORM's CARD OF 'flightdecklaw13.WindBoxes'. -/
def windBoxesUptoCard : Claim7 := { stood := { row := windBoxesUptoRow, standIns := [], harness := (true, "255cfe2bdcc86939add730a7cc2e1cb1ec0da4f0824ad3d48a6d831e98b90929"), looks := true }, kinds := [], alts := [], laidByText := true, laidKinds := [.data, .data, .data, .sentinel, .sentinel], laidTests := true, laidLooks := .later }
def WindBoxesUptoCardSaid : Prop := Claim7.holds Tryd.pinned (.plain (OpenSpec.upto windBoxesSpec)) windBoxesUptoCard

/-- THE SECOND FORM's CARD OF 'flightdecklaw13.WindDirections'. -/
def windDirectionsUptoCard : Claim7 := { stood := { row := windDirectionsUptoRow, standIns := [], harness := (true, "255cfe2bdcc86939add730a7cc2e1cb1ec0da4f0824ad3d48a6d831e98b90929"), looks := true }, kinds := [], alts := [], laidByText := true, laidKinds := [.data, .data, .data, .sentinel, .sentinel], laidTests := true, laidLooks := .later }
def WindDirectionsUptoCardSaid : Prop := Claim7.holds Tryd.pinned (.plain (OpenSpec.upto windDirectionsSpec)) windDirectionsUptoCard

/-- THE SECOND FORM's CARD OF 'flightdecklaw13.WindTexts'. -/
def windTextsUptoCard : Claim7 := { stood := { row := windTextsUptoRow, standIns := [], harness := (true, "255cfe2bdcc86939add730a7cc2e1cb1ec0da4f0824ad3d48a6d831e98b90929"), looks := true }, kinds := [], alts := [], laidByText := true, laidKinds := [.data, .data, .data, .sentinel, .sentinel], laidTests := true, laidLooks := .later }
def WindTextsUptoCardSaid : Prop := Claim7.holds Tryd.pinned (.plain (OpenSpec.upto windTextsSpec)) windTextsUptoCard
end Rows
end Go.Proofs.YtfpgdicacjkfoaaDoor
