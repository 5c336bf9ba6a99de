/-
  DERIVED. GIVEN WITH THE SEED: THE CARDS: each row of YtfpgdicacjkfoaaGreatDoorRows.lean that lists a variable, with what it lists TIED to the program's text (the seventh form; the later family's looks); each row that meets fmt, with fmt's text TOLD by the authors' own Lean function (tested against real Go, not proved from fmt's source: count such statements apart). THE CARD IS WHAT COUNTS. Prove the row's statement (the work); the ties are given (YtfpgdicacjkfoaaGreatDoorTie.lean); close each card by the builder's one call (the guide's Derived/Test/ToyasCard.lean, 'card_holds'). Laid BY PROGRAM, IN A SANDBOX (cutbox-door.mjs). By AI agents, Wed Nov 11 2026. No macro, syntax, notation, axiom, sorry.
-/
import Derived.Test.YtfpgdicacjkfoaaGreatDoorRows
import GoSem.ClaimSeven
namespace Go.Proofs.YtfpgdicacjkfoaaGreatDoor
namespace Rows

/-- THE TIED CARD OF 'flightdecklaw13.WindParts'. -/
def windPartsCard : Claim7 := { stood := { row := windPartsRow, standIns := [], harness := (true, "6532c2a573014083cfc5117a1095a9c989ae8e9ebe6bfa9d958917ab65d627a0"), looks := true }, kinds := [], alts := [], laidByText := true, laidKinds := [.data, .data, .data, .sentinel, .sentinel], laidTests := true, laidLooks := .later }
def WindPartsCardSaid : Prop := Claim7.holds Tryz.pinned (.plain (OpenSpec.ofChange windPartsSpec)) windPartsCard

/-- THE TIED CARD OF 'flightdecklaw13.WindGround'. -/
def windGroundCard : Claim7 := { stood := { row := windGroundRow, standIns := [], harness := (true, "6532c2a573014083cfc5117a1095a9c989ae8e9ebe6bfa9d958917ab65d627a0"), looks := true }, kinds := [], alts := [], laidByText := true, laidKinds := [.data, .data, .data, .sentinel, .sentinel], laidTests := true, laidLooks := .later }
def WindGroundCardSaid : Prop := Claim7.holds Tryz.pinned (.plain (OpenSpec.ofChange windGroundSpec)) windGroundCard

/-- THE TIED CARD OF 'flightdecklaw13.WindSets'. -/
def windSetsCard : Claim7 := { stood := { row := windSetsRow, standIns := [], harness := (true, "6532c2a573014083cfc5117a1095a9c989ae8e9ebe6bfa9d958917ab65d627a0"), looks := true }, kinds := [], alts := [], laidByText := true, laidKinds := [.data, .data, .data, .sentinel, .sentinel], laidTests := true, laidLooks := .later }
def WindSetsCardSaid : Prop := Claim7.holds Tryz.pinned (.plain (OpenSpec.ofChange windSetsSpec)) windSetsCard

/-- THE SECOND FORM's CARD OF 'flightdecklaw13.WindParts'. -/
def windPartsUptoCard : Claim7 := { stood := { row := windPartsUptoRow, standIns := [], harness := (true, "6532c2a573014083cfc5117a1095a9c989ae8e9ebe6bfa9d958917ab65d627a0"), looks := true }, kinds := [], alts := [], laidByText := true, laidKinds := [.data, .data, .data, .sentinel, .sentinel], laidTests := true, laidLooks := .later }
def WindPartsUptoCardSaid : Prop := Claim7.holds Tryz.pinned (.plain (OpenSpec.upto windPartsSpec)) windPartsUptoCard

/-- THE SECOND FORM's CARD OF 'flightdecklaw13.WindGround'. -/
def windGroundUptoCard : Claim7 := { stood := { row := windGroundUptoRow, standIns := [], harness := (true, "6532c2a573014083cfc5117a1095a9c989ae8e9ebe6bfa9d958917ab65d627a0"), looks := true }, kinds := [], alts := [], laidByText := true, laidKinds := [.data, .data, .data, .sentinel, .sentinel], laidTests := true, laidLooks := .later }
def WindGroundUptoCardSaid : Prop := Claim7.holds Tryz.pinned (.plain (OpenSpec.upto windGroundSpec)) windGroundUptoCard

/-- THE SECOND FORM's CARD OF 'flightdecklaw13.WindSets'. -/
def windSetsUptoCard : Claim7 := { stood := { row := windSetsUptoRow, standIns := [], harness := (true, "6532c2a573014083cfc5117a1095a9c989ae8e9ebe6bfa9d958917ab65d627a0"), looks := true }, kinds := [], alts := [], laidByText := true, laidKinds := [.data, .data, .data, .sentinel, .sentinel], laidTests := true, laidLooks := .later }
def WindSetsUptoCardSaid : Prop := Claim7.holds Tryz.pinned (.plain (OpenSpec.upto windSetsSpec)) windSetsUptoCard
end Rows
end Go.Proofs.YtfpgdicacjkfoaaGreatDoor
