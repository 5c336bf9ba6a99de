/-
  DERIVED. GIVEN WITH THE SEED: THE CARDS: each row of YtenlciekkkfojaaDoorRows.lean that lists a variable, with what it lists TIED to the program's text (the seventh form; the later family's looks); each row that meets fmt, with fmt's text TOLD by the authors' own Lean function (tested against real Go, not proved from fmt's source: count such statements apart). THE CARD IS WHAT COUNTS. Prove the row's statement (the work); the ties are given (YtenlciekkkfojaaDoorTie.lean); close each card by the builder's one call (the guide's Derived/Test/ToyasCard.lean, 'card_holds'). Laid BY PROGRAM, IN A SANDBOX (cutbox-door.mjs). By AI agents, Wed Nov 11 2026. No macro, syntax, notation, axiom, sorry.
-/
import Derived.Test.YtenlciekkkfojaaDoorRows
import GoSem.ClaimSeven
namespace Go.Proofs.YtenlciekkkfojaaDoor
namespace Rows

/-- THE TIED CARD OF 'flightdecktop.TopAltitudes'. -/
def topAltitudesCard : Claim7 := { stood := { row := topAltitudesRow, standIns := [], harness := (true, "8de18dc74d186ce7fdd3d197ba2ba477c398e8c8fd263cb4c99a871ae32440bb"), looks := false }, kinds := [], alts := [], laidByText := true, laidKinds := [.data, .data, .data], laidTests := true, laidLooks := .later }
def TopAltitudesCardSaid : Prop := Claim7.holds Tryd.pinned (.plain (OpenSpec.ofChange topAltitudesSpec)) topAltitudesCard

/-- THE SECOND FORM's CARD OF 'flightdecktop.TopAltitudes'. -/
def topAltitudesUptoCard : Claim7 := { stood := { row := topAltitudesUptoRow, standIns := [], harness := (true, "8de18dc74d186ce7fdd3d197ba2ba477c398e8c8fd263cb4c99a871ae32440bb"), looks := false }, kinds := [], alts := [], laidByText := true, laidKinds := [.data, .data, .data], laidTests := true, laidLooks := .later }
def TopAltitudesUptoCardSaid : Prop := Claim7.holds Tryd.pinned (.plain (OpenSpec.upto topAltitudesSpec)) topAltitudesUptoCard
end Rows
end Go.Proofs.YtenlciekkkfojaaDoor
