/-
  DERIVED. GIVEN WITH THE SEED: THE CARDS: each row of YtkldapeemdndhaaDoorRows.lean that lists a variable, with what it lists TIED to the program's text (the seventh form; the later family's looks); each row that meets fmt, with fmt's text TOLD by the authors' own Lean function (tested against real Go, not proved from fmt's source: count such statements apart). THE CARD IS WHAT COUNTS. Prove the row's statement (the work); the ties are given (YtkldapeemdndhaaDoorTie.lean); close each card by the builder's one call (the guide's Derived/Test/ToyasCard.lean, 'card_holds'). Laid BY PROGRAM, IN A SANDBOX (cutbox-door.mjs). By AI agents, Wed Nov 11 2026. No macro, syntax, notation, axiom, sorry.
-/
import Derived.Test.YtkldapeemdndhaaDoorRows
import GoSem.ClaimSeven
namespace Go.Proofs.YtkldapeemdndhaaDoor
namespace Rows

/-- THE TIED CARD OF 'flightdecklaw29.AtmospherePressure'. -/
def atmospherePressureCard : Claim7 := { stood := { row := atmospherePressureRow, standIns := [], harness := (true, "e3b2b705456168041764e766f1732bcd4005b2c27c36feff611e886677251833"), looks := false }, kinds := [], alts := [], laidByText := true, laidKinds := [.data, .data, .data], laidTests := true, laidLooks := .later }
def AtmospherePressureCardSaid : Prop := Claim7.holds Tryd.pinned (.plain (OpenSpec.ofChange atmospherePressureSpec)) atmospherePressureCard

/-- THE TIED CARD OF 'flightdecklaw29.AtmosphereValues'. -/
def atmosphereValuesCard : Claim7 := { stood := { row := atmosphereValuesRow, standIns := [], harness := (true, "e3b2b705456168041764e766f1732bcd4005b2c27c36feff611e886677251833"), looks := false }, kinds := [], alts := [], laidByText := true, laidKinds := [.data, .data, .data], laidTests := true, laidLooks := .later }
def AtmosphereValuesCardSaid : Prop := Claim7.holds Tryd.pinned (.plain (OpenSpec.ofChange atmosphereValuesSpec)) atmosphereValuesCard

/-- THE TIED CARD OF 'flightdecklaw29.AtmosphereLevel'. -/
def atmosphereLevelCard : Claim7 := { stood := { row := atmosphereLevelRow, standIns := [], harness := (true, "e3b2b705456168041764e766f1732bcd4005b2c27c36feff611e886677251833"), looks := false }, kinds := [], alts := [], laidByText := true, laidKinds := [.data, .data, .data], laidTests := true, laidLooks := .later }
def AtmosphereLevelCardSaid : Prop := Claim7.holds Tryd.pinned (.plain (OpenSpec.ofChange atmosphereLevelSpec)) atmosphereLevelCard

/-- THE TIED CARD OF 'flightdecklaw29.AtmosphereFalls'. -/
def atmosphereFallsCard : Claim7 := { stood := { row := atmosphereFallsRow, standIns := [], harness := (true, "e3b2b705456168041764e766f1732bcd4005b2c27c36feff611e886677251833"), looks := false }, kinds := [], alts := [], laidByText := true, laidKinds := [.data, .data, .data], laidTests := true, laidLooks := .later }
def AtmosphereFallsCardSaid : Prop := Claim7.holds Tryd.pinned (.plain (OpenSpec.ofChange atmosphereFallsSpec)) atmosphereFallsCard

/-- THE TIED CARD OF 'flightdecklaw29.AtmosphereWarmer'. -/
def atmosphereWarmerCard : Claim7 := { stood := { row := atmosphereWarmerRow, standIns := [], harness := (true, "e3b2b705456168041764e766f1732bcd4005b2c27c36feff611e886677251833"), looks := false }, kinds := [], alts := [], laidByText := true, laidKinds := [.data, .data, .data], laidTests := true, laidLooks := .later }
def AtmosphereWarmerCardSaid : Prop := Claim7.holds Tryd.pinned (.plain (OpenSpec.ofChange atmosphereWarmerSpec)) atmosphereWarmerCard

/-- THE TIED CARD OF 'flightdecklaw29.AtmosphereSmooth'. -/
def atmosphereSmoothCard : Claim7 := { stood := { row := atmosphereSmoothRow, standIns := [], harness := (true, "e3b2b705456168041764e766f1732bcd4005b2c27c36feff611e886677251833"), looks := false }, kinds := [], alts := [], laidByText := true, laidKinds := [.data, .data, .data], laidTests := true, laidLooks := .later }
def AtmosphereSmoothCardSaid : Prop := Claim7.holds Tryd.pinned (.plain (OpenSpec.ofChange atmosphereSmoothSpec)) atmosphereSmoothCard

/-- THE SECOND FORM's CARD OF 'flightdecklaw29.AtmospherePressure'. -/
def atmospherePressureUptoCard : Claim7 := { stood := { row := atmospherePressureUptoRow, standIns := [], harness := (true, "e3b2b705456168041764e766f1732bcd4005b2c27c36feff611e886677251833"), looks := false }, kinds := [], alts := [], laidByText := true, laidKinds := [.data, .data, .data], laidTests := true, laidLooks := .later }
def AtmospherePressureUptoCardSaid : Prop := Claim7.holds Tryd.pinned (.plain (OpenSpec.upto atmospherePressureSpec)) atmospherePressureUptoCard

/-- THE SECOND FORM's CARD OF 'flightdecklaw29.AtmosphereValues'. -/
def atmosphereValuesUptoCard : Claim7 := { stood := { row := atmosphereValuesUptoRow, standIns := [], harness := (true, "e3b2b705456168041764e766f1732bcd4005b2c27c36feff611e886677251833"), looks := false }, kinds := [], alts := [], laidByText := true, laidKinds := [.data, .data, .data], laidTests := true, laidLooks := .later }
def AtmosphereValuesUptoCardSaid : Prop := Claim7.holds Tryd.pinned (.plain (OpenSpec.upto atmosphereValuesSpec)) atmosphereValuesUptoCard

/-- THE SECOND FORM's CARD OF 'flightdecklaw29.AtmosphereLevel'. -/
def atmosphereLevelUptoCard : Claim7 := { stood := { row := atmosphereLevelUptoRow, standIns := [], harness := (true, "e3b2b705456168041764e766f1732bcd4005b2c27c36feff611e886677251833"), looks := false }, kinds := [], alts := [], laidByText := true, laidKinds := [.data, .data, .data], laidTests := true, laidLooks := .later }
def AtmosphereLevelUptoCardSaid : Prop := Claim7.holds Tryd.pinned (.plain (OpenSpec.upto atmosphereLevelSpec)) atmosphereLevelUptoCard

/-- THE SECOND FORM's CARD OF 'flightdecklaw29.AtmosphereFalls'. -/
def atmosphereFallsUptoCard : Claim7 := { stood := { row := atmosphereFallsUptoRow, standIns := [], harness := (true, "e3b2b705456168041764e766f1732bcd4005b2c27c36feff611e886677251833"), looks := false }, kinds := [], alts := [], laidByText := true, laidKinds := [.data, .data, .data], laidTests := true, laidLooks := .later }
def AtmosphereFallsUptoCardSaid : Prop := Claim7.holds Tryd.pinned (.plain (OpenSpec.upto atmosphereFallsSpec)) atmosphereFallsUptoCard

/-- THE SECOND FORM's CARD OF 'flightdecklaw29.AtmosphereWarmer'. -/
def atmosphereWarmerUptoCard : Claim7 := { stood := { row := atmosphereWarmerUptoRow, standIns := [], harness := (true, "e3b2b705456168041764e766f1732bcd4005b2c27c36feff611e886677251833"), looks := false }, kinds := [], alts := [], laidByText := true, laidKinds := [.data, .data, .data], laidTests := true, laidLooks := .later }
def AtmosphereWarmerUptoCardSaid : Prop := Claim7.holds Tryd.pinned (.plain (OpenSpec.upto atmosphereWarmerSpec)) atmosphereWarmerUptoCard

/-- THE SECOND FORM's CARD OF 'flightdecklaw29.AtmosphereSmooth'. -/
def atmosphereSmoothUptoCard : Claim7 := { stood := { row := atmosphereSmoothUptoRow, standIns := [], harness := (true, "e3b2b705456168041764e766f1732bcd4005b2c27c36feff611e886677251833"), looks := false }, kinds := [], alts := [], laidByText := true, laidKinds := [.data, .data, .data], laidTests := true, laidLooks := .later }
def AtmosphereSmoothUptoCardSaid : Prop := Claim7.holds Tryd.pinned (.plain (OpenSpec.upto atmosphereSmoothSpec)) atmosphereSmoothUptoCard
end Rows
end Go.Proofs.YtkldapeemdndhaaDoor
