/-
  DERIVED. GIVEN WITH THE SEED: THE CARDS: each row of YtkmpbkojdkoghaaDoorRows.lean that lists a variable, with what it lists TIED to the program's text (the seventh form; the later family's looks); each row that meets fmt, with fmt's text TOLD by the authors' own Lean function (tested against real Go, not proved from fmt's source: count such statements apart). THE CARD IS WHAT COUNTS. Prove the row's statement (the work); the ties are given (YtkmpbkojdkoghaaDoorTie.lean); close each card by the builder's one call (the guide's Derived/Test/ToyasCard.lean, 'card_holds'). Laid BY PROGRAM, IN A SANDBOX (cutbox-door.mjs). By AI agents, Wed Nov 11 2026. No macro, syntax, notation, axiom, sorry.
-/
import Derived.Test.YtkmpbkojdkoghaaDoorRows
import GoSem.ClaimSeven
namespace Go.Proofs.YtkmpbkojdkoghaaDoor
namespace Rows

/-- THE TIED CARD OF 'flightdecklaw05.CalendarMonths'. -/
def calendarMonthsCard : Claim7 := { stood := { row := calendarMonthsRow, standIns := [], harness := (true, "e6b55dc2d400faa398817068a17e8b00e3633c952e5d6c45dc03f267a923ea9d"), looks := false }, kinds := [], alts := [], laidByText := true, laidKinds := [.data], laidTests := true, laidLooks := .later }
def CalendarMonthsCardSaid : Prop := Claim7.holds Tryd.pinned (.plain (OpenSpec.ofChange calendarMonthsSpec)) calendarMonthsCard

/-- THE TIED CARD OF 'flightdecklaw05.CalendarDays'. -/
def calendarDaysCard : Claim7 := { stood := { row := calendarDaysRow, standIns := [], harness := (true, "e6b55dc2d400faa398817068a17e8b00e3633c952e5d6c45dc03f267a923ea9d"), looks := false }, kinds := [], alts := [], laidByText := true, laidKinds := [.data], laidTests := true, laidLooks := .later }
def CalendarDaysCardSaid : Prop := Claim7.holds Tryd.pinned (.plain (OpenSpec.ofChange calendarDaysSpec)) calendarDaysCard

/-- THE TIED CARD OF 'flightdecklaw05.CalendarDates'. -/
def calendarDatesCard : Claim7 := { stood := { row := calendarDatesRow, standIns := [], harness := (true, "e6b55dc2d400faa398817068a17e8b00e3633c952e5d6c45dc03f267a923ea9d"), looks := false }, kinds := [], alts := [], laidByText := true, laidKinds := [.data], laidTests := true, laidLooks := .later }
def CalendarDatesCardSaid : Prop := Claim7.holds Tryd.pinned (.plain (OpenSpec.ofChange calendarDatesSpec)) calendarDatesCard

/-- THE TIED CARD OF 'flightdecklaw05.CalendarNext'. -/
def calendarNextCard : Claim7 := { stood := { row := calendarNextRow, standIns := [], harness := (true, "e6b55dc2d400faa398817068a17e8b00e3633c952e5d6c45dc03f267a923ea9d"), looks := false }, kinds := [], alts := [], laidByText := true, laidKinds := [.data], laidTests := true, laidLooks := .later }
def CalendarNextCardSaid : Prop := Claim7.holds Tryd.pinned (.plain (OpenSpec.ofChange calendarNextSpec)) calendarNextCard

/-- THE TIED CARD OF 'flightdecklaw05.CalendarTexts'. -/
def calendarTextsCard : Claim7 := { stood := { row := calendarTextsRow, standIns := [], harness := (true, "e6b55dc2d400faa398817068a17e8b00e3633c952e5d6c45dc03f267a923ea9d"), looks := false }, kinds := [], alts := [], laidByText := true, laidKinds := [.data, .data, .data, .data], laidTests := true, laidLooks := .later }
def CalendarTextsCardSaid : Prop := Claim7.holds Tryd.pinned (.plain (OpenSpec.ofChange calendarTextsSpec)) calendarTextsCard

/-- THE TIED CARD OF 'flightdecklaw05.CalendarParses'. -/
def calendarParsesCard : Claim7 := { stood := { row := calendarParsesRow, standIns := [], harness := (true, "e6b55dc2d400faa398817068a17e8b00e3633c952e5d6c45dc03f267a923ea9d"), looks := false }, kinds := [], alts := [], laidByText := true, laidKinds := [.data], laidTests := true, laidLooks := .later }
def CalendarParsesCardSaid : Prop := Claim7.holds Tryd.pinned (.plain (OpenSpec.ofChange calendarParsesSpec)) calendarParsesCard

/-- THE TIED CARD OF 'flightdecklaw05.CalendarInstants'. -/
def calendarInstantsCard : Claim7 := { stood := { row := calendarInstantsRow, standIns := [], harness := (true, "e6b55dc2d400faa398817068a17e8b00e3633c952e5d6c45dc03f267a923ea9d"), looks := false }, kinds := [], alts := [], laidByText := true, laidKinds := [.data], laidTests := true, laidLooks := .later }
def CalendarInstantsCardSaid : Prop := Claim7.holds Tryd.pinned (.plain (OpenSpec.ofChange calendarInstantsSpec)) calendarInstantsCard

/-- THE TIED CARD OF 'flightdecklaw05.CalendarClocks'. -/
def calendarClocksCard : Claim7 := { stood := { row := calendarClocksRow, standIns := [], harness := (true, "e6b55dc2d400faa398817068a17e8b00e3633c952e5d6c45dc03f267a923ea9d"), looks := false }, kinds := [], alts := [], laidByText := true, laidKinds := [.data, .data, .data, .data], laidTests := true, laidLooks := .later }
def CalendarClocksCardSaid : Prop := Claim7.holds Tryd.pinned (.plain (OpenSpec.ofChange calendarClocksSpec)) calendarClocksCard

/-- THE TIED CARD OF 'flightdecklaw05.CalendarCycles'. -/
def calendarCyclesCard : Claim7 := { stood := { row := calendarCyclesRow, standIns := [], harness := (true, "e6b55dc2d400faa398817068a17e8b00e3633c952e5d6c45dc03f267a923ea9d"), looks := false }, kinds := [], alts := [], laidByText := true, laidKinds := [.data], laidTests := true, laidLooks := .later }
def CalendarCyclesCardSaid : Prop := Claim7.holds Tryd.pinned (.plain (OpenSpec.ofChange calendarCyclesSpec)) calendarCyclesCard

/-- THE TIED CARD OF 'flightdecklaw05.CalendarNumbers'. -/
def calendarNumbersCard : Claim7 := { stood := { row := calendarNumbersRow, standIns := [], harness := (true, "e6b55dc2d400faa398817068a17e8b00e3633c952e5d6c45dc03f267a923ea9d"), looks := false }, kinds := [], alts := [], laidByText := true, laidKinds := [.data, .data, .data, .data], laidTests := true, laidLooks := .later }
def CalendarNumbersCardSaid : Prop := Claim7.holds Tryd.pinned (.plain (OpenSpec.ofChange calendarNumbersSpec)) calendarNumbersCard

/-- THE TIED CARD OF 'flightdecklaw05.CalendarLater'. -/
def calendarLaterCard : Claim7 := { stood := { row := calendarLaterRow, standIns := [], harness := (true, "e6b55dc2d400faa398817068a17e8b00e3633c952e5d6c45dc03f267a923ea9d"), looks := false }, kinds := [], alts := [], laidByText := true, laidKinds := [.data], laidTests := true, laidLooks := .later }
def CalendarLaterCardSaid : Prop := Claim7.holds Tryd.pinned (.plain (OpenSpec.ofChange calendarLaterSpec)) calendarLaterCard

/-- THE SECOND FORM's CARD OF 'flightdecklaw05.CalendarMonths'. -/
def calendarMonthsUptoCard : Claim7 := { stood := { row := calendarMonthsUptoRow, standIns := [], harness := (true, "e6b55dc2d400faa398817068a17e8b00e3633c952e5d6c45dc03f267a923ea9d"), looks := false }, kinds := [], alts := [], laidByText := true, laidKinds := [.data], laidTests := true, laidLooks := .later }
def CalendarMonthsUptoCardSaid : Prop := Claim7.holds Tryd.pinned (.plain (OpenSpec.upto calendarMonthsSpec)) calendarMonthsUptoCard

/-- THE SECOND FORM's CARD OF 'flightdecklaw05.CalendarDays'. -/
def calendarDaysUptoCard : Claim7 := { stood := { row := calendarDaysUptoRow, standIns := [], harness := (true, "e6b55dc2d400faa398817068a17e8b00e3633c952e5d6c45dc03f267a923ea9d"), looks := false }, kinds := [], alts := [], laidByText := true, laidKinds := [.data], laidTests := true, laidLooks := .later }
def CalendarDaysUptoCardSaid : Prop := Claim7.holds Tryd.pinned (.plain (OpenSpec.upto calendarDaysSpec)) calendarDaysUptoCard

/-- THE SECOND FORM's CARD OF 'flightdecklaw05.CalendarDates'. -/
def calendarDatesUptoCard : Claim7 := { stood := { row := calendarDatesUptoRow, standIns := [], harness := (true, "e6b55dc2d400faa398817068a17e8b00e3633c952e5d6c45dc03f267a923ea9d"), looks := false }, kinds := [], alts := [], laidByText := true, laidKinds := [.data], laidTests := true, laidLooks := .later }
def CalendarDatesUptoCardSaid : Prop := Claim7.holds Tryd.pinned (.plain (OpenSpec.upto calendarDatesSpec)) calendarDatesUptoCard

/-- THE SECOND FORM's CARD OF 'flightdecklaw05.CalendarNext'. -/
def calendarNextUptoCard : Claim7 := { stood := { row := calendarNextUptoRow, standIns := [], harness := (true, "e6b55dc2d400faa398817068a17e8b00e3633c952e5d6c45dc03f267a923ea9d"), looks := false }, kinds := [], alts := [], laidByText := true, laidKinds := [.data], laidTests := true, laidLooks := .later }
def CalendarNextUptoCardSaid : Prop := Claim7.holds Tryd.pinned (.plain (OpenSpec.upto calendarNextSpec)) calendarNextUptoCard

/-- THE SECOND FORM's CARD OF 'flightdecklaw05.CalendarTexts'. -/
def calendarTextsUptoCard : Claim7 := { stood := { row := calendarTextsUptoRow, standIns := [], harness := (true, "e6b55dc2d400faa398817068a17e8b00e3633c952e5d6c45dc03f267a923ea9d"), looks := false }, kinds := [], alts := [], laidByText := true, laidKinds := [.data, .data, .data, .data], laidTests := true, laidLooks := .later }
def CalendarTextsUptoCardSaid : Prop := Claim7.holds Tryd.pinned (.plain (OpenSpec.upto calendarTextsSpec)) calendarTextsUptoCard

/-- THE SECOND FORM's CARD OF 'flightdecklaw05.CalendarParses'. -/
def calendarParsesUptoCard : Claim7 := { stood := { row := calendarParsesUptoRow, standIns := [], harness := (true, "e6b55dc2d400faa398817068a17e8b00e3633c952e5d6c45dc03f267a923ea9d"), looks := false }, kinds := [], alts := [], laidByText := true, laidKinds := [.data], laidTests := true, laidLooks := .later }
def CalendarParsesUptoCardSaid : Prop := Claim7.holds Tryd.pinned (.plain (OpenSpec.upto calendarParsesSpec)) calendarParsesUptoCard

/-- THE SECOND FORM's CARD OF 'flightdecklaw05.CalendarInstants'. -/
def calendarInstantsUptoCard : Claim7 := { stood := { row := calendarInstantsUptoRow, standIns := [], harness := (true, "e6b55dc2d400faa398817068a17e8b00e3633c952e5d6c45dc03f267a923ea9d"), looks := false }, kinds := [], alts := [], laidByText := true, laidKinds := [.data], laidTests := true, laidLooks := .later }
def CalendarInstantsUptoCardSaid : Prop := Claim7.holds Tryd.pinned (.plain (OpenSpec.upto calendarInstantsSpec)) calendarInstantsUptoCard

/-- THE SECOND FORM's CARD OF 'flightdecklaw05.CalendarClocks'. -/
def calendarClocksUptoCard : Claim7 := { stood := { row := calendarClocksUptoRow, standIns := [], harness := (true, "e6b55dc2d400faa398817068a17e8b00e3633c952e5d6c45dc03f267a923ea9d"), looks := false }, kinds := [], alts := [], laidByText := true, laidKinds := [.data, .data, .data, .data], laidTests := true, laidLooks := .later }
def CalendarClocksUptoCardSaid : Prop := Claim7.holds Tryd.pinned (.plain (OpenSpec.upto calendarClocksSpec)) calendarClocksUptoCard

/-- THE SECOND FORM's CARD OF 'flightdecklaw05.CalendarCycles'. -/
def calendarCyclesUptoCard : Claim7 := { stood := { row := calendarCyclesUptoRow, standIns := [], harness := (true, "e6b55dc2d400faa398817068a17e8b00e3633c952e5d6c45dc03f267a923ea9d"), looks := false }, kinds := [], alts := [], laidByText := true, laidKinds := [.data], laidTests := true, laidLooks := .later }
def CalendarCyclesUptoCardSaid : Prop := Claim7.holds Tryd.pinned (.plain (OpenSpec.upto calendarCyclesSpec)) calendarCyclesUptoCard

/-- THE SECOND FORM's CARD OF 'flightdecklaw05.CalendarNumbers'. -/
def calendarNumbersUptoCard : Claim7 := { stood := { row := calendarNumbersUptoRow, standIns := [], harness := (true, "e6b55dc2d400faa398817068a17e8b00e3633c952e5d6c45dc03f267a923ea9d"), looks := false }, kinds := [], alts := [], laidByText := true, laidKinds := [.data, .data, .data, .data], laidTests := true, laidLooks := .later }
def CalendarNumbersUptoCardSaid : Prop := Claim7.holds Tryd.pinned (.plain (OpenSpec.upto calendarNumbersSpec)) calendarNumbersUptoCard

/-- THE SECOND FORM's CARD OF 'flightdecklaw05.CalendarLater'. -/
def calendarLaterUptoCard : Claim7 := { stood := { row := calendarLaterUptoRow, standIns := [], harness := (true, "e6b55dc2d400faa398817068a17e8b00e3633c952e5d6c45dc03f267a923ea9d"), looks := false }, kinds := [], alts := [], laidByText := true, laidKinds := [.data], laidTests := true, laidLooks := .later }
def CalendarLaterUptoCardSaid : Prop := Claim7.holds Tryd.pinned (.plain (OpenSpec.upto calendarLaterSpec)) calendarLaterUptoCard
end Rows
end Go.Proofs.YtkmpbkojdkoghaaDoor
