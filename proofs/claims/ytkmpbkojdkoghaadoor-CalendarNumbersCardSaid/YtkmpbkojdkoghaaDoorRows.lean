/-
  NARROWER THAN 'FOR EVERY INPUT', by the rows' own cells (each row's printed sentence says how): CalendarMonths: laid · CalendarDays: laid · CalendarDates: laid · CalendarNext: laid · CalendarTexts: laid · CalendarParses: laid · CalendarInstants: laid · CalendarClocks: laid · CalendarCycles: laid · CalendarNumbers: laid · CalendarLater: laid.
  DERIVED. THE GIVEN ROWS OF THIS SEAT. 11 by the template 'for every input the law returns true; each argument reads behind the call as it read before'; 0 by the template 'total and deterministic' (their statements: YtkmpbkojdkoghaaDoorTotals.lean).
  GIVEN WITH THE SEED: the statements are not yours to turn. If you find one false, say at which input.
  Laid BY PROGRAM, IN A SANDBOX (cutbox-rows.mjs): the forced cells as the released guide's own fill.sh prints them over the translation ed1415824ac680f5… (all of the seat's roots in one cut). By AI agents, Wed Nov 11 2026. No macro, syntax, notation, axiom, sorry.
-/
import Derived.Test.YtkmpbkojdkoghaaDoorChecked
import GoSem.Claim
import GoSem.ClaimJoined
import GoSem.ClaimMapViews
import Derived.JoinedTies
import Derived.KernelRfl
namespace Go.Proofs.YtkmpbkojdkoghaaDoor
/- THE CELL 'sum', in the pinned program and in every row, IS THE sha256 OF THE DUMP (.gsa) THAT YtkmpbkojdkoghaaDoorProg.lean LOADS. Nothing in Lean hashes anything: it is a label: what it is worth is what the hold of that sum in a sandbox is worth. -/
noncomputable def Tryd.pinned : Pinned := { name := "ytkmpbkojdkoghaadoor", sum := "ed1415824ac680f5d9847b27d59c559ec92bf06755c8690d94573a4207603d40", checked := Tryd.checked }
namespace Rows
def none {H : Type} : Left H := { results := [], args := [] }

/- WHAT THE LISTED PACKAGE-LEVEL VARIABLES READ AS WHEN THE CALL BEGINS. Each datum BY PROGRAM (the guide's laid-datum.mjs) off the statement by which the dump's own 'gosem.cut.vars' lays the variable. In a bare row this is a premise. The card (YtkmpbkojdkoghaaDoorCards.lean) ties it to the program's text. -/
def laid_flightdeck_calendar_lengths {H : Type} : DataW H := .agg [.lit (.int .i64 31), .lit (.int .i64 28), .lit (.int .i64 31), .lit (.int .i64 30), .lit (.int .i64 31), .lit (.int .i64 30), .lit (.int .i64 31), .lit (.int .i64 31), .lit (.int .i64 30), .lit (.int .i64 31), .lit (.int .i64 30), .lit (.int .i64 31)]
def laid_math_bits_deBruijn32tab {H : Type} : DataW H := .agg [.lit (.int .u8 0), .lit (.int .u8 1), .lit (.int .u8 28), .lit (.int .u8 2), .lit (.int .u8 29), .lit (.int .u8 14), .lit (.int .u8 24), .lit (.int .u8 3), .lit (.int .u8 30), .lit (.int .u8 22), .lit (.int .u8 20), .lit (.int .u8 15), .lit (.int .u8 25), .lit (.int .u8 17), .lit (.int .u8 4), .lit (.int .u8 8), .lit (.int .u8 31), .lit (.int .u8 27), .lit (.int .u8 13), .lit (.int .u8 23), .lit (.int .u8 21), .lit (.int .u8 19), .lit (.int .u8 16), .lit (.int .u8 7), .lit (.int .u8 26), .lit (.int .u8 12), .lit (.int .u8 18), .lit (.int .u8 6), .lit (.int .u8 11), .lit (.int .u8 5), .lit (.int .u8 10), .lit (.int .u8 9)]
def laid_math_bits_deBruijn64tab {H : Type} : DataW H := .agg [.lit (.int .u8 0), .lit (.int .u8 1), .lit (.int .u8 56), .lit (.int .u8 2), .lit (.int .u8 57), .lit (.int .u8 49), .lit (.int .u8 28), .lit (.int .u8 3), .lit (.int .u8 61), .lit (.int .u8 58), .lit (.int .u8 42), .lit (.int .u8 50), .lit (.int .u8 38), .lit (.int .u8 29), .lit (.int .u8 17), .lit (.int .u8 4), .lit (.int .u8 62), .lit (.int .u8 47), .lit (.int .u8 59), .lit (.int .u8 36), .lit (.int .u8 45), .lit (.int .u8 43), .lit (.int .u8 51), .lit (.int .u8 22), .lit (.int .u8 53), .lit (.int .u8 39), .lit (.int .u8 33), .lit (.int .u8 30), .lit (.int .u8 24), .lit (.int .u8 18), .lit (.int .u8 12), .lit (.int .u8 5), .lit (.int .u8 63), .lit (.int .u8 55), .lit (.int .u8 48), .lit (.int .u8 27), .lit (.int .u8 60), .lit (.int .u8 41), .lit (.int .u8 37), .lit (.int .u8 16), .lit (.int .u8 46), .lit (.int .u8 35), .lit (.int .u8 44), .lit (.int .u8 21), .lit (.int .u8 52), .lit (.int .u8 32), .lit (.int .u8 23), .lit (.int .u8 11), .lit (.int .u8 54), .lit (.int .u8 26), .lit (.int .u8 40), .lit (.int .u8 15), .lit (.int .u8 34), .lit (.int .u8 20), .lit (.int .u8 31), .lit (.int .u8 10), .lit (.int .u8 25), .lit (.int .u8 14), .lit (.int .u8 19), .lit (.int .u8 9), .lit (.int .u8 13), .lit (.int .u8 8), .lit (.int .u8 7), .lit (.int .u8 6)]
def laid_internal_strconv_uint64pow10 {H : Type} : DataW H := .agg [.lit (.int .u64 1), .lit (.int .u64 10), .lit (.int .u64 100), .lit (.int .u64 1000), .lit (.int .u64 10000), .lit (.int .u64 100000), .lit (.int .u64 1000000), .lit (.int .u64 10000000), .lit (.int .u64 100000000), .lit (.int .u64 1000000000), .lit (.int .u64 10000000000), .lit (.int .u64 100000000000), .lit (.int .u64 1000000000000), .lit (.int .u64 10000000000000), .lit (.int .u64 100000000000000), .lit (.int .u64 1000000000000000), .lit (.int .u64 10000000000000000), .lit (.int .u64 100000000000000000), .lit (.int .u64 1000000000000000000), .lit (.int .u64 10000000000000000000)]

/-- 'flightdecklaw05.CalendarMonths': WHATEVER THE INPUT: true; the input reads as it did. -/
def calendarMonthsSpec : ChangeSpec := { name := "calendarMonths", fn := fun _ => fun
  | [d1, d2] => { results := [.lit (.bool true)], args := [d1, d2] }
  | _ => none }
def calendarMonthsRow : OpenClaim := { program := "ytkmpbkojdkoghaadoor", sum := "ed1415824ac680f5d9847b27d59c559ec92bf06755c8690d94573a4207603d40", func := "flightdeck/flightdecklaw05.CalendarMonths", spec := "calendarMonths", named := ["flightdeck/calendar.lengths"], apart := false, laid := [("flightdeck/calendar.lengths", laid_flightdeck_calendar_lengths)] }
def CalendarMonthsSaid : Prop := calendarMonthsRow.holds Tryd.pinned (OpenSpec.ofChange calendarMonthsSpec)

/-- ITS FALSE NEIGHBOUR: 'it returns false'. Refute it at one input. -/
def calendarMonthsWrong : ChangeSpec := { name := "calendarMonths", fn := fun _ => fun
  | [d1, d2] => { results := [.lit (.bool false)], args := [d1, d2] }
  | _ => none }
def CalendarMonthsWrongFalsely : Prop := calendarMonthsRow.holds Tryd.pinned (OpenSpec.ofChange calendarMonthsWrong)

/-- 'flightdecklaw05.CalendarDays': WHATEVER THE INPUT: true; the input reads as it did. -/
def calendarDaysSpec : ChangeSpec := { name := "calendarDays", fn := fun _ => fun
  | [d1, d2, d3] => { results := [.lit (.bool true)], args := [d1, d2, d3] }
  | _ => none }
def calendarDaysRow : OpenClaim := { program := "ytkmpbkojdkoghaadoor", sum := "ed1415824ac680f5d9847b27d59c559ec92bf06755c8690d94573a4207603d40", func := "flightdeck/flightdecklaw05.CalendarDays", spec := "calendarDays", named := ["flightdeck/calendar.lengths"], apart := false, laid := [("flightdeck/calendar.lengths", laid_flightdeck_calendar_lengths)] }
def CalendarDaysSaid : Prop := calendarDaysRow.holds Tryd.pinned (OpenSpec.ofChange calendarDaysSpec)

/-- ITS FALSE NEIGHBOUR: 'it returns false'. Refute it at one input. -/
def calendarDaysWrong : ChangeSpec := { name := "calendarDays", fn := fun _ => fun
  | [d1, d2, d3] => { results := [.lit (.bool false)], args := [d1, d2, d3] }
  | _ => none }
def CalendarDaysWrongFalsely : Prop := calendarDaysRow.holds Tryd.pinned (OpenSpec.ofChange calendarDaysWrong)

/-- 'flightdecklaw05.CalendarDates': WHATEVER THE INPUT: true; the input reads as it did. -/
def calendarDatesSpec : ChangeSpec := { name := "calendarDates", fn := fun _ => fun
  | [d] => { results := [.lit (.bool true)], args := [d] }
  | _ => none }
def calendarDatesRow : OpenClaim := { program := "ytkmpbkojdkoghaadoor", sum := "ed1415824ac680f5d9847b27d59c559ec92bf06755c8690d94573a4207603d40", func := "flightdeck/flightdecklaw05.CalendarDates", spec := "calendarDates", named := ["flightdeck/calendar.lengths"], apart := false, laid := [("flightdeck/calendar.lengths", laid_flightdeck_calendar_lengths)] }
def CalendarDatesSaid : Prop := calendarDatesRow.holds Tryd.pinned (OpenSpec.ofChange calendarDatesSpec)

/-- ITS FALSE NEIGHBOUR: 'it returns false'. Refute it at one input. -/
def calendarDatesWrong : ChangeSpec := { name := "calendarDates", fn := fun _ => fun
  | [d] => { results := [.lit (.bool false)], args := [d] }
  | _ => none }
def CalendarDatesWrongFalsely : Prop := calendarDatesRow.holds Tryd.pinned (OpenSpec.ofChange calendarDatesWrong)

/-- 'flightdecklaw05.CalendarNext': WHATEVER THE INPUT: true; the input reads as it did. -/
def calendarNextSpec : ChangeSpec := { name := "calendarNext", fn := fun _ => fun
  | [d] => { results := [.lit (.bool true)], args := [d] }
  | _ => none }
def calendarNextRow : OpenClaim := { program := "ytkmpbkojdkoghaadoor", sum := "ed1415824ac680f5d9847b27d59c559ec92bf06755c8690d94573a4207603d40", func := "flightdeck/flightdecklaw05.CalendarNext", spec := "calendarNext", named := ["flightdeck/calendar.lengths"], apart := false, laid := [("flightdeck/calendar.lengths", laid_flightdeck_calendar_lengths)] }
def CalendarNextSaid : Prop := calendarNextRow.holds Tryd.pinned (OpenSpec.ofChange calendarNextSpec)

/-- ITS FALSE NEIGHBOUR: 'it returns false'. Refute it at one input. -/
def calendarNextWrong : ChangeSpec := { name := "calendarNext", fn := fun _ => fun
  | [d] => { results := [.lit (.bool false)], args := [d] }
  | _ => none }
def CalendarNextWrongFalsely : Prop := calendarNextRow.holds Tryd.pinned (OpenSpec.ofChange calendarNextWrong)

/-- 'flightdecklaw05.CalendarTexts': WHATEVER THE INPUT: true; the input reads as it did. -/
def calendarTextsSpec : ChangeSpec := { name := "calendarTexts", fn := fun _ => fun
  | [d] => { results := [.lit (.bool true)], args := [d] }
  | _ => none }
def calendarTextsRow : OpenClaim := { program := "ytkmpbkojdkoghaadoor", sum := "ed1415824ac680f5d9847b27d59c559ec92bf06755c8690d94573a4207603d40", func := "flightdeck/flightdecklaw05.CalendarTexts", spec := "calendarTexts", named := ["flightdeck/calendar.lengths", "internal/strconv.uint64pow10", "math/bits.deBruijn32tab", "math/bits.deBruijn64tab"], apart := false, laid := [("math/bits.deBruijn32tab", laid_math_bits_deBruijn32tab), ("math/bits.deBruijn64tab", laid_math_bits_deBruijn64tab), ("internal/strconv.uint64pow10", laid_internal_strconv_uint64pow10), ("flightdeck/calendar.lengths", laid_flightdeck_calendar_lengths)] }
def CalendarTextsSaid : Prop := calendarTextsRow.holds Tryd.pinned (OpenSpec.ofChange calendarTextsSpec)

/-- ITS FALSE NEIGHBOUR: 'it returns false'. Refute it at one input. -/
def calendarTextsWrong : ChangeSpec := { name := "calendarTexts", fn := fun _ => fun
  | [d] => { results := [.lit (.bool false)], args := [d] }
  | _ => none }
def CalendarTextsWrongFalsely : Prop := calendarTextsRow.holds Tryd.pinned (OpenSpec.ofChange calendarTextsWrong)

/-- 'flightdecklaw05.CalendarParses': WHATEVER THE INPUT: true; the input reads as it did. -/
def calendarParsesSpec : ChangeSpec := { name := "calendarParses", fn := fun _ => fun
  | [d] => { results := [.lit (.bool true)], args := [d] }
  | _ => none }
def calendarParsesRow : OpenClaim := { program := "ytkmpbkojdkoghaadoor", sum := "ed1415824ac680f5d9847b27d59c559ec92bf06755c8690d94573a4207603d40", func := "flightdeck/flightdecklaw05.CalendarParses", spec := "calendarParses", named := ["flightdeck/calendar.lengths"], apart := false, laid := [("flightdeck/calendar.lengths", laid_flightdeck_calendar_lengths)] }
def CalendarParsesSaid : Prop := calendarParsesRow.holds Tryd.pinned (OpenSpec.ofChange calendarParsesSpec)

/-- ITS FALSE NEIGHBOUR: 'it returns false'. Refute it at one input. -/
def calendarParsesWrong : ChangeSpec := { name := "calendarParses", fn := fun _ => fun
  | [d] => { results := [.lit (.bool false)], args := [d] }
  | _ => none }
def CalendarParsesWrongFalsely : Prop := calendarParsesRow.holds Tryd.pinned (OpenSpec.ofChange calendarParsesWrong)

/-- 'flightdecklaw05.CalendarInstants': WHATEVER THE INPUT: true; the input reads as it did. -/
def calendarInstantsSpec : ChangeSpec := { name := "calendarInstants", fn := fun _ => fun
  | [d1, d2, d3] => { results := [.lit (.bool true)], args := [d1, d2, d3] }
  | _ => none }
def calendarInstantsRow : OpenClaim := { program := "ytkmpbkojdkoghaadoor", sum := "ed1415824ac680f5d9847b27d59c559ec92bf06755c8690d94573a4207603d40", func := "flightdeck/flightdecklaw05.CalendarInstants", spec := "calendarInstants", named := ["flightdeck/calendar.lengths"], apart := false, laid := [("flightdeck/calendar.lengths", laid_flightdeck_calendar_lengths)] }
def CalendarInstantsSaid : Prop := calendarInstantsRow.holds Tryd.pinned (OpenSpec.ofChange calendarInstantsSpec)

/-- ITS FALSE NEIGHBOUR: 'it returns false'. Refute it at one input. -/
def calendarInstantsWrong : ChangeSpec := { name := "calendarInstants", fn := fun _ => fun
  | [d1, d2, d3] => { results := [.lit (.bool false)], args := [d1, d2, d3] }
  | _ => none }
def CalendarInstantsWrongFalsely : Prop := calendarInstantsRow.holds Tryd.pinned (OpenSpec.ofChange calendarInstantsWrong)

/-- 'flightdecklaw05.CalendarClocks': WHATEVER THE INPUT: true; the input reads as it did. -/
def calendarClocksSpec : ChangeSpec := { name := "calendarClocks", fn := fun _ => fun
  | [d] => { results := [.lit (.bool true)], args := [d] }
  | _ => none }
def calendarClocksRow : OpenClaim := { program := "ytkmpbkojdkoghaadoor", sum := "ed1415824ac680f5d9847b27d59c559ec92bf06755c8690d94573a4207603d40", func := "flightdeck/flightdecklaw05.CalendarClocks", spec := "calendarClocks", named := ["flightdeck/calendar.lengths", "internal/strconv.uint64pow10", "math/bits.deBruijn32tab", "math/bits.deBruijn64tab"], apart := false, laid := [("math/bits.deBruijn32tab", laid_math_bits_deBruijn32tab), ("math/bits.deBruijn64tab", laid_math_bits_deBruijn64tab), ("internal/strconv.uint64pow10", laid_internal_strconv_uint64pow10), ("flightdeck/calendar.lengths", laid_flightdeck_calendar_lengths)] }
def CalendarClocksSaid : Prop := calendarClocksRow.holds Tryd.pinned (OpenSpec.ofChange calendarClocksSpec)

/-- ITS FALSE NEIGHBOUR: 'it returns false'. Refute it at one input. -/
def calendarClocksWrong : ChangeSpec := { name := "calendarClocks", fn := fun _ => fun
  | [d] => { results := [.lit (.bool false)], args := [d] }
  | _ => none }
def CalendarClocksWrongFalsely : Prop := calendarClocksRow.holds Tryd.pinned (OpenSpec.ofChange calendarClocksWrong)

/-- 'flightdecklaw05.CalendarCycles': WHATEVER THE INPUT: true; the input reads as it did. -/
def calendarCyclesSpec : ChangeSpec := { name := "calendarCycles", fn := fun _ => fun
  | [d] => { results := [.lit (.bool true)], args := [d] }
  | _ => none }
def calendarCyclesRow : OpenClaim := { program := "ytkmpbkojdkoghaadoor", sum := "ed1415824ac680f5d9847b27d59c559ec92bf06755c8690d94573a4207603d40", func := "flightdeck/flightdecklaw05.CalendarCycles", spec := "calendarCycles", named := ["flightdeck/calendar.lengths"], apart := false, laid := [("flightdeck/calendar.lengths", laid_flightdeck_calendar_lengths)] }
def CalendarCyclesSaid : Prop := calendarCyclesRow.holds Tryd.pinned (OpenSpec.ofChange calendarCyclesSpec)

/-- ITS FALSE NEIGHBOUR: 'it returns false'. Refute it at one input. -/
def calendarCyclesWrong : ChangeSpec := { name := "calendarCycles", fn := fun _ => fun
  | [d] => { results := [.lit (.bool false)], args := [d] }
  | _ => none }
def CalendarCyclesWrongFalsely : Prop := calendarCyclesRow.holds Tryd.pinned (OpenSpec.ofChange calendarCyclesWrong)

/-- 'flightdecklaw05.CalendarNumbers': WHATEVER THE INPUT: true; the input reads as it did. -/
def calendarNumbersSpec : ChangeSpec := { name := "calendarNumbers", fn := fun _ => fun
  | [d1, d2] => { results := [.lit (.bool true)], args := [d1, d2] }
  | _ => none }
def calendarNumbersRow : OpenClaim := { program := "ytkmpbkojdkoghaadoor", sum := "ed1415824ac680f5d9847b27d59c559ec92bf06755c8690d94573a4207603d40", func := "flightdeck/flightdecklaw05.CalendarNumbers", spec := "calendarNumbers", named := ["flightdeck/calendar.lengths", "internal/strconv.uint64pow10", "math/bits.deBruijn32tab", "math/bits.deBruijn64tab"], apart := false, laid := [("math/bits.deBruijn32tab", laid_math_bits_deBruijn32tab), ("math/bits.deBruijn64tab", laid_math_bits_deBruijn64tab), ("internal/strconv.uint64pow10", laid_internal_strconv_uint64pow10), ("flightdeck/calendar.lengths", laid_flightdeck_calendar_lengths)] }
def CalendarNumbersSaid : Prop := calendarNumbersRow.holds Tryd.pinned (OpenSpec.ofChange calendarNumbersSpec)

/-- ITS FALSE NEIGHBOUR: 'it returns false'. Refute it at one input. -/
def calendarNumbersWrong : ChangeSpec := { name := "calendarNumbers", fn := fun _ => fun
  | [d1, d2] => { results := [.lit (.bool false)], args := [d1, d2] }
  | _ => none }
def CalendarNumbersWrongFalsely : Prop := calendarNumbersRow.holds Tryd.pinned (OpenSpec.ofChange calendarNumbersWrong)

/-- 'flightdecklaw05.CalendarLater': WHATEVER THE INPUT: true; the input reads as it did. -/
def calendarLaterSpec : ChangeSpec := { name := "calendarLater", fn := fun _ => fun
  | [d1, d2] => { results := [.lit (.bool true)], args := [d1, d2] }
  | _ => none }
def calendarLaterRow : OpenClaim := { program := "ytkmpbkojdkoghaadoor", sum := "ed1415824ac680f5d9847b27d59c559ec92bf06755c8690d94573a4207603d40", func := "flightdeck/flightdecklaw05.CalendarLater", spec := "calendarLater", named := ["flightdeck/calendar.lengths"], apart := false, laid := [("flightdeck/calendar.lengths", laid_flightdeck_calendar_lengths)] }
def CalendarLaterSaid : Prop := calendarLaterRow.holds Tryd.pinned (OpenSpec.ofChange calendarLaterSpec)

/-- ITS FALSE NEIGHBOUR: 'it returns false'. Refute it at one input. -/
def calendarLaterWrong : ChangeSpec := { name := "calendarLater", fn := fun _ => fun
  | [d1, d2] => { results := [.lit (.bool false)], args := [d1, d2] }
  | _ => none }
def CalendarLaterWrongFalsely : Prop := calendarLaterRow.holds Tryd.pinned (OpenSpec.ofChange calendarLaterWrong)

/- THE SECOND FORM. 'bulk': how many values and letters a reading holds, each counted each time it is reached (what is shared counts as often as it is met; a slice's spare places count too). A statement '..UptoSaid' is the law's where the arguments, and the package variables that the reading takes, are together of bulk at most 1048576: NARROWER than '..Said'. Prove '..Said' where nothing that the law and all that it calls make is longer than what came in: it says more and counts as full. Else prove '..UptoSaid'. A law counts once. -/
mutual
def uptoBulk {H : Type} : DataW H → Nat
  | .lit (.string bytes) => bytes.length + 1
  | .lit _ => 1
  | .nil => 1
  | .ptr d => uptoBulk d + 1
  | .slice elems spare => uptoBulkAll elems + uptoBulkAll spare + 1
  | .agg parts => uptoBulkAll parts + 1
  | .iface _ d => uptoBulk d + 1
  | .map entries => uptoBulkEntries entries + 1
  | .held _ => 1
def uptoBulkAll {H : Type} : List (DataW H) → Nat
  | [] => 0
  | d :: r => uptoBulk d + uptoBulkAll r
def uptoBulkEntries {H : Type} : List (Lit × DataW H) → Nat
  | [] => 0
  | x :: r => uptoBulkEntry x + uptoBulkEntries r
def uptoBulkEntry {H : Type} : Lit × DataW H → Nat
  | (.string bytes, d) => bytes.length + uptoBulk d + 1
  | (_, d) => uptoBulk d + 1
 end
def uptoSmall : (H : Type) → List (DataW H) → Bool := fun _ ds => decide (uptoBulkAll ds ≤ 1048576)
def OpenSpec.upto (s : _root_.Go.ChangeSpec) : _root_.Go.OpenSpec := { _root_.Go.OpenSpec.ofChange s with cond := some uptoSmall }

/-- 'flightdecklaw05.CalendarMonths', WHERE WHAT IT READS IS OF BULK AT MOST 1048576: true; the input reads as it did. -/
def calendarMonthsUptoRow : OpenClaim := { program := "ytkmpbkojdkoghaadoor", sum := "ed1415824ac680f5d9847b27d59c559ec92bf06755c8690d94573a4207603d40", func := "flightdeck/flightdecklaw05.CalendarMonths", spec := "calendarMonths", named := ["flightdeck/calendar.lengths"], apart := false, laid := [("flightdeck/calendar.lengths", laid_flightdeck_calendar_lengths)], narrowed := true }
def CalendarMonthsUptoSaid : Prop := calendarMonthsUptoRow.holds Tryd.pinned (OpenSpec.upto calendarMonthsSpec)

/-- 'flightdecklaw05.CalendarDays', WHERE WHAT IT READS IS OF BULK AT MOST 1048576: true; the input reads as it did. -/
def calendarDaysUptoRow : OpenClaim := { program := "ytkmpbkojdkoghaadoor", sum := "ed1415824ac680f5d9847b27d59c559ec92bf06755c8690d94573a4207603d40", func := "flightdeck/flightdecklaw05.CalendarDays", spec := "calendarDays", named := ["flightdeck/calendar.lengths"], apart := false, laid := [("flightdeck/calendar.lengths", laid_flightdeck_calendar_lengths)], narrowed := true }
def CalendarDaysUptoSaid : Prop := calendarDaysUptoRow.holds Tryd.pinned (OpenSpec.upto calendarDaysSpec)

/-- 'flightdecklaw05.CalendarDates', WHERE WHAT IT READS IS OF BULK AT MOST 1048576: true; the input reads as it did. -/
def calendarDatesUptoRow : OpenClaim := { program := "ytkmpbkojdkoghaadoor", sum := "ed1415824ac680f5d9847b27d59c559ec92bf06755c8690d94573a4207603d40", func := "flightdeck/flightdecklaw05.CalendarDates", spec := "calendarDates", named := ["flightdeck/calendar.lengths"], apart := false, laid := [("flightdeck/calendar.lengths", laid_flightdeck_calendar_lengths)], narrowed := true }
def CalendarDatesUptoSaid : Prop := calendarDatesUptoRow.holds Tryd.pinned (OpenSpec.upto calendarDatesSpec)

/-- 'flightdecklaw05.CalendarNext', WHERE WHAT IT READS IS OF BULK AT MOST 1048576: true; the input reads as it did. -/
def calendarNextUptoRow : OpenClaim := { program := "ytkmpbkojdkoghaadoor", sum := "ed1415824ac680f5d9847b27d59c559ec92bf06755c8690d94573a4207603d40", func := "flightdeck/flightdecklaw05.CalendarNext", spec := "calendarNext", named := ["flightdeck/calendar.lengths"], apart := false, laid := [("flightdeck/calendar.lengths", laid_flightdeck_calendar_lengths)], narrowed := true }
def CalendarNextUptoSaid : Prop := calendarNextUptoRow.holds Tryd.pinned (OpenSpec.upto calendarNextSpec)

/-- 'flightdecklaw05.CalendarTexts', WHERE WHAT IT READS IS OF BULK AT MOST 1048576: true; the input reads as it did. -/
def calendarTextsUptoRow : OpenClaim := { program := "ytkmpbkojdkoghaadoor", sum := "ed1415824ac680f5d9847b27d59c559ec92bf06755c8690d94573a4207603d40", func := "flightdeck/flightdecklaw05.CalendarTexts", spec := "calendarTexts", named := ["flightdeck/calendar.lengths", "internal/strconv.uint64pow10", "math/bits.deBruijn32tab", "math/bits.deBruijn64tab"], apart := false, laid := [("math/bits.deBruijn32tab", laid_math_bits_deBruijn32tab), ("math/bits.deBruijn64tab", laid_math_bits_deBruijn64tab), ("internal/strconv.uint64pow10", laid_internal_strconv_uint64pow10), ("flightdeck/calendar.lengths", laid_flightdeck_calendar_lengths)], narrowed := true }
def CalendarTextsUptoSaid : Prop := calendarTextsUptoRow.holds Tryd.pinned (OpenSpec.upto calendarTextsSpec)

/-- 'flightdecklaw05.CalendarParses', WHERE WHAT IT READS IS OF BULK AT MOST 1048576: true; the input reads as it did. -/
def calendarParsesUptoRow : OpenClaim := { program := "ytkmpbkojdkoghaadoor", sum := "ed1415824ac680f5d9847b27d59c559ec92bf06755c8690d94573a4207603d40", func := "flightdeck/flightdecklaw05.CalendarParses", spec := "calendarParses", named := ["flightdeck/calendar.lengths"], apart := false, laid := [("flightdeck/calendar.lengths", laid_flightdeck_calendar_lengths)], narrowed := true }
def CalendarParsesUptoSaid : Prop := calendarParsesUptoRow.holds Tryd.pinned (OpenSpec.upto calendarParsesSpec)

/-- 'flightdecklaw05.CalendarInstants', WHERE WHAT IT READS IS OF BULK AT MOST 1048576: true; the input reads as it did. -/
def calendarInstantsUptoRow : OpenClaim := { program := "ytkmpbkojdkoghaadoor", sum := "ed1415824ac680f5d9847b27d59c559ec92bf06755c8690d94573a4207603d40", func := "flightdeck/flightdecklaw05.CalendarInstants", spec := "calendarInstants", named := ["flightdeck/calendar.lengths"], apart := false, laid := [("flightdeck/calendar.lengths", laid_flightdeck_calendar_lengths)], narrowed := true }
def CalendarInstantsUptoSaid : Prop := calendarInstantsUptoRow.holds Tryd.pinned (OpenSpec.upto calendarInstantsSpec)

/-- 'flightdecklaw05.CalendarClocks', WHERE WHAT IT READS IS OF BULK AT MOST 1048576: true; the input reads as it did. -/
def calendarClocksUptoRow : OpenClaim := { program := "ytkmpbkojdkoghaadoor", sum := "ed1415824ac680f5d9847b27d59c559ec92bf06755c8690d94573a4207603d40", func := "flightdeck/flightdecklaw05.CalendarClocks", spec := "calendarClocks", named := ["flightdeck/calendar.lengths", "internal/strconv.uint64pow10", "math/bits.deBruijn32tab", "math/bits.deBruijn64tab"], apart := false, laid := [("math/bits.deBruijn32tab", laid_math_bits_deBruijn32tab), ("math/bits.deBruijn64tab", laid_math_bits_deBruijn64tab), ("internal/strconv.uint64pow10", laid_internal_strconv_uint64pow10), ("flightdeck/calendar.lengths", laid_flightdeck_calendar_lengths)], narrowed := true }
def CalendarClocksUptoSaid : Prop := calendarClocksUptoRow.holds Tryd.pinned (OpenSpec.upto calendarClocksSpec)

/-- 'flightdecklaw05.CalendarCycles', WHERE WHAT IT READS IS OF BULK AT MOST 1048576: true; the input reads as it did. -/
def calendarCyclesUptoRow : OpenClaim := { program := "ytkmpbkojdkoghaadoor", sum := "ed1415824ac680f5d9847b27d59c559ec92bf06755c8690d94573a4207603d40", func := "flightdeck/flightdecklaw05.CalendarCycles", spec := "calendarCycles", named := ["flightdeck/calendar.lengths"], apart := false, laid := [("flightdeck/calendar.lengths", laid_flightdeck_calendar_lengths)], narrowed := true }
def CalendarCyclesUptoSaid : Prop := calendarCyclesUptoRow.holds Tryd.pinned (OpenSpec.upto calendarCyclesSpec)

/-- 'flightdecklaw05.CalendarNumbers', WHERE WHAT IT READS IS OF BULK AT MOST 1048576: true; the input reads as it did. -/
def calendarNumbersUptoRow : OpenClaim := { program := "ytkmpbkojdkoghaadoor", sum := "ed1415824ac680f5d9847b27d59c559ec92bf06755c8690d94573a4207603d40", func := "flightdeck/flightdecklaw05.CalendarNumbers", spec := "calendarNumbers", named := ["flightdeck/calendar.lengths", "internal/strconv.uint64pow10", "math/bits.deBruijn32tab", "math/bits.deBruijn64tab"], apart := false, laid := [("math/bits.deBruijn32tab", laid_math_bits_deBruijn32tab), ("math/bits.deBruijn64tab", laid_math_bits_deBruijn64tab), ("internal/strconv.uint64pow10", laid_internal_strconv_uint64pow10), ("flightdeck/calendar.lengths", laid_flightdeck_calendar_lengths)], narrowed := true }
def CalendarNumbersUptoSaid : Prop := calendarNumbersUptoRow.holds Tryd.pinned (OpenSpec.upto calendarNumbersSpec)

/-- 'flightdecklaw05.CalendarLater', WHERE WHAT IT READS IS OF BULK AT MOST 1048576: true; the input reads as it did. -/
def calendarLaterUptoRow : OpenClaim := { program := "ytkmpbkojdkoghaadoor", sum := "ed1415824ac680f5d9847b27d59c559ec92bf06755c8690d94573a4207603d40", func := "flightdeck/flightdecklaw05.CalendarLater", spec := "calendarLater", named := ["flightdeck/calendar.lengths"], apart := false, laid := [("flightdeck/calendar.lengths", laid_flightdeck_calendar_lengths)], narrowed := true }
def CalendarLaterUptoSaid : Prop := calendarLaterUptoRow.holds Tryd.pinned (OpenSpec.upto calendarLaterSpec)

end Rows
end Go.Proofs.YtkmpbkojdkoghaaDoor
