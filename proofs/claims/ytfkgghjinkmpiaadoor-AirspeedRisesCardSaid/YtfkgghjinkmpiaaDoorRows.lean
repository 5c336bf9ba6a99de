/-
  NARROWER THAN 'FOR EVERY INPUT', by the rows' own cells (each row's printed sentence says how): AirspeedTrue: laid · AirspeedBack: laid · AirspeedPair: laid · AirspeedMach: laid · AirspeedCrossover: laid · AirspeedRises: laid · AirspeedTexts: laid.
  DERIVED. THE GIVEN ROWS OF THIS SEAT. 7 by the template 'for every input the law returns true; each argument reads behind the call as it read before'; 0 by the template 'total and deterministic' (their statements: YtfkgghjinkmpiaaDoorTotals.lean).
  GIVEN WITH THE SEED: the statements are not yours to turn. If you find one false, say at which input.
  Laid BY PROGRAM, IN A SANDBOX (cutbox-rows.mjs): the forced cells as the released guide's own fill.sh prints them over the translation fa4e7a592f998898… (all of the seat's roots in one cut). By AI agents, Wed Nov 11 2026. No macro, syntax, notation, axiom, sorry.
-/
import Derived.Test.YtfkgghjinkmpiaaDoorChecked
import GoSem.Claim
import GoSem.ClaimJoined
import GoSem.ClaimMapViews
import Derived.JoinedTies
import Derived.KernelRfl
namespace Go.Proofs.YtfkgghjinkmpiaaDoor
/- THE CELL 'sum', in the pinned program and in every row, IS THE sha256 OF THE DUMP (.gsa) THAT YtfkgghjinkmpiaaDoorProg.lean LOADS. Nothing in Lean hashes anything: it is a label: what it is worth is what the hold of that sum in a sandbox is worth. -/
noncomputable def Tryd.pinned : Pinned := { name := "ytfkgghjinkmpiaadoor", sum := "fa4e7a592f9988987212d10f4f0a285d470f833cc155cf29f089962bf8bc3ee7", checked := Tryd.checked }
namespace Rows
def none {H : Type} : Left H := { results := [], args := [] }

/- WHAT THE LISTED PACKAGE-LEVEL VARIABLES READ AS WHEN THE CALL BEGINS. Each datum BY PROGRAM (the guide's laid-datum.mjs) off the statement by which the dump's own 'gosem.cut.vars' lays the variable. In a bare row this is a premise. The card (YtfkgghjinkmpiaaDoorCards.lean) ties it to the program's text. -/
def laid_math_bits_deBruijn32tab {H : Type} : DataW H := .agg [.lit (.int .u8 0), .lit (.int .u8 1), .lit (.int .u8 28), .lit (.int .u8 2), .lit (.int .u8 29), .lit (.int .u8 14), .lit (.int .u8 24), .lit (.int .u8 3), .lit (.int .u8 30), .lit (.int .u8 22), .lit (.int .u8 20), .lit (.int .u8 15), .lit (.int .u8 25), .lit (.int .u8 17), .lit (.int .u8 4), .lit (.int .u8 8), .lit (.int .u8 31), .lit (.int .u8 27), .lit (.int .u8 13), .lit (.int .u8 23), .lit (.int .u8 21), .lit (.int .u8 19), .lit (.int .u8 16), .lit (.int .u8 7), .lit (.int .u8 26), .lit (.int .u8 12), .lit (.int .u8 18), .lit (.int .u8 6), .lit (.int .u8 11), .lit (.int .u8 5), .lit (.int .u8 10), .lit (.int .u8 9)]
def laid_math_bits_deBruijn64tab {H : Type} : DataW H := .agg [.lit (.int .u8 0), .lit (.int .u8 1), .lit (.int .u8 56), .lit (.int .u8 2), .lit (.int .u8 57), .lit (.int .u8 49), .lit (.int .u8 28), .lit (.int .u8 3), .lit (.int .u8 61), .lit (.int .u8 58), .lit (.int .u8 42), .lit (.int .u8 50), .lit (.int .u8 38), .lit (.int .u8 29), .lit (.int .u8 17), .lit (.int .u8 4), .lit (.int .u8 62), .lit (.int .u8 47), .lit (.int .u8 59), .lit (.int .u8 36), .lit (.int .u8 45), .lit (.int .u8 43), .lit (.int .u8 51), .lit (.int .u8 22), .lit (.int .u8 53), .lit (.int .u8 39), .lit (.int .u8 33), .lit (.int .u8 30), .lit (.int .u8 24), .lit (.int .u8 18), .lit (.int .u8 12), .lit (.int .u8 5), .lit (.int .u8 63), .lit (.int .u8 55), .lit (.int .u8 48), .lit (.int .u8 27), .lit (.int .u8 60), .lit (.int .u8 41), .lit (.int .u8 37), .lit (.int .u8 16), .lit (.int .u8 46), .lit (.int .u8 35), .lit (.int .u8 44), .lit (.int .u8 21), .lit (.int .u8 52), .lit (.int .u8 32), .lit (.int .u8 23), .lit (.int .u8 11), .lit (.int .u8 54), .lit (.int .u8 26), .lit (.int .u8 40), .lit (.int .u8 15), .lit (.int .u8 34), .lit (.int .u8 20), .lit (.int .u8 31), .lit (.int .u8 10), .lit (.int .u8 25), .lit (.int .u8 14), .lit (.int .u8 19), .lit (.int .u8 9), .lit (.int .u8 13), .lit (.int .u8 8), .lit (.int .u8 7), .lit (.int .u8 6)]
def laid_internal_strconv_uint64pow10 {H : Type} : DataW H := .agg [.lit (.int .u64 1), .lit (.int .u64 10), .lit (.int .u64 100), .lit (.int .u64 1000), .lit (.int .u64 10000), .lit (.int .u64 100000), .lit (.int .u64 1000000), .lit (.int .u64 10000000), .lit (.int .u64 100000000), .lit (.int .u64 1000000000), .lit (.int .u64 10000000000), .lit (.int .u64 100000000000), .lit (.int .u64 1000000000000), .lit (.int .u64 10000000000000), .lit (.int .u64 100000000000000), .lit (.int .u64 1000000000000000), .lit (.int .u64 10000000000000000), .lit (.int .u64 100000000000000000), .lit (.int .u64 1000000000000000000), .lit (.int .u64 10000000000000000000)]
def laid_flightdeck_atmosphere_ratios {H : Type} : DataW H := .agg [.agg [.lit (.int .i64 (-2000)), .lit (.int .i64 971400)], .agg [.lit (.int .i64 0), .lit (.int .i64 1000000)], .agg [.lit (.int .i64 5000), .lit (.int .i64 1077300)], .agg [.lit (.int .i64 10000), .lit (.int .i64 1163700)], .agg [.lit (.int .i64 15000), .lit (.int .i64 1260600)], .agg [.lit (.int .i64 20000), .lit (.int .i64 1370000)], .agg [.lit (.int .i64 25000), .lit (.int .i64 1493800)], .agg [.lit (.int .i64 30000), .lit (.int .i64 1634900)], .agg [.lit (.int .i64 35000), .lit (.int .i64 1796400)], .agg [.lit (.int .i64 40000), .lit (.int .i64 2015500)], .agg [.lit (.int .i64 45000), .lit (.int .i64 2272700)], .agg [.lit (.int .i64 50000), .lit (.int .i64 2562800)], .agg [.lit (.int .i64 55000), .lit (.int .i64 2890100)], .agg [.lit (.int .i64 60000), .lit (.int .i64 3259100)]]
def laid_flightdeck_atmosphere_temperatures {H : Type} : DataW H := .agg [.agg [.lit (.int .i64 (-2000)), .lit (.int .i64 29211)], .agg [.lit (.int .i64 0), .lit (.int .i64 28815)], .agg [.lit (.int .i64 36089), .lit (.int .i64 21665)], .agg [.lit (.int .i64 60000), .lit (.int .i64 21665)]]

/-- 'flightdecklaw30.AirspeedTrue': WHATEVER THE INPUT: true; the input reads as it did. -/
def airspeedTrueSpec : ChangeSpec := { name := "airspeedTrue", fn := fun _ => fun
  | [d1, d2, d3] => { results := [.lit (.bool true)], args := [d1, d2, d3] }
  | _ => none }
def airspeedTrueRow : OpenClaim := { program := "ytfkgghjinkmpiaadoor", sum := "fa4e7a592f9988987212d10f4f0a285d470f833cc155cf29f089962bf8bc3ee7", func := "flightdeck/flightdecklaw30.AirspeedTrue", spec := "airspeedTrue", inPlace := ["internal/bytealg.IndexByteString", "internal/bytealg.IndexString"], unfollowed := true, recurses := true, named := ["flightdeck/atmosphere.ratios", "math/bits.divideError", "math/bits.overflowError", "flightdeck/atmosphere.temperatures", "internal/strconv.uint64pow10", "math/bits.deBruijn32tab", "math/bits.deBruijn64tab", "internal/bytealg.MaxLen"], apart := false, laid := [("math/bits.deBruijn32tab", laid_math_bits_deBruijn32tab), ("math/bits.deBruijn64tab", laid_math_bits_deBruijn64tab), ("internal/strconv.uint64pow10", laid_internal_strconv_uint64pow10), ("flightdeck/atmosphere.ratios", laid_flightdeck_atmosphere_ratios), ("flightdeck/atmosphere.temperatures", laid_flightdeck_atmosphere_temperatures)] }
def AirspeedTrueSaid : Prop := airspeedTrueRow.holds Tryd.pinned (OpenSpec.ofChange airspeedTrueSpec)

/-- ITS FALSE NEIGHBOUR: 'it returns false'. Refute it at one input. -/
def airspeedTrueWrong : ChangeSpec := { name := "airspeedTrue", fn := fun _ => fun
  | [d1, d2, d3] => { results := [.lit (.bool false)], args := [d1, d2, d3] }
  | _ => none }
def AirspeedTrueWrongFalsely : Prop := airspeedTrueRow.holds Tryd.pinned (OpenSpec.ofChange airspeedTrueWrong)

/-- 'flightdecklaw30.AirspeedBack': WHATEVER THE INPUT: true; the input reads as it did. -/
def airspeedBackSpec : ChangeSpec := { name := "airspeedBack", fn := fun _ => fun
  | [d1, d2, d3] => { results := [.lit (.bool true)], args := [d1, d2, d3] }
  | _ => none }
def airspeedBackRow : OpenClaim := { program := "ytfkgghjinkmpiaadoor", sum := "fa4e7a592f9988987212d10f4f0a285d470f833cc155cf29f089962bf8bc3ee7", func := "flightdeck/flightdecklaw30.AirspeedBack", spec := "airspeedBack", inPlace := ["internal/bytealg.IndexByteString", "internal/bytealg.IndexString"], unfollowed := true, recurses := true, named := ["flightdeck/atmosphere.ratios", "math/bits.divideError", "math/bits.overflowError", "flightdeck/atmosphere.temperatures", "internal/strconv.uint64pow10", "math/bits.deBruijn32tab", "math/bits.deBruijn64tab", "internal/bytealg.MaxLen"], apart := false, laid := [("math/bits.deBruijn32tab", laid_math_bits_deBruijn32tab), ("math/bits.deBruijn64tab", laid_math_bits_deBruijn64tab), ("internal/strconv.uint64pow10", laid_internal_strconv_uint64pow10), ("flightdeck/atmosphere.ratios", laid_flightdeck_atmosphere_ratios), ("flightdeck/atmosphere.temperatures", laid_flightdeck_atmosphere_temperatures)] }
def AirspeedBackSaid : Prop := airspeedBackRow.holds Tryd.pinned (OpenSpec.ofChange airspeedBackSpec)

/-- ITS FALSE NEIGHBOUR: 'it returns false'. Refute it at one input. -/
def airspeedBackWrong : ChangeSpec := { name := "airspeedBack", fn := fun _ => fun
  | [d1, d2, d3] => { results := [.lit (.bool false)], args := [d1, d2, d3] }
  | _ => none }
def AirspeedBackWrongFalsely : Prop := airspeedBackRow.holds Tryd.pinned (OpenSpec.ofChange airspeedBackWrong)

/-- 'flightdecklaw30.AirspeedPair': WHATEVER THE INPUT: true; the input reads as it did. -/
def airspeedPairSpec : ChangeSpec := { name := "airspeedPair", fn := fun _ => fun
  | [d1, d2, d3] => { results := [.lit (.bool true)], args := [d1, d2, d3] }
  | _ => none }
def airspeedPairRow : OpenClaim := { program := "ytfkgghjinkmpiaadoor", sum := "fa4e7a592f9988987212d10f4f0a285d470f833cc155cf29f089962bf8bc3ee7", func := "flightdeck/flightdecklaw30.AirspeedPair", spec := "airspeedPair", inPlace := ["internal/bytealg.IndexByteString", "internal/bytealg.IndexString"], unfollowed := true, recurses := true, named := ["flightdeck/atmosphere.ratios", "math/bits.divideError", "math/bits.overflowError", "flightdeck/atmosphere.temperatures", "internal/strconv.uint64pow10", "math/bits.deBruijn32tab", "math/bits.deBruijn64tab", "internal/bytealg.MaxLen"], apart := false, laid := [("math/bits.deBruijn32tab", laid_math_bits_deBruijn32tab), ("math/bits.deBruijn64tab", laid_math_bits_deBruijn64tab), ("internal/strconv.uint64pow10", laid_internal_strconv_uint64pow10), ("flightdeck/atmosphere.ratios", laid_flightdeck_atmosphere_ratios), ("flightdeck/atmosphere.temperatures", laid_flightdeck_atmosphere_temperatures)] }
def AirspeedPairSaid : Prop := airspeedPairRow.holds Tryd.pinned (OpenSpec.ofChange airspeedPairSpec)

/-- ITS FALSE NEIGHBOUR: 'it returns false'. Refute it at one input. -/
def airspeedPairWrong : ChangeSpec := { name := "airspeedPair", fn := fun _ => fun
  | [d1, d2, d3] => { results := [.lit (.bool false)], args := [d1, d2, d3] }
  | _ => none }
def AirspeedPairWrongFalsely : Prop := airspeedPairRow.holds Tryd.pinned (OpenSpec.ofChange airspeedPairWrong)

/-- 'flightdecklaw30.AirspeedMach': WHATEVER THE INPUT: true; the input reads as it did. -/
def airspeedMachSpec : ChangeSpec := { name := "airspeedMach", fn := fun _ => fun
  | [d1, d2, d3] => { results := [.lit (.bool true)], args := [d1, d2, d3] }
  | _ => none }
def airspeedMachRow : OpenClaim := { program := "ytfkgghjinkmpiaadoor", sum := "fa4e7a592f9988987212d10f4f0a285d470f833cc155cf29f089962bf8bc3ee7", func := "flightdeck/flightdecklaw30.AirspeedMach", spec := "airspeedMach", inPlace := ["internal/bytealg.IndexByteString", "internal/bytealg.IndexString"], unfollowed := true, recurses := true, named := ["flightdeck/atmosphere.ratios", "math/bits.divideError", "math/bits.overflowError", "flightdeck/atmosphere.temperatures", "internal/strconv.uint64pow10", "math/bits.deBruijn32tab", "math/bits.deBruijn64tab", "internal/bytealg.MaxLen"], apart := false, laid := [("math/bits.deBruijn32tab", laid_math_bits_deBruijn32tab), ("math/bits.deBruijn64tab", laid_math_bits_deBruijn64tab), ("internal/strconv.uint64pow10", laid_internal_strconv_uint64pow10), ("flightdeck/atmosphere.ratios", laid_flightdeck_atmosphere_ratios), ("flightdeck/atmosphere.temperatures", laid_flightdeck_atmosphere_temperatures)] }
def AirspeedMachSaid : Prop := airspeedMachRow.holds Tryd.pinned (OpenSpec.ofChange airspeedMachSpec)

/-- ITS FALSE NEIGHBOUR: 'it returns false'. Refute it at one input. -/
def airspeedMachWrong : ChangeSpec := { name := "airspeedMach", fn := fun _ => fun
  | [d1, d2, d3] => { results := [.lit (.bool false)], args := [d1, d2, d3] }
  | _ => none }
def AirspeedMachWrongFalsely : Prop := airspeedMachRow.holds Tryd.pinned (OpenSpec.ofChange airspeedMachWrong)

/-- 'flightdecklaw30.AirspeedCrossover': WHATEVER THE INPUT: true; the input reads as it did. -/
def airspeedCrossoverSpec : ChangeSpec := { name := "airspeedCrossover", fn := fun _ => fun
  | [d1, d2, d3] => { results := [.lit (.bool true)], args := [d1, d2, d3] }
  | _ => none }
def airspeedCrossoverRow : OpenClaim := { program := "ytfkgghjinkmpiaadoor", sum := "fa4e7a592f9988987212d10f4f0a285d470f833cc155cf29f089962bf8bc3ee7", func := "flightdeck/flightdecklaw30.AirspeedCrossover", spec := "airspeedCrossover", inPlace := ["internal/bytealg.IndexByteString", "internal/bytealg.IndexString"], unfollowed := true, recurses := true, named := ["flightdeck/atmosphere.ratios", "math/bits.divideError", "math/bits.overflowError", "flightdeck/atmosphere.temperatures", "internal/strconv.uint64pow10", "math/bits.deBruijn32tab", "math/bits.deBruijn64tab", "internal/bytealg.MaxLen"], apart := false, laid := [("math/bits.deBruijn32tab", laid_math_bits_deBruijn32tab), ("math/bits.deBruijn64tab", laid_math_bits_deBruijn64tab), ("internal/strconv.uint64pow10", laid_internal_strconv_uint64pow10), ("flightdeck/atmosphere.ratios", laid_flightdeck_atmosphere_ratios), ("flightdeck/atmosphere.temperatures", laid_flightdeck_atmosphere_temperatures)] }
def AirspeedCrossoverSaid : Prop := airspeedCrossoverRow.holds Tryd.pinned (OpenSpec.ofChange airspeedCrossoverSpec)

/-- ITS FALSE NEIGHBOUR: 'it returns false'. Refute it at one input. -/
def airspeedCrossoverWrong : ChangeSpec := { name := "airspeedCrossover", fn := fun _ => fun
  | [d1, d2, d3] => { results := [.lit (.bool false)], args := [d1, d2, d3] }
  | _ => none }
def AirspeedCrossoverWrongFalsely : Prop := airspeedCrossoverRow.holds Tryd.pinned (OpenSpec.ofChange airspeedCrossoverWrong)

/-- 'flightdecklaw30.AirspeedRises': WHATEVER THE INPUT: true; the input reads as it did. -/
def airspeedRisesSpec : ChangeSpec := { name := "airspeedRises", fn := fun _ => fun
  | [d1, d2, d3] => { results := [.lit (.bool true)], args := [d1, d2, d3] }
  | _ => none }
def airspeedRisesRow : OpenClaim := { program := "ytfkgghjinkmpiaadoor", sum := "fa4e7a592f9988987212d10f4f0a285d470f833cc155cf29f089962bf8bc3ee7", func := "flightdeck/flightdecklaw30.AirspeedRises", spec := "airspeedRises", inPlace := ["internal/bytealg.IndexByteString", "internal/bytealg.IndexString"], unfollowed := true, recurses := true, named := ["flightdeck/atmosphere.ratios", "math/bits.divideError", "math/bits.overflowError", "flightdeck/atmosphere.temperatures", "internal/strconv.uint64pow10", "math/bits.deBruijn32tab", "math/bits.deBruijn64tab", "internal/bytealg.MaxLen"], apart := false, laid := [("math/bits.deBruijn32tab", laid_math_bits_deBruijn32tab), ("math/bits.deBruijn64tab", laid_math_bits_deBruijn64tab), ("internal/strconv.uint64pow10", laid_internal_strconv_uint64pow10), ("flightdeck/atmosphere.ratios", laid_flightdeck_atmosphere_ratios), ("flightdeck/atmosphere.temperatures", laid_flightdeck_atmosphere_temperatures)] }
def AirspeedRisesSaid : Prop := airspeedRisesRow.holds Tryd.pinned (OpenSpec.ofChange airspeedRisesSpec)

/-- ITS FALSE NEIGHBOUR: 'it returns false'. Refute it at one input. -/
def airspeedRisesWrong : ChangeSpec := { name := "airspeedRises", fn := fun _ => fun
  | [d1, d2, d3] => { results := [.lit (.bool false)], args := [d1, d2, d3] }
  | _ => none }
def AirspeedRisesWrongFalsely : Prop := airspeedRisesRow.holds Tryd.pinned (OpenSpec.ofChange airspeedRisesWrong)

/-- 'flightdecklaw30.AirspeedTexts': WHATEVER THE INPUT: true; the input reads as it did. -/
def airspeedTextsSpec : ChangeSpec := { name := "airspeedTexts", fn := fun _ => fun
  | [d1, d2] => { results := [.lit (.bool true)], args := [d1, d2] }
  | _ => none }
def airspeedTextsRow : OpenClaim := { program := "ytfkgghjinkmpiaadoor", sum := "fa4e7a592f9988987212d10f4f0a285d470f833cc155cf29f089962bf8bc3ee7", func := "flightdeck/flightdecklaw30.AirspeedTexts", spec := "airspeedTexts", inPlace := ["internal/bytealg.IndexByteString", "internal/bytealg.IndexString"], unfollowed := true, recurses := true, named := ["flightdeck/atmosphere.ratios", "math/bits.divideError", "math/bits.overflowError", "flightdeck/atmosphere.temperatures", "internal/strconv.uint64pow10", "math/bits.deBruijn32tab", "math/bits.deBruijn64tab", "internal/bytealg.MaxLen"], apart := false, laid := [("math/bits.deBruijn32tab", laid_math_bits_deBruijn32tab), ("math/bits.deBruijn64tab", laid_math_bits_deBruijn64tab), ("internal/strconv.uint64pow10", laid_internal_strconv_uint64pow10), ("flightdeck/atmosphere.ratios", laid_flightdeck_atmosphere_ratios), ("flightdeck/atmosphere.temperatures", laid_flightdeck_atmosphere_temperatures)] }
def AirspeedTextsSaid : Prop := airspeedTextsRow.holds Tryd.pinned (OpenSpec.ofChange airspeedTextsSpec)

/-- ITS FALSE NEIGHBOUR: 'it returns false'. Refute it at one input. -/
def airspeedTextsWrong : ChangeSpec := { name := "airspeedTexts", fn := fun _ => fun
  | [d1, d2] => { results := [.lit (.bool false)], args := [d1, d2] }
  | _ => none }
def AirspeedTextsWrongFalsely : Prop := airspeedTextsRow.holds Tryd.pinned (OpenSpec.ofChange airspeedTextsWrong)

/- THE SECOND FORM. 'bulk': how many values and letters a reading holds, each counted each time it is reached (what is shared counts as often as it is met; a slice's spare places count too). A statement '..UptoSaid' is the law's where the arguments, and the package variables that the reading takes, are together of bulk at most 1048576: NARROWER than '..Said'. Prove '..Said' where nothing that the law and all that it calls make is longer than what came in: it says more and counts as full. Else prove '..UptoSaid'. A law counts once. -/
mutual
def uptoBulk {H : Type} : DataW H → Nat
  | .lit (.string bytes) => bytes.length + 1
  | .lit _ => 1
  | .nil => 1
  | .ptr d => uptoBulk d + 1
  | .slice elems spare => uptoBulkAll elems + uptoBulkAll spare + 1
  | .agg parts => uptoBulkAll parts + 1
  | .iface _ d => uptoBulk d + 1
  | .map entries => uptoBulkEntries entries + 1
  | .held _ => 1
def uptoBulkAll {H : Type} : List (DataW H) → Nat
  | [] => 0
  | d :: r => uptoBulk d + uptoBulkAll r
def uptoBulkEntries {H : Type} : List (Lit × DataW H) → Nat
  | [] => 0
  | x :: r => uptoBulkEntry x + uptoBulkEntries r
def uptoBulkEntry {H : Type} : Lit × DataW H → Nat
  | (.string bytes, d) => bytes.length + uptoBulk d + 1
  | (_, d) => uptoBulk d + 1
 end
def uptoSmall : (H : Type) → List (DataW H) → Bool := fun _ ds => decide (uptoBulkAll ds ≤ 1048576)
def OpenSpec.upto (s : _root_.Go.ChangeSpec) : _root_.Go.OpenSpec := { _root_.Go.OpenSpec.ofChange s with cond := some uptoSmall }

/-- 'flightdecklaw30.AirspeedTrue', WHERE WHAT IT READS IS OF BULK AT MOST 1048576: true; the input reads as it did. -/
def airspeedTrueUptoRow : OpenClaim := { program := "ytfkgghjinkmpiaadoor", sum := "fa4e7a592f9988987212d10f4f0a285d470f833cc155cf29f089962bf8bc3ee7", func := "flightdeck/flightdecklaw30.AirspeedTrue", spec := "airspeedTrue", inPlace := ["internal/bytealg.IndexByteString", "internal/bytealg.IndexString"], unfollowed := true, recurses := true, named := ["flightdeck/atmosphere.ratios", "math/bits.divideError", "math/bits.overflowError", "flightdeck/atmosphere.temperatures", "internal/strconv.uint64pow10", "math/bits.deBruijn32tab", "math/bits.deBruijn64tab", "internal/bytealg.MaxLen"], apart := false, laid := [("math/bits.deBruijn32tab", laid_math_bits_deBruijn32tab), ("math/bits.deBruijn64tab", laid_math_bits_deBruijn64tab), ("internal/strconv.uint64pow10", laid_internal_strconv_uint64pow10), ("flightdeck/atmosphere.ratios", laid_flightdeck_atmosphere_ratios), ("flightdeck/atmosphere.temperatures", laid_flightdeck_atmosphere_temperatures)], narrowed := true }
def AirspeedTrueUptoSaid : Prop := airspeedTrueUptoRow.holds Tryd.pinned (OpenSpec.upto airspeedTrueSpec)

/-- 'flightdecklaw30.AirspeedBack', WHERE WHAT IT READS IS OF BULK AT MOST 1048576: true; the input reads as it did. -/
def airspeedBackUptoRow : OpenClaim := { program := "ytfkgghjinkmpiaadoor", sum := "fa4e7a592f9988987212d10f4f0a285d470f833cc155cf29f089962bf8bc3ee7", func := "flightdeck/flightdecklaw30.AirspeedBack", spec := "airspeedBack", inPlace := ["internal/bytealg.IndexByteString", "internal/bytealg.IndexString"], unfollowed := true, recurses := true, named := ["flightdeck/atmosphere.ratios", "math/bits.divideError", "math/bits.overflowError", "flightdeck/atmosphere.temperatures", "internal/strconv.uint64pow10", "math/bits.deBruijn32tab", "math/bits.deBruijn64tab", "internal/bytealg.MaxLen"], apart := false, laid := [("math/bits.deBruijn32tab", laid_math_bits_deBruijn32tab), ("math/bits.deBruijn64tab", laid_math_bits_deBruijn64tab), ("internal/strconv.uint64pow10", laid_internal_strconv_uint64pow10), ("flightdeck/atmosphere.ratios", laid_flightdeck_atmosphere_ratios), ("flightdeck/atmosphere.temperatures", laid_flightdeck_atmosphere_temperatures)], narrowed := true }
def AirspeedBackUptoSaid : Prop := airspeedBackUptoRow.holds Tryd.pinned (OpenSpec.upto airspeedBackSpec)

/-- 'flightdecklaw30.AirspeedPair', WHERE WHAT IT READS IS OF BULK AT MOST 1048576: true; the input reads as it did. -/
def airspeedPairUptoRow : OpenClaim := { program := "ytfkgghjinkmpiaadoor", sum := "fa4e7a592f9988987212d10f4f0a285d470f833cc155cf29f089962bf8bc3ee7", func := "flightdeck/flightdecklaw30.AirspeedPair", spec := "airspeedPair", inPlace := ["internal/bytealg.IndexByteString", "internal/bytealg.IndexString"], unfollowed := true, recurses := true, named := ["flightdeck/atmosphere.ratios", "math/bits.divideError", "math/bits.overflowError", "flightdeck/atmosphere.temperatures", "internal/strconv.uint64pow10", "math/bits.deBruijn32tab", "math/bits.deBruijn64tab", "internal/bytealg.MaxLen"], apart := false, laid := [("math/bits.deBruijn32tab", laid_math_bits_deBruijn32tab), ("math/bits.deBruijn64tab", laid_math_bits_deBruijn64tab), ("internal/strconv.uint64pow10", laid_internal_strconv_uint64pow10), ("flightdeck/atmosphere.ratios", laid_flightdeck_atmosphere_ratios), ("flightdeck/atmosphere.temperatures", laid_flightdeck_atmosphere_temperatures)], narrowed := true }
def AirspeedPairUptoSaid : Prop := airspeedPairUptoRow.holds Tryd.pinned (OpenSpec.upto airspeedPairSpec)

/-- 'flightdecklaw30.AirspeedMach', WHERE WHAT IT READS IS OF BULK AT MOST 1048576: true; the input reads as it did. -/
def airspeedMachUptoRow : OpenClaim := { program := "ytfkgghjinkmpiaadoor", sum := "fa4e7a592f9988987212d10f4f0a285d470f833cc155cf29f089962bf8bc3ee7", func := "flightdeck/flightdecklaw30.AirspeedMach", spec := "airspeedMach", inPlace := ["internal/bytealg.IndexByteString", "internal/bytealg.IndexString"], unfollowed := true, recurses := true, named := ["flightdeck/atmosphere.ratios", "math/bits.divideError", "math/bits.overflowError", "flightdeck/atmosphere.temperatures", "internal/strconv.uint64pow10", "math/bits.deBruijn32tab", "math/bits.deBruijn64tab", "internal/bytealg.MaxLen"], apart := false, laid := [("math/bits.deBruijn32tab", laid_math_bits_deBruijn32tab), ("math/bits.deBruijn64tab", laid_math_bits_deBruijn64tab), ("internal/strconv.uint64pow10", laid_internal_strconv_uint64pow10), ("flightdeck/atmosphere.ratios", laid_flightdeck_atmosphere_ratios), ("flightdeck/atmosphere.temperatures", laid_flightdeck_atmosphere_temperatures)], narrowed := true }
def AirspeedMachUptoSaid : Prop := airspeedMachUptoRow.holds Tryd.pinned (OpenSpec.upto airspeedMachSpec)

/-- 'flightdecklaw30.AirspeedCrossover', WHERE WHAT IT READS IS OF BULK AT MOST 1048576: true; the input reads as it did. -/
def airspeedCrossoverUptoRow : OpenClaim := { program := "ytfkgghjinkmpiaadoor", sum := "fa4e7a592f9988987212d10f4f0a285d470f833cc155cf29f089962bf8bc3ee7", func := "flightdeck/flightdecklaw30.AirspeedCrossover", spec := "airspeedCrossover", inPlace := ["internal/bytealg.IndexByteString", "internal/bytealg.IndexString"], unfollowed := true, recurses := true, named := ["flightdeck/atmosphere.ratios", "math/bits.divideError", "math/bits.overflowError", "flightdeck/atmosphere.temperatures", "internal/strconv.uint64pow10", "math/bits.deBruijn32tab", "math/bits.deBruijn64tab", "internal/bytealg.MaxLen"], apart := false, laid := [("math/bits.deBruijn32tab", laid_math_bits_deBruijn32tab), ("math/bits.deBruijn64tab", laid_math_bits_deBruijn64tab), ("internal/strconv.uint64pow10", laid_internal_strconv_uint64pow10), ("flightdeck/atmosphere.ratios", laid_flightdeck_atmosphere_ratios), ("flightdeck/atmosphere.temperatures", laid_flightdeck_atmosphere_temperatures)], narrowed := true }
def AirspeedCrossoverUptoSaid : Prop := airspeedCrossoverUptoRow.holds Tryd.pinned (OpenSpec.upto airspeedCrossoverSpec)

/-- 'flightdecklaw30.AirspeedRises', WHERE WHAT IT READS IS OF BULK AT MOST 1048576: true; the input reads as it did. -/
def airspeedRisesUptoRow : OpenClaim := { program := "ytfkgghjinkmpiaadoor", sum := "fa4e7a592f9988987212d10f4f0a285d470f833cc155cf29f089962bf8bc3ee7", func := "flightdeck/flightdecklaw30.AirspeedRises", spec := "airspeedRises", inPlace := ["internal/bytealg.IndexByteString", "internal/bytealg.IndexString"], unfollowed := true, recurses := true, named := ["flightdeck/atmosphere.ratios", "math/bits.divideError", "math/bits.overflowError", "flightdeck/atmosphere.temperatures", "internal/strconv.uint64pow10", "math/bits.deBruijn32tab", "math/bits.deBruijn64tab", "internal/bytealg.MaxLen"], apart := false, laid := [("math/bits.deBruijn32tab", laid_math_bits_deBruijn32tab), ("math/bits.deBruijn64tab", laid_math_bits_deBruijn64tab), ("internal/strconv.uint64pow10", laid_internal_strconv_uint64pow10), ("flightdeck/atmosphere.ratios", laid_flightdeck_atmosphere_ratios), ("flightdeck/atmosphere.temperatures", laid_flightdeck_atmosphere_temperatures)], narrowed := true }
def AirspeedRisesUptoSaid : Prop := airspeedRisesUptoRow.holds Tryd.pinned (OpenSpec.upto airspeedRisesSpec)

/-- 'flightdecklaw30.AirspeedTexts', WHERE WHAT IT READS IS OF BULK AT MOST 1048576: true; the input reads as it did. -/
def airspeedTextsUptoRow : OpenClaim := { program := "ytfkgghjinkmpiaadoor", sum := "fa4e7a592f9988987212d10f4f0a285d470f833cc155cf29f089962bf8bc3ee7", func := "flightdeck/flightdecklaw30.AirspeedTexts", spec := "airspeedTexts", inPlace := ["internal/bytealg.IndexByteString", "internal/bytealg.IndexString"], unfollowed := true, recurses := true, named := ["flightdeck/atmosphere.ratios", "math/bits.divideError", "math/bits.overflowError", "flightdeck/atmosphere.temperatures", "internal/strconv.uint64pow10", "math/bits.deBruijn32tab", "math/bits.deBruijn64tab", "internal/bytealg.MaxLen"], apart := false, laid := [("math/bits.deBruijn32tab", laid_math_bits_deBruijn32tab), ("math/bits.deBruijn64tab", laid_math_bits_deBruijn64tab), ("internal/strconv.uint64pow10", laid_internal_strconv_uint64pow10), ("flightdeck/atmosphere.ratios", laid_flightdeck_atmosphere_ratios), ("flightdeck/atmosphere.temperatures", laid_flightdeck_atmosphere_temperatures)], narrowed := true }
def AirspeedTextsUptoSaid : Prop := airspeedTextsUptoRow.holds Tryd.pinned (OpenSpec.upto airspeedTextsSpec)

end Rows
end Go.Proofs.YtfkgghjinkmpiaaDoor
