/-
  NARROWER THAN 'FOR EVERY INPUT', by the rows' own cells (each row's printed sentence says how): AtmospherePressure: laid · AtmosphereValues: laid · AtmosphereLevel: laid · AtmosphereFalls: laid · AtmosphereWarmer: laid · AtmosphereSmooth: laid.
  DERIVED. THE GIVEN ROWS OF THIS SEAT. 6 by the template 'for every input the law returns true; each argument reads behind the call as it read before'; 0 by the template 'total and deterministic' (their statements: YtkldapeemdndhaaDoorTotals.lean).
  GIVEN WITH THE SEED: the statements are not yours to turn. If you find one false, say at which input.
  Laid BY PROGRAM, IN A SANDBOX (cutbox-rows.mjs): the forced cells as the released guide's own fill.sh prints them over the translation 3caf5cba91349e3e… (all of the seat's roots in one cut). By AI agents, Wed Nov 11 2026. No macro, syntax, notation, axiom, sorry.
-/
import Derived.Test.YtkldapeemdndhaaDoorChecked
import GoSem.Claim
import GoSem.ClaimJoined
import GoSem.ClaimMapViews
import Derived.JoinedTies
import Derived.KernelRfl
namespace Go.Proofs.YtkldapeemdndhaaDoor
/- THE CELL 'sum', in the pinned program and in every row, IS THE sha256 OF THE DUMP (.gsa) THAT YtkldapeemdndhaaDoorProg.lean LOADS. Nothing in Lean hashes anything: it is a label: what it is worth is what the hold of that sum in a sandbox is worth. -/
noncomputable def Tryd.pinned : Pinned := { name := "ytkldapeemdndhaadoor", sum := "3caf5cba91349e3e18359f0bc453b0f21ec59d1f2d82ca4f6b07f5b6c731b023", checked := Tryd.checked }
namespace Rows
def none {H : Type} : Left H := { results := [], args := [] }

/- WHAT THE LISTED PACKAGE-LEVEL VARIABLES READ AS WHEN THE CALL BEGINS. Each datum BY PROGRAM (the guide's laid-datum.mjs) off the statement by which the dump's own 'gosem.cut.vars' lays the variable. In a bare row this is a premise. The card (YtkldapeemdndhaaDoorCards.lean) ties it to the program's text. -/
def laid_flightdeck_atmosphere_pressures {H : Type} : DataW H := .agg [.agg [.lit (.int .i64 (-2000)), .lit (.int .i64 1074400)], .agg [.lit (.int .i64 0), .lit (.int .i64 1000000)], .agg [.lit (.int .i64 5000), .lit (.int .i64 832000)], .agg [.lit (.int .i64 10000), .lit (.int .i64 687700)], .agg [.lit (.int .i64 15000), .lit (.int .i64 564300)], .agg [.lit (.int .i64 20000), .lit (.int .i64 459500)], .agg [.lit (.int .i64 25000), .lit (.int .i64 371100)], .agg [.lit (.int .i64 30000), .lit (.int .i64 297000)], .agg [.lit (.int .i64 35000), .lit (.int .i64 235300)], .agg [.lit (.int .i64 40000), .lit (.int .i64 185100)], .agg [.lit (.int .i64 45000), .lit (.int .i64 145500)], .agg [.lit (.int .i64 50000), .lit (.int .i64 114500)], .agg [.lit (.int .i64 55000), .lit (.int .i64 90000)], .agg [.lit (.int .i64 60000), .lit (.int .i64 70800)]]
def laid_flightdeck_atmosphere_ratios {H : Type} : DataW H := .agg [.agg [.lit (.int .i64 (-2000)), .lit (.int .i64 971400)], .agg [.lit (.int .i64 0), .lit (.int .i64 1000000)], .agg [.lit (.int .i64 5000), .lit (.int .i64 1077300)], .agg [.lit (.int .i64 10000), .lit (.int .i64 1163700)], .agg [.lit (.int .i64 15000), .lit (.int .i64 1260600)], .agg [.lit (.int .i64 20000), .lit (.int .i64 1370000)], .agg [.lit (.int .i64 25000), .lit (.int .i64 1493800)], .agg [.lit (.int .i64 30000), .lit (.int .i64 1634900)], .agg [.lit (.int .i64 35000), .lit (.int .i64 1796400)], .agg [.lit (.int .i64 40000), .lit (.int .i64 2015500)], .agg [.lit (.int .i64 45000), .lit (.int .i64 2272700)], .agg [.lit (.int .i64 50000), .lit (.int .i64 2562800)], .agg [.lit (.int .i64 55000), .lit (.int .i64 2890100)], .agg [.lit (.int .i64 60000), .lit (.int .i64 3259100)]]
def laid_flightdeck_atmosphere_temperatures {H : Type} : DataW H := .agg [.agg [.lit (.int .i64 (-2000)), .lit (.int .i64 29211)], .agg [.lit (.int .i64 0), .lit (.int .i64 28815)], .agg [.lit (.int .i64 36089), .lit (.int .i64 21665)], .agg [.lit (.int .i64 60000), .lit (.int .i64 21665)]]

/-- 'flightdecklaw29.AtmospherePressure': WHATEVER THE INPUT: true; the input reads as it did. -/
def atmospherePressureSpec : ChangeSpec := { name := "atmospherePressure", fn := fun _ => fun
  | [d1, d2] => { results := [.lit (.bool true)], args := [d1, d2] }
  | _ => none }
def atmospherePressureRow : OpenClaim := { program := "ytkldapeemdndhaadoor", sum := "3caf5cba91349e3e18359f0bc453b0f21ec59d1f2d82ca4f6b07f5b6c731b023", func := "flightdeck/flightdecklaw29.AtmospherePressure", spec := "atmospherePressure", named := ["flightdeck/atmosphere.pressures", "math/bits.divideError", "math/bits.overflowError", "flightdeck/atmosphere.temperatures", "flightdeck/atmosphere.ratios"], apart := false, laid := [("flightdeck/atmosphere.pressures", laid_flightdeck_atmosphere_pressures), ("flightdeck/atmosphere.ratios", laid_flightdeck_atmosphere_ratios), ("flightdeck/atmosphere.temperatures", laid_flightdeck_atmosphere_temperatures)] }
def AtmospherePressureSaid : Prop := atmospherePressureRow.holds Tryd.pinned (OpenSpec.ofChange atmospherePressureSpec)

/-- ITS FALSE NEIGHBOUR: 'it returns false'. Refute it at one input. -/
def atmospherePressureWrong : ChangeSpec := { name := "atmospherePressure", fn := fun _ => fun
  | [d1, d2] => { results := [.lit (.bool false)], args := [d1, d2] }
  | _ => none }
def AtmospherePressureWrongFalsely : Prop := atmospherePressureRow.holds Tryd.pinned (OpenSpec.ofChange atmospherePressureWrong)

/-- 'flightdecklaw29.AtmosphereValues': WHATEVER THE INPUT: true; the input reads as it did. -/
def atmosphereValuesSpec : ChangeSpec := { name := "atmosphereValues", fn := fun _ => fun
  | [d1, d2] => { results := [.lit (.bool true)], args := [d1, d2] }
  | _ => none }
def atmosphereValuesRow : OpenClaim := { program := "ytkldapeemdndhaadoor", sum := "3caf5cba91349e3e18359f0bc453b0f21ec59d1f2d82ca4f6b07f5b6c731b023", func := "flightdeck/flightdecklaw29.AtmosphereValues", spec := "atmosphereValues", named := ["flightdeck/atmosphere.pressures", "math/bits.divideError", "math/bits.overflowError", "flightdeck/atmosphere.temperatures", "flightdeck/atmosphere.ratios"], apart := false, laid := [("flightdeck/atmosphere.pressures", laid_flightdeck_atmosphere_pressures), ("flightdeck/atmosphere.ratios", laid_flightdeck_atmosphere_ratios), ("flightdeck/atmosphere.temperatures", laid_flightdeck_atmosphere_temperatures)] }
def AtmosphereValuesSaid : Prop := atmosphereValuesRow.holds Tryd.pinned (OpenSpec.ofChange atmosphereValuesSpec)

/-- ITS FALSE NEIGHBOUR: 'it returns false'. Refute it at one input. -/
def atmosphereValuesWrong : ChangeSpec := { name := "atmosphereValues", fn := fun _ => fun
  | [d1, d2] => { results := [.lit (.bool false)], args := [d1, d2] }
  | _ => none }
def AtmosphereValuesWrongFalsely : Prop := atmosphereValuesRow.holds Tryd.pinned (OpenSpec.ofChange atmosphereValuesWrong)

/-- 'flightdecklaw29.AtmosphereLevel': WHATEVER THE INPUT: true; the input reads as it did. -/
def atmosphereLevelSpec : ChangeSpec := { name := "atmosphereLevel", fn := fun _ => fun
  | [d] => { results := [.lit (.bool true)], args := [d] }
  | _ => none }
def atmosphereLevelRow : OpenClaim := { program := "ytkldapeemdndhaadoor", sum := "3caf5cba91349e3e18359f0bc453b0f21ec59d1f2d82ca4f6b07f5b6c731b023", func := "flightdeck/flightdecklaw29.AtmosphereLevel", spec := "atmosphereLevel", named := ["flightdeck/atmosphere.pressures", "math/bits.divideError", "math/bits.overflowError", "flightdeck/atmosphere.temperatures", "flightdeck/atmosphere.ratios"], apart := false, laid := [("flightdeck/atmosphere.pressures", laid_flightdeck_atmosphere_pressures), ("flightdeck/atmosphere.ratios", laid_flightdeck_atmosphere_ratios), ("flightdeck/atmosphere.temperatures", laid_flightdeck_atmosphere_temperatures)] }
def AtmosphereLevelSaid : Prop := atmosphereLevelRow.holds Tryd.pinned (OpenSpec.ofChange atmosphereLevelSpec)

/-- ITS FALSE NEIGHBOUR: 'it returns false'. Refute it at one input. -/
def atmosphereLevelWrong : ChangeSpec := { name := "atmosphereLevel", fn := fun _ => fun
  | [d] => { results := [.lit (.bool false)], args := [d] }
  | _ => none }
def AtmosphereLevelWrongFalsely : Prop := atmosphereLevelRow.holds Tryd.pinned (OpenSpec.ofChange atmosphereLevelWrong)

/-- 'flightdecklaw29.AtmosphereFalls': WHATEVER THE INPUT: true; the input reads as it did. -/
def atmosphereFallsSpec : ChangeSpec := { name := "atmosphereFalls", fn := fun _ => fun
  | [d1, d2] => { results := [.lit (.bool true)], args := [d1, d2] }
  | _ => none }
def atmosphereFallsRow : OpenClaim := { program := "ytkldapeemdndhaadoor", sum := "3caf5cba91349e3e18359f0bc453b0f21ec59d1f2d82ca4f6b07f5b6c731b023", func := "flightdeck/flightdecklaw29.AtmosphereFalls", spec := "atmosphereFalls", named := ["flightdeck/atmosphere.pressures", "math/bits.divideError", "math/bits.overflowError", "flightdeck/atmosphere.temperatures", "flightdeck/atmosphere.ratios"], apart := false, laid := [("flightdeck/atmosphere.pressures", laid_flightdeck_atmosphere_pressures), ("flightdeck/atmosphere.ratios", laid_flightdeck_atmosphere_ratios), ("flightdeck/atmosphere.temperatures", laid_flightdeck_atmosphere_temperatures)] }
def AtmosphereFallsSaid : Prop := atmosphereFallsRow.holds Tryd.pinned (OpenSpec.ofChange atmosphereFallsSpec)

/-- ITS FALSE NEIGHBOUR: 'it returns false'. Refute it at one input. -/
def atmosphereFallsWrong : ChangeSpec := { name := "atmosphereFalls", fn := fun _ => fun
  | [d1, d2] => { results := [.lit (.bool false)], args := [d1, d2] }
  | _ => none }
def AtmosphereFallsWrongFalsely : Prop := atmosphereFallsRow.holds Tryd.pinned (OpenSpec.ofChange atmosphereFallsWrong)

/-- 'flightdecklaw29.AtmosphereWarmer': WHATEVER THE INPUT: true; the input reads as it did. -/
def atmosphereWarmerSpec : ChangeSpec := { name := "atmosphereWarmer", fn := fun _ => fun
  | [d1, d2] => { results := [.lit (.bool true)], args := [d1, d2] }
  | _ => none }
def atmosphereWarmerRow : OpenClaim := { program := "ytkldapeemdndhaadoor", sum := "3caf5cba91349e3e18359f0bc453b0f21ec59d1f2d82ca4f6b07f5b6c731b023", func := "flightdeck/flightdecklaw29.AtmosphereWarmer", spec := "atmosphereWarmer", named := ["flightdeck/atmosphere.pressures", "math/bits.divideError", "math/bits.overflowError", "flightdeck/atmosphere.temperatures", "flightdeck/atmosphere.ratios"], apart := false, laid := [("flightdeck/atmosphere.pressures", laid_flightdeck_atmosphere_pressures), ("flightdeck/atmosphere.ratios", laid_flightdeck_atmosphere_ratios), ("flightdeck/atmosphere.temperatures", laid_flightdeck_atmosphere_temperatures)] }
def AtmosphereWarmerSaid : Prop := atmosphereWarmerRow.holds Tryd.pinned (OpenSpec.ofChange atmosphereWarmerSpec)

/-- ITS FALSE NEIGHBOUR: 'it returns false'. Refute it at one input. -/
def atmosphereWarmerWrong : ChangeSpec := { name := "atmosphereWarmer", fn := fun _ => fun
  | [d1, d2] => { results := [.lit (.bool false)], args := [d1, d2] }
  | _ => none }
def AtmosphereWarmerWrongFalsely : Prop := atmosphereWarmerRow.holds Tryd.pinned (OpenSpec.ofChange atmosphereWarmerWrong)

/-- 'flightdecklaw29.AtmosphereSmooth': WHATEVER THE INPUT: true; the input reads as it did. -/
def atmosphereSmoothSpec : ChangeSpec := { name := "atmosphereSmooth", fn := fun _ => fun
  | [d] => { results := [.lit (.bool true)], args := [d] }
  | _ => none }
def atmosphereSmoothRow : OpenClaim := { program := "ytkldapeemdndhaadoor", sum := "3caf5cba91349e3e18359f0bc453b0f21ec59d1f2d82ca4f6b07f5b6c731b023", func := "flightdeck/flightdecklaw29.AtmosphereSmooth", spec := "atmosphereSmooth", named := ["flightdeck/atmosphere.pressures", "math/bits.divideError", "math/bits.overflowError", "flightdeck/atmosphere.temperatures", "flightdeck/atmosphere.ratios"], apart := false, laid := [("flightdeck/atmosphere.pressures", laid_flightdeck_atmosphere_pressures), ("flightdeck/atmosphere.ratios", laid_flightdeck_atmosphere_ratios), ("flightdeck/atmosphere.temperatures", laid_flightdeck_atmosphere_temperatures)] }
def AtmosphereSmoothSaid : Prop := atmosphereSmoothRow.holds Tryd.pinned (OpenSpec.ofChange atmosphereSmoothSpec)

/-- ITS FALSE NEIGHBOUR: 'it returns false'. Refute it at one input. -/
def atmosphereSmoothWrong : ChangeSpec := { name := "atmosphereSmooth", fn := fun _ => fun
  | [d] => { results := [.lit (.bool false)], args := [d] }
  | _ => none }
def AtmosphereSmoothWrongFalsely : Prop := atmosphereSmoothRow.holds Tryd.pinned (OpenSpec.ofChange atmosphereSmoothWrong)

/- THE SECOND FORM. 'bulk': how many values and letters a reading holds, each counted each time it is reached (what is shared counts as often as it is met; a slice's spare places count too). A statement '..UptoSaid' is the law's where the arguments, and the package variables that the reading takes, are together of bulk at most 1048576: NARROWER than '..Said'. Prove '..Said' where nothing that the law and all that it calls make is longer than what came in: it says more and counts as full. Else prove '..UptoSaid'. A law counts once. -/
mutual
def uptoBulk {H : Type} : DataW H → Nat
  | .lit (.string bytes) => bytes.length + 1
  | .lit _ => 1
  | .nil => 1
  | .ptr d => uptoBulk d + 1
  | .slice elems spare => uptoBulkAll elems + uptoBulkAll spare + 1
  | .agg parts => uptoBulkAll parts + 1
  | .iface _ d => uptoBulk d + 1
  | .map entries => uptoBulkEntries entries + 1
  | .held _ => 1
def uptoBulkAll {H : Type} : List (DataW H) → Nat
  | [] => 0
  | d :: r => uptoBulk d + uptoBulkAll r
def uptoBulkEntries {H : Type} : List (Lit × DataW H) → Nat
  | [] => 0
  | x :: r => uptoBulkEntry x + uptoBulkEntries r
def uptoBulkEntry {H : Type} : Lit × DataW H → Nat
  | (.string bytes, d) => bytes.length + uptoBulk d + 1
  | (_, d) => uptoBulk d + 1
 end
def uptoSmall : (H : Type) → List (DataW H) → Bool := fun _ ds => decide (uptoBulkAll ds ≤ 1048576)
def OpenSpec.upto (s : _root_.Go.ChangeSpec) : _root_.Go.OpenSpec := { _root_.Go.OpenSpec.ofChange s with cond := some uptoSmall }

/-- 'flightdecklaw29.AtmospherePressure', WHERE WHAT IT READS IS OF BULK AT MOST 1048576: true; the input reads as it did. -/
def atmospherePressureUptoRow : OpenClaim := { program := "ytkldapeemdndhaadoor", sum := "3caf5cba91349e3e18359f0bc453b0f21ec59d1f2d82ca4f6b07f5b6c731b023", func := "flightdeck/flightdecklaw29.AtmospherePressure", spec := "atmospherePressure", named := ["flightdeck/atmosphere.pressures", "math/bits.divideError", "math/bits.overflowError", "flightdeck/atmosphere.temperatures", "flightdeck/atmosphere.ratios"], apart := false, laid := [("flightdeck/atmosphere.pressures", laid_flightdeck_atmosphere_pressures), ("flightdeck/atmosphere.ratios", laid_flightdeck_atmosphere_ratios), ("flightdeck/atmosphere.temperatures", laid_flightdeck_atmosphere_temperatures)], narrowed := true }
def AtmospherePressureUptoSaid : Prop := atmospherePressureUptoRow.holds Tryd.pinned (OpenSpec.upto atmospherePressureSpec)

/-- 'flightdecklaw29.AtmosphereValues', WHERE WHAT IT READS IS OF BULK AT MOST 1048576: true; the input reads as it did. -/
def atmosphereValuesUptoRow : OpenClaim := { program := "ytkldapeemdndhaadoor", sum := "3caf5cba91349e3e18359f0bc453b0f21ec59d1f2d82ca4f6b07f5b6c731b023", func := "flightdeck/flightdecklaw29.AtmosphereValues", spec := "atmosphereValues", named := ["flightdeck/atmosphere.pressures", "math/bits.divideError", "math/bits.overflowError", "flightdeck/atmosphere.temperatures", "flightdeck/atmosphere.ratios"], apart := false, laid := [("flightdeck/atmosphere.pressures", laid_flightdeck_atmosphere_pressures), ("flightdeck/atmosphere.ratios", laid_flightdeck_atmosphere_ratios), ("flightdeck/atmosphere.temperatures", laid_flightdeck_atmosphere_temperatures)], narrowed := true }
def AtmosphereValuesUptoSaid : Prop := atmosphereValuesUptoRow.holds Tryd.pinned (OpenSpec.upto atmosphereValuesSpec)

/-- 'flightdecklaw29.AtmosphereLevel', WHERE WHAT IT READS IS OF BULK AT MOST 1048576: true; the input reads as it did. -/
def atmosphereLevelUptoRow : OpenClaim := { program := "ytkldapeemdndhaadoor", sum := "3caf5cba91349e3e18359f0bc453b0f21ec59d1f2d82ca4f6b07f5b6c731b023", func := "flightdeck/flightdecklaw29.AtmosphereLevel", spec := "atmosphereLevel", named := ["flightdeck/atmosphere.pressures", "math/bits.divideError", "math/bits.overflowError", "flightdeck/atmosphere.temperatures", "flightdeck/atmosphere.ratios"], apart := false, laid := [("flightdeck/atmosphere.pressures", laid_flightdeck_atmosphere_pressures), ("flightdeck/atmosphere.ratios", laid_flightdeck_atmosphere_ratios), ("flightdeck/atmosphere.temperatures", laid_flightdeck_atmosphere_temperatures)], narrowed := true }
def AtmosphereLevelUptoSaid : Prop := atmosphereLevelUptoRow.holds Tryd.pinned (OpenSpec.upto atmosphereLevelSpec)

/-- 'flightdecklaw29.AtmosphereFalls', WHERE WHAT IT READS IS OF BULK AT MOST 1048576: true; the input reads as it did. -/
def atmosphereFallsUptoRow : OpenClaim := { program := "ytkldapeemdndhaadoor", sum := "3caf5cba91349e3e18359f0bc453b0f21ec59d1f2d82ca4f6b07f5b6c731b023", func := "flightdeck/flightdecklaw29.AtmosphereFalls", spec := "atmosphereFalls", named := ["flightdeck/atmosphere.pressures", "math/bits.divideError", "math/bits.overflowError", "flightdeck/atmosphere.temperatures", "flightdeck/atmosphere.ratios"], apart := false, laid := [("flightdeck/atmosphere.pressures", laid_flightdeck_atmosphere_pressures), ("flightdeck/atmosphere.ratios", laid_flightdeck_atmosphere_ratios), ("flightdeck/atmosphere.temperatures", laid_flightdeck_atmosphere_temperatures)], narrowed := true }
def AtmosphereFallsUptoSaid : Prop := atmosphereFallsUptoRow.holds Tryd.pinned (OpenSpec.upto atmosphereFallsSpec)

/-- 'flightdecklaw29.AtmosphereWarmer', WHERE WHAT IT READS IS OF BULK AT MOST 1048576: true; the input reads as it did. -/
def atmosphereWarmerUptoRow : OpenClaim := { program := "ytkldapeemdndhaadoor", sum := "3caf5cba91349e3e18359f0bc453b0f21ec59d1f2d82ca4f6b07f5b6c731b023", func := "flightdeck/flightdecklaw29.AtmosphereWarmer", spec := "atmosphereWarmer", named := ["flightdeck/atmosphere.pressures", "math/bits.divideError", "math/bits.overflowError", "flightdeck/atmosphere.temperatures", "flightdeck/atmosphere.ratios"], apart := false, laid := [("flightdeck/atmosphere.pressures", laid_flightdeck_atmosphere_pressures), ("flightdeck/atmosphere.ratios", laid_flightdeck_atmosphere_ratios), ("flightdeck/atmosphere.temperatures", laid_flightdeck_atmosphere_temperatures)], narrowed := true }
def AtmosphereWarmerUptoSaid : Prop := atmosphereWarmerUptoRow.holds Tryd.pinned (OpenSpec.upto atmosphereWarmerSpec)

/-- 'flightdecklaw29.AtmosphereSmooth', WHERE WHAT IT READS IS OF BULK AT MOST 1048576: true; the input reads as it did. -/
def atmosphereSmoothUptoRow : OpenClaim := { program := "ytkldapeemdndhaadoor", sum := "3caf5cba91349e3e18359f0bc453b0f21ec59d1f2d82ca4f6b07f5b6c731b023", func := "flightdeck/flightdecklaw29.AtmosphereSmooth", spec := "atmosphereSmooth", named := ["flightdeck/atmosphere.pressures", "math/bits.divideError", "math/bits.overflowError", "flightdeck/atmosphere.temperatures", "flightdeck/atmosphere.ratios"], apart := false, laid := [("flightdeck/atmosphere.pressures", laid_flightdeck_atmosphere_pressures), ("flightdeck/atmosphere.ratios", laid_flightdeck_atmosphere_ratios), ("flightdeck/atmosphere.temperatures", laid_flightdeck_atmosphere_temperatures)], narrowed := true }
def AtmosphereSmoothUptoSaid : Prop := atmosphereSmoothUptoRow.holds Tryd.pinned (OpenSpec.upto atmosphereSmoothSpec)

end Rows
end Go.Proofs.YtkldapeemdndhaaDoor
