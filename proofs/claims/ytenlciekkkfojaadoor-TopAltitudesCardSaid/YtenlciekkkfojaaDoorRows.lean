/-
  NARROWER THAN 'FOR EVERY INPUT', by the rows' own cells (each row's printed sentence says how): TopAltitudes: laid.
  DERIVED. THE GIVEN ROWS OF THIS SEAT. 1 by the template 'for every input the law returns true; each argument reads behind the call as it read before'; 0 by the template 'total and deterministic' (their statements: YtenlciekkkfojaaDoorTotals.lean).
  GIVEN WITH THE SEED: the statements are not yours to turn. If you find one false, say at which input.
  Laid BY PROGRAM, IN A SANDBOX (cutbox-rows.mjs): the forced cells as the released guide's own fill.sh prints them over the translation c413a90575c8dcf7… (all of the seat's roots in one cut). By AI agents, Wed Nov 11 2026. No macro, syntax, notation, axiom, sorry.
-/
import Derived.Test.YtenlciekkkfojaaDoorChecked
import GoSem.Claim
import GoSem.ClaimJoined
import GoSem.ClaimMapViews
import Derived.JoinedTies
import Derived.KernelRfl
namespace Go.Proofs.YtenlciekkkfojaaDoor
/- THE CELL 'sum', in the pinned program and in every row, IS THE sha256 OF THE DUMP (.gsa) THAT YtenlciekkkfojaaDoorProg.lean LOADS. Nothing in Lean hashes anything: it is a label: what it is worth is what the hold of that sum in a sandbox is worth. -/
noncomputable def Tryd.pinned : Pinned := { name := "ytenlciekkkfojaadoor", sum := "c413a90575c8dcf7112864c450f4e13bfaaafb9caa9e7d2c0887e1eccbc06a79", checked := Tryd.checked }
namespace Rows
def none {H : Type} : Left H := { results := [], args := [] }

/- WHAT THE LISTED PACKAGE-LEVEL VARIABLES READ AS WHEN THE CALL BEGINS. Each datum BY PROGRAM (the guide's laid-datum.mjs) off the statement by which the dump's own 'gosem.cut.vars' lays the variable. In a bare row this is a premise. The card (YtenlciekkkfojaaDoorCards.lean) ties it to the program's text. -/
def laid_flightdeck_atmosphere_pressures {H : Type} : DataW H := .agg [.agg [.lit (.int .i64 (-2000)), .lit (.int .i64 1074400)], .agg [.lit (.int .i64 0), .lit (.int .i64 1000000)], .agg [.lit (.int .i64 5000), .lit (.int .i64 832000)], .agg [.lit (.int .i64 10000), .lit (.int .i64 687700)], .agg [.lit (.int .i64 15000), .lit (.int .i64 564300)], .agg [.lit (.int .i64 20000), .lit (.int .i64 459500)], .agg [.lit (.int .i64 25000), .lit (.int .i64 371100)], .agg [.lit (.int .i64 30000), .lit (.int .i64 297000)], .agg [.lit (.int .i64 35000), .lit (.int .i64 235300)], .agg [.lit (.int .i64 40000), .lit (.int .i64 185100)], .agg [.lit (.int .i64 45000), .lit (.int .i64 145500)], .agg [.lit (.int .i64 50000), .lit (.int .i64 114500)], .agg [.lit (.int .i64 55000), .lit (.int .i64 90000)], .agg [.lit (.int .i64 60000), .lit (.int .i64 70800)]]
def laid_flightdeck_atmosphere_ratios {H : Type} : DataW H := .agg [.agg [.lit (.int .i64 (-2000)), .lit (.int .i64 971400)], .agg [.lit (.int .i64 0), .lit (.int .i64 1000000)], .agg [.lit (.int .i64 5000), .lit (.int .i64 1077300)], .agg [.lit (.int .i64 10000), .lit (.int .i64 1163700)], .agg [.lit (.int .i64 15000), .lit (.int .i64 1260600)], .agg [.lit (.int .i64 20000), .lit (.int .i64 1370000)], .agg [.lit (.int .i64 25000), .lit (.int .i64 1493800)], .agg [.lit (.int .i64 30000), .lit (.int .i64 1634900)], .agg [.lit (.int .i64 35000), .lit (.int .i64 1796400)], .agg [.lit (.int .i64 40000), .lit (.int .i64 2015500)], .agg [.lit (.int .i64 45000), .lit (.int .i64 2272700)], .agg [.lit (.int .i64 50000), .lit (.int .i64 2562800)], .agg [.lit (.int .i64 55000), .lit (.int .i64 2890100)], .agg [.lit (.int .i64 60000), .lit (.int .i64 3259100)]]
def laid_flightdeck_atmosphere_temperatures {H : Type} : DataW H := .agg [.agg [.lit (.int .i64 (-2000)), .lit (.int .i64 29211)], .agg [.lit (.int .i64 0), .lit (.int .i64 28815)], .agg [.lit (.int .i64 36089), .lit (.int .i64 21665)], .agg [.lit (.int .i64 60000), .lit (.int .i64 21665)]]

/-- 'flightdecktop.TopAltitudes': WHATEVER THE INPUT: true; the input reads as it did. -/
def topAltitudesSpec : ChangeSpec := { name := "topAltitudes", fn := fun _ => fun
  | [d1, d2, d3] => { results := [.lit (.bool true)], args := [d1, d2, d3] }
  | _ => none }
def topAltitudesRow : OpenClaim := { program := "ytenlciekkkfojaadoor", sum := "c413a90575c8dcf7112864c450f4e13bfaaafb9caa9e7d2c0887e1eccbc06a79", func := "flightdeck/flightdecktop.TopAltitudes", spec := "topAltitudes", unfollowed := true, recurses := true, named := ["flightdeck/atmosphere.pressures", "math/bits.divideError", "math/bits.overflowError", "flightdeck/atmosphere.ratios", "flightdeck/atmosphere.temperatures"], apart := false, laid := [("flightdeck/atmosphere.pressures", laid_flightdeck_atmosphere_pressures), ("flightdeck/atmosphere.ratios", laid_flightdeck_atmosphere_ratios), ("flightdeck/atmosphere.temperatures", laid_flightdeck_atmosphere_temperatures)] }
def TopAltitudesSaid : Prop := topAltitudesRow.holds Tryd.pinned (OpenSpec.ofChange topAltitudesSpec)

/-- ITS FALSE NEIGHBOUR: 'it returns false'. Refute it at one input. -/
def topAltitudesWrong : ChangeSpec := { name := "topAltitudes", fn := fun _ => fun
  | [d1, d2, d3] => { results := [.lit (.bool false)], args := [d1, d2, d3] }
  | _ => none }
def TopAltitudesWrongFalsely : Prop := topAltitudesRow.holds Tryd.pinned (OpenSpec.ofChange topAltitudesWrong)

/- THE SECOND FORM. 'bulk': how many values and letters a reading holds, each counted each time it is reached (what is shared counts as often as it is met; a slice's spare places count too). A statement '..UptoSaid' is the law's where the arguments, and the package variables that the reading takes, are together of bulk at most 1048576: NARROWER than '..Said'. Prove '..Said' where nothing that the law and all that it calls make is longer than what came in: it says more and counts as full. Else prove '..UptoSaid'. A law counts once. -/
mutual
def uptoBulk {H : Type} : DataW H → Nat
  | .lit (.string bytes) => bytes.length + 1
  | .lit _ => 1
  | .nil => 1
  | .ptr d => uptoBulk d + 1
  | .slice elems spare => uptoBulkAll elems + uptoBulkAll spare + 1
  | .agg parts => uptoBulkAll parts + 1
  | .iface _ d => uptoBulk d + 1
  | .map entries => uptoBulkEntries entries + 1
  | .held _ => 1
def uptoBulkAll {H : Type} : List (DataW H) → Nat
  | [] => 0
  | d :: r => uptoBulk d + uptoBulkAll r
def uptoBulkEntries {H : Type} : List (Lit × DataW H) → Nat
  | [] => 0
  | x :: r => uptoBulkEntry x + uptoBulkEntries r
def uptoBulkEntry {H : Type} : Lit × DataW H → Nat
  | (.string bytes, d) => bytes.length + uptoBulk d + 1
  | (_, d) => uptoBulk d + 1
 end
def uptoSmall : (H : Type) → List (DataW H) → Bool := fun _ ds => decide (uptoBulkAll ds ≤ 1048576)
def OpenSpec.upto (s : _root_.Go.ChangeSpec) : _root_.Go.OpenSpec := { _root_.Go.OpenSpec.ofChange s with cond := some uptoSmall }

/-- 'flightdecktop.TopAltitudes', WHERE WHAT IT READS IS OF BULK AT MOST 1048576: true; the input reads as it did. -/
def topAltitudesUptoRow : OpenClaim := { program := "ytenlciekkkfojaadoor", sum := "c413a90575c8dcf7112864c450f4e13bfaaafb9caa9e7d2c0887e1eccbc06a79", func := "flightdeck/flightdecktop.TopAltitudes", spec := "topAltitudes", unfollowed := true, recurses := true, named := ["flightdeck/atmosphere.pressures", "math/bits.divideError", "math/bits.overflowError", "flightdeck/atmosphere.ratios", "flightdeck/atmosphere.temperatures"], apart := false, laid := [("flightdeck/atmosphere.pressures", laid_flightdeck_atmosphere_pressures), ("flightdeck/atmosphere.ratios", laid_flightdeck_atmosphere_ratios), ("flightdeck/atmosphere.temperatures", laid_flightdeck_atmosphere_temperatures)], narrowed := true }
def TopAltitudesUptoSaid : Prop := topAltitudesUptoRow.holds Tryd.pinned (OpenSpec.upto topAltitudesSpec)

end Rows
end Go.Proofs.YtenlciekkkfojaaDoor
