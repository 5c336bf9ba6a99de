/-
  DERIVED. GIVEN WITH THE SEED: THE PROGRAM's TIES (one call each: nine closed facts by the kernel) AND EACH ROW's TIE, after the 31st guide's Derived/Test/Toyas{Tie, Card}.lean. No idea stands in it: it is a product of the set-up. Laid BY PROGRAM, IN A SANDBOX (cutbox-door.mjs). By AI agents, Wed Nov 11 2026. No macro, syntax, notation, axiom, sorry.
-/
import Derived.Test.YtenlciekkkfojaaDoorRows
import Derived.LaidByTextLater
import Derived.SevenTiedAt
import Derived.LaidSub
import Derived.LaidOnce
namespace Go.Proofs.YtenlciekkkfojaaDoor
open Go
set_option maxRecDepth 100000
theorem seatTie1 : Tryd.prog.laidByTextLater [("flightdeck/atmosphere.pressures", Rows.laid_flightdeck_atmosphere_pressures), ("flightdeck/atmosphere.ratios", Rows.laid_flightdeck_atmosphere_ratios), ("flightdeck/atmosphere.temperatures", Rows.laid_flightdeck_atmosphere_temperatures)] [.data, .data, .data] true :=
  Program.laidByTextLater_by_one 56 8 29 (by kernel_rfl) (by kernel_rfl) (by kernel_rfl) (by kernel_rfl) (by kernel_rfl) (by kernel_rfl) (fun _ _ => by kernel_rfl)
theorem noOwnUnsafe : Tryd.pinned.checked.prog.headLifts.contains "ownunsafe" = false := by kernel_rfl
theorem tie : Tryd.prog.laidByTextLater [("flightdeck/atmosphere.pressures", Rows.laid_flightdeck_atmosphere_pressures), ("flightdeck/atmosphere.ratios", Rows.laid_flightdeck_atmosphere_ratios), ("flightdeck/atmosphere.temperatures", Rows.laid_flightdeck_atmosphere_temperatures)] [.data, .data, .data] true :=
  Program.laidByTextLater.sub seatTie1 ["flightdeck/atmosphere.pressures", "flightdeck/atmosphere.ratios", "flightdeck/atmosphere.temperatures"] (by kernel_rfl) (by kernel_rfl)
theorem topAltitudes_row_tie : Rows.topAltitudesRow.laidByTextAt .later Tryd.pinned [.data, .data, .data] true :=
  OpenClaim.laidByTextAt_later rfl rfl tie noOwnUnsafe
theorem topAltitudesUpto_row_tie : Rows.topAltitudesUptoRow.laidByTextAt .later Tryd.pinned [.data, .data, .data] true :=
  OpenClaim.laidByTextAt_later rfl rfl tie noOwnUnsafe
end Go.Proofs.YtenlciekkkfojaaDoor
