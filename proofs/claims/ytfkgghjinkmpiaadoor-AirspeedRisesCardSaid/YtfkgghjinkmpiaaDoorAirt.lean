/-
  Own frame: layer 30: the tables that the rows lay.
-/
import Derived.Test.YtfkgghjinkmpiaaDoorAirw
import Derived.Test.YtfkgghjinkmpiaaDoorRows
import Derived.Test.YtfkgghjinkmpiaaDoorLaid
import Derived.LaidSub
import Derived.WalkKit
import Derived.ProofKit
import Derived.OpenShut
import Derived.WalkLawsBesides
import Derived.WalkSpells
import Derived.Lib.Hide
import Derived.Deep.DeepCutAuto
import Derived.Deep.CutBlock
import Derived.Deep.QuietTactic
import Derived.BigQuiet
import Derived.Handy
import Derived.StillTailTactics
import Derived.IntWalk
import Derived.LoopN
import Derived.Deep.RegionHeld3
namespace Go.Proofs.YtfkgghjinkmpiaaDoor
open Go.ChangeShapes Go.WideShapes Go.ChangeAt Go.RowKit
set_option linter.unusedVariables false
set_option linter.unusedSimpArgs false
theorem rat_z : ∀ i : Fin 14, ([(-2000, 971400), (0, 1000000), (5000, 1077300), (10000, 1163700), (15000, 1260600), (20000, 1370000), (25000, 1493800), (30000, 1634900), (35000, 1796400), (40000, 2015500), (45000, 2272700), (50000, 2562800), (55000, 2890100), (60000, 3259100)] : List (Int × Int))[i.1]? = some (ratF i.1, ratV i.1) := by decide +kernel
theorem tmp_z : ∀ i : Fin 4, ([(-2000, 29211), (0, 28815), (36089, 21665), (60000, 21665)] : List (Int × Int))[i.1]? = some (tmpF i.1, tmpV i.1) := by decide +kernel
theorem tabair_of {W : World} (h : laidMetH Tryd.prog [("math/bits.deBruijn32tab", Rows.laid_math_bits_deBruijn32tab), ("math/bits.deBruijn64tab", Rows.laid_math_bits_deBruijn64tab), ("internal/strconv.uint64pow10", Rows.laid_internal_strconv_uint64pow10), ("flightdeck/atmosphere.ratios", Rows.laid_flightdeck_atmosphere_ratios), ("flightdeck/atmosphere.temperatures", Rows.laid_flightdeck_atmosphere_temperatures)] W) : Tab W := by
  have c1 := pairs_cells (P := Tryd.prog) (w := W) (nm := "flightdeck/atmosphere.ratios") (l := [("math/bits.deBruijn32tab", Rows.laid_math_bits_deBruijn32tab), ("math/bits.deBruijn64tab", Rows.laid_math_bits_deBruijn64tab), ("internal/strconv.uint64pow10", Rows.laid_internal_strconv_uint64pow10), ("flightdeck/atmosphere.ratios", Rows.laid_flightdeck_atmosphere_ratios), ("flightdeck/atmosphere.temperatures", Rows.laid_flightdeck_atmosphere_temperatures)]) (zs := [(-2000, 971400), (0, 1000000), (5000, 1077300), (10000, 1163700), (15000, 1260600), (20000, 1370000), (25000, 1493800), (30000, 1634900), (35000, 1796400), (40000, 2015500), (45000, 2272700), (50000, 2562800), (55000, 2890100), (60000, 3259100)]) (n := 14) (g := 0) (t := 55) (e := 54) (u := 2) h (.tail _ (.tail _ (.tail _ (.head _)))) (by kernel_rfl) (by kernel_rfl) (by kernel_rfl) Tryd.underlying54 ⟨rfl, rfl⟩ ⟨rfl, rfl⟩ (by kernel_rfl) (by kernel_rfl) (by kernel_rfl)
  have d1 : ∀ i : Nat, i < 14 → W.cell? ⟨0, i * 2, none⟩ = some (.int .i64 (ratF i)) ∧ W.cell? ⟨0, i * 2 + 1, none⟩ = some (.int .i64 (ratV i)) := fun i hi => by
    obtain ⟨z, hz, h1, h2⟩ := c1 i hi
    rw [rat_z ⟨i, hi⟩] at hz
    cases hz
    exact ⟨h1, h2⟩
  have c2 := pairs_cells (P := Tryd.prog) (w := W) (nm := "flightdeck/atmosphere.temperatures") (l := [("math/bits.deBruijn32tab", Rows.laid_math_bits_deBruijn32tab), ("math/bits.deBruijn64tab", Rows.laid_math_bits_deBruijn64tab), ("internal/strconv.uint64pow10", Rows.laid_internal_strconv_uint64pow10), ("flightdeck/atmosphere.ratios", Rows.laid_flightdeck_atmosphere_ratios), ("flightdeck/atmosphere.temperatures", Rows.laid_flightdeck_atmosphere_temperatures)]) (zs := [(-2000, 29211), (0, 28815), (36089, 21665), (60000, 21665)]) (n := 4) (g := 1) (t := 66) (e := 54) (u := 2) h (.tail _ (.tail _ (.tail _ (.tail _ (.head _))))) (by kernel_rfl) (by kernel_rfl) (by kernel_rfl) Tryd.underlying54 ⟨rfl, rfl⟩ ⟨rfl, rfl⟩ (by kernel_rfl) (by kernel_rfl) (by kernel_rfl)
  have d2 : ∀ i : Nat, i < 4 → W.cell? ⟨1, i * 2, none⟩ = some (.int .i64 (tmpF i)) ∧ W.cell? ⟨1, i * 2 + 1, none⟩ = some (.int .i64 (tmpV i)) := fun i hi => by
    obtain ⟨z, hz, h1, h2⟩ := c2 i hi
    rw [tmp_z ⟨i, hi⟩] at hz
    cases hz
    exact ⟨h1, h2⟩
  exact ⟨fun i hi => (d1 i hi).1, fun i hi => (d1 i hi).2, fun i hi => (d2 i hi).1, fun i hi => (d2 i hi).2⟩
theorem t3_of {W : World} (h : laidMetH Tryd.prog [("math/bits.deBruijn32tab", Rows.laid_math_bits_deBruijn32tab), ("math/bits.deBruijn64tab", Rows.laid_math_bits_deBruijn64tab), ("internal/strconv.uint64pow10", Rows.laid_internal_strconv_uint64pow10), ("flightdeck/atmosphere.ratios", Rows.laid_flightdeck_atmosphere_ratios), ("flightdeck/atmosphere.temperatures", Rows.laid_flightdeck_atmosphere_temperatures)] W) : T3 W := by
  refine ⟨tabair_of h, ?_⟩
  have h2 : laidMetH Tryd.prog [("internal/strconv.uint64pow10", Rows.laid_internal_strconv_uint64pow10)] W := h.filter (fun x => x.1 == "internal/strconv.uint64pow10")
  exact Lib.tabIs_of_head (g := 2) (t := 85) (e := 68) (n := 20) (rest := []) (by kernel_rfl) (by kernel_rfl) (by kernel_rfl) (by kernel_rfl) (by kernel_rfl) (by kernel_rfl) h2
end Go.Proofs.YtfkgghjinkmpiaaDoor
