/-
  Own contracts: package line and the document's answers of layer 11: the document: whole answers.
-/
import Derived.Test.YtokgmhicindibaaLine0
import Derived.Test.YtokgmhicindibaaLinbr
import Derived.WalkKit
import Derived.ProofKit
import Derived.OpenShut
import Derived.WalkLawsBesides
import Derived.WalkSpells
import Derived.Lib.Hide
import Derived.Deep.DeepCutAuto
import Derived.Deep.CutBlock
import Derived.Deep.QuietTactic
import Derived.BigQuiet
import Derived.Handy
import Derived.StillTailTactics
import Derived.IntWalk
import Derived.LoopN
import Derived.Deep.RegionHeld3
namespace Go.Proofs.Ytokgmhicindibaa
open Go.ChangeShapes Go.WideShapes Go.ChangeAt Go.RowKit
set_option linter.unusedVariables false
set_option linter.unusedSimpArgs false
theorem ref_ahead_t (aX aY bX bY pX pY : Int) (w : World) : Calls Try.prog 17 #[.agg #[.int .i64 aX, .int .i64 aY], .agg #[.int .i64 bX, .int .i64 bY], .agg #[.int .i64 pX, .int .i64 pY]] w fun e w' => e = .returned (.int .i64 (ahT aX aY bX bY pX pY)) ∧ Kept w w' := by
  unfold ahT
  by_cases h : pokB aX aY = true ∧ pokB bX bY = true ∧ pokB pX pY = true
  · rw [if_pos h]; exact ref_ahead_ok aX aY bX bY pX pY h.1 h.2.1 h.2.2 w
  · rw [if_neg h]; exact ref_ahead_bad aX aY bX bY pX pY (by cases h1 : pokB aX aY <;> cases h2 : pokB bX bY <;> cases h3 : pokB pX pY <;> simp_all) w
theorem ref_dist_t (aX aY bX bY : Int) (w : World) : Calls Try.prog 22 #[.agg #[.int .i64 aX, .int .i64 aY], .agg #[.int .i64 bX, .int .i64 bY]] w fun e w' => e = .returned (.int .i64 (dsT aX aY bX bY)) ∧ Kept w w' := by
  unfold dsT
  by_cases h : pokB aX aY = true ∧ pokB bX bY = true
  · rw [if_pos h]; exact ref_dist_ok aX aY bX bY h.1 h.2 w
  · rw [if_neg h]; exact ref_dist_bad aX aY bX bY (by cases h1 : pokB aX aY <;> cases h2 : pokB bX bY <;> simp_all) w

end Go.Proofs.Ytokgmhicindibaa
