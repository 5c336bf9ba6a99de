/-
  Own contracts: package angle and the document's answers of layer 4: middles, sectors.
-/
import Derived.Test.YtfpgdicacjkfoaaGreatDoorAnga
import Derived.WalkKit
import Derived.ProofKit
import Derived.OpenShut
import Derived.WalkLawsBesides
import Derived.WalkSpells
import Derived.Lib.Hide
import Derived.Deep.DeepCutAuto
import Derived.Deep.CutBlock
import Derived.Deep.QuietTactic
import Derived.BigQuiet
import Derived.Handy
import Derived.StillTailTactics
import Derived.IntWalk
import Derived.LoopN
import Derived.Deep.RegionHeld3
namespace Go.Proofs.YtfpgdicacjkfoaaGreatDoor
open Go.ChangeShapes Go.WideShapes Go.ChangeAt Go.RowKit
set_option linter.unusedVariables false
set_option linter.unusedSimpArgs false
theorem half_odd (d : Int) (h0 : d < 0) (h1 : d % 2 = 1) : d.tdiv 2 = d / 2 + 1 ∧ d.tmod 2 = -1 := by
  have a := Int.neg_tdiv (-d) 2
  have b := Int.neg_tmod (-d) 2
  rw [Int.neg_neg] at a b
  have e1 : (-d).tdiv 2 = (-d) / 2 := Int.tdiv_eq_ediv_of_nonneg (by omega)
  have e2 : (-d).tmod 2 = (-d) % 2 := Int.tmod_eq_emod_of_nonneg (by omega)
  constructor <;> omega
theorem half_even (d : Int) (h0 : d < 0) (h1 : d % 2 = 0) : d.tdiv 2 = d / 2 ∧ d.tmod 2 = 0 := by
  have a := Int.neg_tdiv (-d) 2
  have b := Int.neg_tmod (-d) 2
  rw [Int.neg_neg] at a b
  have e1 : (-d).tdiv 2 = (-d) / 2 := Int.tdiv_eq_ediv_of_nonneg (by omega)
  have e2 : (-d).tmod 2 = (-d) % 2 := Int.tmod_eq_emod_of_nonneg (by omega)
  constructor <;> omega
end Go.Proofs.YtfpgdicacjkfoaaGreatDoor
