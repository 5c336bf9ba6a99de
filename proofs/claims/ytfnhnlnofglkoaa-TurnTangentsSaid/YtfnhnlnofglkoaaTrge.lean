/-
  Own contracts: package trig and the document's answers: inverse functions, hypotenuses.
-/
import Derived.Test.YtfnhnlnofglkoaaTrgd
import Derived.WalkKit
import Derived.ProofKit
import Derived.OpenShut
import Derived.WalkLawsBesides
import Derived.WalkSpells
import Derived.Lib.Hide
import Derived.Deep.DeepCutAuto
import Derived.Deep.CutBlock
import Derived.Deep.QuietTactic
import Derived.BigQuiet
import Derived.Handy
import Derived.StillTailTactics
import Derived.IntWalk
import Derived.LoopN
import Derived.Deep.RegionHeld3
namespace Go.Proofs.Ytfnhnlnofglkoaa
open Go.ChangeShapes Go.WideShapes Go.ChangeAt Go.RowKit
set_option linter.unusedVariables false
set_option linter.unusedSimpArgs false

theorem sat_neg (x : Int) (h0 : -2147483647 ≤ x) (h1 : x < 0) : sat (x.natAbs : Int) = -x := by unfold sat; (repeat' split) <;> omega
theorem sat_pos (x : Int) (h0 : 0 ≤ x) (h1 : x ≤ 2147483647) : sat (x.natAbs : Int) = x := by unfold sat; (repeat' split) <;> omega
def hyV (x y : Int) : Int := if ¬ (smB x ∧ smB y) then 0 else isq (x * x + y * y)
def hyE (x y : Int) : Int := if ¬ (smB x ∧ smB y) then 2 else 0
theorem sq_bd (x : Int) (h0 : -2147483647 ≤ x) (h1 : x ≤ 2147483647) : 0 ≤ x * x ∧ x * x ≤ 4611686014132420609 := by
  rcases Int.le_total 0 x with h | h
  · exact mul_bd x x 2147483647 2147483647 h h1 h h1
  · have := mul_bd (-x) (-x) 2147483647 2147483647 (by omega) (by omega) (by omega) (by omega)
    rw [Int.neg_mul_neg] at this
    exact this
end Go.Proofs.Ytfnhnlnofglkoaa
