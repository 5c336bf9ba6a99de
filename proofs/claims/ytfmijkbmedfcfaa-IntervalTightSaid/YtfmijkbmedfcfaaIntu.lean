/-
  Own contracts: interval: each answer as one function of the arguments.
-/
import Derived.Test.YtfmijkbmedfcfaaInte
import Derived.Test.YtfmijkbmedfcfaaIntx
import Derived.WalkKit
import Derived.ProofKit
import Derived.OpenShut
import Derived.WalkLawsBesides
import Derived.WalkSpells
import Derived.Lib.Hide
import Derived.Deep.DeepCutAuto
import Derived.Deep.CutBlock
import Derived.Deep.QuietTactic
import Derived.BigQuiet
import Derived.Handy
import Derived.StillTailTactics
import Derived.IntWalk
import Derived.LoopN
import Derived.Deep.RegionHeld3
namespace Go.Proofs.Ytfmijkbmedfcfaa
open Go.ChangeShapes Go.WideShapes Go.ChangeAt Go.RowKit
set_option linter.unusedVariables false
set_option linter.unusedSimpArgs false

def vb (a b : Int) : Bool := decide (a ≤ b ∧ -4611686018427387904 ≤ a ∧ b ≤ 4611686018427387904)
def mkl (a b : Int) : Int := if (a ≤ b ∧ -4611686018427387904 ≤ a ∧ b ≤ 4611686018427387904) then a else 0
def mkg (a b : Int) : Int := if (a ≤ b ∧ -4611686018427387904 ≤ a ∧ b ≤ 4611686018427387904) then b else 0
def mke (a b : Int) : Int := if (a ≤ b ∧ -4611686018427387904 ≤ a ∧ b ≤ 4611686018427387904) then 0 else if b < a then 1 else 2
def hb (a b v : Int) : Bool := decide ((a ≤ b ∧ -4611686018427387904 ≤ a ∧ b ≤ 4611686018427387904) ∧ a ≤ v ∧ v ≤ b)
def wd (a b : Int) : Int := if (a ≤ b ∧ -4611686018427387904 ≤ a ∧ b ≤ 4611686018427387904) then b - a else 0
def wi (a b c d : Int) : Bool := decide ((a ≤ b ∧ -4611686018427387904 ≤ a ∧ b ≤ 4611686018427387904) ∧ (c ≤ d ∧ -4611686018427387904 ≤ c ∧ d ≤ 4611686018427387904) ∧ c ≤ a ∧ b ≤ d)
theorem wd_bd (a b : Int) : 0 ≤ wd a b ∧ wd a b ≤ 18446744073709551615 := by unfold wd; split <;> omega
theorem valid_u (a b : Int) (w : World) : Calls Try.prog 14 #[.agg #[.int .i64 a, .int .i64 b]] w fun en w' => en = .returned (.bool (vb a b)) ∧ Kept w w' := by
  by_cases h : (a ≤ b ∧ -4611686018427387904 ≤ a ∧ b ≤ 4611686018427387904)
  · rw [show vb a b = true from decide_eq_true h]; exact valid_ok a b (by omega) (by omega) (by omega) w
  · rw [show vb a b = false from decide_eq_false h]; exact valid_bad a b (by omega) w
theorem has_u (a b v : Int) (w : World) : Calls Try.prog 20 #[.agg #[.int .i64 a, .int .i64 b], .int .i64 v] w fun en w' => en = .returned (.bool (hb a b v)) ∧ Kept w w' := by
  by_cases h : (a ≤ b ∧ -4611686018427387904 ≤ a ∧ b ≤ 4611686018427387904) ∧ a ≤ v ∧ v ≤ b
  · rw [show hb a b v = true from decide_eq_true h]; exact has_yes a b v (by omega) (by omega) (by omega) (by omega) (by omega) w
  · rw [show hb a b v = false from decide_eq_false h]; exact has_no a b v (by omega) w
end Go.Proofs.Ytfmijkbmedfcfaa
