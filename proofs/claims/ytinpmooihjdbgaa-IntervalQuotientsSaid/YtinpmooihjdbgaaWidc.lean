/-
  Own contracts: package wide: products of wides, divisions.
-/
import Derived.Test.YtinpmooihjdbgaaWidb
import Derived.WalkKit
import Derived.ProofKit
import Derived.OpenShut
import Derived.WalkLawsBesides
import Derived.WalkSpells
import Derived.Lib.Hide
import Derived.Deep.DeepCutAuto
import Derived.Deep.CutBlock
import Derived.Deep.QuietTactic
import Derived.BigQuiet
import Derived.Handy
import Derived.StillTailTactics
import Derived.IntWalk
import Derived.LoopN
import Derived.Deep.RegionHeld3
namespace Go.Proofs.Ytinpmooihjdbgaa
open Go.ChangeShapes Go.WideShapes Go.ChangeAt Go.RowKit
set_option linter.unusedVariables false
set_option linter.unusedSimpArgs false

theorem sgd_mul (u a : Int) : sgd (decide (u < 0) != decide (a < 0)) (wmag u * wmag a) = u * a := by
  unfold sgd wmag
  by_cases h : u < 0 <;> by_cases k : a < 0 <;> simp [h, k, Int.neg_mul, Int.mul_neg]
theorem mag_mul (m n mh ml N : Int) (hm : m = mh * 18446744073709551616 + ml) (hN : n = N) : m * n = (mh * N) * 18446744073709551616 + ml * N := by
  subst hN; rw [hm, Int.add_mul, Int.mul_right_comm]
theorem mul_far (u a : Int) (h : 340282366920938463463374607431768211456 ≤ wmag u * wmag a) : u * a < -170141183460469231731687303715884105728 ∨ 170141183460469231731687303715884105728 ≤ u * a := by
  have := sgd_mul u a
  rw [← this]
  unfold sgd
  split <;> omega
end Go.Proofs.Ytinpmooihjdbgaa
