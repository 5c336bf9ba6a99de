/-
  Own contracts: the document's answers of layer 1, the functions.
-/
import Derived.Test.YteibanlajbmgnaaRefa
import Derived.WalkKit
import Derived.ProofKit
import Derived.OpenShut
import Derived.WalkLawsBesides
import Derived.WalkSpells
import Derived.Lib.Hide
import Derived.Deep.DeepCutAuto
import Derived.Deep.CutBlock
import Derived.Deep.QuietTactic
import Derived.BigQuiet
import Derived.Handy
namespace Go.Proofs.Yteibanlajbmgnaa
open Go.ChangeShapes Go.WideShapes Go.ChangeAt Go.RowKit
set_option linter.unusedVariables false
set_option linter.unusedSimpArgs false

theorem ref_sub_w (a b : Int) (a0 : -9223372036854775808 ≤ a) (a1 : a ≤ 9223372036854775807) (b0 : -9223372036854775808 ≤ b) (b1 : b ≤ 9223372036854775807) (w : World) :
    Calls Try.prog 21 #[.int .i64 a, .int .i64 b] w fun e w' => e = .returned (.int .i64 (sat (a - b))) ∧ w = w' := by
  have hs : wrap64 (IntKind.u64.wrap (IntKind.u64.wrap a - IntKind.u64.wrap b)) = wrap64 (a - b) := by simp only [IntKind.wrap_u64, wrap64]; omega
  by_cases ha : a < 0 <;> by_cases hb : b < 0
  all_goals
    go_enter Try.func21, Try.ntmps21
    go_wp2
    all_goals
      go_ret
      refine ⟨?_, rfl⟩
      show Ending.returned (.int .i64 _) = Ending.returned (.int .i64 _)
      congr 2
      simp only [IntKind.wrap_u64, wrap64, sat] at *
      (repeat' split) <;> omega
end Go.Proofs.Yteibanlajbmgnaa
