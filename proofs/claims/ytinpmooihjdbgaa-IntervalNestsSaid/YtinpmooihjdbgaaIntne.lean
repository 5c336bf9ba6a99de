/-
  The law that operations keep inclusions: walks.
-/
import Derived.Test.YtinpmooihjdbgaaIntr
import Derived.Test.YtinpmooihjdbgaaIntnea
import Derived.Test.YtinpmooihjdbgaaIntneb
import Derived.Test.YtinpmooihjdbgaaIntnec
import Derived.WalkKit
import Derived.ProofKit
import Derived.OpenShut
import Derived.WalkLawsBesides
import Derived.WalkSpells
import Derived.Lib.Hide
import Derived.Deep.DeepCutAuto
import Derived.Deep.CutBlock
import Derived.Deep.QuietTactic
import Derived.BigQuiet
import Derived.Handy
import Derived.StillTailTactics
import Derived.IntWalk
import Derived.LoopN
import Derived.Deep.RegionHeld3
namespace Go.Proofs.Ytinpmooihjdbgaa
open Go.ChangeShapes Go.WideShapes Go.ChangeAt Go.RowKit
set_option linter.unusedVariables false
set_option linter.unusedSimpArgs false

theorem nests_w (a b c d p q : Int) (a_0 : -9223372036854775808 ≤ a) (a_1 : a ≤ 9223372036854775807) (b_0 : -9223372036854775808 ≤ b) (b_1 : b ≤ 9223372036854775807) (c_0 : -9223372036854775808 ≤ c) (c_1 : c ≤ 9223372036854775807) (d_0 : -9223372036854775808 ≤ d) (d_1 : d ≤ 9223372036854775807) (p_0 : -9223372036854775808 ≤ p) (p_1 : p ≤ 9223372036854775807) (q_0 : -9223372036854775808 ≤ q) (q_1 : q ≤ 9223372036854775807) (w : World) : Calls Try.prog 11 #[.agg #[.int .i64 a, .int .i64 b], .agg #[.int .i64 c, .int .i64 d], .agg #[.int .i64 p, .int .i64 q]] w fun en w' => en = .returned (.bool true) ∧ Kept w w' := by
  by_cases h1 : b < a ∨ a < -4611686018427387904 ∨ 4611686018427387904 < b ∨ q < p ∨ p < -4611686018427387904 ∨ 4611686018427387904 < q
  · exact nests_1 a b c d p q h1 w
  · by_cases h2 : q < a ∨ b < p
    · exact nests_2 a b c d p q (by omega) (by omega) (by omega) (by omega) (by omega) (by omega) h2 w
    · by_cases h3 : d < c ∨ c < -4611686018427387904 ∨ 4611686018427387904 < d
      · exact nests_3 a b c d p q (by omega) (by omega) (by omega) (by omega) (by omega) (by omega) (by omega) (by omega) h3 w
      · by_cases h4 : c ≤ 0 ∧ 0 ≤ d
        · exact nests_4 a b c d p q (by omega) (by omega) (by omega) (by omega) (by omega) (by omega) (by omega) (by omega) (by omega) (by omega) (by omega) h4.1 h4.2 w
        · exact nests_5 a b c d p q (by omega) (by omega) (by omega) (by omega) (by omega) (by omega) (by omega) (by omega) (by omega) (by omega) (by omega) (by omega) w
end Go.Proofs.Ytinpmooihjdbgaa
