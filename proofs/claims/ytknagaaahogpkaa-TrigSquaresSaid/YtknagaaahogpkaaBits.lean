/-
  Own contracts over the landed program: math/bits.Mul64, Len64, LeadingZeros64, Div64 (no panic where the high word is below the divisor), with the plain numbers they need.
-/
import Derived.Test.YtknagaaahogpkaaNum
import Derived.Test.YtknagaaahogpkaaRows
import Derived.Test.YtknagaaahogpkaaBase
import Derived.WalkKit
import Derived.ProofKit
import Derived.OpenShut
import Derived.WalkLawsBesides
import Derived.WalkSpells
import Derived.Lib.Hide
import Derived.Deep.DeepCutAuto
import Derived.Deep.CutBlock
import Derived.Deep.QuietTactic
import Derived.BigQuiet
import Derived.Handy
namespace Go.Proofs.Ytknagaaahogpkaa
open Go.ChangeShapes Go.WideShapes Go.ChangeAt Go.RowKit
set_option linter.unusedVariables false
set_option linter.unusedSimpArgs false

end Go.Proofs.Ytknagaaahogpkaa
