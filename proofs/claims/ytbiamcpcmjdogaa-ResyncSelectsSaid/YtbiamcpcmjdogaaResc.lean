/-
  The laws of layer 54: the targets in use; walks.
-/
import Derived.Test.YtbiamcpcmjdogaaResb
import Derived.WalkKit
import Derived.ProofKit
import Derived.OpenShut
import Derived.WalkLawsBesides
import Derived.WalkSpells
import Derived.Lib.Hide
import Derived.Deep.DeepCutAuto
import Derived.Deep.CutBlock
import Derived.Deep.QuietTactic
import Derived.BigQuiet
import Derived.Handy
import Derived.StillTailTactics
import Derived.IntWalk
import Derived.LoopN
import Derived.Deep.RegionHeld3
namespace Go.Proofs.Ytbiamcpcmjdogaa
open Go.ChangeShapes Go.WideShapes Go.ChangeAt Go.RowKit
set_option linter.unusedVariables false
set_option linter.unusedSimpArgs false

set_option maxHeartbeats 2000000 in
set_option maxRecDepth 100000 in
theorem law_selects (a b : Int) (a_0 : 0 ≤ a) (a_1 : a ≤ 255) (b_0 : 0 ≤ b) (b_1 : b ≤ 255) (w : World) : Calls Try.prog 4 #[.int .u8 a, .int .u8 b] w fun en w' => en = .returned (.bool true) ∧ Kept w w' := by
  have d1 := fun w => select_w a b a_0 a_1 b_0 b_1 w
  have d2 := fun w => ref_select_w a b a_0 a_1 b_0 b_1 w
  generalize sel a b = z at d1 d2
  go_enter Try.func4, Try.ntmps4
  go_wp2_with fail
  refine (awake_w _).mono ?_
  rintro e w1 ⟨rfl, hk⟩
  have HK := Lib.hid hk
  clear hk
  go_wp2_with fail
  refine (d1 _).mono ?_
  rintro e w3 ⟨rfl, rfl⟩
  go_wp2_with fail
  refine (d2 _).mono ?_
  rintro e w3 ⟨rfl, rfl⟩
  go_wp2_with fail
  go_ret
  exact ⟨by first | rfl | simp, HK.out⟩

end Go.Proofs.Ytbiamcpcmjdogaa
