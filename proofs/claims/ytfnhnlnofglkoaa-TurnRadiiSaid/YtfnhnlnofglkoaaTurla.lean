/-
  Own contracts: package line and the document's answers of layer 11: the law TurnRadii.
-/
import Derived.Test.YtfnhnlnofglkoaaTure
import Derived.Test.YtfnhnlnofglkoaaTurc
import Derived.WalkKit
import Derived.ProofKit
import Derived.OpenShut
import Derived.WalkLawsBesides
import Derived.WalkSpells
import Derived.Lib.Hide
import Derived.Deep.DeepCutAuto
import Derived.Deep.CutBlock
import Derived.Deep.QuietTactic
import Derived.BigQuiet
import Derived.Handy
import Derived.StillTailTactics
import Derived.IntWalk
import Derived.LoopN
import Derived.Deep.RegionHeld3
namespace Go.Proofs.Ytfnhnlnofglkoaa
open Go.ChangeShapes Go.WideShapes Go.ChangeAt Go.RowKit
set_option linter.unusedVariables false
set_option linter.unusedSimpArgs false
set_option maxHeartbeats 4000000 in
set_option maxRecDepth 100000 in
theorem law_radii (v b : Int) (v_0 : -9223372036854775808 ≤ v) (v_1 : v ≤ 9223372036854775807) (b_0 : -9223372036854775808 ≤ b) (b_1 : b ≤ 9223372036854775807) (w : World) : Calls Try.prog 3 #[.int .i64 v, .int .i64 b] w fun e w' => e = .returned (.bool true) ∧ Kept w w' := by
  go_enter Try.func3, Try.ntmps3
  go_wp2_with fail
  with_reducible refine (awake_w _).mono ?_
  rintro e w1 ⟨rfl, hk1⟩
  go_wp2_with fail
  with_reducible refine (radius_w v b v_0 v_1 b_0 b_1 _).mono ?_
  rintro e w2 ⟨rfl, hk2⟩
  go_wp2_with fail
  with_reducible refine (ref_radius_w v b v_0 v_1 b_0 b_1 _).mono ?_
  rintro e w3 ⟨rfl, hk3⟩
  go_wp2_with fail
  with_reducible refine (rate_w v b v_0 v_1 b_0 b_1 _).mono ?_
  rintro e w4 ⟨rfl, hk4⟩
  go_wp2_with fail
  with_reducible refine (ref_rate_w v b v_0 v_1 b_0 b_1 _).mono ?_
  rintro e w5 ⟨rfl, hk5⟩
  go_wp2_with fail
  all_goals first | (go_ret; refine ⟨?_, (by repeat (first | with_reducible exact Kept.refl _ | with_reducible assumption | with_reducible refine Kept.setCell ?_ (by first | (simp; done) | (simp; omega) | omega) _ | with_reducible refine Kept.alloc ?_ _ | with_reducible refine Kept.drewN ?_ _ | with_reducible refine Kept.drew ?_ | with_reducible refine Kept.trans ?_ (by with_reducible assumption) | with_reducible refine Kept.dr ?_ (by with_reducible assumption)))⟩; first | rfl | (refine retb ?_; simp; done) | (refine retb ?_; simp; omega)) | (exfalso; omega)

end Go.Proofs.Ytfnhnlnofglkoaa
