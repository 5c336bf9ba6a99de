/-
  Own contracts: layer 13: the document's components of a wind.
-/
import Derived.Test.YtfpgdicacjkfoaaDoorWinm
import Derived.Test.YtfpgdicacjkfoaaDoorTrgf
import Derived.Test.YtfpgdicacjkfoaaDoorAngb
import Derived.WalkKit
import Derived.ProofKit
import Derived.OpenShut
import Derived.WalkLawsBesides
import Derived.WalkSpells
import Derived.Lib.Hide
import Derived.Deep.DeepCutAuto
import Derived.Deep.CutBlock
import Derived.Deep.QuietTactic
import Derived.BigQuiet
import Derived.Handy
import Derived.StillTailTactics
import Derived.IntWalk
import Derived.LoopN
import Derived.Deep.RegionHeld3
namespace Go.Proofs.YtfpgdicacjkfoaaDoor
open Go.ChangeShapes Go.WideShapes Go.ChangeAt Go.RowKit
set_option linter.unusedVariables false
set_option linter.unusedSimpArgs false
set_option maxHeartbeats 2000000 in
set_option maxRecDepth 100000 in
theorem ref_wvalid_w (x y : Int) (w : World) : Calls Tryd.prog 19 #[.agg #[.int .i64 x, .int .i64 y]] w fun e w' => e = .returned (.bool (wok x y)) ∧ Kept w w' := by
  have E : wok x y = (decide (-400 ≤ x) && decide (x ≤ 400) && decide (-400 ≤ y) && decide (y ≤ 400)) := by
    unfold wok wsm
    rw [Bool.eq_iff_iff]
    simp
    omega
  have rb : ∀ a b : Bool, (a = true ↔ b = true) → Ending.returned (.bool a) = .returned (.bool b) := fun a b h => by rw [Bool.eq_iff_iff.2 h]
  rw [E]
  go_enter Tryd.func19, Tryd.ntmps19
  go_wp2
  all_goals first | (go_ret; refine ⟨?_, (by repeat (first | with_reducible exact Kept.refl _ | with_reducible assumption | with_reducible refine Kept.setCell ?_ (by first | (simp; done) | (simp; omega) | omega) _ | with_reducible refine Kept.alloc ?_ _ | with_reducible refine Kept.drewN ?_ _ | with_reducible refine Kept.drew ?_ | with_reducible refine Kept.trans ?_ (by with_reducible assumption) | with_reducible refine Kept.dr ?_ (by with_reducible assumption)))⟩; refine rb _ _ ?_; simp; omega) | (exfalso; omega)
end Go.Proofs.YtfpgdicacjkfoaaDoor
