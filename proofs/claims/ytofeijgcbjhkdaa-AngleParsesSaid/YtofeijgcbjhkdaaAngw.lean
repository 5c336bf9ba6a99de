/-
  Own contracts: the chapter's examples of layer 4.
-/
import Derived.Test.YtofeijgcbjhkdaaAngp
import Derived.Test.YtofeijgcbjhkdaaAngb
import Derived.WalkKit
import Derived.ProofKit
import Derived.OpenShut
import Derived.WalkLawsBesides
import Derived.WalkSpells
import Derived.Lib.Hide
import Derived.Deep.DeepCutAuto
import Derived.Deep.CutBlock
import Derived.Deep.QuietTactic
import Derived.BigQuiet
import Derived.Handy
import Derived.StillTailTactics
import Derived.IntWalk
import Derived.LoopN
import Derived.Deep.RegionHeld3
namespace Go.Proofs.Ytofeijgcbjhkdaa
open Go.ChangeShapes Go.WideShapes Go.ChangeAt Go.RowKit
set_option linter.unusedVariables false
set_option linter.unusedSimpArgs false
theorem lat1 (w : World) : Calls Try.prog 27 #[.int .i64 17081012] w fun e w' => e = .returned (.tuple #[.string ⟨#[78, 52, 55, 50, 54, 53, 48, 49, 50]⟩, .int .i64 0]) ∧ Kept w w' := by
  have h := lattext_ok 17081012 (by decide) (by decide) w
  rwa [show latS 17081012 = ⟨#[78, 52, 55, 50, 54, 53, 48, 49, 50]⟩ by decide +kernel] at h
theorem lon1 (w : World) : Calls Try.prog 28 #[.int .i64 (-1)] w fun e w' => e = .returned (.tuple #[.string ⟨#[87, 48, 48, 48, 48, 48, 48, 48, 48, 49]⟩, .int .i64 0]) ∧ Kept w w' := by
  have h := lontext_ok (-1) (by decide) (by decide) w
  rwa [show lonS (-1) = ⟨#[87, 48, 48, 48, 48, 48, 48, 48, 48, 49]⟩ by decide +kernel] at h
theorem crs1 (w : World) : Calls Try.prog 38 #[.int .i64 32598000] w fun e w' => e = .returned (.string ⟨#[48, 57, 48, 54]⟩) ∧ Kept w w' := by
  have h := course_w 32598000 (by decide) (by decide) w
  rwa [show d4 ((nrm 32598000 + 18000) / 36000 % 3600) = ⟨#[48, 57, 48, 54]⟩ by decide +kernel] at h
theorem crs2 (w : World) : Calls Try.prog 38 #[.int .i64 129582000] w fun e w' => e = .returned (.string ⟨#[48, 48, 48, 48]⟩) ∧ Kept w w' := by
  have h := course_w 129582000 (by decide) (by decide) w
  rwa [show d4 ((nrm 129582000 + 18000) / 36000 % 3600) = ⟨#[48, 48, 48, 48]⟩ by decide +kernel] at h
theorem exa1 (w : World) : Calls Try.prog 39 #[.int .i64 (-1)] w fun e w' => e = .returned (.string ⟨#[51, 53, 57, 53, 57, 53, 57, 57, 57]⟩) ∧ Kept w w' := by
  have h := exact_w (-1) (by decide) (by decide) w
  rwa [show sx3 (nrm (-1)) = ⟨#[51, 53, 57, 53, 57, 53, 57, 57, 57]⟩ by decide +kernel] at h
set_option maxHeartbeats 1000000 in
theorem awake_w (w : World) : Calls Try.prog 12 #[] w fun e w' => e = .returned (.bool true) ∧ Kept w w' := by
  have v1 : nrm (-1) = 129599999 := by decide
  have v2 : dif 126000000 3600000 = 7200000 := by decide
  have v3 : dif 0 64800000 = 64800000 := by decide
  have v4 : dif 64800000 0 = 64800000 := by decide
  have v5 : dif 3600000 126000000 = -7200000 := by decide
  go_enter Try.func12, Try.ntmps12
  go_wp2_with (first | (go_at_call 13; with_reducible refine (norm_w (-1) (by decide) (by decide) _).mono ?_; rintro e w' ⟨rfl, rfl⟩) | (go_at_call 19; with_reducible refine (diff_w 126000000 3600000 (by decide) (by decide) (by decide) (by decide) _).mono ?_; rintro e w' ⟨rfl, rfl⟩) | (go_at_call 19; with_reducible refine (diff_w 0 64800000 (by decide) (by decide) (by decide) (by decide) _).mono ?_; rintro e w' ⟨rfl, rfl⟩) | (go_at_call 19; with_reducible refine (diff_w 64800000 0 (by decide) (by decide) (by decide) (by decide) _).mono ?_; rintro e w' ⟨rfl, rfl⟩) | (go_at_call 19; with_reducible refine (diff_w 3600000 126000000 (by decide) (by decide) (by decide) (by decide) _).mono ?_; rintro e w' ⟨rfl, rfl⟩) | (go_at_call 27; with_reducible refine (lat1 _).mono ?_; rintro e w' ⟨rfl, hk⟩) | (go_at_call 28; with_reducible refine (lon1 _).mono ?_; rintro e w' ⟨rfl, hk⟩) | (go_at_call 33; with_reducible refine (lon_ex _).mono ?_; rintro e w' ⟨rfl, rfl⟩) | (go_at_call 32; with_reducible refine (lat_ex _).mono ?_; rintro e w' ⟨rfl, rfl⟩) | (go_at_call 38; with_reducible refine (crs1 _).mono ?_; rintro e w' ⟨rfl, hk⟩) | (go_at_call 38; with_reducible refine (crs2 _).mono ?_; rintro e w' ⟨rfl, hk⟩) | (go_at_call 39; with_reducible refine (exa1 _).mono ?_; rintro e w' ⟨rfl, hk⟩))
  all_goals first | (go_ret; refine ⟨?_, (by repeat (first | with_reducible exact Kept.refl _ | with_reducible assumption | with_reducible refine Kept.setCell ?_ (by first | (simp; done) | (simp; omega) | omega) _ | with_reducible refine Kept.alloc ?_ _ | with_reducible refine Kept.drewN ?_ _ | with_reducible refine Kept.drew ?_ | with_reducible refine Kept.trans ?_ (by with_reducible assumption) | with_reducible refine Kept.dr ?_ (by with_reducible assumption)))⟩; first | rfl | (show Ending.returned (.bool (decide _)) = _; rw [decide_eq_true (by omega)]) | (show Ending.returned (.bool (decide _)) = _; rw [decide_eq_false (by omega)]) | (refine retb ?_; simp; done) | (refine retb ?_; simp; omega)) | (exfalso; omega)
end Go.Proofs.Ytofeijgcbjhkdaa
