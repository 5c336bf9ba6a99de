/-
  Own contracts: layer 13: the chapter's examples.
-/
import Derived.Test.YtfpgdicacjkfoaaGreatDoorWinw
import Derived.Test.YtfpgdicacjkfoaaGreatDoorWinv
import Derived.WalkKit
import Derived.ProofKit
import Derived.OpenShut
import Derived.WalkLawsBesides
import Derived.WalkSpells
import Derived.Lib.Hide
import Derived.Deep.DeepCutAuto
import Derived.Deep.CutBlock
import Derived.Deep.QuietTactic
import Derived.BigQuiet
import Derived.Handy
import Derived.StillTailTactics
import Derived.IntWalk
import Derived.LoopN
import Derived.Deep.RegionHeld3
namespace Go.Proofs.YtfpgdicacjkfoaaGreatDoor
open Go.ChangeShapes Go.WideShapes Go.ChangeAt Go.RowKit
set_option linter.unusedVariables false
set_option linter.unusedSimpArgs false
theorem ca_p (w : World) : Calls Tryz.prog 9 #[.int .i64 0, .agg #[.int .i64 60, .int .i64 0]] w fun e w' => e = .returned (.tuple #[.int .i64 0, .int .i64 61440, .int .i64 0]) ∧ Kept w w' := by
  have h := wparts_ok 0 60 0 (by omega) (by omega) (by omega) (by omega) (by omega) (by omega) w
  rw [wx1.1, wx1.2] at h
  exact h
theorem ca_g1 (w : World) : Calls Tryz.prog 15 #[.int .i64 0, .int .i64 100, .agg #[.int .i64 60, .int .i64 0]] w fun e w' => e = .returned (.tuple #[.int .i64 81920, .int .i64 (-13273163), .int .i64 0]) ∧ Kept w w' := by
  have h := ground_w 0 100 60 0 (by omega) (by omega) (by omega) (by omega) w
  rw [wx2.1, wx2.2, wx3] at h
  exact h
theorem ca_g2 (w : World) : Calls Tryz.prog 15 #[.int .i64 0, .int .i64 100, .agg #[.int .i64 0, .int .i64 50]] w fun e w' => e = .returned (.tuple #[.int .i64 153600, .int .i64 0, .int .i64 0]) ∧ Kept w w' := by
  have h := ground_w 0 100 0 50 (by omega) (by omega) (by omega) (by omega) w
  rw [wx4.1, wx4.2, wx5] at h
  exact h
theorem ca_g3 (w : World) : Calls Tryz.prog 15 #[.int .i64 0, .int .i64 60, .agg #[.int .i64 60, .int .i64 0]] w fun e w' => e = .returned (.tuple #[.int .i64 0, .int .i64 0, .int .i64 10]) ∧ Kept w w' := by
  have h := ground_w 0 60 60 0 (by omega) (by omega) (by omega) (by omega) w
  rw [wx6.1, wx6.2, wx7] at h
  exact h
theorem ca_t (w : World) : Calls Tryz.prog 17 #[.int .i64 0, .int .i64 100, .agg #[.int .i64 0, .int .i64 0]] w fun e w' => e = .returned (.tuple #[.int .i64 0, .int .i64 102400, .int .i64 0]) ∧ Kept w w' := by
  have h := track_w 0 100 0 0 (by omega) (by omega) (by omega) (by omega) w
  rw [wx8.1, wx8.2, wx9] at h
  exact h
theorem ca_i (w : World) : Calls Tryz.prog 23 #[.int .i64 0, .agg #[.int .i64 100, .int .i64 100], .agg #[.int .i64 0, .int .i64 60, .int .i64 (-10), .int .i64 10]] w fun e w' => e = .returned (.tuple #[.agg #[.int .i64 70, .int .i64 110], .int .i64 0]) ∧ Kept w w' := by
  have h := gi_w 0 100 100 0 60 (-10) 10 (by omega) (by omega) (by omega) (by omega) (by omega) (by omega) w
  rw [wxa.1, wxa.2.1, wxa.2.2] at h
  exact h
set_option maxHeartbeats 2000000 in
set_option maxRecDepth 100000 in
theorem awake_w (w : World) (hP : Hid (P10 w)) : Calls Tryz.prog 6 #[] w fun e w' => e = .returned (.bool true) ∧ Kept w w' := by
  have HT := Lib.hid (fun W (k : Kept w W) => l_text W (Lib.hid (tabis_kept (w := w) hP.out k)))
  go_enter Tryz.func6, Tryz.ntmps6
  go_wp2_with fail
  with_reducible refine (ca_p _).mono ?_
  rintro e w1 ⟨rfl, hk1⟩
  go_wp2_with fail
  with_reducible refine (ca_g1 _).mono ?_
  rintro e w2 ⟨rfl, hk2⟩
  go_wp2_with fail
  with_reducible refine (ca_g2 _).mono ?_
  rintro e w3 ⟨rfl, hk3⟩
  go_wp2_with fail
  with_reducible refine (ca_g3 _).mono ?_
  rintro e w4 ⟨rfl, hk4⟩
  go_wp2_with fail
  with_reducible refine (ca_t _).mono ?_
  rintro e w5 ⟨rfl, hk5⟩
  go_wp2_with fail
  with_reducible refine (ca_i _).mono ?_
  rintro e w6 ⟨rfl, hk6⟩
  go_wp2_with fail
  refine (HT.out _ (by repeat (first | with_reducible exact Kept.refl _ | with_reducible assumption | with_reducible refine Kept.setCell ?_ (by first | (simp; done) | (simp; omega) | omega) _ | with_reducible refine Kept.alloc ?_ _ | with_reducible refine Kept.drewN ?_ _ | with_reducible refine Kept.drew ?_ | with_reducible refine Kept.trans ?_ (by with_reducible assumption) | with_reducible refine Kept.dr ?_ (by with_reducible assumption)))).mono ?_
  rintro e w7 ⟨rfl, hk7⟩
  go_wp2_with fail
  with_reducible refine (l_parse _).mono ?_
  rintro e w8 ⟨rfl, hk8⟩
  go_wp2_with fail
  all_goals go_ret
  all_goals exact ⟨rfl, (by repeat (first | with_reducible exact Kept.refl _ | with_reducible assumption | with_reducible refine Kept.setCell ?_ (by first | (simp; done) | (simp; omega) | omega) _ | with_reducible refine Kept.alloc ?_ _ | with_reducible refine Kept.drewN ?_ _ | with_reducible refine Kept.drew ?_ | with_reducible refine Kept.trans ?_ (by with_reducible assumption) | with_reducible refine Kept.dr ?_ (by with_reducible assumption)))⟩
end Go.Proofs.YtfpgdicacjkfoaaGreatDoor
