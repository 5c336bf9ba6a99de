/-
  Own contracts: the laws of layer 51 on mirrored commands and on reaching a target.
-/
import Derived.Test.YteibanlajbmgnaaVerb
import Derived.WalkKit
import Derived.ProofKit
import Derived.OpenShut
import Derived.WalkLawsBesides
import Derived.WalkSpells
import Derived.Lib.Hide
import Derived.Deep.DeepCutAuto
import Derived.Deep.CutBlock
import Derived.Deep.QuietTactic
import Derived.BigQuiet
import Derived.Handy
import Derived.Deep.RegionHeld3
namespace Go.Proofs.Yteibanlajbmgnaa
open Go.ChangeShapes Go.WideShapes Go.ChangeAt Go.RowKit
set_option linter.unusedVariables false
set_option linter.unusedSimpArgs false
theorem cmd_mirror (a t m : Int) (m0 : 0 ≤ m) : cmdV a t m = -cmdV t a m := by
  unfold cmdV; split <;> split <;> omega
theorem cap_mirror (a v t : Int) : capB a v t = capB t (-v) a := by
  unfold capB; congr 1; apply propext; constructor <;> (intro h; omega)
set_option maxHeartbeats 1000000 in
theorem law_mirror (a t v : Int) (a_0 : -9223372036854775808 ≤ a) (a_1 : a ≤ 9223372036854775807) (t_0 : -9223372036854775808 ≤ t) (t_1 : t ≤ 9223372036854775807) (v_0 : -9223372036854775808 ≤ v) (v_1 : v ≤ 9223372036854775807) (w : World) : Calls Try.prog 8 #[.int .i64 a, .int .i64 t, .int .i64 v] w fun e w' => e = .returned (.bool true) ∧ Kept w w' := by
  by_cases c1 : a < -200000 ∨ 6000000 < a ∨ t < -200000 ∨ 6000000 < t
  · by_cases c2 : 0 ≤ v
    · by_cases c3 : v < -10000 ∨ 10000 < v
      · go_enter Try.func8, Try.ntmps8
        go_wp2_with (first | (go_at_call 9; refine (awake_w _).mono ?_; rintro e w' ⟨rfl, hk⟩) | (go_at_call 12; (first | refine (cmd_ok _ _ _ (by omega) (by omega) (by omega) (by omega) (by omega) (by omega) _).mono ?_ | refine (cmd_bad _ _ _ (by omega) (by omega) (by omega) (by omega) (by omega) (by omega) (by omega) _).mono ?_); rintro e w' ⟨rfl, rfl⟩) | (go_at_call 16; (first | refine (cap_ok _ _ _ (by omega) (by omega) (by omega) (by omega) (by omega) (by omega) _).mono ?_ | refine (cap_bad _ _ _ (by omega) (by omega) (by omega) (by omega) (by omega) (by omega) (by omega) _).mono ?_); rintro e w' ⟨rfl, rfl⟩))
        all_goals first | (go_ret; refine ⟨?_, (by repeat (first | exact Kept.refl _ | assumption | refine Kept.drewN ?_ _ | refine Kept.drew ?_ | refine Kept.alloc ?_ _ | refine Kept.trans ?_ (by assumption) | refine Kept.dr ?_ (by assumption) | refine Kept.setCell ?_ (by first | (simp; done) | (simp; omega) | omega) _))⟩; first | rfl | (show Ending.returned (.bool (decide _)) = _; rw [decide_eq_true (by omega)]) | (show Ending.returned (.bool (decide _)) = _; rw [decide_eq_false (by omega)]) | (refine retb ?_; simp; done) | (refine retb ?_; simp; omega)) | (exfalso; omega)
      · go_enter Try.func8, Try.ntmps8
        go_wp2_with (first | (go_at_call 9; refine (awake_w _).mono ?_; rintro e w' ⟨rfl, hk⟩) | (go_at_call 12; (first | refine (cmd_ok _ _ _ (by omega) (by omega) (by omega) (by omega) (by omega) (by omega) _).mono ?_ | refine (cmd_bad _ _ _ (by omega) (by omega) (by omega) (by omega) (by omega) (by omega) (by omega) _).mono ?_); rintro e w' ⟨rfl, rfl⟩) | (go_at_call 16; (first | refine (cap_ok _ _ _ (by omega) (by omega) (by omega) (by omega) (by omega) (by omega) _).mono ?_ | refine (cap_bad _ _ _ (by omega) (by omega) (by omega) (by omega) (by omega) (by omega) (by omega) _).mono ?_); rintro e w' ⟨rfl, rfl⟩))
        all_goals first | (go_ret; refine ⟨?_, (by repeat (first | exact Kept.refl _ | assumption | refine Kept.drewN ?_ _ | refine Kept.drew ?_ | refine Kept.alloc ?_ _ | refine Kept.trans ?_ (by assumption) | refine Kept.dr ?_ (by assumption) | refine Kept.setCell ?_ (by first | (simp; done) | (simp; omega) | omega) _))⟩; first | rfl | (show Ending.returned (.bool (decide _)) = _; rw [decide_eq_true (by omega)]) | (show Ending.returned (.bool (decide _)) = _; rw [decide_eq_false (by omega)]) | (refine retb ?_; simp; done) | (refine retb ?_; simp; omega)) | (exfalso; omega)
    · by_cases c3 : v < -10000 ∨ 10000 < v
      · go_enter Try.func8, Try.ntmps8
        go_wp2_with (first | (go_at_call 9; refine (awake_w _).mono ?_; rintro e w' ⟨rfl, hk⟩) | (go_at_call 12; (first | refine (cmd_ok _ _ _ (by omega) (by omega) (by omega) (by omega) (by omega) (by omega) _).mono ?_ | refine (cmd_bad _ _ _ (by omega) (by omega) (by omega) (by omega) (by omega) (by omega) (by omega) _).mono ?_); rintro e w' ⟨rfl, rfl⟩) | (go_at_call 16; (first | refine (cap_ok _ _ _ (by omega) (by omega) (by omega) (by omega) (by omega) (by omega) _).mono ?_ | refine (cap_bad _ _ _ (by omega) (by omega) (by omega) (by omega) (by omega) (by omega) (by omega) _).mono ?_); rintro e w' ⟨rfl, rfl⟩))
        all_goals first | (go_ret; refine ⟨?_, (by repeat (first | exact Kept.refl _ | assumption | refine Kept.drewN ?_ _ | refine Kept.drew ?_ | refine Kept.alloc ?_ _ | refine Kept.trans ?_ (by assumption) | refine Kept.dr ?_ (by assumption) | refine Kept.setCell ?_ (by first | (simp; done) | (simp; omega) | omega) _))⟩; first | rfl | (show Ending.returned (.bool (decide _)) = _; rw [decide_eq_true (by omega)]) | (show Ending.returned (.bool (decide _)) = _; rw [decide_eq_false (by omega)]) | (refine retb ?_; simp; done) | (refine retb ?_; simp; omega)) | (exfalso; omega)
      · go_enter Try.func8, Try.ntmps8
        go_wp2_with (first | (go_at_call 9; refine (awake_w _).mono ?_; rintro e w' ⟨rfl, hk⟩) | (go_at_call 12; (first | refine (cmd_ok _ _ _ (by omega) (by omega) (by omega) (by omega) (by omega) (by omega) _).mono ?_ | refine (cmd_bad _ _ _ (by omega) (by omega) (by omega) (by omega) (by omega) (by omega) (by omega) _).mono ?_); rintro e w' ⟨rfl, rfl⟩) | (go_at_call 16; (first | refine (cap_ok _ _ _ (by omega) (by omega) (by omega) (by omega) (by omega) (by omega) _).mono ?_ | refine (cap_bad _ _ _ (by omega) (by omega) (by omega) (by omega) (by omega) (by omega) (by omega) _).mono ?_); rintro e w' ⟨rfl, rfl⟩))
        all_goals first | (go_ret; refine ⟨?_, (by repeat (first | exact Kept.refl _ | assumption | refine Kept.drewN ?_ _ | refine Kept.drew ?_ | refine Kept.alloc ?_ _ | refine Kept.trans ?_ (by assumption) | refine Kept.dr ?_ (by assumption) | refine Kept.setCell ?_ (by first | (simp; done) | (simp; omega) | omega) _))⟩; first | rfl | (show Ending.returned (.bool (decide _)) = _; rw [decide_eq_true (by omega)]) | (show Ending.returned (.bool (decide _)) = _; rw [decide_eq_false (by omega)]) | (refine retb ?_; simp; done) | (refine retb ?_; simp; omega)) | (exfalso; omega)
  by_cases c2 : 0 ≤ v
  · by_cases c4 : 10000 < v
    · go_enter Try.func8, Try.ntmps8
      go_wp2_with (first | (go_at_call 9; refine (awake_w _).mono ?_; rintro e w' ⟨rfl, hk⟩) | (go_at_call 12; (first | refine (cmd_ok _ _ _ (by omega) (by omega) (by omega) (by omega) (by omega) (by omega) _).mono ?_ | refine (cmd_bad _ _ _ (by omega) (by omega) (by omega) (by omega) (by omega) (by omega) (by omega) _).mono ?_); rintro e w' ⟨rfl, rfl⟩) | (go_at_call 16; (first | refine (cap_ok _ _ _ (by omega) (by omega) (by omega) (by omega) (by omega) (by omega) _).mono ?_ | refine (cap_bad _ _ _ (by omega) (by omega) (by omega) (by omega) (by omega) (by omega) (by omega) _).mono ?_); rintro e w' ⟨rfl, rfl⟩))
      all_goals first | (go_ret; refine ⟨?_, (by repeat (first | exact Kept.refl _ | assumption | refine Kept.drewN ?_ _ | refine Kept.drew ?_ | refine Kept.alloc ?_ _ | refine Kept.trans ?_ (by assumption) | refine Kept.dr ?_ (by assumption) | refine Kept.setCell ?_ (by first | (simp; done) | (simp; omega) | omega) _))⟩; first | rfl | (show Ending.returned (.bool (decide _)) = _; rw [decide_eq_true (by omega)]) | (show Ending.returned (.bool (decide _)) = _; rw [decide_eq_false (by omega)]) | (refine retb ?_; simp; done) | (refine retb ?_; simp; omega)) | (exfalso; omega)
    · have e1 := cmd_mirror a t v (by omega)
      have e2 := cap_mirror a v t
      obtain ⟨p, hp⟩ : ∃ p, cmdV t a v = p := ⟨_, rfl⟩
      have b1 : -10000 ≤ p ∧ p ≤ 10000 := by have f := cmd_facts t a v (by omega); omega
      rw [hp] at e1
      obtain ⟨q, hq⟩ : ∃ q, capB t (-v) a = q := ⟨_, rfl⟩
      rw [hq] at e2
      go_enter Try.func8, Try.ntmps8
      go_wp2_with (first | (go_at_call 9; refine (awake_w _).mono ?_; rintro e w' ⟨rfl, hk⟩) | (go_at_call 12; (first | refine (cmd_ok _ _ _ (by omega) (by omega) (by omega) (by omega) (by omega) (by omega) _).mono ?_ | refine (cmd_bad _ _ _ (by omega) (by omega) (by omega) (by omega) (by omega) (by omega) (by omega) _).mono ?_); rintro e w' ⟨rfl, rfl⟩) | (go_at_call 16; (first | refine (cap_ok _ _ _ (by omega) (by omega) (by omega) (by omega) (by omega) (by omega) _).mono ?_ | refine (cap_bad _ _ _ (by omega) (by omega) (by omega) (by omega) (by omega) (by omega) (by omega) _).mono ?_); rintro e w' ⟨rfl, rfl⟩))
      all_goals first | (go_ret; refine ⟨?_, (by repeat (first | exact Kept.refl _ | assumption | refine Kept.drewN ?_ _ | refine Kept.drew ?_ | refine Kept.alloc ?_ _ | refine Kept.trans ?_ (by assumption) | refine Kept.dr ?_ (by assumption) | refine Kept.setCell ?_ (by first | (simp; done) | (simp; omega) | omega) _))⟩; first | rfl | (show Ending.returned (.bool (decide _)) = _; rw [decide_eq_true (by omega)]) | (show Ending.returned (.bool (decide _)) = _; rw [decide_eq_false (by omega)]) | (refine retb ?_; simp; done) | (refine retb ?_; simp; omega)) | (exfalso; omega)
  · by_cases c4 : v < -10000
    · have e1 := cmd_mirror a t 0 (by omega)
      have e2 := cap_mirror a v t
      obtain ⟨p, hp⟩ : ∃ p, cmdV t a 0 = p := ⟨_, rfl⟩
      have b1 : -10000 ≤ p ∧ p ≤ 10000 := by have f := cmd_facts t a 0 (by omega); omega
      rw [hp] at e1
      obtain ⟨q, hq⟩ : ∃ q, capB t (-v) a = q := ⟨_, rfl⟩
      rw [hq] at e2
      go_enter Try.func8, Try.ntmps8
      go_wp2_with (first | (go_at_call 9; refine (awake_w _).mono ?_; rintro e w' ⟨rfl, hk⟩) | (go_at_call 12; (first | refine (cmd_ok _ _ _ (by omega) (by omega) (by omega) (by omega) (by omega) (by omega) _).mono ?_ | refine (cmd_bad _ _ _ (by omega) (by omega) (by omega) (by omega) (by omega) (by omega) (by omega) _).mono ?_); rintro e w' ⟨rfl, rfl⟩) | (go_at_call 16; (first | refine (cap_ok _ _ _ (by omega) (by omega) (by omega) (by omega) (by omega) (by omega) _).mono ?_ | refine (cap_bad _ _ _ (by omega) (by omega) (by omega) (by omega) (by omega) (by omega) (by omega) _).mono ?_); rintro e w' ⟨rfl, rfl⟩))
      all_goals first | (go_ret; refine ⟨?_, (by repeat (first | exact Kept.refl _ | assumption | refine Kept.drewN ?_ _ | refine Kept.drew ?_ | refine Kept.alloc ?_ _ | refine Kept.trans ?_ (by assumption) | refine Kept.dr ?_ (by assumption) | refine Kept.setCell ?_ (by first | (simp; done) | (simp; omega) | omega) _))⟩; first | rfl | (show Ending.returned (.bool (decide _)) = _; rw [decide_eq_true (by omega)]) | (show Ending.returned (.bool (decide _)) = _; rw [decide_eq_false (by omega)]) | (refine retb ?_; simp; done) | (refine retb ?_; simp; omega)) | (exfalso; omega)
    · have e1 := cmd_mirror a t 0 (by omega)
      have e2 := cap_mirror a v t
      obtain ⟨p, hp⟩ : ∃ p, cmdV t a 0 = p := ⟨_, rfl⟩
      have b1 : -10000 ≤ p ∧ p ≤ 10000 := by have f := cmd_facts t a 0 (by omega); omega
      rw [hp] at e1
      obtain ⟨q, hq⟩ : ∃ q, capB t (-v) a = q := ⟨_, rfl⟩
      rw [hq] at e2
      go_enter Try.func8, Try.ntmps8
      go_wp2_with (first | (go_at_call 9; refine (awake_w _).mono ?_; rintro e w' ⟨rfl, hk⟩) | (go_at_call 12; (first | refine (cmd_ok _ _ _ (by omega) (by omega) (by omega) (by omega) (by omega) (by omega) _).mono ?_ | refine (cmd_bad _ _ _ (by omega) (by omega) (by omega) (by omega) (by omega) (by omega) (by omega) _).mono ?_); rintro e w' ⟨rfl, rfl⟩) | (go_at_call 16; (first | refine (cap_ok _ _ _ (by omega) (by omega) (by omega) (by omega) (by omega) (by omega) _).mono ?_ | refine (cap_bad _ _ _ (by omega) (by omega) (by omega) (by omega) (by omega) (by omega) (by omega) _).mono ?_); rintro e w' ⟨rfl, rfl⟩))
      all_goals first | (go_ret; refine ⟨?_, (by repeat (first | exact Kept.refl _ | assumption | refine Kept.drewN ?_ _ | refine Kept.drew ?_ | refine Kept.alloc ?_ _ | refine Kept.trans ?_ (by assumption) | refine Kept.dr ?_ (by assumption) | refine Kept.setCell ?_ (by first | (simp; done) | (simp; omega) | omega) _))⟩; first | rfl | (show Ending.returned (.bool (decide _)) = _; rw [decide_eq_true (by omega)]) | (show Ending.returned (.bool (decide _)) = _; rw [decide_eq_false (by omega)]) | (refine retb ?_; simp; done) | (refine retb ?_; simp; omega)) | (exfalso; omega)
end Go.Proofs.Yteibanlajbmgnaa
