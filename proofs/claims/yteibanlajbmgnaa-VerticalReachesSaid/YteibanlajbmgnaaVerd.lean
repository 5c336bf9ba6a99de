/-
  Own contracts: the law of layer 51 on reaching a target.
-/
import Derived.Test.YteibanlajbmgnaaVerb
import Derived.WalkKit
import Derived.ProofKit
import Derived.OpenShut
import Derived.WalkLawsBesides
import Derived.WalkSpells
import Derived.Lib.Hide
import Derived.Deep.DeepCutAuto
import Derived.Deep.CutBlock
import Derived.Deep.QuietTactic
import Derived.BigQuiet
import Derived.Handy
import Derived.StillTailTactics
import Derived.IntWalk
import Derived.LoopN
import Derived.Deep.RegionHeld3
namespace Go.Proofs.Yteibanlajbmgnaa
open Go.ChangeShapes Go.WideShapes Go.ChangeAt Go.RowKit
set_option linter.unusedVariables false
set_option linter.unusedSimpArgs false
/-- after k ticks -/
def Near (a t k x : Int) : Prop := (a ≤ t → a ≤ x ∧ x ≤ t ∧ (t - x ≤ 0 ∨ t - x ≤ t - a - k)) ∧ (t < a → t ≤ x ∧ x ≤ a ∧ (x - t ≤ 0 ∨ x - t ≤ a - t - k))
theorem near_step {a t k x m : Int} (h : Near a t k x) (m0 : 1 ≤ m) : Near a t (k + 1) (x + cmdV x t m) := by
  obtain ⟨h1, h2⟩ := h
  obtain ⟨f1, f2⟩ := cmd_facts x t m (by omega)
  constructor
  · intro c; have g := h1 c; have f := f2 (by omega); omega
  · intro c; have g := h2 c
    by_cases e : t < x
    · have f := f1 e; omega
    · have f := f2 (by omega); omega
set_option maxHeartbeats 2000000 in
theorem law_reaches (a t m : Int) (a_0 : -9223372036854775808 ≤ a) (a_1 : a ≤ 9223372036854775807) (t_0 : -9223372036854775808 ≤ t) (t_1 : t ≤ 9223372036854775807) (m_0 : -9223372036854775808 ≤ m) (m_1 : m ≤ 9223372036854775807) (w : World) : Calls Try.prog 5 #[.int .i64 a, .int .i64 t, .int .i64 m] w fun e w' => e = .returned (.bool true) ∧ Kept w w' := by
  have s0 : -9223372036854775808 ≤ sat (t - a) ∧ sat (t - a) ≤ 9223372036854775807 := by unfold sat; split <;> (try split) <;> omega
  by_cases far : sat (t - a) < -3000 ∨ 3000 < sat (t - a) ∨ m < 1
  · obtain ⟨s, hs⟩ : ∃ s, sat (t - a) = s := ⟨_, rfl⟩
    rw [hs] at far s0
    rcases far with c | c | c
    all_goals
      go_enter Try.func5, Try.ntmps5
      go_wp2_with (first | (go_at_call 9; refine (awake_w _).mono ?_; rintro e w' ⟨rfl, hk⟩) | (go_at_call 10; (first | refine (dev_w _ _ (by omega) (by omega) (by omega) (by omega) _).mono ?_); rintro e w' ⟨rfl, rfl⟩))
      all_goals first | (go_ret; refine ⟨?_, (by repeat (first | with_reducible exact Kept.refl _ | with_reducible assumption | with_reducible refine Kept.setCell ?_ (by first | (simp; done) | (simp; omega) | omega) _ | with_reducible refine Kept.alloc ?_ _ | with_reducible refine Kept.drewN ?_ _ | with_reducible refine Kept.drew ?_ | with_reducible refine Kept.trans ?_ (by with_reducible assumption) | with_reducible refine Kept.dr ?_ (by with_reducible assumption)))⟩; first | rfl | (show Ending.returned (.bool (decide _)) = _; rw [decide_eq_true (by omega)]) | (show Ending.returned (.bool (decide _)) = _; rw [decide_eq_false (by omega)]) | (refine retb ?_; simp; done) | (refine retb ?_; simp; omega)) | (exfalso; omega)
  have eq : sat (t - a) = t - a := by
    have h := far; unfold sat at h ⊢; split at h <;> (try split at h) <;> first | omega | (rw [if_neg (by omega), if_neg (by omega)])
  rw [eq] at s0 far
  have f0 : -3000 ≤ t - a := by omega
  have f1 : t - a ≤ 3000 := by omega
  have f2 : 1 ≤ m := by omega
  clear far s0
  by_cases bad : a < -200000 ∨ 6000000 < a ∨ t < -200000 ∨ 6000000 < t ∨ 10000 < m
  · by_cases cc : t - a < -(t - a)
    all_goals
      go_enter Try.func5, Try.ntmps5
      go_wp2_with (first | (go_at_call 9; refine (awake_w _).mono ?_; rintro e w' ⟨rfl, hk⟩) | (go_at_call 10; (first | refine (dev_w _ _ (by omega) (by omega) (by omega) (by omega) _).mono ?_); rintro e w' ⟨rfl, rfl⟩))
      refine wp_loop_rounds 1 ?_
      rw [rounds_succ]
      go_wp2_with (first | (go_at_call 12; (first | refine (cmd_ok _ _ _ (by omega) (by omega) (by omega) (by omega) (by omega) (by omega) _).mono ?_ | refine (cmd_bad _ _ _ (by omega) (by omega) (by omega) (by omega) (by omega) (by omega) (by omega) _).mono ?_); rintro e w' ⟨rfl, rfl⟩))
      all_goals first | (go_ret; refine ⟨?_, (by repeat (first | with_reducible exact Kept.refl _ | with_reducible assumption | with_reducible refine Kept.setCell ?_ (by first | (simp; done) | (simp; omega) | omega) _ | with_reducible refine Kept.alloc ?_ _ | with_reducible refine Kept.drewN ?_ _ | with_reducible refine Kept.drew ?_ | with_reducible refine Kept.trans ?_ (by with_reducible assumption) | with_reducible refine Kept.dr ?_ (by with_reducible assumption)))⟩; first | rfl | (show Ending.returned (.bool (decide _)) = _; rw [decide_eq_true (by omega)]) | (show Ending.returned (.bool (decide _)) = _; rw [decide_eq_false (by omega)]) | (refine retb ?_; simp; done) | (refine retb ?_; simp; omega)) | (exfalso; omega)
  have a0 : -200000 ≤ a := by omega
  have a1 : a ≤ 6000000 := by omega
  have t0 : -200000 ≤ t := by omega
  have t1 : t ≤ 6000000 := by omega
  have m1 : m ≤ 10000 := by omega
  clear bad
  by_cases cc : t - a < -(t - a)
  · go_enter Try.func5, Try.ntmps5
    go_wp2_with (first | (go_at_call 9; refine (awake_w _).mono ?_; rintro e w' ⟨rfl, hk⟩) | (go_at_call 10; (first | refine (dev_w _ _ (by omega) (by omega) (by omega) (by omega) _).mono ?_); rintro e w' ⟨rfl, rfl⟩))
    go_loop [0, 32] (fun x i => ∃ k X : Int, 0 ≤ k ∧ k ≤ (-(t - a)) + 2 ∧ i = .int .i64 k ∧ x = .int .i64 X ∧ Near a t k X) (fun _ i => ((-(t - a)) + 2 - intOf i).toNat)
    case atStart => exact ⟨0, a, by omega, by omega, rfl, rfl, by constructor <;> (intro c; omega)⟩
    case round =>
      obtain ⟨k, X, hk0, hk1, rfl, rfl, hnr⟩ := hrel
      have bX : -200000 ≤ X ∧ X ≤ 6000000 := by obtain ⟨n1, n2⟩ := hnr; omega
      have st := near_step (m := m) hnr (by omega)
      have bv : -6200000 ≤ cmdV X t m ∧ cmdV X t m ≤ 6200000 := by have f := cmd_facts X t m (by omega); omega
      by_cases hlt : k < (-(t - a)) + 2
      · have ST := Lib.hid st
        clear st hnr
        obtain ⟨V, hV⟩ : ∃ V, cmdV X t m = V := ⟨_, rfl⟩
        rw [hV] at bv ST
        go_wp2_with (first | (go_at_call 12; (first | refine (cmd_ok _ _ _ (by omega) (by omega) (by omega) (by omega) (by omega) (by omega) _).mono ?_ | refine (cmd_bad _ _ _ (by omega) (by omega) (by omega) (by omega) (by omega) (by omega) (by omega) _).mono ?_); rintro e w' ⟨rfl, rfl⟩))
        go_round
        case rel => exact ⟨k + 1, X + V, by omega, by omega, rfl, rfl, ST.out⟩
        case measure => simp [intOf]; omega
      · have eX : X = t := by obtain ⟨n1, n2⟩ := hnr; omega
        clear st hnr bv
        subst eX
        have v0 : cmdV X X m = 0 := by have f := (cmd_facts X X m (by omega)).2 (by omega); omega
        go_wp2_with (first | (go_at_call 12; (first | refine (cmd_ok _ _ _ (by omega) (by omega) (by omega) (by omega) (by omega) (by omega) _).mono ?_ | refine (cmd_bad _ _ _ (by omega) (by omega) (by omega) (by omega) (by omega) (by omega) (by omega) _).mono ?_); rintro e w' ⟨rfl, rfl⟩))
        all_goals first | (go_ret; refine ⟨?_, (by repeat (first | with_reducible exact Kept.refl _ | with_reducible assumption | with_reducible refine Kept.setCell ?_ (by first | (simp; done) | (simp; omega) | omega) _ | with_reducible refine Kept.alloc ?_ _ | with_reducible refine Kept.drewN ?_ _ | with_reducible refine Kept.drew ?_ | with_reducible refine Kept.trans ?_ (by with_reducible assumption) | with_reducible refine Kept.dr ?_ (by with_reducible assumption)))⟩; first | rfl | (show Ending.returned (.bool (decide _)) = _; rw [decide_eq_true (by omega)]) | (show Ending.returned (.bool (decide _)) = _; rw [decide_eq_false (by omega)]) | (refine retb ?_; simp; done) | (refine retb ?_; simp; omega)) | (exfalso; omega)

  · go_enter Try.func5, Try.ntmps5
    go_wp2_with (first | (go_at_call 9; refine (awake_w _).mono ?_; rintro e w' ⟨rfl, hk⟩) | (go_at_call 10; (first | refine (dev_w _ _ (by omega) (by omega) (by omega) (by omega) _).mono ?_); rintro e w' ⟨rfl, rfl⟩))
    go_loop [0, 32] (fun x i => ∃ k X : Int, 0 ≤ k ∧ k ≤ (t - a) + 2 ∧ i = .int .i64 k ∧ x = .int .i64 X ∧ Near a t k X) (fun _ i => ((t - a) + 2 - intOf i).toNat)
    case atStart => exact ⟨0, a, by omega, by omega, rfl, rfl, by constructor <;> (intro c; omega)⟩
    case round =>
      obtain ⟨k, X, hk0, hk1, rfl, rfl, hnr⟩ := hrel
      have bX : -200000 ≤ X ∧ X ≤ 6000000 := by obtain ⟨n1, n2⟩ := hnr; omega
      have st := near_step (m := m) hnr (by omega)
      have bv : -6200000 ≤ cmdV X t m ∧ cmdV X t m ≤ 6200000 := by have f := cmd_facts X t m (by omega); omega
      by_cases hlt : k < (t - a) + 2
      · have ST := Lib.hid st
        clear st hnr
        obtain ⟨V, hV⟩ : ∃ V, cmdV X t m = V := ⟨_, rfl⟩
        rw [hV] at bv ST
        go_wp2_with (first | (go_at_call 12; (first | refine (cmd_ok _ _ _ (by omega) (by omega) (by omega) (by omega) (by omega) (by omega) _).mono ?_ | refine (cmd_bad _ _ _ (by omega) (by omega) (by omega) (by omega) (by omega) (by omega) (by omega) _).mono ?_); rintro e w' ⟨rfl, rfl⟩))
        go_round
        case rel => exact ⟨k + 1, X + V, by omega, by omega, rfl, rfl, ST.out⟩
        case measure => simp [intOf]; omega
      · have eX : X = t := by obtain ⟨n1, n2⟩ := hnr; omega
        clear st hnr bv
        subst eX
        have v0 : cmdV X X m = 0 := by have f := (cmd_facts X X m (by omega)).2 (by omega); omega
        go_wp2_with (first | (go_at_call 12; (first | refine (cmd_ok _ _ _ (by omega) (by omega) (by omega) (by omega) (by omega) (by omega) _).mono ?_ | refine (cmd_bad _ _ _ (by omega) (by omega) (by omega) (by omega) (by omega) (by omega) (by omega) _).mono ?_); rintro e w' ⟨rfl, rfl⟩))
        all_goals first | (go_ret; refine ⟨?_, (by repeat (first | with_reducible exact Kept.refl _ | with_reducible assumption | with_reducible refine Kept.setCell ?_ (by first | (simp; done) | (simp; omega) | omega) _ | with_reducible refine Kept.alloc ?_ _ | with_reducible refine Kept.drewN ?_ _ | with_reducible refine Kept.drew ?_ | with_reducible refine Kept.trans ?_ (by with_reducible assumption) | with_reducible refine Kept.dr ?_ (by with_reducible assumption)))⟩; first | rfl | (show Ending.returned (.bool (decide _)) = _; rw [decide_eq_true (by omega)]) | (show Ending.returned (.bool (decide _)) = _; rw [decide_eq_false (by omega)]) | (refine retb ?_; simp; done) | (refine retb ?_; simp; omega)) | (exfalso; omega)
end Go.Proofs.Yteibanlajbmgnaa
