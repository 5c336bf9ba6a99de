/-
  Own contracts: the laws of layer 4 on directions, differences, turns, sectors.
-/
import Derived.Test.YtofeijgcbjhkdaaAngw
import Derived.WalkKit
import Derived.ProofKit
import Derived.OpenShut
import Derived.WalkLawsBesides
import Derived.WalkSpells
import Derived.Lib.Hide
import Derived.Deep.DeepCutAuto
import Derived.Deep.CutBlock
import Derived.Deep.QuietTactic
import Derived.BigQuiet
import Derived.Handy
import Derived.StillTailTactics
import Derived.IntWalk
import Derived.LoopN
import Derived.Deep.RegionHeld3
namespace Go.Proofs.Ytofeijgcbjhkdaa
open Go.ChangeShapes Go.WideShapes Go.ChangeAt Go.RowKit
set_option linter.unusedVariables false
set_option linter.unusedSimpArgs false

theorem swp_zero (f t : Int) (h : nrm f = nrm t) : swp f t = 0 := by unfold swp; rw [h]; unfold nrm; omega
theorem swp_sum (f t : Int) (h : nrm f ≠ nrm t) : 0 < swp f t ∧ 0 < swp t f ∧ swp f t + swp t f = 129600000 := by
  have a := nrm_bd f; have b := nrm_bd t
  unfold swp
  generalize nrm f = x at *; generalize nrm t = y at *
  unfold nrm; omega
theorem trn_swp (f t : Int) : trn f (swp f t) = nrm t := by unfold trn swp nrm; omega
theorem wi_full (a f s : Int) (h : 129600000 ≤ s) : wiB a f s = true := by
  have b := swp_bd f a
  unfold wiB; rw [if_pos (by omega)]; simp; omega
theorem wi_turned (a f s : Int) (h0 : 0 < s) (h1 : s < 129600000) : wiB a (trn f s) (-s) = wiB a f s := by
  unfold wiB; rw [if_neg (by omega), if_pos (by omega)]
  rw [Bool.eq_iff_iff]; simp only [decide_eq_true_eq]
  unfold swp trn nrm; omega
theorem wi_begin (f s : Int) (h0 : 0 < s) : wiB f f s = true := by
  unfold wiB; rw [if_pos (by omega)]; simp; unfold swp nrm; omega
theorem wi_end (f s : Int) (h0 : 0 < s) (h1 : s < 129600000) : wiB (trn f s) f s = true := by
  unfold wiB; rw [if_pos (by omega)]; simp; unfold swp trn nrm; omega
def ab (x : Int) : Int := if x < 0 then -x else x
theorem tri (a b c : Int) : nrm (dif a b + dif b c) = nrm (dif a c) ∧ ab (dif a c) ≤ ab (dif a b) + ab (dif b c) ∧ (dif b a = -dif a b ∨ (dif b a = 64800000 ∧ dif a b = 64800000)) := by
  refine ⟨?_, ?_, ?_⟩
  · unfold dif swp nrm; split <;> split <;> split <;> omega
  · unfold ab dif swp nrm; repeat' split
    all_goals omega
  · unfold dif swp nrm; split <;> split <;> omega
set_option maxHeartbeats 1000000 in
theorem law_norms (a b : Int) (a_0 : -9223372036854775808 ≤ a) (a_1 : a ≤ 9223372036854775807) (b_0 : -9223372036854775808 ≤ b) (b_1 : b ≤ 9223372036854775807) (w : World) : Calls Try.prog 3 #[.int .i64 a, .int .i64 b] w fun e w' => e = .returned (.bool true) ∧ Kept w w' := by
  go_enter Try.func3, Try.ntmps3
  go_wp2_with (first | (go_at_call 12; refine (awake_w _).mono ?_; rintro e w' ⟨rfl, hk⟩) | (go_at_call 13; (first | refine (norm_w _ (by omega) (by omega) _).mono ?_); rintro e w' ⟨rfl, rfl⟩) | (go_at_call 15; (first | refine (turn_w _ _ (by omega) (by omega) (by omega) (by omega) _).mono ?_); rintro e w' ⟨rfl, rfl⟩) | (go_at_call 17; (first | refine (opp_w _ (by omega) (by omega) _).mono ?_); rintro e w' ⟨rfl, rfl⟩) | (go_at_call 14; (first | refine (ref_norm_w _ (by omega) (by omega) _).mono ?_); rintro e w' ⟨rfl, rfl⟩) | (go_at_call 16; (first | refine (ref_turn_w _ _ (by omega) (by omega) (by omega) (by omega) _).mono ?_); rintro e w' ⟨rfl, rfl⟩) | (go_at_call 18; (first | refine (ref_opp_w _ (by omega) (by omega) _).mono ?_); rintro e w' ⟨rfl, rfl⟩))
  all_goals first | (go_ret; refine ⟨?_, (by repeat (first | with_reducible exact Kept.refl _ | with_reducible assumption | with_reducible refine Kept.setCell ?_ (by first | (simp; done) | (simp; omega) | omega) _ | with_reducible refine Kept.alloc ?_ _ | with_reducible refine Kept.drewN ?_ _ | with_reducible refine Kept.drew ?_ | with_reducible refine Kept.trans ?_ (by with_reducible assumption) | with_reducible refine Kept.dr ?_ (by with_reducible assumption)))⟩; first | rfl | (show Ending.returned (.bool (decide _)) = _; rw [decide_eq_true (by omega)]) | (show Ending.returned (.bool (decide _)) = _; rw [decide_eq_false (by omega)]) | (refine retb ?_; simp; done) | (refine retb ?_; simp; omega)) | (exfalso; omega)
set_option maxHeartbeats 1000000 in
theorem law_diffs (f t : Int) (f_0 : -9223372036854775808 ≤ f) (f_1 : f ≤ 9223372036854775807) (t_0 : -9223372036854775808 ≤ t) (t_1 : t ≤ 9223372036854775807) (w : World) : Calls Try.prog 4 #[.int .i64 f, .int .i64 t] w fun e w' => e = .returned (.bool true) ∧ Kept w w' := by
  obtain ⟨d0, d1⟩ := dif_bd f t
  have e1 := trn_dif f t
  go_enter Try.func4, Try.ntmps4
  go_wp2_with (first | (go_at_call 12; refine (awake_w _).mono ?_; rintro e w' ⟨rfl, hk⟩) | (go_at_call 19; (first | refine (diff_w _ _ (by omega) (by omega) (by omega) (by omega) _).mono ?_); rintro e w' ⟨rfl, rfl⟩) | (go_at_call 15; (first | refine (turn_w _ _ (by omega) (by omega) (by omega) (by omega) _).mono ?_); rintro e w' ⟨rfl, rfl⟩) | (go_at_call 21; (first | refine (middle_w _ _ (by omega) (by omega) (by omega) (by omega) _).mono ?_); rintro e w' ⟨rfl, rfl⟩) | (go_at_call 13; (first | refine (norm_w _ (by omega) (by omega) _).mono ?_); rintro e w' ⟨rfl, rfl⟩) | (go_at_call 20; (first | refine (ref_diff_w _ _ (by omega) (by omega) (by omega) (by omega) _).mono ?_); rintro e w' ⟨rfl, rfl⟩) | (go_at_call 22; (first | refine (ref_middle_w _ _ (by omega) (by omega) (by omega) (by omega) _).mono ?_); rintro e w' ⟨rfl, rfl⟩))
  all_goals first | (go_ret; refine ⟨?_, (by repeat (first | with_reducible exact Kept.refl _ | with_reducible assumption | with_reducible refine Kept.setCell ?_ (by first | (simp; done) | (simp; omega) | omega) _ | with_reducible refine Kept.alloc ?_ _ | with_reducible refine Kept.drewN ?_ _ | with_reducible refine Kept.drew ?_ | with_reducible refine Kept.trans ?_ (by with_reducible assumption) | with_reducible refine Kept.dr ?_ (by with_reducible assumption)))⟩; first | rfl | (show Ending.returned (.bool (decide _)) = _; rw [decide_eq_true (by omega)]) | (show Ending.returned (.bool (decide _)) = _; rw [decide_eq_false (by omega)]) | (refine retb ?_; simp; done) | (refine retb ?_; simp; omega)) | (exfalso; omega)
set_option maxHeartbeats 1000000 in
theorem law_sweeps (f t k : Int) (f_0 : -9223372036854775808 ≤ f) (f_1 : f ≤ 9223372036854775807) (t_0 : -9223372036854775808 ≤ t) (t_1 : t ≤ 9223372036854775807) (k_0 : 0 ≤ k) (k_1 : k ≤ 255) (w : World) : Calls Try.prog 5 #[.int .i64 f, .int .i64 t, .int .u8 k] w fun e w' => e = .returned (.bool true) ∧ Kept w w' := by
  obtain ⟨s0, s1⟩ := swp_bd f t
  obtain ⟨r0, r1⟩ := swp_bd t f
  obtain ⟨x0, x1⟩ := nrm_bd f
  obtain ⟨y0, y1⟩ := nrm_bd t
  obtain ⟨S, hS⟩ : ∃ S, swT f t k = S := ⟨_, rfl⟩
  have HS := Lib.hid hS
  clear hS
  have e1 := trn_swp f t
  have e2 := trn_swp t f
  have R2 : Hid (swT f t 2 = swp f t) := Lib.hid rfl
  have R1 : Hid (swT f t 1 = swp t f) := Lib.hid rfl
  by_cases c : nrm f = nrm t
  · have z1 := swp_zero f t c
    have z2 := swp_zero t f c.symm
    go_enter Try.func5, Try.ntmps5
    go_wp2_with (first | (go_at_call 12; refine (awake_w _).mono ?_; rintro e w' ⟨rfl, hk⟩) | (go_at_call 23; with_reducible refine (sweep_w f t k (by omega) (by omega) (by omega) (by omega) (by omega) (by omega) _).mono ?_; rw [HS.out]; rintro e w' ⟨rfl, rfl⟩) | (go_at_call 24; with_reducible refine (ref_sweep_w f t k (by omega) (by omega) (by omega) (by omega) (by omega) (by omega) _).mono ?_; rw [HS.out]; rintro e w' ⟨rfl, rfl⟩) | (go_at_call 23; with_reducible refine (sweep_w f t 2 (by omega) (by omega) (by omega) (by omega) (by omega) (by omega) _).mono ?_; rw [R2.out]; rintro e w' ⟨rfl, rfl⟩) | (go_at_call 23; with_reducible refine (sweep_w f t 1 (by omega) (by omega) (by omega) (by omega) (by omega) (by omega) _).mono ?_; rw [R1.out]; rintro e w' ⟨rfl, rfl⟩) | (go_at_call 13; (first | refine (norm_w _ (by omega) (by omega) _).mono ?_); rintro e w' ⟨rfl, rfl⟩) | (go_at_call 15; (first | refine (turn_w _ _ (by omega) (by omega) (by omega) (by omega) _).mono ?_); rintro e w' ⟨rfl, rfl⟩))
    all_goals first | (go_ret; refine ⟨?_, (by repeat (first | with_reducible exact Kept.refl _ | with_reducible assumption | with_reducible refine Kept.setCell ?_ (by first | (simp; done) | (simp; omega) | omega) _ | with_reducible refine Kept.alloc ?_ _ | with_reducible refine Kept.drewN ?_ _ | with_reducible refine Kept.drew ?_ | with_reducible refine Kept.trans ?_ (by with_reducible assumption) | with_reducible refine Kept.dr ?_ (by with_reducible assumption)))⟩; first | rfl | (show Ending.returned (.bool (decide _)) = _; rw [decide_eq_true (by omega)]) | (show Ending.returned (.bool (decide _)) = _; rw [decide_eq_false (by omega)]) | (refine retb ?_; simp; done) | (refine retb ?_; simp; omega)) | (exfalso; omega)
  · obtain ⟨g1, g2, g3⟩ := swp_sum f t c
    clear c
    have n1 : (swp f t == 0) = false := by have : ¬ swp f t = 0 := by omega
                                           simpa using this
    have n2 : (swp t f == 0) = false := by have : ¬ swp t f = 0 := by omega
                                           simpa using this
    go_enter Try.func5, Try.ntmps5
    go_wp2_with (first | (go_at_call 12; refine (awake_w _).mono ?_; rintro e w' ⟨rfl, hk⟩) | (go_at_call 23; with_reducible refine (sweep_w f t k (by omega) (by omega) (by omega) (by omega) (by omega) (by omega) _).mono ?_; rw [HS.out]; rintro e w' ⟨rfl, rfl⟩) | (go_at_call 24; with_reducible refine (ref_sweep_w f t k (by omega) (by omega) (by omega) (by omega) (by omega) (by omega) _).mono ?_; rw [HS.out]; rintro e w' ⟨rfl, rfl⟩) | (go_at_call 23; with_reducible refine (sweep_w f t 2 (by omega) (by omega) (by omega) (by omega) (by omega) (by omega) _).mono ?_; rw [R2.out]; rintro e w' ⟨rfl, rfl⟩) | (go_at_call 23; with_reducible refine (sweep_w f t 1 (by omega) (by omega) (by omega) (by omega) (by omega) (by omega) _).mono ?_; rw [R1.out]; rintro e w' ⟨rfl, rfl⟩) | (go_at_call 13; (first | refine (norm_w _ (by omega) (by omega) _).mono ?_); rintro e w' ⟨rfl, rfl⟩) | (go_at_call 15; (first | refine (turn_w _ _ (by omega) (by omega) (by omega) (by omega) _).mono ?_); rintro e w' ⟨rfl, rfl⟩))
    all_goals first | (go_ret; refine ⟨?_, (by repeat (first | with_reducible exact Kept.refl _ | with_reducible assumption | with_reducible refine Kept.setCell ?_ (by first | (simp; done) | (simp; omega) | omega) _ | with_reducible refine Kept.alloc ?_ _ | with_reducible refine Kept.drewN ?_ _ | with_reducible refine Kept.drew ?_ | with_reducible refine Kept.trans ?_ (by with_reducible assumption) | with_reducible refine Kept.dr ?_ (by with_reducible assumption)))⟩; first | rfl | (show Ending.returned (.bool (decide _)) = _; rw [decide_eq_true (by omega)]) | (show Ending.returned (.bool (decide _)) = _; rw [decide_eq_false (by omega)]) | (refine retb ?_; simp; done) | (refine retb ?_; simp; omega)) | (exfalso; omega)
set_option maxHeartbeats 1000000 in
theorem law_sectors (a f s : Int) (a_0 : -9223372036854775808 ≤ a) (a_1 : a ≤ 9223372036854775807) (f_0 : -9223372036854775808 ≤ f) (f_1 : f ≤ 9223372036854775807) (s_0 : -9223372036854775808 ≤ s) (s_1 : s ≤ 9223372036854775807) (w : World) : Calls Try.prog 6 #[.int .i64 a, .int .i64 f, .int .i64 s] w fun e w' => e = .returned (.bool true) ∧ Kept w w' := by
  by_cases c1 : s ≤ 0
  · go_enter Try.func6, Try.ntmps6
    go_wp2_with (first | (go_at_call 12; refine (awake_w _).mono ?_; rintro e w' ⟨rfl, hk⟩) | (go_at_call 25; (first | refine (within_w _ _ _ (by omega) (by omega) (by omega) (by omega) (by omega) (by omega) _).mono ?_); rintro e w' ⟨rfl, rfl⟩) | (go_at_call 26; (first | refine (ref_within_w _ _ _ (by omega) (by omega) (by omega) (by omega) (by omega) (by omega) _).mono ?_); rintro e w' ⟨rfl, rfl⟩) | (go_at_call 15; (first | refine (turn_w _ _ (by omega) (by omega) (by omega) (by omega) _).mono ?_); rintro e w' ⟨rfl, rfl⟩))
    all_goals first | (go_ret; refine ⟨?_, (by repeat (first | with_reducible exact Kept.refl _ | with_reducible assumption | with_reducible refine Kept.setCell ?_ (by first | (simp; done) | (simp; omega) | omega) _ | with_reducible refine Kept.alloc ?_ _ | with_reducible refine Kept.drewN ?_ _ | with_reducible refine Kept.drew ?_ | with_reducible refine Kept.trans ?_ (by with_reducible assumption) | with_reducible refine Kept.dr ?_ (by with_reducible assumption)))⟩; first | rfl | (show Ending.returned (.bool (decide _)) = _; rw [decide_eq_true (by omega)]) | (show Ending.returned (.bool (decide _)) = _; rw [decide_eq_false (by omega)]) | (refine retb ?_; simp; done) | (refine retb ?_; simp; omega)) | (exfalso; omega)
  by_cases c2 : 129600000 ≤ s
  · have e1 := wi_full a f s c2
    go_enter Try.func6, Try.ntmps6
    go_wp2_with (first | (go_at_call 12; refine (awake_w _).mono ?_; rintro e w' ⟨rfl, hk⟩) | (go_at_call 25; (first | refine (within_w _ _ _ (by omega) (by omega) (by omega) (by omega) (by omega) (by omega) _).mono ?_); rintro e w' ⟨rfl, rfl⟩) | (go_at_call 26; (first | refine (ref_within_w _ _ _ (by omega) (by omega) (by omega) (by omega) (by omega) (by omega) _).mono ?_); rintro e w' ⟨rfl, rfl⟩) | (go_at_call 15; (first | refine (turn_w _ _ (by omega) (by omega) (by omega) (by omega) _).mono ?_); rintro e w' ⟨rfl, rfl⟩))
    all_goals first | (go_ret; refine ⟨?_, (by repeat (first | with_reducible exact Kept.refl _ | with_reducible assumption | with_reducible refine Kept.setCell ?_ (by first | (simp; done) | (simp; omega) | omega) _ | with_reducible refine Kept.alloc ?_ _ | with_reducible refine Kept.drewN ?_ _ | with_reducible refine Kept.drew ?_ | with_reducible refine Kept.trans ?_ (by with_reducible assumption) | with_reducible refine Kept.dr ?_ (by with_reducible assumption)))⟩; first | rfl | (show Ending.returned (.bool (decide _)) = _; rw [decide_eq_true (by omega)]) | (show Ending.returned (.bool (decide _)) = _; rw [decide_eq_false (by omega)]) | (refine retb ?_; simp; done) | (refine retb ?_; simp; omega)) | (exfalso; omega)
  obtain ⟨b0, b1⟩ := trn_bd f s
  have e1 := wi_turned a f s (by omega) (by omega)
  have e2 := wi_begin f s (by omega)
  have e3 := wi_end f s (by omega) (by omega)
  go_enter Try.func6, Try.ntmps6
  go_wp2_with (first | (go_at_call 12; refine (awake_w _).mono ?_; rintro e w' ⟨rfl, hk⟩) | (go_at_call 25; (first | refine (within_w _ _ _ (by omega) (by omega) (by omega) (by omega) (by omega) (by omega) _).mono ?_); rintro e w' ⟨rfl, rfl⟩) | (go_at_call 26; (first | refine (ref_within_w _ _ _ (by omega) (by omega) (by omega) (by omega) (by omega) (by omega) _).mono ?_); rintro e w' ⟨rfl, rfl⟩) | (go_at_call 15; (first | refine (turn_w _ _ (by omega) (by omega) (by omega) (by omega) _).mono ?_); rintro e w' ⟨rfl, rfl⟩))
  all_goals first | (go_ret; refine ⟨?_, (by repeat (first | with_reducible exact Kept.refl _ | with_reducible assumption | with_reducible refine Kept.setCell ?_ (by first | (simp; done) | (simp; omega) | omega) _ | with_reducible refine Kept.alloc ?_ _ | with_reducible refine Kept.drewN ?_ _ | with_reducible refine Kept.drew ?_ | with_reducible refine Kept.trans ?_ (by with_reducible assumption) | with_reducible refine Kept.dr ?_ (by with_reducible assumption)))⟩; first | rfl | (show Ending.returned (.bool (decide _)) = _; rw [decide_eq_true (by omega)]) | (show Ending.returned (.bool (decide _)) = _; rw [decide_eq_false (by omega)]) | (refine retb ?_; simp; done) | (refine retb ?_; simp; omega)) | (exfalso; omega)
set_option maxHeartbeats 1000000 in
theorem law_triangle (a b c : Int) (a_0 : -9223372036854775808 ≤ a) (a_1 : a ≤ 9223372036854775807) (b_0 : -9223372036854775808 ≤ b) (b_1 : b ≤ 9223372036854775807) (c_0 : -9223372036854775808 ≤ c) (c_1 : c ≤ 9223372036854775807) (w : World) : Calls Try.prog 7 #[.int .i64 a, .int .i64 b, .int .i64 c] w fun e w' => e = .returned (.bool true) ∧ Kept w w' := by
  obtain ⟨t1, t2, t3⟩ := tri a b c
  obtain ⟨x0, x1⟩ := dif_bd a b
  obtain ⟨y0, y1⟩ := dif_bd b c
  obtain ⟨z0, z1⟩ := dif_bd a c
  obtain ⟨v0, v1⟩ := dif_bd b a
  unfold ab at t2
  go_enter Try.func7, Try.ntmps7
  go_wp2_with (first | (go_at_call 12; refine (awake_w _).mono ?_; rintro e w' ⟨rfl, hk⟩) | (go_at_call 19; (first | refine (diff_w _ _ (by omega) (by omega) (by omega) (by omega) _).mono ?_); rintro e w' ⟨rfl, rfl⟩) | (go_at_call 13; (first | refine (norm_w _ (by omega) (by omega) _).mono ?_); rintro e w' ⟨rfl, rfl⟩))
  all_goals first | (go_ret; refine ⟨?_, (by repeat (first | with_reducible exact Kept.refl _ | with_reducible assumption | with_reducible refine Kept.setCell ?_ (by first | (simp; done) | (simp; omega) | omega) _ | with_reducible refine Kept.alloc ?_ _ | with_reducible refine Kept.drewN ?_ _ | with_reducible refine Kept.drew ?_ | with_reducible refine Kept.trans ?_ (by with_reducible assumption) | with_reducible refine Kept.dr ?_ (by with_reducible assumption)))⟩; first | rfl | (show Ending.returned (.bool (decide _)) = _; rw [decide_eq_true (by omega)]) | (show Ending.returned (.bool (decide _)) = _; rw [decide_eq_false (by omega)]) | (refine retb ?_; simp; done) | (refine retb ?_; simp; omega)) | (exfalso; omega)
end Go.Proofs.Ytofeijgcbjhkdaa
