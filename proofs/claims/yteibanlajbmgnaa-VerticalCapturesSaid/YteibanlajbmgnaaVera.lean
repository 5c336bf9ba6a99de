/-
  Own contracts: package vertical and the document's answers of layer 51: commands, limits, captures.
-/
import Derived.Test.YteibanlajbmgnaaRefb
import Derived.WalkKit
import Derived.ProofKit
import Derived.OpenShut
import Derived.WalkLawsBesides
import Derived.WalkSpells
import Derived.Lib.Hide
import Derived.Deep.DeepCutAuto
import Derived.Deep.CutBlock
import Derived.Deep.QuietTactic
import Derived.BigQuiet
import Derived.Handy
import Derived.Deep.RegionHeld3
namespace Go.Proofs.Yteibanlajbmgnaa
open Go.ChangeShapes Go.WideShapes Go.ChangeAt Go.RowKit
set_option linter.unusedVariables false
set_option linter.unusedSimpArgs false

theorem sat_in (x : Int) (h0 : -9223372036854775808 ≤ x) (h1 : x ≤ 9223372036854775807) : sat x = x := by unfold sat; rw [if_neg (by omega), if_neg (by omega)]
theorem alt_yes (v : Int) (h0 : -200000 ≤ v) (h1 : v ≤ 6000000) (w : World) : Calls Try.prog 22 #[.int .i64 v] w fun e w' => e = .returned (.bool true) ∧ w = w' := by
  go_enter Try.func22, Try.ntmps22
  go_wp2
  go_ret
  refine ⟨?_, rfl⟩
  first | rfl | (show Ending.returned (.bool (decide _)) = _; rw [decide_eq_true (by omega)]) | (show Ending.returned (.bool (decide _)) = _; rw [decide_eq_false (by omega)])
theorem alt_lo (v : Int) (h0 : v < -200000) (w : World) : Calls Try.prog 22 #[.int .i64 v] w fun e w' => e = .returned (.bool false) ∧ w = w' := by
  go_enter Try.func22, Try.ntmps22
  go_wp2
  go_ret
  refine ⟨?_, rfl⟩
  first | rfl | (show Ending.returned (.bool (decide _)) = _; rw [decide_eq_true (by omega)]) | (show Ending.returned (.bool (decide _)) = _; rw [decide_eq_false (by omega)])
theorem alt_hi (v : Int) (h0 : 6000000 < v) (w : World) : Calls Try.prog 22 #[.int .i64 v] w fun e w' => e = .returned (.bool false) ∧ w = w' := by
  have h1 : -200000 ≤ v := by omega
  go_enter Try.func22, Try.ntmps22
  go_wp2
  go_ret
  refine ⟨?_, rfl⟩
  first | rfl | (show Ending.returned (.bool (decide _)) = _; rw [decide_eq_true (by omega)]) | (show Ending.returned (.bool (decide _)) = _; rw [decide_eq_false (by omega)])
theorem ref_alt_yes (v : Int) (h0 : -200000 ≤ v) (h1 : v ≤ 6000000) (w : World) : Calls Try.prog 24 #[.int .i64 v] w fun e w' => e = .returned (.bool true) ∧ w = w' := by
  go_enter Try.func24, Try.ntmps24
  go_wp2
  go_ret
  refine ⟨?_, rfl⟩
  first | rfl | (show Ending.returned (.bool (decide _)) = _; rw [decide_eq_true (by omega)]) | (show Ending.returned (.bool (decide _)) = _; rw [decide_eq_false (by omega)])
theorem ref_alt_lo (v : Int) (h0 : v < -200000) (w : World) : Calls Try.prog 24 #[.int .i64 v] w fun e w' => e = .returned (.bool false) ∧ w = w' := by
  go_enter Try.func24, Try.ntmps24
  go_wp2
  go_ret
  refine ⟨?_, rfl⟩
  first | rfl | (show Ending.returned (.bool (decide _)) = _; rw [decide_eq_true (by omega)]) | (show Ending.returned (.bool (decide _)) = _; rw [decide_eq_false (by omega)])
theorem ref_alt_hi (v : Int) (h0 : 6000000 < v) (w : World) : Calls Try.prog 24 #[.int .i64 v] w fun e w' => e = .returned (.bool false) ∧ w = w' := by
  have h1 : -200000 ≤ v := by omega
  go_enter Try.func24, Try.ntmps24
  go_wp2
  go_ret
  refine ⟨?_, rfl⟩
  first | rfl | (show Ending.returned (.bool (decide _)) = _; rw [decide_eq_true (by omega)]) | (show Ending.returned (.bool (decide _)) = _; rw [decide_eq_false (by omega)])
theorem rate_yes (v : Int) (h0 : -10000 ≤ v) (h1 : v ≤ 10000) (w : World) : Calls Try.prog 25 #[.int .i64 v] w fun e w' => e = .returned (.bool true) ∧ w = w' := by
  go_enter Try.func25, Try.ntmps25
  go_wp2
  go_ret
  refine ⟨?_, rfl⟩
  first | rfl | (show Ending.returned (.bool (decide _)) = _; rw [decide_eq_true (by omega)]) | (show Ending.returned (.bool (decide _)) = _; rw [decide_eq_false (by omega)])
theorem rate_lo (v : Int) (h0 : v < -10000) (w : World) : Calls Try.prog 25 #[.int .i64 v] w fun e w' => e = .returned (.bool false) ∧ w = w' := by
  go_enter Try.func25, Try.ntmps25
  go_wp2
  go_ret
  refine ⟨?_, rfl⟩
  first | rfl | (show Ending.returned (.bool (decide _)) = _; rw [decide_eq_true (by omega)]) | (show Ending.returned (.bool (decide _)) = _; rw [decide_eq_false (by omega)])
theorem rate_hi (v : Int) (h0 : 10000 < v) (w : World) : Calls Try.prog 25 #[.int .i64 v] w fun e w' => e = .returned (.bool false) ∧ w = w' := by
  have h1 : -10000 ≤ v := by omega
  go_enter Try.func25, Try.ntmps25
  go_wp2
  go_ret
  refine ⟨?_, rfl⟩
  first | rfl | (show Ending.returned (.bool (decide _)) = _; rw [decide_eq_true (by omega)]) | (show Ending.returned (.bool (decide _)) = _; rw [decide_eq_false (by omega)])
theorem ref_rate_yes (v : Int) (h0 : -10000 ≤ v) (h1 : v ≤ 10000) (w : World) : Calls Try.prog 27 #[.int .i64 v] w fun e w' => e = .returned (.bool true) ∧ w = w' := by
  go_enter Try.func27, Try.ntmps27
  go_wp2
  go_ret
  refine ⟨?_, rfl⟩
  first | rfl | (show Ending.returned (.bool (decide _)) = _; rw [decide_eq_true (by omega)]) | (show Ending.returned (.bool (decide _)) = _; rw [decide_eq_false (by omega)])
theorem ref_rate_lo (v : Int) (h0 : v < -10000) (w : World) : Calls Try.prog 27 #[.int .i64 v] w fun e w' => e = .returned (.bool false) ∧ w = w' := by
  go_enter Try.func27, Try.ntmps27
  go_wp2
  go_ret
  refine ⟨?_, rfl⟩
  first | rfl | (show Ending.returned (.bool (decide _)) = _; rw [decide_eq_true (by omega)]) | (show Ending.returned (.bool (decide _)) = _; rw [decide_eq_false (by omega)])
theorem ref_rate_hi (v : Int) (h0 : 10000 < v) (w : World) : Calls Try.prog 27 #[.int .i64 v] w fun e w' => e = .returned (.bool false) ∧ w = w' := by
  have h1 : -10000 ≤ v := by omega
  go_enter Try.func27, Try.ntmps27
  go_wp2
  go_ret
  refine ⟨?_, rfl⟩
  first | rfl | (show Ending.returned (.bool (decide _)) = _; rw [decide_eq_true (by omega)]) | (show Ending.returned (.bool (decide _)) = _; rw [decide_eq_false (by omega)])
theorem dev_in (a t : Int) (a0 : -6000000 ≤ a) (a1 : a ≤ 6000000) (t0 : -6000000 ≤ t) (t1 : t ≤ 6000000) (w : World) : Calls Try.prog 10 #[.int .i64 a, .int .i64 t] w fun e w' => e = .returned (.int .i64 (t - a)) ∧ w = w' := by
  have E := Lib.hid (sat_in (t - a) (by omega) (by omega))
  go_enter Try.func10, Try.ntmps10
  go_wp2_with (go_at_call 20; refine (sub_w _ _ (by omega) (by omega) (by omega) (by omega) _).mono ?_; rintro e w' ⟨rfl, rfl⟩)
  go_ret
  refine ⟨?_, rfl⟩
  rw [E.out]; rfl
theorem dev_w (a t : Int) (a_0 : -9223372036854775808 ≤ a) (a_1 : a ≤ 9223372036854775807) (t_0 : -9223372036854775808 ≤ t) (t_1 : t ≤ 9223372036854775807) (w : World) : Calls Try.prog 10 #[.int .i64 a, .int .i64 t] w fun e w' => e = .returned (.int .i64 (sat (t - a))) ∧ w = w' := by
  go_enter Try.func10, Try.ntmps10
  go_wp2_with (go_at_call 20; refine (sub_w _ _ (by omega) (by omega) (by omega) (by omega) _).mono ?_; rintro e w' ⟨rfl, rfl⟩)
  go_ret
  exact ⟨rfl, rfl⟩
theorem ref_dev_in (a t : Int) (a0 : -6000000 ≤ a) (a1 : a ≤ 6000000) (t0 : -6000000 ≤ t) (t1 : t ≤ 6000000) (w : World) : Calls Try.prog 11 #[.int .i64 a, .int .i64 t] w fun e w' => e = .returned (.int .i64 (t - a)) ∧ w = w' := by
  have E := Lib.hid (sat_in (t - a) (by omega) (by omega))
  go_enter Try.func11, Try.ntmps11
  go_wp2_with (go_at_call 21; refine (ref_sub_w _ _ (by omega) (by omega) (by omega) (by omega) _).mono ?_; rintro e w' ⟨rfl, rfl⟩)
  go_ret
  refine ⟨?_, rfl⟩
  rw [E.out]; rfl
theorem ref_dev_w (a t : Int) (a_0 : -9223372036854775808 ≤ a) (a_1 : a ≤ 9223372036854775807) (t_0 : -9223372036854775808 ≤ t) (t_1 : t ≤ 9223372036854775807) (w : World) : Calls Try.prog 11 #[.int .i64 a, .int .i64 t] w fun e w' => e = .returned (.int .i64 (sat (t - a))) ∧ w = w' := by
  go_enter Try.func11, Try.ntmps11
  go_wp2_with (go_at_call 21; refine (ref_sub_w _ _ (by omega) (by omega) (by omega) (by omega) _).mono ?_; rintro e w' ⟨rfl, rfl⟩)
  go_ret
  exact ⟨rfl, rfl⟩
theorem abs_neg (a : Int) (h0 : -9223372036854775808 < a) (h1 : a < 0) (w : World) : Calls Try.prog 23 #[.int .i64 a] w fun e w' => e = .returned (.int .i64 (-a)) ∧ w = w' := by
  refine (abs_w a (by omega) (by omega) w).mono ?_
  rintro e w' ⟨rfl, rfl⟩
  rw [sat_in _ (by omega) (by omega), show (a.natAbs : Int) = -a from by omega]
  exact ⟨rfl, rfl⟩
theorem abs_pos (a : Int) (h0 : 0 ≤ a) (h1 : a ≤ 9223372036854775807) (w : World) : Calls Try.prog 23 #[.int .i64 a] w fun e w' => e = .returned (.int .i64 a) ∧ w = w' := by
  refine (abs_w a (by omega) (by omega) w).mono ?_
  rintro e w' ⟨rfl, rfl⟩
  rw [sat_in _ (by omega) (by omega), show (a.natAbs : Int) = a from by omega]
  exact ⟨rfl, rfl⟩
theorem ret2i {a b z : Int} (h : a = b) : Ending.returned (.tuple #[.int .i64 a, .int .i64 z]) = .returned (.tuple #[.int .i64 b, .int .i64 z]) := by rw [h]
def cmdV (a t m : Int) : Int := if t < a then -(min ((a - t + 15) / 16) m) else min ((t - a + 15) / 16) m
theorem cmd_ok (a t m : Int) (a0 : -200000 ≤ a) (a1 : a ≤ 6000000) (t0 : -200000 ≤ t) (t1 : t ≤ 6000000) (m0 : 0 ≤ m) (m1 : m ≤ 10000) (w : World) : Calls Try.prog 12 #[.int .i64 a, .int .i64 t, .int .i64 m] w fun e w' => e = .returned (.tuple #[.int .i64 (cmdV a t m), .int .i64 0]) ∧ w = w' := by
  by_cases c : t < a
  · have c2 : t - a < 0 := by omega
    have nn : -(t - a) = a - t := by omega
    rcases Int.lt_or_le m ((a - t + 15) / 16) with k | k
    · have E := Lib.hid (show cmdV a t m = -(m) from by unfold cmdV; rw [if_pos (by omega)]; omega)
      clear nn
      go_enter Try.func12, Try.ntmps12
      go_wp2_with (first | (go_at_call 22; (first | refine (alt_yes _ (by omega) (by omega) _).mono ?_ | refine (alt_lo _ (by omega) _).mono ?_ | refine (alt_hi _ (by omega) _).mono ?_); rintro e w' ⟨rfl, rfl⟩) | (go_at_call 10; (first | refine (dev_in _ _ (by omega) (by omega) (by omega) (by omega) _).mono ?_); rintro e w' ⟨rfl, rfl⟩) | (go_at_call 23; (first | refine (abs_neg _ (by omega) (by omega) _).mono ?_ | refine (abs_pos _ (by omega) (by omega) _).mono ?_); rintro e w' ⟨rfl, rfl⟩))
      all_goals go_ret2
      all_goals refine ⟨?_, rfl⟩
      all_goals (rw [E.out]; first | rfl | exact ret2i (by omega))
    · have E := Lib.hid (show cmdV a t m = -((a - t + 15) / 16) from by unfold cmdV; rw [if_pos (by omega)]; omega)
      clear nn
      go_enter Try.func12, Try.ntmps12
      go_wp2_with (first | (go_at_call 22; (first | refine (alt_yes _ (by omega) (by omega) _).mono ?_ | refine (alt_lo _ (by omega) _).mono ?_ | refine (alt_hi _ (by omega) _).mono ?_); rintro e w' ⟨rfl, rfl⟩) | (go_at_call 10; (first | refine (dev_in _ _ (by omega) (by omega) (by omega) (by omega) _).mono ?_); rintro e w' ⟨rfl, rfl⟩) | (go_at_call 23; (first | refine (abs_neg _ (by omega) (by omega) _).mono ?_ | refine (abs_pos _ (by omega) (by omega) _).mono ?_); rintro e w' ⟨rfl, rfl⟩))
      all_goals go_ret2
      all_goals refine ⟨?_, rfl⟩
      all_goals (rw [E.out]; first | rfl | exact ret2i (by omega))
  · have c2 : 0 ≤ t - a := by omega
    rcases Int.lt_or_le m ((t - a + 15) / 16) with k | k
    · have E := Lib.hid (show cmdV a t m = m from by unfold cmdV; rw [if_neg (by omega)]; omega)

      go_enter Try.func12, Try.ntmps12
      go_wp2_with (first | (go_at_call 22; (first | refine (alt_yes _ (by omega) (by omega) _).mono ?_ | refine (alt_lo _ (by omega) _).mono ?_ | refine (alt_hi _ (by omega) _).mono ?_); rintro e w' ⟨rfl, rfl⟩) | (go_at_call 10; (first | refine (dev_in _ _ (by omega) (by omega) (by omega) (by omega) _).mono ?_); rintro e w' ⟨rfl, rfl⟩) | (go_at_call 23; (first | refine (abs_neg _ (by omega) (by omega) _).mono ?_ | refine (abs_pos _ (by omega) (by omega) _).mono ?_); rintro e w' ⟨rfl, rfl⟩))
      all_goals go_ret2
      all_goals refine ⟨?_, rfl⟩
      all_goals (rw [E.out]; first | rfl | exact ret2i (by omega))
    · have E := Lib.hid (show cmdV a t m = (t - a + 15) / 16 from by unfold cmdV; rw [if_neg (by omega)]; omega)

      go_enter Try.func12, Try.ntmps12
      go_wp2_with (first | (go_at_call 22; (first | refine (alt_yes _ (by omega) (by omega) _).mono ?_ | refine (alt_lo _ (by omega) _).mono ?_ | refine (alt_hi _ (by omega) _).mono ?_); rintro e w' ⟨rfl, rfl⟩) | (go_at_call 10; (first | refine (dev_in _ _ (by omega) (by omega) (by omega) (by omega) _).mono ?_); rintro e w' ⟨rfl, rfl⟩) | (go_at_call 23; (first | refine (abs_neg _ (by omega) (by omega) _).mono ?_ | refine (abs_pos _ (by omega) (by omega) _).mono ?_); rintro e w' ⟨rfl, rfl⟩))
      all_goals go_ret2
      all_goals refine ⟨?_, rfl⟩
      all_goals (rw [E.out]; first | rfl | exact ret2i (by omega))
theorem cmd_bad (a t m : Int) (a_0 : -9223372036854775808 ≤ a) (a_1 : a ≤ 9223372036854775807) (t_0 : -9223372036854775808 ≤ t) (t_1 : t ≤ 9223372036854775807) (m_0 : -9223372036854775808 ≤ m) (m_1 : m ≤ 9223372036854775807) (h : a < -200000 ∨ 6000000 < a ∨ t < -200000 ∨ 6000000 < t ∨ m < 0 ∨ 10000 < m) (w : World) : Calls Try.prog 12 #[.int .i64 a, .int .i64 t, .int .i64 m] w fun e w' => e = .returned (.tuple #[.int .i64 (0), .int .i64 2]) ∧ w = w' := by
  by_cases c0 : a < -200000
  · clear h
    go_enter Try.func12, Try.ntmps12
    go_wp2_with (first | (go_at_call 22; (first | refine (alt_yes _ (by omega) (by omega) _).mono ?_ | refine (alt_lo _ (by omega) _).mono ?_ | refine (alt_hi _ (by omega) _).mono ?_); rintro e w' ⟨rfl, rfl⟩) | (go_at_call 10; (first | refine (dev_in _ _ (by omega) (by omega) (by omega) (by omega) _).mono ?_); rintro e w' ⟨rfl, rfl⟩) | (go_at_call 23; (first | refine (abs_neg _ (by omega) (by omega) _).mono ?_ | refine (abs_pos _ (by omega) (by omega) _).mono ?_); rintro e w' ⟨rfl, rfl⟩))
    go_ret2
    exact ⟨rfl, rfl⟩
  by_cases c1 : 6000000 < a
  · clear h
    go_enter Try.func12, Try.ntmps12
    go_wp2_with (first | (go_at_call 22; (first | refine (alt_yes _ (by omega) (by omega) _).mono ?_ | refine (alt_lo _ (by omega) _).mono ?_ | refine (alt_hi _ (by omega) _).mono ?_); rintro e w' ⟨rfl, rfl⟩) | (go_at_call 10; (first | refine (dev_in _ _ (by omega) (by omega) (by omega) (by omega) _).mono ?_); rintro e w' ⟨rfl, rfl⟩) | (go_at_call 23; (first | refine (abs_neg _ (by omega) (by omega) _).mono ?_ | refine (abs_pos _ (by omega) (by omega) _).mono ?_); rintro e w' ⟨rfl, rfl⟩))
    go_ret2
    exact ⟨rfl, rfl⟩
  by_cases c2 : t < -200000
  · clear h
    go_enter Try.func12, Try.ntmps12
    go_wp2_with (first | (go_at_call 22; (first | refine (alt_yes _ (by omega) (by omega) _).mono ?_ | refine (alt_lo _ (by omega) _).mono ?_ | refine (alt_hi _ (by omega) _).mono ?_); rintro e w' ⟨rfl, rfl⟩) | (go_at_call 10; (first | refine (dev_in _ _ (by omega) (by omega) (by omega) (by omega) _).mono ?_); rintro e w' ⟨rfl, rfl⟩) | (go_at_call 23; (first | refine (abs_neg _ (by omega) (by omega) _).mono ?_ | refine (abs_pos _ (by omega) (by omega) _).mono ?_); rintro e w' ⟨rfl, rfl⟩))
    go_ret2
    exact ⟨rfl, rfl⟩
  by_cases c3 : 6000000 < t
  · clear h
    go_enter Try.func12, Try.ntmps12
    go_wp2_with (first | (go_at_call 22; (first | refine (alt_yes _ (by omega) (by omega) _).mono ?_ | refine (alt_lo _ (by omega) _).mono ?_ | refine (alt_hi _ (by omega) _).mono ?_); rintro e w' ⟨rfl, rfl⟩) | (go_at_call 10; (first | refine (dev_in _ _ (by omega) (by omega) (by omega) (by omega) _).mono ?_); rintro e w' ⟨rfl, rfl⟩) | (go_at_call 23; (first | refine (abs_neg _ (by omega) (by omega) _).mono ?_ | refine (abs_pos _ (by omega) (by omega) _).mono ?_); rintro e w' ⟨rfl, rfl⟩))
    go_ret2
    exact ⟨rfl, rfl⟩
  by_cases c4 : m < 0
  · clear h
    go_enter Try.func12, Try.ntmps12
    go_wp2_with (first | (go_at_call 22; (first | refine (alt_yes _ (by omega) (by omega) _).mono ?_ | refine (alt_lo _ (by omega) _).mono ?_ | refine (alt_hi _ (by omega) _).mono ?_); rintro e w' ⟨rfl, rfl⟩) | (go_at_call 10; (first | refine (dev_in _ _ (by omega) (by omega) (by omega) (by omega) _).mono ?_); rintro e w' ⟨rfl, rfl⟩) | (go_at_call 23; (first | refine (abs_neg _ (by omega) (by omega) _).mono ?_ | refine (abs_pos _ (by omega) (by omega) _).mono ?_); rintro e w' ⟨rfl, rfl⟩))
    go_ret2
    exact ⟨rfl, rfl⟩
  have c5 : 10000 < m := by omega
  clear h
  go_enter Try.func12, Try.ntmps12
  go_wp2_with (first | (go_at_call 22; (first | refine (alt_yes _ (by omega) (by omega) _).mono ?_ | refine (alt_lo _ (by omega) _).mono ?_ | refine (alt_hi _ (by omega) _).mono ?_); rintro e w' ⟨rfl, rfl⟩) | (go_at_call 10; (first | refine (dev_in _ _ (by omega) (by omega) (by omega) (by omega) _).mono ?_); rintro e w' ⟨rfl, rfl⟩) | (go_at_call 23; (first | refine (abs_neg _ (by omega) (by omega) _).mono ?_ | refine (abs_pos _ (by omega) (by omega) _).mono ?_); rintro e w' ⟨rfl, rfl⟩))
  go_ret2
  exact ⟨rfl, rfl⟩
theorem ref_cmd_ok (a t m : Int) (a0 : -200000 ≤ a) (a1 : a ≤ 6000000) (t0 : -200000 ≤ t) (t1 : t ≤ 6000000) (m0 : 0 ≤ m) (m1 : m ≤ 10000) (w : World) : Calls Try.prog 13 #[.int .i64 a, .int .i64 t, .int .i64 m] w fun e w' => e = .returned (.tuple #[.int .i64 (cmdV a t m), .int .i64 0]) ∧ w = w' := by
  by_cases c : t < a
  · have c2 : t - a < 0 := by omega
    have nn : -(t - a) = a - t := by omega
    rcases Int.lt_or_le m ((a - t + 15) / 16) with k | k
    · have E := Lib.hid (show cmdV a t m = -(m) from by unfold cmdV; rw [if_pos (by omega)]; omega)
      clear nn
      go_enter Try.func13, Try.ntmps13
      go_wp2_with (first | (go_at_call 24; (first | refine (ref_alt_yes _ (by omega) (by omega) _).mono ?_ | refine (ref_alt_lo _ (by omega) _).mono ?_ | refine (ref_alt_hi _ (by omega) _).mono ?_); rintro e w' ⟨rfl, rfl⟩))
      all_goals go_ret2
      all_goals refine ⟨?_, rfl⟩
      all_goals (rw [E.out]; first | rfl | exact ret2i (by omega))
    · have E := Lib.hid (show cmdV a t m = -((a - t + 15) / 16) from by unfold cmdV; rw [if_pos (by omega)]; omega)
      clear nn
      go_enter Try.func13, Try.ntmps13
      go_wp2_with (first | (go_at_call 24; (first | refine (ref_alt_yes _ (by omega) (by omega) _).mono ?_ | refine (ref_alt_lo _ (by omega) _).mono ?_ | refine (ref_alt_hi _ (by omega) _).mono ?_); rintro e w' ⟨rfl, rfl⟩))
      all_goals go_ret2
      all_goals refine ⟨?_, rfl⟩
      all_goals (rw [E.out]; first | rfl | exact ret2i (by omega))
  · have c2 : 0 ≤ t - a := by omega
    rcases Int.lt_or_le m ((t - a + 15) / 16) with k | k
    · have E := Lib.hid (show cmdV a t m = m from by unfold cmdV; rw [if_neg (by omega)]; omega)

      go_enter Try.func13, Try.ntmps13
      go_wp2_with (first | (go_at_call 24; (first | refine (ref_alt_yes _ (by omega) (by omega) _).mono ?_ | refine (ref_alt_lo _ (by omega) _).mono ?_ | refine (ref_alt_hi _ (by omega) _).mono ?_); rintro e w' ⟨rfl, rfl⟩))
      all_goals go_ret2
      all_goals refine ⟨?_, rfl⟩
      all_goals (rw [E.out]; first | rfl | exact ret2i (by omega))
    · have E := Lib.hid (show cmdV a t m = (t - a + 15) / 16 from by unfold cmdV; rw [if_neg (by omega)]; omega)

      go_enter Try.func13, Try.ntmps13
      go_wp2_with (first | (go_at_call 24; (first | refine (ref_alt_yes _ (by omega) (by omega) _).mono ?_ | refine (ref_alt_lo _ (by omega) _).mono ?_ | refine (ref_alt_hi _ (by omega) _).mono ?_); rintro e w' ⟨rfl, rfl⟩))
      all_goals go_ret2
      all_goals refine ⟨?_, rfl⟩
      all_goals (rw [E.out]; first | rfl | exact ret2i (by omega))
theorem ref_cmd_bad (a t m : Int) (a_0 : -9223372036854775808 ≤ a) (a_1 : a ≤ 9223372036854775807) (t_0 : -9223372036854775808 ≤ t) (t_1 : t ≤ 9223372036854775807) (m_0 : -9223372036854775808 ≤ m) (m_1 : m ≤ 9223372036854775807) (h : a < -200000 ∨ 6000000 < a ∨ t < -200000 ∨ 6000000 < t ∨ m < 0 ∨ 10000 < m) (w : World) : Calls Try.prog 13 #[.int .i64 a, .int .i64 t, .int .i64 m] w fun e w' => e = .returned (.tuple #[.int .i64 (0), .int .i64 2]) ∧ w = w' := by
  by_cases c0 : a < -200000
  · clear h
    go_enter Try.func13, Try.ntmps13
    go_wp2_with (first | (go_at_call 24; (first | refine (ref_alt_yes _ (by omega) (by omega) _).mono ?_ | refine (ref_alt_lo _ (by omega) _).mono ?_ | refine (ref_alt_hi _ (by omega) _).mono ?_); rintro e w' ⟨rfl, rfl⟩))
    go_ret2
    exact ⟨rfl, rfl⟩
  by_cases c1 : 6000000 < a
  · clear h
    go_enter Try.func13, Try.ntmps13
    go_wp2_with (first | (go_at_call 24; (first | refine (ref_alt_yes _ (by omega) (by omega) _).mono ?_ | refine (ref_alt_lo _ (by omega) _).mono ?_ | refine (ref_alt_hi _ (by omega) _).mono ?_); rintro e w' ⟨rfl, rfl⟩))
    go_ret2
    exact ⟨rfl, rfl⟩
  by_cases c2 : t < -200000
  · clear h
    go_enter Try.func13, Try.ntmps13
    go_wp2_with (first | (go_at_call 24; (first | refine (ref_alt_yes _ (by omega) (by omega) _).mono ?_ | refine (ref_alt_lo _ (by omega) _).mono ?_ | refine (ref_alt_hi _ (by omega) _).mono ?_); rintro e w' ⟨rfl, rfl⟩))
    go_ret2
    exact ⟨rfl, rfl⟩
  by_cases c3 : 6000000 < t
  · clear h
    go_enter Try.func13, Try.ntmps13
    go_wp2_with (first | (go_at_call 24; (first | refine (ref_alt_yes _ (by omega) (by omega) _).mono ?_ | refine (ref_alt_lo _ (by omega) _).mono ?_ | refine (ref_alt_hi _ (by omega) _).mono ?_); rintro e w' ⟨rfl, rfl⟩))
    go_ret2
    exact ⟨rfl, rfl⟩
  by_cases c4 : m < 0
  · clear h
    go_enter Try.func13, Try.ntmps13
    go_wp2_with (first | (go_at_call 24; (first | refine (ref_alt_yes _ (by omega) (by omega) _).mono ?_ | refine (ref_alt_lo _ (by omega) _).mono ?_ | refine (ref_alt_hi _ (by omega) _).mono ?_); rintro e w' ⟨rfl, rfl⟩))
    go_ret2
    exact ⟨rfl, rfl⟩
  have c5 : 10000 < m := by omega
  clear h
  go_enter Try.func13, Try.ntmps13
  go_wp2_with (first | (go_at_call 24; (first | refine (ref_alt_yes _ (by omega) (by omega) _).mono ?_ | refine (ref_alt_lo _ (by omega) _).mono ?_ | refine (ref_alt_hi _ (by omega) _).mono ?_); rintro e w' ⟨rfl, rfl⟩))
  go_ret2
  exact ⟨rfl, rfl⟩
theorem clamp_lo (x lo hi : Int) (h : x < lo) (w : World) : Calls Try.prog 26 #[.int .i64 x, .int .i64 lo, .int .i64 hi] w fun e w' => e = .returned (.int .i64 lo) ∧ w = w' := by
  have := clamp_w x lo hi w; unfold clampI at this; rwa [if_pos h] at this
theorem clamp_hi (x lo hi : Int) (h0 : lo ≤ x) (h : hi < x) (w : World) : Calls Try.prog 26 #[.int .i64 x, .int .i64 lo, .int .i64 hi] w fun e w' => e = .returned (.int .i64 hi) ∧ w = w' := by
  have := clamp_w x lo hi w; unfold clampI at this; rwa [if_neg (by omega), if_pos h] at this
theorem clamp_mid (x lo hi : Int) (h0 : lo ≤ x) (h : x ≤ hi) (w : World) : Calls Try.prog 26 #[.int .i64 x, .int .i64 lo, .int .i64 hi] w fun e w' => e = .returned (.int .i64 x) ∧ w = w' := by
  have := clamp_w x lo hi w; unfold clampI at this; rwa [if_neg (by omega), if_neg (by omega)] at this
theorem lim_ok (a b : Int) (a0 : -10000 ≤ a) (a1 : a ≤ 10000) (b0 : -10000 ≤ b) (b1 : b ≤ 10000) (w : World) : Calls Try.prog 14 #[.int .i64 a, .int .i64 b] w fun e w' => e = .returned (.tuple #[.int .i64 (clampI b (a - 40) (a + 40)), .int .i64 0]) ∧ w = w' := by
  by_cases c0 : b < a - 40
  · have E := Lib.hid (show clampI b (a - 40) (a + 40) = a - 40 from by unfold clampI; rw [if_pos (by omega)])
    go_enter Try.func14, Try.ntmps14
    go_wp2_with (first | (go_at_call 25; (first | refine (rate_yes _ (by omega) (by omega) _).mono ?_ | refine (rate_lo _ (by omega) _).mono ?_ | refine (rate_hi _ (by omega) _).mono ?_); rintro e w' ⟨rfl, rfl⟩) | (go_at_call 26; (first | refine (clamp_lo _ _ _ (by omega) _).mono ?_ | refine (clamp_hi _ _ _ (by omega) (by omega) _).mono ?_ | refine (clamp_mid _ _ _ (by omega) (by omega) _).mono ?_); rintro e w' ⟨rfl, rfl⟩))
    all_goals go_ret2
    all_goals refine ⟨?_, rfl⟩
    all_goals (rw [E.out]; first | rfl | exact ret2i (by omega))
  by_cases c1 : a + 40 < b
  · have E := Lib.hid (show clampI b (a - 40) (a + 40) = a + 40 from by unfold clampI; rw [if_neg (by omega), if_pos (by omega)])
    go_enter Try.func14, Try.ntmps14
    go_wp2_with (first | (go_at_call 25; (first | refine (rate_yes _ (by omega) (by omega) _).mono ?_ | refine (rate_lo _ (by omega) _).mono ?_ | refine (rate_hi _ (by omega) _).mono ?_); rintro e w' ⟨rfl, rfl⟩) | (go_at_call 26; (first | refine (clamp_lo _ _ _ (by omega) _).mono ?_ | refine (clamp_hi _ _ _ (by omega) (by omega) _).mono ?_ | refine (clamp_mid _ _ _ (by omega) (by omega) _).mono ?_); rintro e w' ⟨rfl, rfl⟩))
    all_goals go_ret2
    all_goals refine ⟨?_, rfl⟩
    all_goals (rw [E.out]; first | rfl | exact ret2i (by omega))
  have E := Lib.hid (show clampI b (a - 40) (a + 40) = b from by unfold clampI; rw [if_neg (by omega), if_neg (by omega)])
  go_enter Try.func14, Try.ntmps14
  go_wp2_with (first | (go_at_call 25; (first | refine (rate_yes _ (by omega) (by omega) _).mono ?_ | refine (rate_lo _ (by omega) _).mono ?_ | refine (rate_hi _ (by omega) _).mono ?_); rintro e w' ⟨rfl, rfl⟩) | (go_at_call 26; (first | refine (clamp_lo _ _ _ (by omega) _).mono ?_ | refine (clamp_hi _ _ _ (by omega) (by omega) _).mono ?_ | refine (clamp_mid _ _ _ (by omega) (by omega) _).mono ?_); rintro e w' ⟨rfl, rfl⟩))
  all_goals go_ret2
  all_goals refine ⟨?_, rfl⟩
  all_goals (rw [E.out]; first | rfl | exact ret2i (by omega))
theorem lim_bad (a b : Int) (a_0 : -9223372036854775808 ≤ a) (a_1 : a ≤ 9223372036854775807) (b_0 : -9223372036854775808 ≤ b) (b_1 : b ≤ 9223372036854775807) (h : a < -10000 ∨ 10000 < a ∨ b < -10000 ∨ 10000 < b) (w : World) : Calls Try.prog 14 #[.int .i64 a, .int .i64 b] w fun e w' => e = .returned (.tuple #[.int .i64 (0), .int .i64 2]) ∧ w = w' := by
  by_cases c0 : a < -10000
  · clear h
    go_enter Try.func14, Try.ntmps14
    go_wp2_with (first | (go_at_call 25; (first | refine (rate_yes _ (by omega) (by omega) _).mono ?_ | refine (rate_lo _ (by omega) _).mono ?_ | refine (rate_hi _ (by omega) _).mono ?_); rintro e w' ⟨rfl, rfl⟩) | (go_at_call 26; (first | refine (clamp_lo _ _ _ (by omega) _).mono ?_ | refine (clamp_hi _ _ _ (by omega) (by omega) _).mono ?_ | refine (clamp_mid _ _ _ (by omega) (by omega) _).mono ?_); rintro e w' ⟨rfl, rfl⟩))
    go_ret2
    exact ⟨rfl, rfl⟩
  by_cases c1 : 10000 < a
  · clear h
    go_enter Try.func14, Try.ntmps14
    go_wp2_with (first | (go_at_call 25; (first | refine (rate_yes _ (by omega) (by omega) _).mono ?_ | refine (rate_lo _ (by omega) _).mono ?_ | refine (rate_hi _ (by omega) _).mono ?_); rintro e w' ⟨rfl, rfl⟩) | (go_at_call 26; (first | refine (clamp_lo _ _ _ (by omega) _).mono ?_ | refine (clamp_hi _ _ _ (by omega) (by omega) _).mono ?_ | refine (clamp_mid _ _ _ (by omega) (by omega) _).mono ?_); rintro e w' ⟨rfl, rfl⟩))
    go_ret2
    exact ⟨rfl, rfl⟩
  by_cases c2 : b < -10000
  · clear h
    go_enter Try.func14, Try.ntmps14
    go_wp2_with (first | (go_at_call 25; (first | refine (rate_yes _ (by omega) (by omega) _).mono ?_ | refine (rate_lo _ (by omega) _).mono ?_ | refine (rate_hi _ (by omega) _).mono ?_); rintro e w' ⟨rfl, rfl⟩) | (go_at_call 26; (first | refine (clamp_lo _ _ _ (by omega) _).mono ?_ | refine (clamp_hi _ _ _ (by omega) (by omega) _).mono ?_ | refine (clamp_mid _ _ _ (by omega) (by omega) _).mono ?_); rintro e w' ⟨rfl, rfl⟩))
    go_ret2
    exact ⟨rfl, rfl⟩
  have c5 : 10000 < b := by omega
  clear h
  go_enter Try.func14, Try.ntmps14
  go_wp2_with (first | (go_at_call 25; (first | refine (rate_yes _ (by omega) (by omega) _).mono ?_ | refine (rate_lo _ (by omega) _).mono ?_ | refine (rate_hi _ (by omega) _).mono ?_); rintro e w' ⟨rfl, rfl⟩) | (go_at_call 26; (first | refine (clamp_lo _ _ _ (by omega) _).mono ?_ | refine (clamp_hi _ _ _ (by omega) (by omega) _).mono ?_ | refine (clamp_mid _ _ _ (by omega) (by omega) _).mono ?_); rintro e w' ⟨rfl, rfl⟩))
  go_ret2
  exact ⟨rfl, rfl⟩
theorem ref_lim_ok (a b : Int) (a0 : -10000 ≤ a) (a1 : a ≤ 10000) (b0 : -10000 ≤ b) (b1 : b ≤ 10000) (w : World) : Calls Try.prog 15 #[.int .i64 a, .int .i64 b] w fun e w' => e = .returned (.tuple #[.int .i64 (clampI b (a - 40) (a + 40)), .int .i64 0]) ∧ w = w' := by
  by_cases c0 : b < a - 40
  · have E := Lib.hid (show clampI b (a - 40) (a + 40) = a - 40 from by unfold clampI; rw [if_pos (by omega)])
    go_enter Try.func15, Try.ntmps15
    go_wp2_with (first | (go_at_call 27; (first | refine (ref_rate_yes _ (by omega) (by omega) _).mono ?_ | refine (ref_rate_lo _ (by omega) _).mono ?_ | refine (ref_rate_hi _ (by omega) _).mono ?_); rintro e w' ⟨rfl, rfl⟩))
    all_goals go_ret2
    all_goals refine ⟨?_, rfl⟩
    all_goals (rw [E.out]; first | rfl | exact ret2i (by omega))
  by_cases c1 : a + 40 < b
  · have E := Lib.hid (show clampI b (a - 40) (a + 40) = a + 40 from by unfold clampI; rw [if_neg (by omega), if_pos (by omega)])
    go_enter Try.func15, Try.ntmps15
    go_wp2_with (first | (go_at_call 27; (first | refine (ref_rate_yes _ (by omega) (by omega) _).mono ?_ | refine (ref_rate_lo _ (by omega) _).mono ?_ | refine (ref_rate_hi _ (by omega) _).mono ?_); rintro e w' ⟨rfl, rfl⟩))
    all_goals go_ret2
    all_goals refine ⟨?_, rfl⟩
    all_goals (rw [E.out]; first | rfl | exact ret2i (by omega))
  have E := Lib.hid (show clampI b (a - 40) (a + 40) = b from by unfold clampI; rw [if_neg (by omega), if_neg (by omega)])
  go_enter Try.func15, Try.ntmps15
  go_wp2_with (first | (go_at_call 27; (first | refine (ref_rate_yes _ (by omega) (by omega) _).mono ?_ | refine (ref_rate_lo _ (by omega) _).mono ?_ | refine (ref_rate_hi _ (by omega) _).mono ?_); rintro e w' ⟨rfl, rfl⟩))
  all_goals go_ret2
  all_goals refine ⟨?_, rfl⟩
  all_goals (rw [E.out]; first | rfl | exact ret2i (by omega))
theorem ref_lim_bad (a b : Int) (a_0 : -9223372036854775808 ≤ a) (a_1 : a ≤ 9223372036854775807) (b_0 : -9223372036854775808 ≤ b) (b_1 : b ≤ 9223372036854775807) (h : a < -10000 ∨ 10000 < a ∨ b < -10000 ∨ 10000 < b) (w : World) : Calls Try.prog 15 #[.int .i64 a, .int .i64 b] w fun e w' => e = .returned (.tuple #[.int .i64 (0), .int .i64 2]) ∧ w = w' := by
  by_cases c0 : a < -10000
  · clear h
    go_enter Try.func15, Try.ntmps15
    go_wp2_with (first | (go_at_call 27; (first | refine (ref_rate_yes _ (by omega) (by omega) _).mono ?_ | refine (ref_rate_lo _ (by omega) _).mono ?_ | refine (ref_rate_hi _ (by omega) _).mono ?_); rintro e w' ⟨rfl, rfl⟩))
    go_ret2
    exact ⟨rfl, rfl⟩
  by_cases c1 : 10000 < a
  · clear h
    go_enter Try.func15, Try.ntmps15
    go_wp2_with (first | (go_at_call 27; (first | refine (ref_rate_yes _ (by omega) (by omega) _).mono ?_ | refine (ref_rate_lo _ (by omega) _).mono ?_ | refine (ref_rate_hi _ (by omega) _).mono ?_); rintro e w' ⟨rfl, rfl⟩))
    go_ret2
    exact ⟨rfl, rfl⟩
  by_cases c2 : b < -10000
  · clear h
    go_enter Try.func15, Try.ntmps15
    go_wp2_with (first | (go_at_call 27; (first | refine (ref_rate_yes _ (by omega) (by omega) _).mono ?_ | refine (ref_rate_lo _ (by omega) _).mono ?_ | refine (ref_rate_hi _ (by omega) _).mono ?_); rintro e w' ⟨rfl, rfl⟩))
    go_ret2
    exact ⟨rfl, rfl⟩
  have c5 : 10000 < b := by omega
  clear h
  go_enter Try.func15, Try.ntmps15
  go_wp2_with (first | (go_at_call 27; (first | refine (ref_rate_yes _ (by omega) (by omega) _).mono ?_ | refine (ref_rate_lo _ (by omega) _).mono ?_ | refine (ref_rate_hi _ (by omega) _).mono ?_); rintro e w' ⟨rfl, rfl⟩))
  go_ret2
  exact ⟨rfl, rfl⟩
def capB (a v t : Int) : Bool := decide (t = a ∨ (a < t ∧ 0 < v ∧ t - a ≤ 16 * v) ∨ (t < a ∧ v < 0 ∧ a - t ≤ 16 * -v))
theorem cap_ok (a v t : Int) (a0 : -200000 ≤ a) (a1 : a ≤ 6000000) (v0 : -10000 ≤ v) (v1 : v ≤ 10000) (t0 : -200000 ≤ t) (t1 : t ≤ 6000000) (w : World) : Calls Try.prog 16 #[.int .i64 a, .int .i64 v, .int .i64 t] w fun e w' => e = .returned (.tuple #[.bool (capB a v t), .int .i64 0]) ∧ w = w' := by
  by_cases c0 : t = a
  · have z : t - a = 0 := by omega
    have E := Lib.hid (show capB a v t = true from by unfold capB; simp; omega)
    clear c0
    go_enter Try.func16, Try.ntmps16
    go_wp2_with (first | (go_at_call 22; (first | refine (alt_yes _ (by omega) (by omega) _).mono ?_ | refine (alt_lo _ (by omega) _).mono ?_ | refine (alt_hi _ (by omega) _).mono ?_); rintro e w' ⟨rfl, rfl⟩) | (go_at_call 25; (first | refine (rate_yes _ (by omega) (by omega) _).mono ?_ | refine (rate_lo _ (by omega) _).mono ?_ | refine (rate_hi _ (by omega) _).mono ?_); rintro e w' ⟨rfl, rfl⟩) | (go_at_call 10; (first | refine (dev_in _ _ (by omega) (by omega) (by omega) (by omega) _).mono ?_); rintro e w' ⟨rfl, rfl⟩))
    all_goals go_ret2
    all_goals refine ⟨?_, rfl⟩
    all_goals (rw [E.out]; first | rfl | exact ret2i (by omega))
  by_cases c1 : a < t
  · have c2 : 0 < t - a := by omega
    by_cases c3 : 0 < v
    · by_cases c4 : t - a ≤ 16 * v
      · have E := Lib.hid (show capB a v t = true from by unfold capB; simp; omega)
        have nz : (t - a == 0) = false := by rw [beq_eq_false_iff_ne]; omega
        clear c0
        go_enter Try.func16, Try.ntmps16
        go_wp2_with (first | (go_at_call 22; (first | refine (alt_yes _ (by omega) (by omega) _).mono ?_ | refine (alt_lo _ (by omega) _).mono ?_ | refine (alt_hi _ (by omega) _).mono ?_); rintro e w' ⟨rfl, rfl⟩) | (go_at_call 25; (first | refine (rate_yes _ (by omega) (by omega) _).mono ?_ | refine (rate_lo _ (by omega) _).mono ?_ | refine (rate_hi _ (by omega) _).mono ?_); rintro e w' ⟨rfl, rfl⟩) | (go_at_call 10; (first | refine (dev_in _ _ (by omega) (by omega) (by omega) (by omega) _).mono ?_); rintro e w' ⟨rfl, rfl⟩))
        all_goals go_ret2
        all_goals refine ⟨?_, rfl⟩
        all_goals (rw [E.out]; first | rfl | exact ret2i (by omega))
      · have E := Lib.hid (show capB a v t = false from by unfold capB; simp; omega)
        have nz : (t - a == 0) = false := by rw [beq_eq_false_iff_ne]; omega
        clear c0
        have d1 : decide (t - a ≤ 16 * v) = false := decide_eq_false c4
        go_enter Try.func16, Try.ntmps16
        go_wp2_with (first | (go_at_call 22; (first | refine (alt_yes _ (by omega) (by omega) _).mono ?_ | refine (alt_lo _ (by omega) _).mono ?_ | refine (alt_hi _ (by omega) _).mono ?_); rintro e w' ⟨rfl, rfl⟩) | (go_at_call 25; (first | refine (rate_yes _ (by omega) (by omega) _).mono ?_ | refine (rate_lo _ (by omega) _).mono ?_ | refine (rate_hi _ (by omega) _).mono ?_); rintro e w' ⟨rfl, rfl⟩) | (go_at_call 10; (first | refine (dev_in _ _ (by omega) (by omega) (by omega) (by omega) _).mono ?_); rintro e w' ⟨rfl, rfl⟩))
        all_goals go_ret2
        all_goals refine ⟨?_, rfl⟩
        all_goals (rw [E.out]; first | rfl | exact ret2i (by omega))
    · have E := Lib.hid (show capB a v t = false from by unfold capB; simp; omega)
      have nz : (t - a == 0) = false := by rw [beq_eq_false_iff_ne]; omega
      clear c0
      go_enter Try.func16, Try.ntmps16
      go_wp2_with (first | (go_at_call 22; (first | refine (alt_yes _ (by omega) (by omega) _).mono ?_ | refine (alt_lo _ (by omega) _).mono ?_ | refine (alt_hi _ (by omega) _).mono ?_); rintro e w' ⟨rfl, rfl⟩) | (go_at_call 25; (first | refine (rate_yes _ (by omega) (by omega) _).mono ?_ | refine (rate_lo _ (by omega) _).mono ?_ | refine (rate_hi _ (by omega) _).mono ?_); rintro e w' ⟨rfl, rfl⟩) | (go_at_call 10; (first | refine (dev_in _ _ (by omega) (by omega) (by omega) (by omega) _).mono ?_); rintro e w' ⟨rfl, rfl⟩))
      all_goals go_ret2
      all_goals refine ⟨?_, rfl⟩
      all_goals (rw [E.out]; first | rfl | exact ret2i (by omega))
  · have c2 : t - a < 0 := by omega
    by_cases c3 : v < 0
    · have n2 : (-(t - a) == 0) = false := by rw [beq_eq_false_iff_ne]; omega
      by_cases c4 : -(t - a) ≤ 16 * -v
      · have E := Lib.hid (show capB a v t = true from by unfold capB; simp; omega)
        have nz : (t - a == 0) = false := by rw [beq_eq_false_iff_ne]; omega
        clear c0
        go_enter Try.func16, Try.ntmps16
        go_wp2_with (first | (go_at_call 22; (first | refine (alt_yes _ (by omega) (by omega) _).mono ?_ | refine (alt_lo _ (by omega) _).mono ?_ | refine (alt_hi _ (by omega) _).mono ?_); rintro e w' ⟨rfl, rfl⟩) | (go_at_call 25; (first | refine (rate_yes _ (by omega) (by omega) _).mono ?_ | refine (rate_lo _ (by omega) _).mono ?_ | refine (rate_hi _ (by omega) _).mono ?_); rintro e w' ⟨rfl, rfl⟩) | (go_at_call 10; (first | refine (dev_in _ _ (by omega) (by omega) (by omega) (by omega) _).mono ?_); rintro e w' ⟨rfl, rfl⟩))
        all_goals go_ret2
        all_goals refine ⟨?_, rfl⟩
        all_goals (rw [E.out]; first | rfl | exact ret2i (by omega))
      · have E := Lib.hid (show capB a v t = false from by unfold capB; simp; omega)
        have nz : (t - a == 0) = false := by rw [beq_eq_false_iff_ne]; omega
        clear c0
        have d1 : decide (-(t - a) ≤ 16 * -v) = false := decide_eq_false c4
        go_enter Try.func16, Try.ntmps16
        go_wp2_with (first | (go_at_call 22; (first | refine (alt_yes _ (by omega) (by omega) _).mono ?_ | refine (alt_lo _ (by omega) _).mono ?_ | refine (alt_hi _ (by omega) _).mono ?_); rintro e w' ⟨rfl, rfl⟩) | (go_at_call 25; (first | refine (rate_yes _ (by omega) (by omega) _).mono ?_ | refine (rate_lo _ (by omega) _).mono ?_ | refine (rate_hi _ (by omega) _).mono ?_); rintro e w' ⟨rfl, rfl⟩) | (go_at_call 10; (first | refine (dev_in _ _ (by omega) (by omega) (by omega) (by omega) _).mono ?_); rintro e w' ⟨rfl, rfl⟩))
        all_goals go_ret2
        all_goals refine ⟨?_, rfl⟩
        all_goals (rw [E.out]; first | rfl | exact ret2i (by omega))
    · have E := Lib.hid (show capB a v t = false from by unfold capB; simp; omega)
      have nz : (t - a == 0) = false := by rw [beq_eq_false_iff_ne]; omega
      clear c0
      have n2 : (-(t - a) == 0) = false := by rw [beq_eq_false_iff_ne]; omega
      go_enter Try.func16, Try.ntmps16
      go_wp2_with (first | (go_at_call 22; (first | refine (alt_yes _ (by omega) (by omega) _).mono ?_ | refine (alt_lo _ (by omega) _).mono ?_ | refine (alt_hi _ (by omega) _).mono ?_); rintro e w' ⟨rfl, rfl⟩) | (go_at_call 25; (first | refine (rate_yes _ (by omega) (by omega) _).mono ?_ | refine (rate_lo _ (by omega) _).mono ?_ | refine (rate_hi _ (by omega) _).mono ?_); rintro e w' ⟨rfl, rfl⟩) | (go_at_call 10; (first | refine (dev_in _ _ (by omega) (by omega) (by omega) (by omega) _).mono ?_); rintro e w' ⟨rfl, rfl⟩))
      all_goals go_ret2
      all_goals refine ⟨?_, rfl⟩
      all_goals (rw [E.out]; first | rfl | exact ret2i (by omega))
theorem cap_bad (a v t : Int) (a_0 : -9223372036854775808 ≤ a) (a_1 : a ≤ 9223372036854775807) (v_0 : -9223372036854775808 ≤ v) (v_1 : v ≤ 9223372036854775807) (t_0 : -9223372036854775808 ≤ t) (t_1 : t ≤ 9223372036854775807) (h : a < -200000 ∨ 6000000 < a ∨ t < -200000 ∨ 6000000 < t ∨ v < -10000 ∨ 10000 < v) (w : World) : Calls Try.prog 16 #[.int .i64 a, .int .i64 v, .int .i64 t] w fun e w' => e = .returned (.tuple #[.bool false, .int .i64 2]) ∧ w = w' := by
  by_cases c0 : a < -200000
  · clear h
    go_enter Try.func16, Try.ntmps16
    go_wp2_with (first | (go_at_call 22; (first | refine (alt_yes _ (by omega) (by omega) _).mono ?_ | refine (alt_lo _ (by omega) _).mono ?_ | refine (alt_hi _ (by omega) _).mono ?_); rintro e w' ⟨rfl, rfl⟩) | (go_at_call 25; (first | refine (rate_yes _ (by omega) (by omega) _).mono ?_ | refine (rate_lo _ (by omega) _).mono ?_ | refine (rate_hi _ (by omega) _).mono ?_); rintro e w' ⟨rfl, rfl⟩) | (go_at_call 10; (first | refine (dev_in _ _ (by omega) (by omega) (by omega) (by omega) _).mono ?_); rintro e w' ⟨rfl, rfl⟩))
    go_ret2
    exact ⟨rfl, rfl⟩
  by_cases c1 : 6000000 < a
  · clear h
    go_enter Try.func16, Try.ntmps16
    go_wp2_with (first | (go_at_call 22; (first | refine (alt_yes _ (by omega) (by omega) _).mono ?_ | refine (alt_lo _ (by omega) _).mono ?_ | refine (alt_hi _ (by omega) _).mono ?_); rintro e w' ⟨rfl, rfl⟩) | (go_at_call 25; (first | refine (rate_yes _ (by omega) (by omega) _).mono ?_ | refine (rate_lo _ (by omega) _).mono ?_ | refine (rate_hi _ (by omega) _).mono ?_); rintro e w' ⟨rfl, rfl⟩) | (go_at_call 10; (first | refine (dev_in _ _ (by omega) (by omega) (by omega) (by omega) _).mono ?_); rintro e w' ⟨rfl, rfl⟩))
    go_ret2
    exact ⟨rfl, rfl⟩
  by_cases c2 : t < -200000
  · clear h
    go_enter Try.func16, Try.ntmps16
    go_wp2_with (first | (go_at_call 22; (first | refine (alt_yes _ (by omega) (by omega) _).mono ?_ | refine (alt_lo _ (by omega) _).mono ?_ | refine (alt_hi _ (by omega) _).mono ?_); rintro e w' ⟨rfl, rfl⟩) | (go_at_call 25; (first | refine (rate_yes _ (by omega) (by omega) _).mono ?_ | refine (rate_lo _ (by omega) _).mono ?_ | refine (rate_hi _ (by omega) _).mono ?_); rintro e w' ⟨rfl, rfl⟩) | (go_at_call 10; (first | refine (dev_in _ _ (by omega) (by omega) (by omega) (by omega) _).mono ?_); rintro e w' ⟨rfl, rfl⟩))
    go_ret2
    exact ⟨rfl, rfl⟩
  by_cases c3 : 6000000 < t
  · clear h
    go_enter Try.func16, Try.ntmps16
    go_wp2_with (first | (go_at_call 22; (first | refine (alt_yes _ (by omega) (by omega) _).mono ?_ | refine (alt_lo _ (by omega) _).mono ?_ | refine (alt_hi _ (by omega) _).mono ?_); rintro e w' ⟨rfl, rfl⟩) | (go_at_call 25; (first | refine (rate_yes _ (by omega) (by omega) _).mono ?_ | refine (rate_lo _ (by omega) _).mono ?_ | refine (rate_hi _ (by omega) _).mono ?_); rintro e w' ⟨rfl, rfl⟩) | (go_at_call 10; (first | refine (dev_in _ _ (by omega) (by omega) (by omega) (by omega) _).mono ?_); rintro e w' ⟨rfl, rfl⟩))
    go_ret2
    exact ⟨rfl, rfl⟩
  by_cases c4 : v < -10000
  · clear h
    go_enter Try.func16, Try.ntmps16
    go_wp2_with (first | (go_at_call 22; (first | refine (alt_yes _ (by omega) (by omega) _).mono ?_ | refine (alt_lo _ (by omega) _).mono ?_ | refine (alt_hi _ (by omega) _).mono ?_); rintro e w' ⟨rfl, rfl⟩) | (go_at_call 25; (first | refine (rate_yes _ (by omega) (by omega) _).mono ?_ | refine (rate_lo _ (by omega) _).mono ?_ | refine (rate_hi _ (by omega) _).mono ?_); rintro e w' ⟨rfl, rfl⟩) | (go_at_call 10; (first | refine (dev_in _ _ (by omega) (by omega) (by omega) (by omega) _).mono ?_); rintro e w' ⟨rfl, rfl⟩))
    go_ret2
    exact ⟨rfl, rfl⟩
  have c5 : 10000 < v := by omega
  clear h
  go_enter Try.func16, Try.ntmps16
  go_wp2_with (first | (go_at_call 22; (first | refine (alt_yes _ (by omega) (by omega) _).mono ?_ | refine (alt_lo _ (by omega) _).mono ?_ | refine (alt_hi _ (by omega) _).mono ?_); rintro e w' ⟨rfl, rfl⟩) | (go_at_call 25; (first | refine (rate_yes _ (by omega) (by omega) _).mono ?_ | refine (rate_lo _ (by omega) _).mono ?_ | refine (rate_hi _ (by omega) _).mono ?_); rintro e w' ⟨rfl, rfl⟩) | (go_at_call 10; (first | refine (dev_in _ _ (by omega) (by omega) (by omega) (by omega) _).mono ?_); rintro e w' ⟨rfl, rfl⟩))
  go_ret2
  exact ⟨rfl, rfl⟩
theorem ref_cap_ok (a v t : Int) (a0 : -200000 ≤ a) (a1 : a ≤ 6000000) (v0 : -10000 ≤ v) (v1 : v ≤ 10000) (t0 : -200000 ≤ t) (t1 : t ≤ 6000000) (w : World) : Calls Try.prog 17 #[.int .i64 a, .int .i64 v, .int .i64 t] w fun e w' => e = .returned (.tuple #[.bool (capB a v t), .int .i64 0]) ∧ w = w' := by
  by_cases c0 : t = a
  · have z : t - a = 0 := by omega
    have E := Lib.hid (show capB a v t = true from by unfold capB; simp; omega)
    clear c0
    go_enter Try.func17, Try.ntmps17
    go_wp2_with (first | (go_at_call 24; (first | refine (ref_alt_yes _ (by omega) (by omega) _).mono ?_ | refine (ref_alt_lo _ (by omega) _).mono ?_ | refine (ref_alt_hi _ (by omega) _).mono ?_); rintro e w' ⟨rfl, rfl⟩) | (go_at_call 27; (first | refine (ref_rate_yes _ (by omega) (by omega) _).mono ?_ | refine (ref_rate_lo _ (by omega) _).mono ?_ | refine (ref_rate_hi _ (by omega) _).mono ?_); rintro e w' ⟨rfl, rfl⟩))
    all_goals go_ret2
    all_goals refine ⟨?_, rfl⟩
    all_goals (rw [E.out]; first | rfl | exact ret2i (by omega))
  by_cases c1 : a < t
  · have c2 : 0 < t - a := by omega
    by_cases c3 : 0 < v
    · by_cases c4 : t - a ≤ 16 * v
      · have E := Lib.hid (show capB a v t = true from by unfold capB; simp; omega)
        have nz : (t - a == 0) = false := by rw [beq_eq_false_iff_ne]; omega
        clear c0
        go_enter Try.func17, Try.ntmps17
        go_wp2_with (first | (go_at_call 24; (first | refine (ref_alt_yes _ (by omega) (by omega) _).mono ?_ | refine (ref_alt_lo _ (by omega) _).mono ?_ | refine (ref_alt_hi _ (by omega) _).mono ?_); rintro e w' ⟨rfl, rfl⟩) | (go_at_call 27; (first | refine (ref_rate_yes _ (by omega) (by omega) _).mono ?_ | refine (ref_rate_lo _ (by omega) _).mono ?_ | refine (ref_rate_hi _ (by omega) _).mono ?_); rintro e w' ⟨rfl, rfl⟩))
        all_goals go_ret2
        all_goals refine ⟨?_, rfl⟩
        all_goals (rw [E.out]; first | rfl | exact ret2i (by omega))
      · have E := Lib.hid (show capB a v t = false from by unfold capB; simp; omega)
        have nz : (t - a == 0) = false := by rw [beq_eq_false_iff_ne]; omega
        clear c0
        have d1 : decide (t - a ≤ 16 * v) = false := decide_eq_false c4
        go_enter Try.func17, Try.ntmps17
        go_wp2_with (first | (go_at_call 24; (first | refine (ref_alt_yes _ (by omega) (by omega) _).mono ?_ | refine (ref_alt_lo _ (by omega) _).mono ?_ | refine (ref_alt_hi _ (by omega) _).mono ?_); rintro e w' ⟨rfl, rfl⟩) | (go_at_call 27; (first | refine (ref_rate_yes _ (by omega) (by omega) _).mono ?_ | refine (ref_rate_lo _ (by omega) _).mono ?_ | refine (ref_rate_hi _ (by omega) _).mono ?_); rintro e w' ⟨rfl, rfl⟩))
        all_goals go_ret2
        all_goals refine ⟨?_, rfl⟩
        all_goals (rw [E.out]; first | rfl | exact ret2i (by omega))
    · have E := Lib.hid (show capB a v t = false from by unfold capB; simp; omega)
      have nz : (t - a == 0) = false := by rw [beq_eq_false_iff_ne]; omega
      clear c0
      go_enter Try.func17, Try.ntmps17
      go_wp2_with (first | (go_at_call 24; (first | refine (ref_alt_yes _ (by omega) (by omega) _).mono ?_ | refine (ref_alt_lo _ (by omega) _).mono ?_ | refine (ref_alt_hi _ (by omega) _).mono ?_); rintro e w' ⟨rfl, rfl⟩) | (go_at_call 27; (first | refine (ref_rate_yes _ (by omega) (by omega) _).mono ?_ | refine (ref_rate_lo _ (by omega) _).mono ?_ | refine (ref_rate_hi _ (by omega) _).mono ?_); rintro e w' ⟨rfl, rfl⟩))
      all_goals go_ret2
      all_goals refine ⟨?_, rfl⟩
      all_goals (rw [E.out]; first | rfl | exact ret2i (by omega))
  · have c2 : t - a < 0 := by omega
    by_cases c3 : v < 0
    · have n2 : (-(t - a) == 0) = false := by rw [beq_eq_false_iff_ne]; omega
      by_cases c4 : -(t - a) ≤ 16 * -v
      · have E := Lib.hid (show capB a v t = true from by unfold capB; simp; omega)
        have nz : (t - a == 0) = false := by rw [beq_eq_false_iff_ne]; omega
        clear c0
        go_enter Try.func17, Try.ntmps17
        go_wp2_with (first | (go_at_call 24; (first | refine (ref_alt_yes _ (by omega) (by omega) _).mono ?_ | refine (ref_alt_lo _ (by omega) _).mono ?_ | refine (ref_alt_hi _ (by omega) _).mono ?_); rintro e w' ⟨rfl, rfl⟩) | (go_at_call 27; (first | refine (ref_rate_yes _ (by omega) (by omega) _).mono ?_ | refine (ref_rate_lo _ (by omega) _).mono ?_ | refine (ref_rate_hi _ (by omega) _).mono ?_); rintro e w' ⟨rfl, rfl⟩))
        all_goals go_ret2
        all_goals refine ⟨?_, rfl⟩
        all_goals (rw [E.out]; first | rfl | exact ret2i (by omega))
      · have E := Lib.hid (show capB a v t = false from by unfold capB; simp; omega)
        have nz : (t - a == 0) = false := by rw [beq_eq_false_iff_ne]; omega
        clear c0
        have d1 : decide (-(t - a) ≤ 16 * -v) = false := decide_eq_false c4
        go_enter Try.func17, Try.ntmps17
        go_wp2_with (first | (go_at_call 24; (first | refine (ref_alt_yes _ (by omega) (by omega) _).mono ?_ | refine (ref_alt_lo _ (by omega) _).mono ?_ | refine (ref_alt_hi _ (by omega) _).mono ?_); rintro e w' ⟨rfl, rfl⟩) | (go_at_call 27; (first | refine (ref_rate_yes _ (by omega) (by omega) _).mono ?_ | refine (ref_rate_lo _ (by omega) _).mono ?_ | refine (ref_rate_hi _ (by omega) _).mono ?_); rintro e w' ⟨rfl, rfl⟩))
        all_goals go_ret2
        all_goals refine ⟨?_, rfl⟩
        all_goals (rw [E.out]; first | rfl | exact ret2i (by omega))
    · have E := Lib.hid (show capB a v t = false from by unfold capB; simp; omega)
      have nz : (t - a == 0) = false := by rw [beq_eq_false_iff_ne]; omega
      clear c0
      have n2 : (-(t - a) == 0) = false := by rw [beq_eq_false_iff_ne]; omega
      go_enter Try.func17, Try.ntmps17
      go_wp2_with (first | (go_at_call 24; (first | refine (ref_alt_yes _ (by omega) (by omega) _).mono ?_ | refine (ref_alt_lo _ (by omega) _).mono ?_ | refine (ref_alt_hi _ (by omega) _).mono ?_); rintro e w' ⟨rfl, rfl⟩) | (go_at_call 27; (first | refine (ref_rate_yes _ (by omega) (by omega) _).mono ?_ | refine (ref_rate_lo _ (by omega) _).mono ?_ | refine (ref_rate_hi _ (by omega) _).mono ?_); rintro e w' ⟨rfl, rfl⟩))
      all_goals go_ret2
      all_goals refine ⟨?_, rfl⟩
      all_goals (rw [E.out]; first | rfl | exact ret2i (by omega))
theorem ref_cap_bad (a v t : Int) (a_0 : -9223372036854775808 ≤ a) (a_1 : a ≤ 9223372036854775807) (v_0 : -9223372036854775808 ≤ v) (v_1 : v ≤ 9223372036854775807) (t_0 : -9223372036854775808 ≤ t) (t_1 : t ≤ 9223372036854775807) (h : a < -200000 ∨ 6000000 < a ∨ t < -200000 ∨ 6000000 < t ∨ v < -10000 ∨ 10000 < v) (w : World) : Calls Try.prog 17 #[.int .i64 a, .int .i64 v, .int .i64 t] w fun e w' => e = .returned (.tuple #[.bool false, .int .i64 2]) ∧ w = w' := by
  by_cases c0 : a < -200000
  · clear h
    go_enter Try.func17, Try.ntmps17
    go_wp2_with (first | (go_at_call 24; (first | refine (ref_alt_yes _ (by omega) (by omega) _).mono ?_ | refine (ref_alt_lo _ (by omega) _).mono ?_ | refine (ref_alt_hi _ (by omega) _).mono ?_); rintro e w' ⟨rfl, rfl⟩) | (go_at_call 27; (first | refine (ref_rate_yes _ (by omega) (by omega) _).mono ?_ | refine (ref_rate_lo _ (by omega) _).mono ?_ | refine (ref_rate_hi _ (by omega) _).mono ?_); rintro e w' ⟨rfl, rfl⟩))
    go_ret2
    exact ⟨rfl, rfl⟩
  by_cases c1 : 6000000 < a
  · clear h
    go_enter Try.func17, Try.ntmps17
    go_wp2_with (first | (go_at_call 24; (first | refine (ref_alt_yes _ (by omega) (by omega) _).mono ?_ | refine (ref_alt_lo _ (by omega) _).mono ?_ | refine (ref_alt_hi _ (by omega) _).mono ?_); rintro e w' ⟨rfl, rfl⟩) | (go_at_call 27; (first | refine (ref_rate_yes _ (by omega) (by omega) _).mono ?_ | refine (ref_rate_lo _ (by omega) _).mono ?_ | refine (ref_rate_hi _ (by omega) _).mono ?_); rintro e w' ⟨rfl, rfl⟩))
    go_ret2
    exact ⟨rfl, rfl⟩
  by_cases c2 : t < -200000
  · clear h
    go_enter Try.func17, Try.ntmps17
    go_wp2_with (first | (go_at_call 24; (first | refine (ref_alt_yes _ (by omega) (by omega) _).mono ?_ | refine (ref_alt_lo _ (by omega) _).mono ?_ | refine (ref_alt_hi _ (by omega) _).mono ?_); rintro e w' ⟨rfl, rfl⟩) | (go_at_call 27; (first | refine (ref_rate_yes _ (by omega) (by omega) _).mono ?_ | refine (ref_rate_lo _ (by omega) _).mono ?_ | refine (ref_rate_hi _ (by omega) _).mono ?_); rintro e w' ⟨rfl, rfl⟩))
    go_ret2
    exact ⟨rfl, rfl⟩
  by_cases c3 : 6000000 < t
  · clear h
    go_enter Try.func17, Try.ntmps17
    go_wp2_with (first | (go_at_call 24; (first | refine (ref_alt_yes _ (by omega) (by omega) _).mono ?_ | refine (ref_alt_lo _ (by omega) _).mono ?_ | refine (ref_alt_hi _ (by omega) _).mono ?_); rintro e w' ⟨rfl, rfl⟩) | (go_at_call 27; (first | refine (ref_rate_yes _ (by omega) (by omega) _).mono ?_ | refine (ref_rate_lo _ (by omega) _).mono ?_ | refine (ref_rate_hi _ (by omega) _).mono ?_); rintro e w' ⟨rfl, rfl⟩))
    go_ret2
    exact ⟨rfl, rfl⟩
  by_cases c4 : v < -10000
  · clear h
    go_enter Try.func17, Try.ntmps17
    go_wp2_with (first | (go_at_call 24; (first | refine (ref_alt_yes _ (by omega) (by omega) _).mono ?_ | refine (ref_alt_lo _ (by omega) _).mono ?_ | refine (ref_alt_hi _ (by omega) _).mono ?_); rintro e w' ⟨rfl, rfl⟩) | (go_at_call 27; (first | refine (ref_rate_yes _ (by omega) (by omega) _).mono ?_ | refine (ref_rate_lo _ (by omega) _).mono ?_ | refine (ref_rate_hi _ (by omega) _).mono ?_); rintro e w' ⟨rfl, rfl⟩))
    go_ret2
    exact ⟨rfl, rfl⟩
  have c5 : 10000 < v := by omega
  clear h
  go_enter Try.func17, Try.ntmps17
  go_wp2_with (first | (go_at_call 24; (first | refine (ref_alt_yes _ (by omega) (by omega) _).mono ?_ | refine (ref_alt_lo _ (by omega) _).mono ?_ | refine (ref_alt_hi _ (by omega) _).mono ?_); rintro e w' ⟨rfl, rfl⟩) | (go_at_call 27; (first | refine (ref_rate_yes _ (by omega) (by omega) _).mono ?_ | refine (ref_rate_lo _ (by omega) _).mono ?_ | refine (ref_rate_hi _ (by omega) _).mono ?_); rintro e w' ⟨rfl, rfl⟩))
  go_ret2
  exact ⟨rfl, rfl⟩
end Go.Proofs.Yteibanlajbmgnaa
