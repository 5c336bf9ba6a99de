/-
  Own contracts: the laws of layer 5 on cycles.
-/
import Derived.Test.YtkmpbkojdkoghaaDoorCalf
import Derived.WalkKit
import Derived.ProofKit
import Derived.OpenShut
import Derived.WalkLawsBesides
import Derived.WalkSpells
import Derived.Lib.Hide
import Derived.Deep.DeepCutAuto
import Derived.Deep.CutBlock
import Derived.Deep.QuietTactic
import Derived.BigQuiet
import Derived.Handy
import Derived.StillTailTactics
import Derived.IntWalk
import Derived.LoopN
import Derived.Deep.RegionHeld3
namespace Go.Proofs.YtkmpbkojdkoghaaDoor
open Go.ChangeShapes Go.WideShapes Go.ChangeAt Go.RowKit
set_option linter.unusedVariables false
set_option linter.unusedSimpArgs false
def okN (n : Int) : Prop := (0 ≤ n ∧ n ≤ 9999) ∧ 0 ≤ kOf n ∧ kOf n ≤ 1303 ∧ numI (kOf n) = n
def er (n : Int) : Int := if n < 0 ∨ 9999 < n then 2 else 6
theorem pos_no (n : Int) (n_0 : -9223372036854775808 ≤ n) (n_1 : n ≤ 9223372036854775807) (h : Hid (¬ okN n)) (w : World) : Calls Tryd.prog 56 #[.int .i64 n] w fun e w' => e = .returned (.tuple #[.int .i64 0, .int .i64 (er n)]) ∧ w = w' := by
  by_cases o : n < 0 ∨ 9999 < n
  · rw [show er n = 2 from if_pos o]; exact pos_out n n_0 n_1 o w
  rw [show er n = 6 from if_neg o]
  have g : ¬ (0 ≤ kOf n ∧ kOf n ≤ 1303 ∧ numI (kOf n) = n) := fun g => h.out ⟨by omega, g⟩
  have b0 : 0 ≤ n := by omega
  have b1 : n ≤ 9999 := by omega
  by_cases lo : kOf n < 0
  · exact pos_lo n _ b0 b1 (Lib.hid rfl) lo w
  by_cases hi : 1303 < kOf n
  · exact pos_hi n _ b0 b1 (Lib.hid rfl) hi w
  exact pos_ne n _ b0 b1 (Lib.hid rfl) (by omega) (by omega) (Lib.hid fun e => g ⟨by omega, by omega, e⟩) w
theorem cd_no (n : Int) (n_0 : -9223372036854775808 ≤ n) (n_1 : n ≤ 9223372036854775807) (h : Hid (¬ okN n)) (w : World) : Calls Tryd.prog 37 #[.int .i64 n] w fun e w' => e = .returned (.tuple #[.int .i64 0, .int .i64 0, .int .i64 (er n)]) ∧ w = w' := by
  by_cases o : n < 0 ∨ 9999 < n
  · rw [show er n = 2 from if_pos o]; exact cd_out n 0 n_0 n_1 o w
  rw [show er n = 6 from if_neg o]
  have g : ¬ (0 ≤ kOf n ∧ kOf n ≤ 1303 ∧ numI (kOf n) = n) := fun g => h.out ⟨by omega, g⟩
  have b0 : 0 ≤ n := by omega
  have b1 : n ≤ 9999 := by omega
  by_cases lo : kOf n < 0
  · exact cd_lo n _ b0 b1 (Lib.hid rfl) lo w
  by_cases hi : 1303 < kOf n
  · exact cd_hi n _ b0 b1 (Lib.hid rfl) hi w
  exact cd_ne n _ b0 b1 (Lib.hid rfl) (by omega) (by omega) (Lib.hid fun e => g ⟨by omega, by omega, e⟩) w
theorem rcd_out (n : Int) (n_0 : -9223372036854775808 ≤ n) (n_1 : n ≤ 9223372036854775807) (h : n < 0 ∨ 9999 < n) (w : World) : Calls Tryd.prog 38 #[.int .i64 n] w fun e w' => e = .returned (.tuple #[.int .i64 0, .int .i64 0, .int .i64 2]) ∧ w = w' := by
  rcases h with h | h
  all_goals
    go_enter Tryd.func38, Tryd.ntmps38
    go_wp2
    exact bodyPost_ret (v := .tuple #[.int .i64 0, .int .i64 0, .int .i64 2]) (by simp [results, Tryd.results38, go_sem]) rfl ⟨rfl, rfl⟩
theorem rcd_no (n : Int) (n_0 : -9223372036854775808 ≤ n) (n_1 : n ≤ 9223372036854775807) (h : Hid (¬ okN n)) (w : World) : Calls Tryd.prog 38 #[.int .i64 n] w fun e w' => e = .returned (.tuple #[.int .i64 0, .int .i64 0, .int .i64 (er n)]) ∧ w = w' := by
  by_cases o : n < 0 ∨ 9999 < n
  · rw [show er n = 2 from if_pos o]; exact rcd_out n n_0 n_1 o w
  rw [show er n = 6 from if_neg o]
  have g : ¬ (0 ≤ kOf n ∧ kOf n ≤ 1303 ∧ numI (kOf n) = n) := fun g => h.out ⟨by omega, g⟩
  have b0 : 0 ≤ n := by omega
  have b1 : n ≤ 9999 := by omega
  have iff := num_iff n b0 b1
  have bk := kOf_bd n b0 b1
  by_cases z : n % 100 < 1
  · exact rcd_zero n _ b0 b1 (Lib.hid rfl) z w
  have k0 : 0 ≤ kOf n := by unfold kOf F28 nyI; omega
  by_cases hi : 1303 < kOf n
  · exact rcd_far n _ b0 b1 (Lib.hid rfl) (by omega) hi (by omega) w
  exact rcd_ne n _ b0 b1 (Lib.hid rfl) (by omega) k0 (by omega) (Lib.hid fun e => g (iff.1 ⟨by omega, by omega, e⟩)) w
theorem pos_yes (n k : Int) (h : Hid (okN n)) (hk : Hid (kOf n = k)) (w : World) : Calls Tryd.prog 56 #[.int .i64 n] w fun e w' => e = .returned (.tuple #[.int .i64 k, .int .i64 0]) ∧ w = w' := by
  obtain ⟨⟨b0, b1⟩, k0, k1, hn⟩ := h.out
  have hk' := hk
  rw [hk.out] at k0 k1 hn
  exact pos_ok n k b0 b1 hk' k0 k1 (Lib.hid hn) w
theorem cd_yes (n k : Int) (h : Hid (okN n)) (hk : Hid (kOf n = k)) (w : World) : Calls Tryd.prog 37 #[.int .i64 n] w fun e w' => e = .returned (.tuple #[.int .i64 (26 + 28 * k), .int .i64 (26 + 28 * k + 28), .int .i64 0]) ∧ w = w' := by
  obtain ⟨⟨b0, b1⟩, k0, k1, hn⟩ := h.out
  have hk' := hk
  rw [hk.out] at k0 k1 hn
  have t := cd_ok n k b0 b1 hk' k0 k1 (Lib.hid hn) w
  rwa [show 26 + 28 * (k + 1) = 26 + 28 * k + 28 from by omega] at t
theorem rcd_yes (n k : Int) (h : Hid (okN n)) (hk : Hid (kOf n = k)) (w : World) : Calls Tryd.prog 38 #[.int .i64 n] w fun e w' => e = .returned (.tuple #[.int .i64 (26 + 28 * k), .int .i64 (26 + 28 * k + 28), .int .i64 0]) ∧ w = w' := by
  obtain ⟨⟨b0, b1⟩, k0, k1, hn⟩ := h.out
  have hk' := hk
  rw [hk.out] at k0 k1 hn
  have iff := (num_iff n b0 b1).2 (by rw [hk'.out]; exact ⟨k0, k1, hn⟩)
  rw [hk'.out] at iff
  exact rcd_ok n k b0 b1 hk' iff.1 k0 k1 (Lib.hid iff.2.2) w
theorem okN_num (k : Int) (k0 : 0 ≤ k) (k1 : k ≤ 1303) : okN (numI k) ∧ kOf (numI k) = k := by
  obtain ⟨a, b, c⟩ := kOf_num k k0 k1
  exact ⟨⟨⟨a, b⟩, by rw [c]; exact k0, by rw [c]; exact k1, by rw [c]⟩, c⟩
theorem later_no (n k m : Int) (n_0 : -9223372036854775808 ≤ n) (n_1 : n ≤ 9223372036854775807) (m_0 : -9223372036854775808 ≤ m) (m_1 : m ≤ 9223372036854775807) (h : Hid (¬ okN n)) (w : World) : Calls Tryd.prog 43 #[.int .i64 n, .int .i64 m] w fun e w' => e = .returned (.tuple #[.int .i64 0, .int .i64 (er n)]) ∧ w = w' := by
  have ne : (er n != 0) = true := by unfold er; split <;> rfl
  obtain ⟨E, hE⟩ : ∃ E, er n = E := ⟨_, rfl⟩
  rw [hE] at ne ⊢
  go_enter Tryd.func43, Tryd.ntmps43
  go_wp2_with (first | (go_at_call 56; refine (pos_no _ (by omega) (by omega) h _).mono ?_; rintro e w' ⟨rfl, rfl⟩))
  all_goals go_ret2
  all_goals exact ⟨rfl, rfl⟩
theorem later_rng (n k m : Int) (h : Hid (okN n)) (hk : Hid (kOf n = k)) (m_0 : -9223372036854775808 ≤ m) (m_1 : m ≤ 9223372036854775807) (k0 : 0 ≤ k) (k1 : k ≤ 1303) (r : m < -k ∨ 1303 - k < m) (w : World) : Calls Tryd.prog 43 #[.int .i64 n, .int .i64 m] w fun e w' => e = .returned (.tuple #[.int .i64 0, .int .i64 2]) ∧ w = w' := by
  rcases r with r | r
  all_goals
    go_enter Tryd.func43, Tryd.ntmps43
    go_wp2_with (first | (go_at_call 56; refine (pos_yes _ _ h hk _).mono ?_; rintro e w' ⟨rfl, rfl⟩))
    all_goals go_ret2
    all_goals exact ⟨rfl, rfl⟩
theorem later_ok (n k m : Int) (h : Hid (okN n)) (hk : Hid (kOf n = k)) (k0 : 0 ≤ k) (k1 : k ≤ 1303) (r0 : -k ≤ m) (r1 : m ≤ 1303 - k) (w : World) : Calls Tryd.prog 43 #[.int .i64 n, .int .i64 m] w fun e w' => e = .returned (.tuple #[.int .i64 (numI (k + m)), .int .i64 0]) ∧ w = w' := by
  go_enter Tryd.func43, Tryd.ntmps43
  go_wp2_with (first | (go_at_call 56; refine (pos_yes _ _ h hk _).mono ?_; rintro e w' ⟨rfl, rfl⟩) | (go_at_call 54; refine (numberof_w _ (by omega) (by omega) _).mono ?_; rintro e w' ⟨rfl, rfl⟩))
  all_goals go_ret2
  all_goals exact ⟨rfl, rfl⟩
theorem rlater_no (n k m : Int) (n_0 : -9223372036854775808 ≤ n) (n_1 : n ≤ 9223372036854775807) (m_0 : -9223372036854775808 ≤ m) (m_1 : m ≤ 9223372036854775807) (h : Hid (¬ okN n)) (w : World) : Calls Tryd.prog 44 #[.int .i64 n, .int .i64 m] w fun e w' => e = .returned (.tuple #[.int .i64 0, .int .i64 (er n)]) ∧ w = w' := by
  have ne : (er n != 0) = true := by unfold er; split <;> rfl
  obtain ⟨E, hE⟩ : ∃ E, er n = E := ⟨_, rfl⟩
  rw [hE] at ne ⊢
  go_enter Tryd.func44, Tryd.ntmps44
  go_wp2_with (first | (go_at_call 38; refine (rcd_no _ (by omega) (by omega) h _).mono ?_; rintro e w' ⟨rfl, rfl⟩))
  all_goals go_ret2
  all_goals exact ⟨rfl, rfl⟩
theorem rlater_rng (n k m : Int) (h : Hid (okN n)) (hk : Hid (kOf n = k)) (m_0 : -9223372036854775808 ≤ m) (m_1 : m ≤ 9223372036854775807) (k0 : 0 ≤ k) (k1 : k ≤ 1303) (r : m < -k ∨ 1303 - k < m) (w : World) : Calls Tryd.prog 44 #[.int .i64 n, .int .i64 m] w fun e w' => e = .returned (.tuple #[.int .i64 0, .int .i64 2]) ∧ w = w' := by
  by_cases c0 : m < -2000
  · clear r
    go_enter Tryd.func44, Tryd.ntmps44
    go_wp2_with (first | (go_at_call 38; refine (rcd_yes _ _ h hk _).mono ?_; rintro e w' ⟨rfl, rfl⟩))
    all_goals go_ret2
    all_goals exact ⟨rfl, rfl⟩
  by_cases c1 : 2000 < m
  · clear r
    go_enter Tryd.func44, Tryd.ntmps44
    go_wp2_with (first | (go_at_call 38; refine (rcd_yes _ _ h hk _).mono ?_; rintro e w' ⟨rfl, rfl⟩))
    all_goals go_ret2
    all_goals exact ⟨rfl, rfl⟩
  by_cases c2 : 26 + 28 * k + 28 * m < 26
  · clear r
    go_enter Tryd.func44, Tryd.ntmps44
    go_wp2_with (first | (go_at_call 38; refine (rcd_yes _ _ h hk _).mono ?_; rintro e w' ⟨rfl, rfl⟩))
    all_goals go_ret2
    all_goals exact ⟨rfl, rfl⟩
  have c3 : 36524 < 26 + 28 * k + 28 * m := by omega
  clear r
  go_enter Tryd.func44, Tryd.ntmps44
  go_wp2_with (first | (go_at_call 38; refine (rcd_yes _ _ h hk _).mono ?_; rintro e w' ⟨rfl, rfl⟩))
  all_goals go_ret2
  all_goals exact ⟨rfl, rfl⟩
theorem rlater_ok (n k m : Int) (h : Hid (okN n)) (hk : Hid (kOf n = k)) (k0 : 0 ≤ k) (k1 : k ≤ 1303) (r0 : -k ≤ m) (r1 : m ≤ 1303 - k) (w : World) : Calls Tryd.prog 44 #[.int .i64 n, .int .i64 m] w fun e w' => e = .returned (.tuple #[.int .i64 (numI (k + m)), .int .i64 0]) ∧ w = w' := by
  have e1 : 26 + 28 * k + 28 * m = 26 + 28 * (k + m) := by omega
  go_enter Tryd.func44, Tryd.ntmps44
  go_wp2_with (first | (go_at_call 38; refine (rcd_yes _ _ h hk _).mono ?_; rintro e w' ⟨rfl, rfl⟩) | (go_at_call 55; refine (rnum_w _ (by omega) (by omega) _).mono ?_; rintro e w' ⟨rfl, rfl⟩))
  all_goals go_ret2
  all_goals exact ⟨rfl, rfl⟩
theorem cyc_at (day k : Int) (h0 : 0 ≤ k) (h1 : k ≤ 1303) (d0 : 26 + 28 * k ≤ day) (d1 : day < 26 + 28 * k + 28) (d2 : day ≤ 36524) (w : World) : Calls Tryd.prog 35 #[.int .i64 day] w fun e w' => e = .returned (.tuple #[.int .i64 (numI k), .int .i64 (26 + 28 * k), .int .i64 (26 + 28 * k + 28), .int .i64 0]) ∧ w = w' := by
  have t := cycle_yes day (by omega) d2 w
  rwa [show (day - 26) / 28 = k from by omega] at t
set_option maxHeartbeats 2000000 in
theorem law_cycles (day : Int) (day_0 : -9223372036854775808 ≤ day) (day_1 : day ≤ 9223372036854775807) (w : World) (ht : Hid (Tab w)) : Calls Tryd.prog 11 #[.int .i64 day] w fun e w' => e = .returned (.bool true) ∧ w = w' := by
  by_cases out : day < 26 ∨ 36524 < day
  · obtain ⟨k, hk⟩ : ∃ k : Int, k = 0 := ⟨_, rfl⟩
    go_enter Tryd.func11, Tryd.ntmps11
    go_wp2_with (first | (go_at_call 14; refine (awake_w  _ ht).mono ?_; rintro e w' ⟨rfl, rfl⟩) | (go_at_call 35; (first | refine (cyc_at _ k (by omega) (by omega) (by omega) (by omega) (by omega) _).mono ?_ | refine (cycle_no _ (by omega) (by omega) (by omega) _).mono ?_); rintro e w' ⟨rfl, rfl⟩) | (go_at_call 36; (first | refine (rcycle_yes _ k (by omega) (by omega) (by omega) (by omega) (by omega) _).mono ?_ | refine (rcycle_no _ (by omega) (by omega) (by omega) _).mono ?_); rintro e w' ⟨rfl, rfl⟩))
    all_goals go_ret
    all_goals exact ⟨rfl, rfl⟩
  obtain ⟨k, hk0⟩ : ∃ k, (day - 26) / 28 = k := ⟨_, rfl⟩
  have k0 : 0 ≤ k := by omega
  have k1 : k ≤ 1303 := by omega
  have d0 : 26 + 28 * k ≤ day := by omega
  have d1 : day < 26 + 28 * k + 28 := by omega
  have d2 : day ≤ 36524 := by omega
  obtain ⟨o, ko⟩ := okN_num k k0 k1
  clear hk0 out
  obtain ⟨n, hn⟩ : ∃ n, numI k = n := ⟨_, rfl⟩
  rw [hn] at o ko
  have h := Lib.hid o
  have hk := Lib.hid ko
  clear o ko
  have e1 : 26 + 28 * k + 28 - (26 + 28 * k) = 28 := by omega
  go_enter Tryd.func11, Tryd.ntmps11
  go_wp2_with (first | (go_at_call 14; refine (awake_w  _ ht).mono ?_; rintro e w' ⟨rfl, rfl⟩) | (go_at_call 35; (first | refine (cyc_at _ k (by omega) (by omega) (by omega) (by omega) (by omega) _).mono ?_ | refine (cycle_no _ (by omega) (by omega) (by omega) _).mono ?_); rintro e w' ⟨rfl, rfl⟩) | (go_at_call 36; (first | refine (rcycle_yes _ k (by omega) (by omega) (by omega) (by omega) (by omega) _).mono ?_ | refine (rcycle_no _ (by omega) (by omega) (by omega) _).mono ?_); rintro e w' ⟨rfl, rfl⟩) | (go_at_call 37; (with_reducible refine (cd_yes _ _ h hk _).mono ?_); rintro e w' ⟨rfl, rfl⟩))
  all_goals go_ret
  all_goals refine ⟨?_, rfl⟩
  all_goals first | rfl | (show Ending.returned (.bool (decide _)) = _; rw [decide_eq_true (by omega)]) | (show Ending.returned (.bool (decide _)) = _; rw [decide_eq_false (by omega)])
theorem back_ok (x k m n : Int) (h : Hid (okN x)) (hk : Hid (kOf x = k)) (k0 : 0 ≤ k) (k1 : k ≤ 1303) (r0 : -k ≤ m) (r1 : m ≤ 1303 - k) (hb : Hid (numI (k + m) = n)) (w : World) : Calls Tryd.prog 43 #[.int .i64 x, .int .i64 m] w fun e w' => e = .returned (.tuple #[.int .i64 n, .int .i64 0]) ∧ w = w' := by
  have t := later_ok x k m h hk k0 k1 r0 r1 w
  rwa [hb.out] at t
set_option maxHeartbeats 2000000 in
theorem law_later (n m : Int) (n_0 : -9223372036854775808 ≤ n) (n_1 : n ≤ 9223372036854775807) (m_0 : -9223372036854775808 ≤ m) (m_1 : m ≤ 9223372036854775807) (w : World) (ht : Hid (Tab w)) : Calls Tryd.prog 13 #[.int .i64 n, .int .i64 m] w fun e w' => e = .returned (.bool true) ∧ w = w' := by
  by_cases ok : okN n
  · have h := Lib.hid ok
    obtain ⟨⟨b0, b1⟩, k0, k1, hn⟩ := ok
    obtain ⟨k, hk0⟩ : ∃ k, kOf n = k := ⟨_, rfl⟩
    rw [hk0] at k0 k1 hn
    have hk := Lib.hid hk0
    clear hk0
    by_cases r : m < -k ∨ 1303 - k < m
    · clear hn
      go_enter Tryd.func13, Tryd.ntmps13
      go_wp2_with (first | (go_at_call 14; refine (awake_w  _ ht).mono ?_; rintro e w' ⟨rfl, rfl⟩) | (go_at_call 43; (first | (with_reducible refine (later_rng _ k _ h hk (by omega) (by omega) (by omega) (by omega) (by omega) _).mono ?_)); rintro e w' ⟨rfl, rfl⟩) | (go_at_call 44; (first | (with_reducible refine (rlater_rng _ k _ h hk (by omega) (by omega) (by omega) (by omega) (by omega) _).mono ?_)); rintro e w' ⟨rfl, rfl⟩))
      all_goals go_ret
      all_goals refine ⟨?_, rfl⟩
      all_goals first | rfl | (show Ending.returned (.bool (decide _)) = _; rw [decide_eq_true (by omega)]) | (show Ending.returned (.bool (decide _)) = _; rw [decide_eq_false (by omega)])
    have r0 : -k ≤ m := by omega
    have r1 : m ≤ 1303 - k := by omega
    clear r
    obtain ⟨o2, ko2⟩ := okN_num (k + m) (by omega) (by omega)
    obtain ⟨x, hx⟩ : ∃ x, numI (k + m) = x := ⟨_, rfl⟩
    rw [hx] at o2 ko2
    have h2 := Lib.hid o2
    have hk2 := Lib.hid ko2
    clear o2 ko2
    have back := Lib.hid (show numI (k + m + -m) = n from by rw [show k + m + -m = k from by omega]; exact hn)
    have e1 : 26 + 28 * (k + m) - (26 + 28 * k) = 28 * m := by omega
    clear hn
    go_enter Tryd.func13, Tryd.ntmps13
    go_wp2_with (first | (go_at_call 14; refine (awake_w  _ ht).mono ?_; rintro e w' ⟨rfl, rfl⟩) | (go_at_call 43; (first | (with_reducible refine (later_ok _ k _ h hk (by omega) (by omega) (by omega) (by omega) _).mono ?_) | (with_reducible refine (back_ok _ (k + m) _ n h2 hk2 (by omega) (by omega) (by omega) (by omega) back _).mono ?_)); rintro e w' ⟨rfl, rfl⟩) | (go_at_call 44; (first | (with_reducible refine (rlater_ok _ k _ h hk (by omega) (by omega) (by omega) (by omega) _).mono ?_)); rintro e w' ⟨rfl, rfl⟩) | (go_at_call 37; (first | (with_reducible refine (cd_yes n k h hk _).mono ?_) | (with_reducible refine (cd_yes x (k + m) h2 hk2 _).mono ?_)); rintro e w' ⟨rfl, rfl⟩))
    all_goals go_ret
    all_goals refine ⟨?_, rfl⟩
    all_goals first | rfl | (show Ending.returned (.bool (decide _)) = _; rw [decide_eq_true (by omega)]) | (show Ending.returned (.bool (decide _)) = _; rw [decide_eq_false (by omega)])
  · have h := Lib.hid ok
    clear ok
    have ne : (er n != 0) = true := by unfold er; split <;> rfl
    obtain ⟨E, hE⟩ : ∃ E, er n = E := ⟨_, rfl⟩
    rw [hE] at ne
    go_enter Tryd.func13, Tryd.ntmps13
    go_wp2_with (first | (go_at_call 14; refine (awake_w  _ ht).mono ?_; rintro e w' ⟨rfl, rfl⟩) | (go_at_call 43; (first | (with_reducible refine (later_no _ 0 _ (by omega) (by omega) (by omega) (by omega) h _).mono ?_)); rintro e w' ⟨rfl, rfl⟩) | (go_at_call 44; (first | (with_reducible refine (rlater_no _ 0 _ (by omega) (by omega) (by omega) (by omega) h _).mono ?_)); rintro e w' ⟨rfl, rfl⟩))
    all_goals go_ret
    all_goals refine ⟨?_, rfl⟩
    all_goals first | rfl | (show Ending.returned (.bool (decide _)) = _; rw [decide_eq_true (by omega)]) | (show Ending.returned (.bool (decide _)) = _; rw [decide_eq_false (by omega)])
end Go.Proofs.YtkmpbkojdkoghaaDoor
