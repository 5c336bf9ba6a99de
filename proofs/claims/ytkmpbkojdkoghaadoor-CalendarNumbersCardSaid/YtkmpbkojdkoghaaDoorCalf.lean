/-
  Own contracts: the document's numbers of cycles, and the laws of layer 5 on cycles.
-/
import Derived.Test.YtkmpbkojdkoghaaDoorCale
import Derived.WalkKit
import Derived.ProofKit
import Derived.OpenShut
import Derived.WalkLawsBesides
import Derived.WalkSpells
import Derived.Lib.Hide
import Derived.Deep.DeepCutAuto
import Derived.Deep.CutBlock
import Derived.Deep.QuietTactic
import Derived.BigQuiet
import Derived.Handy
import Derived.StillTailTactics
import Derived.IntWalk
import Derived.LoopN
import Derived.Deep.RegionHeld3
namespace Go.Proofs.YtkmpbkojdkoghaaDoor
open Go.ChangeShapes Go.WideShapes Go.ChangeAt Go.RowKit
set_option linter.unusedVariables false
set_option linter.unusedSimpArgs false
set_option maxHeartbeats 1000000 in
theorem rnum_w (k : Int) (h0 : 0 ≤ k) (h1 : k ≤ 1303) (w : World) : Calls Tryd.prog 55 #[.int .i64 (26 + 28 * k)] w fun e w' => e = .returned (.int .i64 (numI k)) ∧ w = w' := by
  obtain ⟨Y, hY, y0, y1, y2, y3, f0, f1, f2, hn⟩ := pos_facts k h0 h1
  obtain ⟨y, m, d, D0, yy⟩ := date_at (26 + 28 * k) (by omega) (by omega)
  rw [hY] at yy
  subst yy
  have D := Lib.hid D0
  obtain ⟨d1, d2, d3, d4, d5, d6, d7, d8, d9⟩ := date_facts D0
  clear D0 d1 d2 d9
  have nb : 0 ≤ nyI y ∧ nyI y ≤ 40000 := by unfold nyI; omega
  have fF : 28 * F28 y ≤ nyI y + 1 ∧ nyI y + 1 ≤ 28 * F28 y + 27 := by unfold F28; omega
  have E := Lib.hid (show numI k = (y - 2000) * 100 + (1 + (k - F28 y)) from by rw [hn]; omega)
  clear hn hY y3
  obtain ⟨F, hF⟩ : ∃ F, F28 y = F := ⟨_, rfl⟩
  rw [hF] at E fF f0 f1 f2
  clear hF
  obtain ⟨N, hN⟩ : ∃ N, nyI y = N := ⟨_, rfl⟩
  rw [hN] at nb fF y2
  go_enter Tryd.func55, Tryd.ntmps55
  go_wp2_with (go_at_call 49; refine (rdate_is _ _ _ _ D _).mono ?_; rintro e w' ⟨rfl, rfl⟩)
  go_loop [7, 8] (fun n x => ∃ j : Int, 0 ≤ j ∧ j ≤ k - F ∧ n = .int .i64 (1 + j) ∧ x = .int .i64 (26 + 28 * k - 28 - 28 * j)) (fun n _ => (k + 2 - intOf n).toNat)
  case atStart => exact ⟨0, by omega, by omega, rfl, by congr 1; omega⟩
  case round =>
    obtain ⟨j, hj0, hj1, rfl, rfl⟩ := hrel
    by_cases c : j < k - F
    · have c1 : 26 ≤ 26 + 28 * k - 28 - 28 * j := by omega
      have c2 : N ≤ 26 + 28 * k - 28 - 28 * j := by omega
      go_wp2_with (go_at_call 46; refine (before1_w _ (by omega) (by omega) _).mono ?_; rintro e w' ⟨rfl, rfl⟩)
      go_round
      case rel => exact ⟨j + 1, by omega, by omega, by congr 1; omega, by congr 1; omega⟩
      case measure => simp [intOf]; omega
    · by_cases c1 : 26 ≤ 26 + 28 * k - 28 - 28 * j
      · have c2 : 26 + 28 * k - 28 - 28 * j < N := by omega
        go_wp2_with (go_at_call 46; refine (before1_w _ (by omega) (by omega) _).mono ?_; rintro e w' ⟨rfl, rfl⟩)
        go_ret
        refine ⟨?_, rfl⟩
        rw [E.out, show k - F = j from by omega]; rfl
      · go_wp2_with (go_at_call 46; refine (before1_w _ (by omega) (by omega) _).mono ?_; rintro e w' ⟨rfl, rfl⟩)
        go_ret
        refine ⟨?_, rfl⟩
        rw [E.out, show k - F = j from by omega]; rfl
theorem rnum_at (x k : Int) (hx : x = 26 + 28 * k) (h0 : 0 ≤ k) (h1 : k ≤ 1303) (w : World) : Calls Tryd.prog 55 #[.int .i64 x] w fun e w' => e = .returned (.int .i64 (numI k)) ∧ w = w' := by
  subst hx; exact rnum_w k h0 h1 w
theorem rcycle_yes (day k : Int) (h0 : 0 ≤ k) (h1 : k ≤ 1303) (d0 : 26 + 28 * k ≤ day) (d1 : day < 26 + 28 * k + 28) (d2 : day ≤ 36524) (w : World) : Calls Tryd.prog 36 #[.int .i64 day] w fun e w' => e = .returned (.tuple #[.int .i64 (numI k), .int .i64 (26 + 28 * k), .int .i64 (26 + 28 * k + 28), .int .i64 0]) ∧ w = w' := by
  have e1 : day - (day - 26) % 28 = 26 + 28 * k := by omega
  have c1 : 26 ≤ day := by omega
  go_enter Tryd.func36, Tryd.ntmps36
  go_wp2_with (go_at_call 55; refine (rnum_w _ (by omega) (by omega) _).mono ?_; rintro e w' ⟨rfl, rfl⟩)
  exact bodyPost_ret (v := .tuple #[.int .i64 (numI k), .int .i64 (26 + 28 * k), .int .i64 (26 + 28 * k + 28), .int .i64 0]) (by simp [results, Tryd.results36, go_sem]) rfl ⟨rfl, rfl⟩
theorem rcycle_no (day : Int) (day_0 : -9223372036854775808 ≤ day) (day_1 : day ≤ 9223372036854775807) (h : day < 26 ∨ 36524 < day) (w : World) : Calls Tryd.prog 36 #[.int .i64 day] w fun e w' => e = .returned (.tuple #[.int .i64 0, .int .i64 0, .int .i64 0, .int .i64 2]) ∧ w = w' := by
  rcases h with h | h
  all_goals
    go_enter Tryd.func36, Tryd.ntmps36
    go_wp2
    exact bodyPost_ret (v := .tuple #[.int .i64 0, .int .i64 0, .int .i64 0, .int .i64 2]) (by simp [results, Tryd.results36, go_sem]) rfl ⟨rfl, rfl⟩
theorem cd_ok (n k : Int) (h0 : 0 ≤ n) (h1 : n ≤ 9999) (hk : Hid (kOf n = k)) (k0 : 0 ≤ k) (k1 : k ≤ 1303) (hn : Hid (numI k = n)) (w : World) : Calls Tryd.prog 37 #[.int .i64 n] w fun e w' => e = .returned (.tuple #[.int .i64 (26 + 28 * k), .int .i64 (26 + 28 * (k + 1)), .int .i64 0]) ∧ w = w' := by
  go_enter Tryd.func37, Tryd.ntmps37
  go_wp2_with (first | (go_at_call 56; (first | refine (pos_out _ (by omega) (by omega) (by omega) _).mono ?_ | refine (pos_ok _ _ (by omega) (by omega) hk (by omega) (by omega) hn _).mono ?_ | refine (pos_lo _ _ (by omega) (by omega) hk (by omega) _).mono ?_ | refine (pos_hi _ _ (by omega) (by omega) hk (by omega) _).mono ?_ | refine (pos_ne _ _ (by omega) (by omega) hk (by omega) (by omega) hne _).mono ?_); rintro e w' ⟨rfl, rfl⟩) | (go_at_call 53; refine (firstday_w _ (by omega) (by omega) _).mono ?_; rintro e w' ⟨rfl, rfl⟩))
  all_goals exact bodyPost_ret (v := .tuple #[.int .i64 (26 + 28 * k), .int .i64 (26 + 28 * (k + 1)), .int .i64 0]) (by simp [results, Tryd.results37, go_sem]) rfl ⟨rfl, rfl⟩
theorem cd_lo (n k : Int) (h0 : 0 ≤ n) (h1 : n ≤ 9999) (hk : Hid (kOf n = k)) (k0 : k < 0) (w : World) : Calls Tryd.prog 37 #[.int .i64 n] w fun e w' => e = .returned (.tuple #[.int .i64 0, .int .i64 0, .int .i64 6]) ∧ w = w' := by
  go_enter Tryd.func37, Tryd.ntmps37
  go_wp2_with (first | (go_at_call 56; (first | refine (pos_out _ (by omega) (by omega) (by omega) _).mono ?_ | refine (pos_ok _ _ (by omega) (by omega) hk (by omega) (by omega) hn _).mono ?_ | refine (pos_lo _ _ (by omega) (by omega) hk (by omega) _).mono ?_ | refine (pos_hi _ _ (by omega) (by omega) hk (by omega) _).mono ?_ | refine (pos_ne _ _ (by omega) (by omega) hk (by omega) (by omega) hne _).mono ?_); rintro e w' ⟨rfl, rfl⟩) | (go_at_call 53; refine (firstday_w _ (by omega) (by omega) _).mono ?_; rintro e w' ⟨rfl, rfl⟩))
  all_goals exact bodyPost_ret (v := .tuple #[.int .i64 0, .int .i64 0, .int .i64 6]) (by simp [results, Tryd.results37, go_sem]) rfl ⟨rfl, rfl⟩
theorem cd_hi (n k : Int) (h0 : 0 ≤ n) (h1 : n ≤ 9999) (hk : Hid (kOf n = k)) (k0 : 1303 < k) (w : World) : Calls Tryd.prog 37 #[.int .i64 n] w fun e w' => e = .returned (.tuple #[.int .i64 0, .int .i64 0, .int .i64 6]) ∧ w = w' := by
  go_enter Tryd.func37, Tryd.ntmps37
  go_wp2_with (first | (go_at_call 56; (first | refine (pos_out _ (by omega) (by omega) (by omega) _).mono ?_ | refine (pos_ok _ _ (by omega) (by omega) hk (by omega) (by omega) hn _).mono ?_ | refine (pos_lo _ _ (by omega) (by omega) hk (by omega) _).mono ?_ | refine (pos_hi _ _ (by omega) (by omega) hk (by omega) _).mono ?_ | refine (pos_ne _ _ (by omega) (by omega) hk (by omega) (by omega) hne _).mono ?_); rintro e w' ⟨rfl, rfl⟩) | (go_at_call 53; refine (firstday_w _ (by omega) (by omega) _).mono ?_; rintro e w' ⟨rfl, rfl⟩))
  all_goals exact bodyPost_ret (v := .tuple #[.int .i64 0, .int .i64 0, .int .i64 6]) (by simp [results, Tryd.results37, go_sem]) rfl ⟨rfl, rfl⟩
theorem cd_ne (n k : Int) (h0 : 0 ≤ n) (h1 : n ≤ 9999) (hk : Hid (kOf n = k)) (k0 : 0 ≤ k) (k1 : k ≤ 1303) (hne : Hid (numI k ≠ n)) (w : World) : Calls Tryd.prog 37 #[.int .i64 n] w fun e w' => e = .returned (.tuple #[.int .i64 0, .int .i64 0, .int .i64 6]) ∧ w = w' := by
  go_enter Tryd.func37, Tryd.ntmps37
  go_wp2_with (first | (go_at_call 56; (first | refine (pos_out _ (by omega) (by omega) (by omega) _).mono ?_ | refine (pos_ok _ _ (by omega) (by omega) hk (by omega) (by omega) hn _).mono ?_ | refine (pos_lo _ _ (by omega) (by omega) hk (by omega) _).mono ?_ | refine (pos_hi _ _ (by omega) (by omega) hk (by omega) _).mono ?_ | refine (pos_ne _ _ (by omega) (by omega) hk (by omega) (by omega) hne _).mono ?_); rintro e w' ⟨rfl, rfl⟩) | (go_at_call 53; refine (firstday_w _ (by omega) (by omega) _).mono ?_; rintro e w' ⟨rfl, rfl⟩))
  all_goals exact bodyPost_ret (v := .tuple #[.int .i64 0, .int .i64 0, .int .i64 6]) (by simp [results, Tryd.results37, go_sem]) rfl ⟨rfl, rfl⟩
theorem cd_out (n k : Int) (n_0 : -9223372036854775808 ≤ n) (n_1 : n ≤ 9223372036854775807) (h : n < 0 ∨ 9999 < n) (w : World) : Calls Tryd.prog 37 #[.int .i64 n] w fun e w' => e = .returned (.tuple #[.int .i64 0, .int .i64 0, .int .i64 2]) ∧ w = w' := by
  go_enter Tryd.func37, Tryd.ntmps37
  go_wp2_with (first | (go_at_call 56; (first | refine (pos_out _ (by omega) (by omega) (by omega) _).mono ?_ | refine (pos_ok _ _ (by omega) (by omega) hk (by omega) (by omega) hn _).mono ?_ | refine (pos_lo _ _ (by omega) (by omega) hk (by omega) _).mono ?_ | refine (pos_hi _ _ (by omega) (by omega) hk (by omega) _).mono ?_ | refine (pos_ne _ _ (by omega) (by omega) hk (by omega) (by omega) hne _).mono ?_); rintro e w' ⟨rfl, rfl⟩) | (go_at_call 53; refine (firstday_w _ (by omega) (by omega) _).mono ?_; rintro e w' ⟨rfl, rfl⟩))
  all_goals exact bodyPost_ret (v := .tuple #[.int .i64 0, .int .i64 0, .int .i64 2]) (by simp [results, Tryd.results37, go_sem]) rfl ⟨rfl, rfl⟩
set_option maxHeartbeats 1000000 in
theorem rcd_zero (n k : Int) (h0 : 0 ≤ n) (h1 : n ≤ 9999) (hk : Hid (kOf n = k)) (z : n % 100 < 1) (w : World) : Calls Tryd.prog 38 #[.int .i64 n] w fun e w' => e = .returned (.tuple #[.int .i64 0, .int .i64 0, .int .i64 6]) ∧ w = w' := by
  have nb : 0 ≤ nyI (2000 + n / 100) ∧ nyI (2000 + n / 100) ≤ 40000 := by unfold nyI; omega
  have q0 : 0 ≤ n / 100 ∧ n / 100 ≤ 99 := by omega
  have r0 : 0 ≤ n % 100 ∧ n % 100 ≤ 99 := by omega
  have fF : 0 ≤ F28 (2000 + n / 100) ∧ 28 * F28 (2000 + n / 100) ≤ nyI (2000 + n / 100) + 1 ∧ nyI (2000 + n / 100) + 1 ≤ 28 * F28 (2000 + n / 100) + 27 := by unfold F28; omega
  have ek : F28 (2000 + n / 100) + n % 100 - 1 = k := hk.out
  obtain ⟨F, hF⟩ : ∃ F, F28 (2000 + n / 100) = F := ⟨_, rfl⟩
  rw [hF] at fF ek
  clear hF hk
  obtain ⟨y, hy⟩ : ∃ y, 2000 + n / 100 = y := ⟨_, rfl⟩
  rw [hy] at nb fF
  obtain ⟨r, hr⟩ : ∃ r, n % 100 = r := ⟨_, rfl⟩
  rw [hr] at ek r0
  obtain ⟨N, hN⟩ : ∃ N, nyI y = N := ⟨_, rfl⟩
  rw [hN] at nb fF
  have yb : 2000 ≤ y ∧ y ≤ 2099 := by omega
  go_enter Tryd.func38, Tryd.ntmps38
  go_wp2_with (go_at_call 46; refine (before1_w _ (by omega) (by omega) _).mono ?_; rintro e w' ⟨rfl, rfl⟩)
  go_loop [7] (fun x => ∃ j : Int, 0 ≤ j ∧ j ≤ F ∧ x = .int .i64 (26 + 28 * j)) (fun x => (40100 - intOf x).toNat)
  case atStart => exact ⟨0, by omega, by omega, rfl⟩
  case round =>
  obtain ⟨j, hj0, hj1, rfl⟩ := hrel
  by_cases c : j < F
  · have c1 : 26 + 28 * j < N := by omega
    go_wp2_with fail
    go_round
    case rel => exact ⟨j + 1, by omega, by omega, by congr 1; omega⟩
    case measure => simp [intOf]; omega
  obtain rfl : j = F := by omega
  have c1 : ¬ 26 + 28 * j < N := by omega
  have ek2 := Lib.hid (show 26 + 28 * j + 28 * (r - 1) = 26 + 28 * k from by omega)
  go_wp2_with (first | (go_at_call 46; refine (before1_w _ (by omega) (by omega) _).mono ?_; rintro e w' ⟨rfl, rfl⟩))
  all_goals exact bodyPost_ret (v := .tuple #[.int .i64 0, .int .i64 0, .int .i64 6]) (by simp [results, Tryd.results38, go_sem, ek2.out]) rfl ⟨rfl, rfl⟩
set_option maxHeartbeats 1000000 in
theorem rcd_far (n k : Int) (h0 : 0 ≤ n) (h1 : n ≤ 9999) (hk : Hid (kOf n = k)) (z : 1 ≤ n % 100) (k0 : 1303 < k) (k1 : k ≤ 1500) (w : World) : Calls Tryd.prog 38 #[.int .i64 n] w fun e w' => e = .returned (.tuple #[.int .i64 0, .int .i64 0, .int .i64 6]) ∧ w = w' := by
  have nb : 0 ≤ nyI (2000 + n / 100) ∧ nyI (2000 + n / 100) ≤ 40000 := by unfold nyI; omega
  have q0 : 0 ≤ n / 100 ∧ n / 100 ≤ 99 := by omega
  have r0 : 0 ≤ n % 100 ∧ n % 100 ≤ 99 := by omega
  have fF : 0 ≤ F28 (2000 + n / 100) ∧ 28 * F28 (2000 + n / 100) ≤ nyI (2000 + n / 100) + 1 ∧ nyI (2000 + n / 100) + 1 ≤ 28 * F28 (2000 + n / 100) + 27 := by unfold F28; omega
  have ek : F28 (2000 + n / 100) + n % 100 - 1 = k := hk.out
  obtain ⟨F, hF⟩ : ∃ F, F28 (2000 + n / 100) = F := ⟨_, rfl⟩
  rw [hF] at fF ek
  clear hF hk
  obtain ⟨y, hy⟩ : ∃ y, 2000 + n / 100 = y := ⟨_, rfl⟩
  rw [hy] at nb fF
  obtain ⟨r, hr⟩ : ∃ r, n % 100 = r := ⟨_, rfl⟩
  rw [hr] at ek r0
  obtain ⟨N, hN⟩ : ∃ N, nyI y = N := ⟨_, rfl⟩
  rw [hN] at nb fF
  have yb : 2000 ≤ y ∧ y ≤ 2099 := by omega
  go_enter Tryd.func38, Tryd.ntmps38
  go_wp2_with (go_at_call 46; refine (before1_w _ (by omega) (by omega) _).mono ?_; rintro e w' ⟨rfl, rfl⟩)
  go_loop [7] (fun x => ∃ j : Int, 0 ≤ j ∧ j ≤ F ∧ x = .int .i64 (26 + 28 * j)) (fun x => (40100 - intOf x).toNat)
  case atStart => exact ⟨0, by omega, by omega, rfl⟩
  case round =>
  obtain ⟨j, hj0, hj1, rfl⟩ := hrel
  by_cases c : j < F
  · have c1 : 26 + 28 * j < N := by omega
    go_wp2_with fail
    go_round
    case rel => exact ⟨j + 1, by omega, by omega, by congr 1; omega⟩
    case measure => simp [intOf]; omega
  obtain rfl : j = F := by omega
  have c1 : ¬ 26 + 28 * j < N := by omega
  have ek2 := Lib.hid (show 26 + 28 * j + 28 * (r - 1) = 26 + 28 * k from by omega)
  have ek3 := ek2.out
  go_wp2_with (first | (go_at_call 49; refine (rdate_no _ (by omega) (by omega) (by omega) _).mono ?_; rintro e w' ⟨rfl, rfl⟩))
  all_goals exact bodyPost_ret (v := .tuple #[.int .i64 0, .int .i64 0, .int .i64 6]) (by simp [results, Tryd.results38, go_sem, ek2.out]) rfl ⟨rfl, rfl⟩
set_option maxHeartbeats 1000000 in
theorem rcd_ok (n k : Int) (h0 : 0 ≤ n) (h1 : n ≤ 9999) (hk : Hid (kOf n = k)) (z : 1 ≤ n % 100) (k0 : 0 ≤ k) (k1 : k ≤ 1303) (hyy : Hid (yrI (26 + 28 * k) = 2000 + n / 100)) (w : World) : Calls Tryd.prog 38 #[.int .i64 n] w fun e w' => e = .returned (.tuple #[.int .i64 (26 + 28 * k), .int .i64 (26 + 28 * k + 28), .int .i64 0]) ∧ w = w' := by
  obtain ⟨Yd, m, d, D0, yy⟩ := date_at (26 + 28 * k) (by omega) (by omega)
  have D := Lib.hid D0
  obtain ⟨d1, d2, d3, d4, d5, d6, d7, d8, d9⟩ := date_facts D0
  clear D0 d1 d2 d9
  rw [hyy.out] at yy
  clear hyy
  have nb : 0 ≤ nyI (2000 + n / 100) ∧ nyI (2000 + n / 100) ≤ 40000 := by unfold nyI; omega
  have q0 : 0 ≤ n / 100 ∧ n / 100 ≤ 99 := by omega
  have r0 : 0 ≤ n % 100 ∧ n % 100 ≤ 99 := by omega
  have fF : 0 ≤ F28 (2000 + n / 100) ∧ 28 * F28 (2000 + n / 100) ≤ nyI (2000 + n / 100) + 1 ∧ nyI (2000 + n / 100) + 1 ≤ 28 * F28 (2000 + n / 100) + 27 := by unfold F28; omega
  have ek : F28 (2000 + n / 100) + n % 100 - 1 = k := hk.out
  obtain ⟨F, hF⟩ : ∃ F, F28 (2000 + n / 100) = F := ⟨_, rfl⟩
  rw [hF] at fF ek
  clear hF hk
  obtain ⟨y, hy⟩ : ∃ y, 2000 + n / 100 = y := ⟨_, rfl⟩
  rw [hy] at nb fF
  obtain ⟨r, hr⟩ : ∃ r, n % 100 = r := ⟨_, rfl⟩
  rw [hr] at ek r0
  obtain ⟨N, hN⟩ : ∃ N, nyI y = N := ⟨_, rfl⟩
  rw [hN] at nb fF
  have yb : 2000 ≤ y ∧ y ≤ 2099 := by omega
  go_enter Tryd.func38, Tryd.ntmps38
  go_wp2_with (go_at_call 46; refine (before1_w _ (by omega) (by omega) _).mono ?_; rintro e w' ⟨rfl, rfl⟩)
  go_loop [7] (fun x => ∃ j : Int, 0 ≤ j ∧ j ≤ F ∧ x = .int .i64 (26 + 28 * j)) (fun x => (40100 - intOf x).toNat)
  case atStart => exact ⟨0, by omega, by omega, rfl⟩
  case round =>
  obtain ⟨j, hj0, hj1, rfl⟩ := hrel
  by_cases c : j < F
  · have c1 : 26 + 28 * j < N := by omega
    go_wp2_with fail
    go_round
    case rel => exact ⟨j + 1, by omega, by omega, by congr 1; omega⟩
    case measure => simp [intOf]; omega
  obtain rfl : j = F := by omega
  have c1 : ¬ 26 + 28 * j < N := by omega
  have ek2 := Lib.hid (show 26 + 28 * j + 28 * (r - 1) = 26 + 28 * k from by omega)
  have ek3 := ek2.out
  have yq : (Yd != y) = false := by rw [yy, hy]; simp
  clear yy hy
  go_wp2_with (first | (go_at_call 49; refine (rdate_is _ _ _ _ D _).mono ?_; rintro e w' ⟨rfl, rfl⟩))
  all_goals exact bodyPost_ret (v := .tuple #[.int .i64 (26 + 28 * k), .int .i64 (26 + 28 * k + 28), .int .i64 0]) (by simp [results, Tryd.results38, go_sem, ek2.out]) rfl ⟨rfl, rfl⟩
set_option maxHeartbeats 1000000 in
theorem rcd_ne (n k : Int) (h0 : 0 ≤ n) (h1 : n ≤ 9999) (hk : Hid (kOf n = k)) (z : 1 ≤ n % 100) (k0 : 0 ≤ k) (k1 : k ≤ 1303) (hyy : Hid (yrI (26 + 28 * k) ≠ 2000 + n / 100)) (w : World) : Calls Tryd.prog 38 #[.int .i64 n] w fun e w' => e = .returned (.tuple #[.int .i64 0, .int .i64 0, .int .i64 6]) ∧ w = w' := by
  obtain ⟨Yd, m, d, D0, yy⟩ := date_at (26 + 28 * k) (by omega) (by omega)
  have D := Lib.hid D0
  obtain ⟨d1, d2, d3, d4, d5, d6, d7, d8, d9⟩ := date_facts D0
  clear D0 d1 d2 d9
  have nb : 0 ≤ nyI (2000 + n / 100) ∧ nyI (2000 + n / 100) ≤ 40000 := by unfold nyI; omega
  have q0 : 0 ≤ n / 100 ∧ n / 100 ≤ 99 := by omega
  have r0 : 0 ≤ n % 100 ∧ n % 100 ≤ 99 := by omega
  have fF : 0 ≤ F28 (2000 + n / 100) ∧ 28 * F28 (2000 + n / 100) ≤ nyI (2000 + n / 100) + 1 ∧ nyI (2000 + n / 100) + 1 ≤ 28 * F28 (2000 + n / 100) + 27 := by unfold F28; omega
  have ek : F28 (2000 + n / 100) + n % 100 - 1 = k := hk.out
  obtain ⟨F, hF⟩ : ∃ F, F28 (2000 + n / 100) = F := ⟨_, rfl⟩
  rw [hF] at fF ek
  clear hF hk
  obtain ⟨y, hy⟩ : ∃ y, 2000 + n / 100 = y := ⟨_, rfl⟩
  rw [hy] at nb fF
  obtain ⟨r, hr⟩ : ∃ r, n % 100 = r := ⟨_, rfl⟩
  rw [hr] at ek r0
  obtain ⟨N, hN⟩ : ∃ N, nyI y = N := ⟨_, rfl⟩
  rw [hN] at nb fF
  have yb : 2000 ≤ y ∧ y ≤ 2099 := by omega
  go_enter Tryd.func38, Tryd.ntmps38
  go_wp2_with (go_at_call 46; refine (before1_w _ (by omega) (by omega) _).mono ?_; rintro e w' ⟨rfl, rfl⟩)
  go_loop [7] (fun x => ∃ j : Int, 0 ≤ j ∧ j ≤ F ∧ x = .int .i64 (26 + 28 * j)) (fun x => (40100 - intOf x).toNat)
  case atStart => exact ⟨0, by omega, by omega, rfl⟩
  case round =>
  obtain ⟨j, hj0, hj1, rfl⟩ := hrel
  by_cases c : j < F
  · have c1 : 26 + 28 * j < N := by omega
    go_wp2_with fail
    go_round
    case rel => exact ⟨j + 1, by omega, by omega, by congr 1; omega⟩
    case measure => simp [intOf]; omega
  obtain rfl : j = F := by omega
  have c1 : ¬ 26 + 28 * j < N := by omega
  have ek2 := Lib.hid (show 26 + 28 * j + 28 * (r - 1) = 26 + 28 * k from by omega)
  have ek3 := ek2.out
  have yq : (Yd != y) = true := by rw [bne_iff_ne, yy, ← hy]; exact hyy.out
  clear yy hy hyy
  go_wp2_with (first | (go_at_call 49; refine (rdate_is _ _ _ _ D _).mono ?_; rintro e w' ⟨rfl, rfl⟩))
  all_goals exact bodyPost_ret (v := .tuple #[.int .i64 0, .int .i64 0, .int .i64 6]) (by simp [results, Tryd.results38, go_sem, ek2.out]) rfl ⟨rfl, rfl⟩
end Go.Proofs.YtkmpbkojdkoghaaDoor
