/-
  Own contracts: package calendar and the document's answers of layer 5: cycles; the laws on dates and instants.
-/
import Derived.Test.YtkmpbkojdkoghaaDoorCala
import Derived.WalkKit
import Derived.ProofKit
import Derived.OpenShut
import Derived.WalkLawsBesides
import Derived.WalkSpells
import Derived.Lib.Hide
import Derived.Deep.DeepCutAuto
import Derived.Deep.CutBlock
import Derived.Deep.QuietTactic
import Derived.BigQuiet
import Derived.Handy
import Derived.StillTailTactics
import Derived.IntWalk
import Derived.LoopN
import Derived.Deep.RegionHeld3
namespace Go.Proofs.YtkmpbkojdkoghaaDoor
open Go.ChangeShapes Go.WideShapes Go.ChangeAt Go.RowKit
set_option linter.unusedVariables false
set_option linter.unusedSimpArgs false
theorem firstof_w (y : Int) (h0 : 2000 ≤ y) (h1 : y ≤ 2099) (w : World) : Calls Tryd.prog 58 #[.int .i64 y] w fun e w' => e = .returned (.int .i64 ((nyI y + 1) / 28)) ∧ w = w' := by
  have nb : 0 ≤ nyI y ∧ nyI y ≤ 40000 := by unfold nyI; omega
  obtain ⟨N, hN⟩ : ∃ N, nyI y = N := ⟨_, rfl⟩
  rw [hN] at nb ⊢
  have e1 : (N - 26 + 28 - 1).tdiv 28 = (N + 1) / 28 := by rw [tdiv_eq_if]; split <;> omega
  have e2 : ¬ (N + 1) / 28 < 0 := by omega
  have E1 := Lib.hid (show N - 26 + 28 - 1 = N + 1 from by omega)
  have e3 : (N - 26 + 28 - 1) / 28 = (N + 1) / 28 := by rw [E1.out]
  have e4 : ((N - 26 + 28 - 1) / 28 < 0) = False := by rw [E1.out]; simp; omega
  have e5 : (0 < (N - 26 + 28 - 1) / 28) ∨ (N - 26 + 28 - 1) / 28 = 0 := by omega
  rcases e5 with e5 | e5
  all_goals
    go_enter Tryd.func58, Tryd.ntmps58
    go_wp2_with (go_at_call 45; refine (newyear_w _ (by omega) (by omega) _).mono ?_; rintro e w' ⟨rfl, rfl⟩)
    all_goals go_ret
    all_goals refine ⟨?_, rfl⟩
    all_goals first | rfl | (rw [← e3]; rfl) | (rw [← e3, e5]; rfl)
theorem firstday_w (k : Int) (h0 : -10000 ≤ k) (h1 : k ≤ 10000) (w : World) : Calls Tryd.prog 53 #[.int .i64 k] w fun e w' => e = .returned (.int .i64 (26 + 28 * k)) ∧ w = w' := by
  go_enter Tryd.func53, Tryd.ntmps53
  go_wp2
  go_ret
  exact ⟨rfl, rfl⟩
def numI (k : Int) : Int := (yrI (26 + 28 * k) - 2000) * 100 + k - (nyI (yrI (26 + 28 * k)) + 1) / 28 + 1
theorem numberof_w (k : Int) (h0 : 0 ≤ k) (h1 : k ≤ 1303) (w : World) : Calls Tryd.prog 54 #[.int .i64 k] w fun e w' => e = .returned (.int .i64 (numI k)) ∧ w = w' := by
  have E := Lib.hid (show numI k = (yrI (26 + 28 * k) - 2000) * 100 + k - (nyI (yrI (26 + 28 * k)) + 1) / 28 + 1 from rfl)
  obtain ⟨a1, a2, a3, a4, a5⟩ := yrI_ok (26 + 28 * k) (by omega) (by omega)
  obtain ⟨Y, hY⟩ : ∃ Y, yrI (26 + 28 * k) = Y := ⟨_, rfl⟩
  rw [hY] at E a1 a2 a3 a4 a5
  have nb : 0 ≤ nyI Y ∧ nyI Y ≤ 40000 := by unfold nyI; omega
  obtain ⟨N, hN⟩ : ∃ N, nyI Y = N := ⟨_, rfl⟩
  rw [hN] at E nb
  go_enter Tryd.func54, Tryd.ntmps54
  go_wp2_with (first | (go_at_call 53; refine (firstday_w _ (by omega) (by omega) _).mono ?_; rintro e w' ⟨rfl, rfl⟩) | (go_at_call 47; refine (year_w _ (by omega) (by omega) _).mono ?_; rintro e w' ⟨rfl, rfl⟩) | (go_at_call 58; refine (firstof_w _ (by omega) (by omega) _).mono ?_; rintro e w' ⟨rfl, rfl⟩))
  go_ret
  refine ⟨?_, rfl⟩
  rw [E.out]; rfl
def cycOk (day : Int) : Prop := 26 ≤ day ∧ day ≤ 36524
theorem cycle_yes (day : Int) (h0 : 26 ≤ day) (h1 : day ≤ 36524) (w : World) : Calls Tryd.prog 35 #[.int .i64 day] w fun e w' => e = .returned (.tuple #[.int .i64 (numI ((day - 26) / 28)), .int .i64 (26 + 28 * ((day - 26) / 28)), .int .i64 (26 + 28 * ((day - 26) / 28) + 28), .int .i64 0]) ∧ w = w' := by
  obtain ⟨k, hk⟩ : ∃ k, (day - 26) / 28 = k := ⟨_, rfl⟩
  have bk : 0 ≤ k ∧ k ≤ 1303 := by omega
  rw [hk]
  go_enter Tryd.func35, Tryd.ntmps35
  go_wp2_with (first | (go_at_call 53; refine (firstday_w _ (by omega) (by omega) _).mono ?_; rintro e w' ⟨rfl, rfl⟩) | (go_at_call 54; refine (numberof_w _ (by omega) (by omega) _).mono ?_; rintro e w' ⟨rfl, rfl⟩))
  exact bodyPost_ret (v := .tuple #[.int .i64 (numI k), .int .i64 (26 + 28 * k), .int .i64 (26 + 28 * k + 28), .int .i64 0]) (by simp [results, Tryd.results35, go_sem]) rfl ⟨rfl, rfl⟩
theorem cycle_no (day : Int) (day_0 : -9223372036854775808 ≤ day) (day_1 : day ≤ 9223372036854775807) (h : day < 26 ∨ 36524 < day) (w : World) : Calls Tryd.prog 35 #[.int .i64 day] w fun e w' => e = .returned (.tuple #[.int .i64 0, .int .i64 0, .int .i64 0, .int .i64 2]) ∧ w = w' := by
  rcases h with h | h
  · go_enter Tryd.func35, Tryd.ntmps35
    go_wp2
    exact bodyPost_ret (v := .tuple #[.int .i64 0, .int .i64 0, .int .i64 0, .int .i64 2]) (by simp [results, Tryd.results35, go_sem]) rfl ⟨rfl, rfl⟩
  · have h' : ¬ day < 26 := by omega
    go_enter Tryd.func35, Tryd.ntmps35
    go_wp2
    exact bodyPost_ret (v := .tuple #[.int .i64 0, .int .i64 0, .int .i64 0, .int .i64 2]) (by simp [results, Tryd.results35, go_sem]) rfl ⟨rfl, rfl⟩
theorem awake_w (w : World) (ht : Hid (Tab w)) : Calls Tryd.prog 14 #[] w fun e w' => e = .returned (.bool true) ∧ w = w' := by
  have v1 : dysV 2000 3 1 = 60 := by decide +kernel
  have v2 : dysE 2000 3 1 = 0 := by decide +kernel
  have v3 : dysV 2020 1 2 = 7306 := by decide +kernel
  have v4 : dysE 2020 1 2 = 0 := by decide +kernel
  have v5 : numI 260 = 2001 := by decide +kernel
  have v6 : wdI 0 = 6 := by decide +kernel
  have v7 : wdI 60 = 3 := by decide +kernel
  go_enter Tryd.func14, Tryd.ntmps14
  go_wp2_with (first | (go_at_call 19; refine (days_w _ _ _ (by omega) (by omega) (by omega) (by omega) (by omega) (by omega) _ ht).mono ?_; rintro e w' ⟨rfl, rfl⟩) | (go_at_call 22; refine (weekday_w _ (by omega) (by omega) _).mono ?_; rintro e w' ⟨rfl, rfl⟩) | (go_at_call 35; refine (cycle_yes _ (by omega) (by omega) _).mono ?_; rintro e w' ⟨rfl, rfl⟩))
  go_ret
  exact ⟨rfl, rfl⟩
set_option maxHeartbeats 1000000 in
theorem ref_before_w (y m : Int) (h0 : 2000 ≤ y) (h1 : y ≤ 2100) (m0 : 1 ≤ m) (m1 : m ≤ 12) (hm : y = 2100 → m = 1) (w : World) : Calls Tryd.prog 46 #[.int .i64 y, .int .i64 m] w fun e w' => e = .returned (.int .i64 (nyI y + cumI (lpI y) m)) ∧ w = w' := by
  have HM := Lib.hid hm
  clear hm
  have n0 := Lib.hid (show nyI 2000 = 0 from by decide)
  go_enter Tryd.func46, Tryd.ntmps46
  go_wp2_with fail
  go_loop [5, 6] (fun n x => ∃ k : Int, 2000 ≤ k ∧ k ≤ y ∧ x = .int .i64 k ∧ n = .int .i64 (nyI k)) (fun _ x => (2200 - intOf x).toNat)
  case atStart => exact ⟨2000, by omega, h0, rfl, by rw [n0.out]⟩
  case round =>
    obtain ⟨k, hk1, hk2, rfl, rfl⟩ := hrel
    have nb : 0 ≤ nyI k ∧ nyI k ≤ 40000 := by unfold nyI; omega
    by_cases c : k < y
    · have s := nyI_succ k hk1 (by omega)
      rcases lpI_01 k with l | l
      · have g : lpB k = false := by unfold lpB; rw [l]; rfl
        have S := Lib.hid (show nyI (k + 1) = nyI k + 365 from by omega)
        clear s l
        obtain ⟨N, hN⟩ : ∃ N, nyI k = N := ⟨_, rfl⟩
        rw [hN] at nb S ⊢
        go_wp2_with (go_at_call 16; refine (ref_leap_w _ (by omega) (by omega) _).mono ?_; rintro e w' ⟨rfl, rfl⟩)
        go_round
        case rel => exact ⟨k + 1, by omega, by omega, rfl, by rw [S.out]⟩
        case measure => simp [intOf]; omega
      · have g : lpB k = true := by unfold lpB; rw [l]; rfl
        have S := Lib.hid (show nyI (k + 1) = nyI k + 365 + 1 from by omega)
        clear s l
        obtain ⟨N, hN⟩ : ∃ N, nyI k = N := ⟨_, rfl⟩
        rw [hN] at nb S ⊢
        go_wp2_with (go_at_call 16; refine (ref_leap_w _ (by omega) (by omega) _).mono ?_; rintro e w' ⟨rfl, rfl⟩)
        go_round
        case rel => exact ⟨k + 1, by omega, by omega, rfl, by rw [S.out]⟩
        case measure => simp [intOf]; omega
    · obtain rfl : k = y := by omega
      have l01 := lpI_01 k
      obtain ⟨l, hl⟩ : ∃ l, lpI k = l := ⟨_, rfl⟩
      rw [hl] at l01
      have HL := Lib.hid hl
      clear hl
      obtain ⟨N, hN⟩ : ∃ N, nyI k = N := ⟨_, rfl⟩
      rw [hN] at nb ⊢
      have HN := Lib.hid hN
      clear hN
      go_wp2_with fail
      go_loop [5, 7] (fun n x => ∃ j : Int, 1 ≤ j ∧ j ≤ m ∧ x = .int .i64 j ∧ n = .int .i64 (N + cumI l j)) (fun _ x => (13 - intOf x).toNat)
      case atStart => exact ⟨1, by omega, m0, rfl, by rw [cumI_one]; congr 1; omega⟩
      case round =>
        obtain ⟨j, hj1, hj2, rfl, rfl⟩ := hrel
        have cb := cumI_bd l j l01
        by_cases c : j < m
        · have zk := mdI_in k j h0 (by have := HM.out; omega) hj1 (by omega)
          rw [HL.out] at zk
          have lb := lenI_bd l j l01
          have CS := Lib.hid (cumI_succ l j hj1 (by omega))
          go_wp2_with (go_at_call 18; refine (ref_md_w _ _ (by omega) (by omega) (by omega) (by omega) _).mono ?_; rintro e w' ⟨rfl, rfl⟩)
          go_round
          case rel => exact ⟨j + 1, by omega, by omega, rfl, by rw [CS.out]; congr 1; omega⟩
          case measure => simp [intOf]; omega
        · obtain rfl : j = m := by omega
          go_wp2
          go_ret
          refine ⟨?_, rfl⟩
          rw [HN.out, HL.out]; rfl
set_option maxHeartbeats 1000000 in
theorem ref_days_w (y m d : Int) (y_0 : -9223372036854775808 ≤ y) (y_1 : y ≤ 9223372036854775807) (m_0 : -9223372036854775808 ≤ m) (m_1 : m ≤ 9223372036854775807) (d_0 : -9223372036854775808 ≤ d) (d_1 : d ≤ 9223372036854775807) (w : World) : Calls Tryd.prog 20 #[.int .i64 y, .int .i64 m, .int .i64 d] w fun e w' => e = .returned (.tuple #[.int .i64 (dysV y m d), .int .i64 (dysE y m d)]) ∧ w = w' := by
  by_cases c1 : y < 2000 ∨ 2099 < y
  · have E1 := Lib.hid (show dysV y m d = 0 from by unfold dysV; rw [if_pos c1])
    have E2 := Lib.hid (show dysE y m d = 2 from by unfold dysE; rw [if_pos c1])
    rcases c1 with c1 | c1
    · go_enter Tryd.func20, Tryd.ntmps20
      go_wp2
      go_ret2
      refine ⟨?_, rfl⟩
      rw [E1.out, E2.out]; rfl
    · have c2 : ¬ y < 2000 := by omega
      go_enter Tryd.func20, Tryd.ntmps20
      go_wp2
      go_ret2
      refine ⟨?_, rfl⟩
      rw [E1.out, E2.out]; rfl
  · have c3 : 2000 ≤ y := by omega
    have c4 : y ≤ 2099 := by omega
    by_cases c2 : d < 1 ∨ mdI y m < d
    · have E1 := Lib.hid (show dysV y m d = 0 from by unfold dysV; rw [if_neg c1, if_pos c2])
      have E2 := Lib.hid (show dysE y m d = 1 from by unfold dysE; rw [if_neg c1, if_pos c2])
      clear c1
      rcases c2 with c2 | c2
      all_goals
        go_enter Tryd.func20, Tryd.ntmps20
        go_wp2_with (go_at_call 18; refine (ref_md_w _ _ (by omega) (by omega) (by omega) (by omega) _).mono ?_; rintro e w' ⟨rfl, rfl⟩)
        all_goals go_ret2
        all_goals refine ⟨?_, rfl⟩
        all_goals (rw [E1.out, E2.out]; rfl)
    · have E1 := Lib.hid (show dysV y m d = nyI y + cumI (lpI y) m + d - 1 from by unfold dysV; rw [if_neg c1, if_neg c2])
      have E2 := Lib.hid (show dysE y m d = 0 from by unfold dysE; rw [if_neg c1, if_neg c2])
      have c5 : 1 ≤ d := by omega
      have c6 : d ≤ mdI y m := by omega
      have c7 : 1 ≤ m ∧ m ≤ 12 := by
        unfold mdI at c6; split at c6 <;> omega
      obtain ⟨c7, c8⟩ := c7
      have l01 := lpI_01 y
      have d31 : d ≤ 31 := by rw [mdI_in y m c3 c4 c7 c8] at c6; have := lenI_bd (lpI y) m l01; omega
      have nb : 0 ≤ nyI y ∧ nyI y ≤ 40000 := by unfold nyI; omega
      have cb := cumI_bd (lpI y) m l01
      clear c1 c2
      obtain ⟨N, hN⟩ : ∃ N, nyI y = N := ⟨_, rfl⟩
      obtain ⟨K, hK⟩ : ∃ K, cumI (lpI y) m = K := ⟨_, rfl⟩
      rw [hN, hK] at E1
      rw [hN] at nb
      rw [hK] at cb
      go_enter Tryd.func20, Tryd.ntmps20
      go_wp2_with (first | (go_at_call 18; refine (ref_md_w _ _ (by omega) (by omega) (by omega) (by omega) _).mono ?_; rintro e w' ⟨rfl, rfl⟩) | (go_at_call 46; refine (ref_before_w _ _ (by omega) (by omega) (by omega) (by omega) (by omega) _).mono ?_; rintro e w' ⟨rfl, rfl⟩))
      go_ret2
      refine ⟨?_, rfl⟩
      rw [E1.out, E2.out, show N + K + d - 1 = N + K + (d - 1) from by omega]; rfl
end Go.Proofs.YtkmpbkojdkoghaaDoor
