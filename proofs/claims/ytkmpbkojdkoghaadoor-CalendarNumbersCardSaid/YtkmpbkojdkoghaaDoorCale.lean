/-
  Own contracts: the document's cycles, and the laws of layer 5 on cycles.
-/
import Derived.Test.YtkmpbkojdkoghaaDoorCald
import Derived.WalkKit
import Derived.ProofKit
import Derived.OpenShut
import Derived.WalkLawsBesides
import Derived.WalkSpells
import Derived.Lib.Hide
import Derived.Deep.DeepCutAuto
import Derived.Deep.CutBlock
import Derived.Deep.QuietTactic
import Derived.BigQuiet
import Derived.Handy
import Derived.StillTailTactics
import Derived.IntWalk
import Derived.LoopN
import Derived.Deep.RegionHeld3
namespace Go.Proofs.YtkmpbkojdkoghaaDoor
open Go.ChangeShapes Go.WideShapes Go.ChangeAt Go.RowKit
set_option linter.unusedVariables false
set_option linter.unusedSimpArgs false
theorem before1_w (y : Int) (h0 : 2000 ≤ y) (h1 : y ≤ 2100) (w : World) : Calls Tryd.prog 46 #[.int .i64 y, .int .i64 1] w fun e w' => e = .returned (.int .i64 (nyI y)) ∧ w = w' := by
  refine (ref_before_w y 1 h0 h1 (by omega) (by omega) (by omega) w).mono ?_
  rintro e w' ⟨rfl, rfl⟩
  rw [cumI_one, Int.add_zero]; exact ⟨rfl, rfl⟩
theorem before2_w (y m v : Int) (h0 : 2000 ≤ y) (h1 : y ≤ 2099) (m0 : 1 ≤ m) (m1 : m ≤ 12) (hv : Hid (nyI y + cumI (lpI y) m = v)) (w : World) : Calls Tryd.prog 46 #[.int .i64 y, .int .i64 m] w fun e w' => e = .returned (.int .i64 v) ∧ w = w' := by
  have h := ref_before_w y m h0 (by omega) m0 m1 (by omega) w
  rwa [hv.out] at h
set_option maxHeartbeats 2000000 in
theorem rdate_is (day y m d : Int) (h : Hid (IsDate day y m d)) (w : World) : Calls Tryd.prog 49 #[.int .i64 day] w fun e w' => e = .returned (.tuple #[.int .i64 y, .int .i64 m, .int .i64 d, .int .i64 0]) ∧ w = w' := by
  obtain ⟨r0, r1⟩ := h.out.rng
  obtain ⟨y0, y1⟩ := h.out.year
  have h' := h.out
  obtain ⟨h1, h2, h3, h4, h5, h6, h7⟩ := h'
  clear h
  have l01 := lpI_01 y
  obtain ⟨l, hl⟩ : ∃ l, lpI y = l := ⟨_, rfl⟩
  rw [hl] at h6 h7 l01
  have HL := Lib.hid hl
  have succ : Hid (∀ j : Int, 1 ≤ j → j ≤ 12 → cumI l (j + 1) = cumI l j + lenI l j) := Lib.hid fun j a b => cumI_succ l j a b
  have bd : Hid (∀ j : Int, 0 ≤ cumI l j ∧ cumI l j ≤ 366) := Lib.hid fun j => cumI_bd l j l01
  have lb : Hid (∀ j : Int, 28 ≤ lenI l j ∧ lenI l j ≤ 31) := Lib.hid fun j => lenI_bd l j l01
  have mono : Hid (∀ j : Int, 1 ≤ j → j ≤ m → cumI l j ≤ cumI l m) := Lib.hid fun j a b => by
    rcases Int.lt_or_le j m with g | g
    · have := cumI_mono l j m l01 a g (by omega); have := lenI_bd l j l01; omega
    · obtain rfl : j = m := by omega
      omega
  clear hl
  have mon : Hid (∀ k : Int, k ≤ y → nyI k ≤ day) := Lib.hid fun k a => by have := nyI_mono k y a; omega
  have nb : Hid (∀ k : Int, 2000 ≤ k → k ≤ 2100 → 0 ≤ nyI k ∧ nyI k ≤ 40000) := Lib.hid fun k a b => by unfold nyI; omega
  have nb0 := nb.out y h1 (by omega)
  obtain ⟨N, hN⟩ : ∃ N, nyI y = N := ⟨_, rfl⟩
  rw [hN] at h7 y0 nb0
  have HN := Lib.hid hN
  clear hN
  go_enter Tryd.func49, Tryd.ntmps49
  go_wp2_with fail
  go_loop [6] (fun t => ∃ k : Int, 2000 ≤ k ∧ k ≤ y ∧ t = .int .i64 k) (fun t => (2100 - intOf t).toNat)
  case atStart => exact ⟨2000, by omega, h1, rfl⟩
  case round =>
  obtain ⟨k, hk0, hk1, rfl⟩ := hrel
  by_cases c : k < y
  · have c1 := mon.out (k + 1) (by omega)
    have c2 := nb.out (k + 1) (by omega) (by omega)
    obtain ⟨V, hV⟩ : ∃ V, nyI (k + 1) = V := ⟨_, rfl⟩
    rw [hV] at c1 c2
    clear y1 h6 h7
    go_wp2_with (go_at_call 46; refine (before1_w _ (by omega) (by omega) _).mono ?_; rintro e w' ⟨rfl, rfl⟩)
    go_round
    case rel => exact ⟨k + 1, by omega, by omega, rfl⟩
    case measure => simp [intOf]; omega
  obtain rfl : y = k := by omega
  have c2 := nb.out (y + 1) (by omega) (by omega)
  obtain ⟨V, hV⟩ : ∃ V, nyI (y + 1) = V := ⟨_, rfl⟩
  rw [hV] at y1 c2
  by_cases c99 : y < 2099
  · go_wp2_with (go_at_call 46; refine (before1_w _ (by omega) (by omega) _).mono ?_; rintro e w' ⟨rfl, rfl⟩)
    clear hV
    go_loop [7] (fun t => ∃ j : Int, 1 ≤ j ∧ j ≤ m ∧ t = .int .i64 j) (fun t => (13 - intOf t).toNat)
    case atStart => exact ⟨1, by omega, h3, rfl⟩
    case round =>
      obtain ⟨j, hj0, hj1, rfl⟩ := hrel
      by_cases c : j < m
      · have S := succ.out j hj0 (by omega)
        have MN := mono.out (j + 1) (by omega) (by omega)
        have hb := bd.out (j + 1)
        obtain ⟨V, hV⟩ : ∃ V, N + cumI l (j + 1) = V := ⟨_, rfl⟩
        have HV : Hid (nyI y + cumI (lpI y) (j + 1) = V) := Lib.hid (by rw [HN.out, HL.out]; exact hV)
        have c1 : V ≤ day := by omega
        have c2 : 0 ≤ V := by omega
        clear hV S MN hb h6 h7
        go_wp2_with (go_at_call 46; refine (before2_w _ _ _ (by omega) (by omega) (by omega) (by omega) HV _).mono ?_; rintro e w' ⟨rfl, rfl⟩)
        go_round
        case rel => exact ⟨j + 1, by omega, by omega, rfl⟩
        case measure => simp [intOf]; omega
      · obtain rfl : j = m := by omega
        have HV0 : Hid (nyI y + cumI (lpI y) j = day - (d - 1)) := Lib.hid (by rw [HN.out, HL.out]; omega)
        have ed := Lib.hid (show day - (day - (d - 1)) + 1 = d from by omega)
        have d31 : d ≤ 31 := by have := lb.out j; omega
        by_cases c12 : j < 12
        · have S := succ.out j hj0 (by omega)
          obtain ⟨V, hV⟩ : ∃ V, N + cumI l (j + 1) = V := ⟨_, rfl⟩
          have HV : Hid (nyI y + cumI (lpI y) (j + 1) = V) := Lib.hid (by rw [HN.out, HL.out]; exact hV)
          have hb := bd.out (j + 1)
          have c1 : day < V := by omega
          have c2 : 0 ≤ V ∧ V ≤ 50000 := by omega
          clear hV S hb h6 h7
          go_wp2_with (go_at_call 46; (first | (with_reducible refine (before2_w y (j + 1) V (by omega) (by omega) (by omega) (by omega) HV _).mono ?_) | (with_reducible refine (before2_w y j _ (by omega) (by omega) (by omega) (by omega) HV0 _).mono ?_)); rintro e w' ⟨rfl, rfl⟩)
          refine bodyPost_ret (v := .tuple #[.int .i64 y, .int .i64 j, .int .i64 d, .int .i64 0]) (by simp [results, Tryd.results49, go_sem, ed.out]) rfl ⟨rfl, rfl⟩
        · clear h6 h7
          go_wp2_with (go_at_call 46; (with_reducible refine (before2_w y j _ (by omega) (by omega) (by omega) (by omega) HV0 _).mono ?_); rintro e w' ⟨rfl, rfl⟩)
          refine bodyPost_ret (v := .tuple #[.int .i64 y, .int .i64 j, .int .i64 d, .int .i64 0]) (by simp [results, Tryd.results49, go_sem, ed.out]) rfl ⟨rfl, rfl⟩
  · clear hV
    go_wp2_with (go_at_call 46; refine (before1_w _ (by omega) (by omega) _).mono ?_; rintro e w' ⟨rfl, rfl⟩)
    go_loop [7] (fun t => ∃ j : Int, 1 ≤ j ∧ j ≤ m ∧ t = .int .i64 j) (fun t => (13 - intOf t).toNat)
    case atStart => exact ⟨1, by omega, h3, rfl⟩
    case round =>
      obtain ⟨j, hj0, hj1, rfl⟩ := hrel
      by_cases c : j < m
      · have S := succ.out j hj0 (by omega)
        have MN := mono.out (j + 1) (by omega) (by omega)
        have hb := bd.out (j + 1)
        obtain ⟨V, hV⟩ : ∃ V, N + cumI l (j + 1) = V := ⟨_, rfl⟩
        have HV : Hid (nyI y + cumI (lpI y) (j + 1) = V) := Lib.hid (by rw [HN.out, HL.out]; exact hV)
        have c1 : V ≤ day := by omega
        have c2 : 0 ≤ V := by omega
        clear hV S MN hb h6 h7
        go_wp2_with (go_at_call 46; refine (before2_w _ _ _ (by omega) (by omega) (by omega) (by omega) HV _).mono ?_; rintro e w' ⟨rfl, rfl⟩)
        go_round
        case rel => exact ⟨j + 1, by omega, by omega, rfl⟩
        case measure => simp [intOf]; omega
      · obtain rfl : j = m := by omega
        have HV0 : Hid (nyI y + cumI (lpI y) j = day - (d - 1)) := Lib.hid (by rw [HN.out, HL.out]; omega)
        have ed := Lib.hid (show day - (day - (d - 1)) + 1 = d from by omega)
        have d31 : d ≤ 31 := by have := lb.out j; omega
        by_cases c12 : j < 12
        · have S := succ.out j hj0 (by omega)
          obtain ⟨V, hV⟩ : ∃ V, N + cumI l (j + 1) = V := ⟨_, rfl⟩
          have HV : Hid (nyI y + cumI (lpI y) (j + 1) = V) := Lib.hid (by rw [HN.out, HL.out]; exact hV)
          have hb := bd.out (j + 1)
          have c1 : day < V := by omega
          have c2 : 0 ≤ V ∧ V ≤ 50000 := by omega
          clear hV S hb h6 h7
          go_wp2_with (go_at_call 46; (first | (with_reducible refine (before2_w y (j + 1) V (by omega) (by omega) (by omega) (by omega) HV _).mono ?_) | (with_reducible refine (before2_w y j _ (by omega) (by omega) (by omega) (by omega) HV0 _).mono ?_)); rintro e w' ⟨rfl, rfl⟩)
          refine bodyPost_ret (v := .tuple #[.int .i64 y, .int .i64 j, .int .i64 d, .int .i64 0]) (by simp [results, Tryd.results49, go_sem, ed.out]) rfl ⟨rfl, rfl⟩
        · clear h6 h7
          go_wp2_with (go_at_call 46; (with_reducible refine (before2_w y j _ (by omega) (by omega) (by omega) (by omega) HV0 _).mono ?_); rintro e w' ⟨rfl, rfl⟩)
          refine bodyPost_ret (v := .tuple #[.int .i64 y, .int .i64 j, .int .i64 d, .int .i64 0]) (by simp [results, Tryd.results49, go_sem, ed.out]) rfl ⟨rfl, rfl⟩
theorem rdate_no (day : Int) (day_0 : -9223372036854775808 ≤ day) (day_1 : day ≤ 9223372036854775807) (h : day < 0 ∨ 36524 < day) (w : World) : Calls Tryd.prog 49 #[.int .i64 day] w fun e w' => e = .returned (.tuple #[.int .i64 0, .int .i64 0, .int .i64 0, .int .i64 2]) ∧ w = w' := by
  rcases h with h | h
  all_goals
    go_enter Tryd.func49, Tryd.ntmps49
    go_wp2
    exact bodyPost_ret (v := .tuple #[.int .i64 0, .int .i64 0, .int .i64 0, .int .i64 2]) (by simp [results, Tryd.results49, go_sem]) rfl ⟨rfl, rfl⟩
end Go.Proofs.YtkmpbkojdkoghaaDoor
