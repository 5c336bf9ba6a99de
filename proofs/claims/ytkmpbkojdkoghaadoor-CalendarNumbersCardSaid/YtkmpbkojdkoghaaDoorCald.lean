/-
  Own contracts: the laws of layer 5 on cycles.
-/
import Derived.Test.YtkmpbkojdkoghaaDoorCalc
import Derived.WalkKit
import Derived.ProofKit
import Derived.OpenShut
import Derived.WalkLawsBesides
import Derived.WalkSpells
import Derived.Lib.Hide
import Derived.Deep.DeepCutAuto
import Derived.Deep.CutBlock
import Derived.Deep.QuietTactic
import Derived.BigQuiet
import Derived.Handy
import Derived.Deep.RegionHeld3
namespace Go.Proofs.YtkmpbkojdkoghaaDoor
open Go.ChangeShapes Go.WideShapes Go.ChangeAt Go.RowKit
set_option linter.unusedVariables false
set_option linter.unusedSimpArgs false
def F28 (y : Int) : Int := (nyI y + 1) / 28
theorem pos_facts (k : Int) (h0 : 0 ≤ k) (h1 : k ≤ 1303) : ∃ Y, yrI (26 + 28 * k) = Y ∧ 2000 ≤ Y ∧ Y ≤ 2099 ∧ nyI Y ≤ 26 + 28 * k ∧ 26 + 28 * k < nyI (Y + 1) ∧ 0 ≤ F28 Y ∧ F28 Y ≤ k ∧ k - F28 Y ≤ 13 ∧ numI k = (Y - 2000) * 100 + k - F28 Y + 1 := by
  obtain ⟨a1, a2, a3, a4, a5⟩ := yrI_ok (26 + 28 * k) (by omega) (by omega)
  refine ⟨_, rfl, a1, a2, a3, a4, ?_, ?_, ?_, rfl⟩
  · unfold F28 nyI; omega
  · unfold F28; omega
  · have s := nyI_succ _ a1 a2
    have l := lpI_01 (yrI (26 + 28 * k))
    unfold F28; omega
def kOf (n : Int) : Int := F28 (2000 + n / 100) + n % 100 - 1
/-- the numbers of cycles -/
theorem num_iff (n : Int) (h0 : 0 ≤ n) (h1 : n ≤ 9999) : (1 ≤ n % 100 ∧ kOf n ≤ 1303 ∧ yrI (26 + 28 * kOf n) = 2000 + n / 100) ↔ (0 ≤ kOf n ∧ kOf n ≤ 1303 ∧ numI (kOf n) = n) := by
  have f0 : 0 ≤ F28 (2000 + n / 100) := by unfold F28 nyI; omega
  constructor
  · rintro ⟨h2, h3, h4⟩
    have k0 : 0 ≤ kOf n := by unfold kOf; omega
    obtain ⟨Y, e, a1, a2, a3, a4, a5, a6, a7, a8⟩ := pos_facts (kOf n) k0 h3
    refine ⟨k0, h3, ?_⟩
    rw [a8, ← e, h4]
    show (2000 + n / 100 - 2000) * 100 + (F28 (2000 + n / 100) + n % 100 - 1) - F28 (2000 + n / 100) + 1 = n
    omega
  · rintro ⟨k0, h3, h4⟩
    obtain ⟨Y, e, a1, a2, a3, a4, a5, a6, a7, a8⟩ := pos_facts (kOf n) k0 h3
    have g : 26 + 28 * kOf n = 26 + 28 * (F28 (2000 + n / 100) + n % 100 - 1) := rfl
    refine ⟨?_, h3, ?_⟩
    · rw [a8] at h4; omega
    · rw [e]; rw [a8] at h4; omega
theorem kOf_num (k : Int) (h0 : 0 ≤ k) (h1 : k ≤ 1303) : 0 ≤ numI k ∧ numI k ≤ 9999 ∧ kOf (numI k) = k := by
  obtain ⟨Y, e, a1, a2, a3, a4, a5, a6, a7, a8⟩ := pos_facts k h0 h1
  rw [a8]
  have q1 : ((Y - 2000) * 100 + k - F28 Y + 1) / 100 = Y - 2000 := by omega
  have q2 : ((Y - 2000) * 100 + k - F28 Y + 1) % 100 = k - F28 Y + 1 := by omega
  refine ⟨by omega, by omega, ?_⟩
  unfold kOf
  rw [q1, q2, show 2000 + (Y - 2000) = Y from by omega]
  omega
def posE (n : Int) : Int := if n < 0 ∨ 9999 < n then 2 else if 0 ≤ kOf n ∧ kOf n ≤ 1303 ∧ numI (kOf n) = n then 0 else 6
theorem kOf_bd (n : Int) (h0 : 0 ≤ n) (h1 : n ≤ 9999) : -1 ≤ kOf n ∧ kOf n ≤ 1500 := by
  unfold kOf F28 nyI; omega
theorem pos_out (n : Int) (n_0 : -9223372036854775808 ≤ n) (n_1 : n ≤ 9223372036854775807) (h : n < 0 ∨ 9999 < n) (w : World) : Calls Tryd.prog 56 #[.int .i64 n] w fun e w' => e = .returned (.tuple #[.int .i64 0, .int .i64 2]) ∧ w = w' := by
  rcases h with h | h
  all_goals
    go_enter Tryd.func56, Tryd.ntmps56
    go_wp2_with (first | (go_at_call 58; refine (firstof_w _ (by omega) (by omega) _).mono ?_; rintro e w' ⟨rfl, rfl⟩) | (go_at_call 54; refine (numberof_w _ (by omega) (by omega) _).mono ?_; rintro e w' ⟨rfl, rfl⟩))
    all_goals go_ret2
    all_goals exact ⟨rfl, rfl⟩

theorem pos_ok (n k : Int) (h0 : 0 ≤ n) (h1 : n ≤ 9999) (hk : Hid (kOf n = k)) (k0 : 0 ≤ k) (k1 : k ≤ 1303) (hn : Hid (numI k = n)) (w : World) : Calls Tryd.prog 56 #[.int .i64 n] w fun e w' => e = .returned (.tuple #[.int .i64 k, .int .i64 0]) ∧ w = w' := by
  have b := kOf_bd n h0 h1
  rw [hk.out] at b
  have q0 : 0 ≤ n / 100 ∧ n / 100 ≤ 99 := by omega
  have r0 : 0 ≤ n % 100 ∧ n % 100 ≤ 99 := by omega
  have e : (nyI (2000 + n / 100) + 1) / 28 + n % 100 - 1 = k := hk.out
  have nb : 0 ≤ nyI (2000 + n / 100) ∧ nyI (2000 + n / 100) ≤ 40000 := by unfold nyI; omega
  have fb : 0 ≤ (nyI (2000 + n / 100) + 1) / 28 ∧ (nyI (2000 + n / 100) + 1) / 28 ≤ 1430 := by omega
  obtain ⟨z, hz⟩ : ∃ z, (nyI (2000 + n / 100) + 1) / 28 = z := ⟨_, rfl⟩
  rw [hz] at e fb
  obtain ⟨r, hr⟩ : ∃ r, n % 100 = r := ⟨_, rfl⟩
  rw [hr] at e r0
  clear nb hk
  have c4 : (numI k != n) = false := by rw [hn.out]; simp
  clear hn
  go_enter Tryd.func56, Tryd.ntmps56
  go_wp2_with (first | (go_at_call 58; refine (firstof_w _ (by omega) (by omega) _).mono ?_; rintro e w' ⟨rfl, rfl⟩) | (go_at_call 54; refine (numberof_w _ (by omega) (by omega) _).mono ?_; rintro e w' ⟨rfl, rfl⟩))
  all_goals go_ret2
  all_goals exact ⟨rfl, rfl⟩

theorem pos_lo (n k : Int) (h0 : 0 ≤ n) (h1 : n ≤ 9999) (hk : Hid (kOf n = k)) (k0 : k < 0) (w : World) : Calls Tryd.prog 56 #[.int .i64 n] w fun e w' => e = .returned (.tuple #[.int .i64 0, .int .i64 6]) ∧ w = w' := by
  have b := kOf_bd n h0 h1
  rw [hk.out] at b
  have q0 : 0 ≤ n / 100 ∧ n / 100 ≤ 99 := by omega
  have r0 : 0 ≤ n % 100 ∧ n % 100 ≤ 99 := by omega
  have e : (nyI (2000 + n / 100) + 1) / 28 + n % 100 - 1 = k := hk.out
  have nb : 0 ≤ nyI (2000 + n / 100) ∧ nyI (2000 + n / 100) ≤ 40000 := by unfold nyI; omega
  have fb : 0 ≤ (nyI (2000 + n / 100) + 1) / 28 ∧ (nyI (2000 + n / 100) + 1) / 28 ≤ 1430 := by omega
  obtain ⟨z, hz⟩ : ∃ z, (nyI (2000 + n / 100) + 1) / 28 = z := ⟨_, rfl⟩
  rw [hz] at e fb
  obtain ⟨r, hr⟩ : ∃ r, n % 100 = r := ⟨_, rfl⟩
  rw [hr] at e r0
  clear nb hk
  go_enter Tryd.func56, Tryd.ntmps56
  go_wp2_with (first | (go_at_call 58; refine (firstof_w _ (by omega) (by omega) _).mono ?_; rintro e w' ⟨rfl, rfl⟩) | (go_at_call 54; refine (numberof_w _ (by omega) (by omega) _).mono ?_; rintro e w' ⟨rfl, rfl⟩))
  all_goals go_ret2
  all_goals exact ⟨rfl, rfl⟩

theorem pos_hi (n k : Int) (h0 : 0 ≤ n) (h1 : n ≤ 9999) (hk : Hid (kOf n = k)) (k0 : 1303 < k) (w : World) : Calls Tryd.prog 56 #[.int .i64 n] w fun e w' => e = .returned (.tuple #[.int .i64 0, .int .i64 6]) ∧ w = w' := by
  have b := kOf_bd n h0 h1
  rw [hk.out] at b
  have q0 : 0 ≤ n / 100 ∧ n / 100 ≤ 99 := by omega
  have r0 : 0 ≤ n % 100 ∧ n % 100 ≤ 99 := by omega
  have e : (nyI (2000 + n / 100) + 1) / 28 + n % 100 - 1 = k := hk.out
  have nb : 0 ≤ nyI (2000 + n / 100) ∧ nyI (2000 + n / 100) ≤ 40000 := by unfold nyI; omega
  have fb : 0 ≤ (nyI (2000 + n / 100) + 1) / 28 ∧ (nyI (2000 + n / 100) + 1) / 28 ≤ 1430 := by omega
  obtain ⟨z, hz⟩ : ∃ z, (nyI (2000 + n / 100) + 1) / 28 = z := ⟨_, rfl⟩
  rw [hz] at e fb
  obtain ⟨r, hr⟩ : ∃ r, n % 100 = r := ⟨_, rfl⟩
  rw [hr] at e r0
  clear nb hk
  go_enter Tryd.func56, Tryd.ntmps56
  go_wp2_with (first | (go_at_call 58; refine (firstof_w _ (by omega) (by omega) _).mono ?_; rintro e w' ⟨rfl, rfl⟩) | (go_at_call 54; refine (numberof_w _ (by omega) (by omega) _).mono ?_; rintro e w' ⟨rfl, rfl⟩))
  all_goals go_ret2
  all_goals exact ⟨rfl, rfl⟩

theorem pos_ne (n k : Int) (h0 : 0 ≤ n) (h1 : n ≤ 9999) (hk : Hid (kOf n = k)) (k0 : 0 ≤ k) (k1 : k ≤ 1303) (hn : Hid (numI k ≠ n)) (w : World) : Calls Tryd.prog 56 #[.int .i64 n] w fun e w' => e = .returned (.tuple #[.int .i64 0, .int .i64 6]) ∧ w = w' := by
  have b := kOf_bd n h0 h1
  rw [hk.out] at b
  have q0 : 0 ≤ n / 100 ∧ n / 100 ≤ 99 := by omega
  have r0 : 0 ≤ n % 100 ∧ n % 100 ≤ 99 := by omega
  have e : (nyI (2000 + n / 100) + 1) / 28 + n % 100 - 1 = k := hk.out
  have nb : 0 ≤ nyI (2000 + n / 100) ∧ nyI (2000 + n / 100) ≤ 40000 := by unfold nyI; omega
  have fb : 0 ≤ (nyI (2000 + n / 100) + 1) / 28 ∧ (nyI (2000 + n / 100) + 1) / 28 ≤ 1430 := by omega
  obtain ⟨z, hz⟩ : ∃ z, (nyI (2000 + n / 100) + 1) / 28 = z := ⟨_, rfl⟩
  rw [hz] at e fb
  obtain ⟨r, hr⟩ : ∃ r, n % 100 = r := ⟨_, rfl⟩
  rw [hr] at e r0
  clear nb hk
  have c4 : (numI k != n) = true := by rw [bne_iff_ne]; exact hn.out
  clear hn
  go_enter Tryd.func56, Tryd.ntmps56
  go_wp2_with (first | (go_at_call 58; refine (firstof_w _ (by omega) (by omega) _).mono ?_; rintro e w' ⟨rfl, rfl⟩) | (go_at_call 54; refine (numberof_w _ (by omega) (by omega) _).mono ?_; rintro e w' ⟨rfl, rfl⟩))
  all_goals go_ret2
  all_goals exact ⟨rfl, rfl⟩

end Go.Proofs.YtkmpbkojdkoghaaDoor
