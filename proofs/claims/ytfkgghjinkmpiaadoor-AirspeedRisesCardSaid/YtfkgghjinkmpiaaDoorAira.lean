/-
  Own contracts: layer 30: airspeeds and Mach numbers.
-/
import Derived.Test.YtfkgghjinkmpiaaDoorAirn
import Derived.Test.YtfkgghjinkmpiaaDoorAirr
import Derived.WalkKit
import Derived.ProofKit
import Derived.OpenShut
import Derived.WalkLawsBesides
import Derived.WalkSpells
import Derived.Lib.Hide
import Derived.Deep.DeepCutAuto
import Derived.Deep.CutBlock
import Derived.Deep.QuietTactic
import Derived.BigQuiet
import Derived.Handy
import Derived.StillTailTactics
import Derived.IntWalk
import Derived.LoopN
import Derived.Deep.RegionHeld3
namespace Go.Proofs.YtfkgghjinkmpiaaDoor
open Go.ChangeShapes Go.WideShapes Go.ChangeAt Go.RowKit
set_option linter.unusedVariables false
set_option linter.unusedSimpArgs false
set_option maxHeartbeats 1000000 in
set_option maxRecDepth 100000 in
theorem vcas_yes (x : Int) (h0 : 0 ≤ x) (h1 : x ≤ 1000) (w : World) : Calls Tryd.prog 29 #[.int .i64 x] w fun e w' => e = .returned (.bool true) ∧ w = w' := by
  go_enter Tryd.func29, Tryd.ntmps29
  go_wp2_with fail
  all_goals go_ret
  all_goals first | exact ⟨rfl, rfl⟩ | (refine ⟨?_, rfl⟩; simp; omega)
set_option maxHeartbeats 1000000 in
set_option maxRecDepth 100000 in
theorem vcas_no (x : Int) (h : x < 0 ∨ 1000 < x) (w : World) : Calls Tryd.prog 29 #[.int .i64 x] w fun e w' => e = .returned (.bool false) ∧ w = w' := by
  rcases h with h | h
  all_goals
    go_enter Tryd.func29, Tryd.ntmps29
    go_wp2_with fail
    all_goals go_ret
    all_goals first | exact ⟨rfl, rfl⟩ | (refine ⟨?_, rfl⟩; simp; omega)
set_option maxHeartbeats 1000000 in
set_option maxRecDepth 100000 in
theorem vtas_yes (x : Int) (h0 : 0 ≤ x) (h1 : x ≤ 4000) (w : World) : Calls Tryd.prog 33 #[.int .i64 x] w fun e w' => e = .returned (.bool true) ∧ w = w' := by
  go_enter Tryd.func33, Tryd.ntmps33
  go_wp2_with fail
  all_goals go_ret
  all_goals first | exact ⟨rfl, rfl⟩ | (refine ⟨?_, rfl⟩; simp; omega)
set_option maxHeartbeats 1000000 in
set_option maxRecDepth 100000 in
theorem vtas_no (x : Int) (h : x < 0 ∨ 4000 < x) (w : World) : Calls Tryd.prog 33 #[.int .i64 x] w fun e w' => e = .returned (.bool false) ∧ w = w' := by
  rcases h with h | h
  all_goals
    go_enter Tryd.func33, Tryd.ntmps33
    go_wp2_with fail
    all_goals go_ret
    all_goals first | exact ⟨rfl, rfl⟩ | (refine ⟨?_, rfl⟩; simp; omega)
set_option maxHeartbeats 1000000 in
set_option maxRecDepth 100000 in
theorem vmach_yes (x : Int) (h0 : 0 ≤ x) (h1 : x ≤ 2000) (w : World) : Calls Tryd.prog 36 #[.int .i64 x] w fun e w' => e = .returned (.bool true) ∧ w = w' := by
  go_enter Tryd.func36, Tryd.ntmps36
  go_wp2_with fail
  all_goals go_ret
  all_goals first | exact ⟨rfl, rfl⟩ | (refine ⟨?_, rfl⟩; simp; omega)
set_option maxHeartbeats 1000000 in
set_option maxRecDepth 100000 in
theorem vmach_no (x : Int) (h : x < 0 ∨ 2000 < x) (w : World) : Calls Tryd.prog 36 #[.int .i64 x] w fun e w' => e = .returned (.bool false) ∧ w = w' := by
  rcases h with h | h
  all_goals
    go_enter Tryd.func36, Tryd.ntmps36
    go_wp2_with fail
    all_goals go_ret
    all_goals first | exact ⟨rfl, rfl⟩ | (refine ⟨?_, rfl⟩; simp; omega)
set_option maxHeartbeats 1000000 in
set_option maxRecDepth 100000 in
theorem rcal_yes (x : Int) (h0 : 0 ≤ x) (h1 : x ≤ 1000) (w : World) : Calls Tryd.prog 31 #[.int .i64 x] w fun e w' => e = .returned (.bool true) ∧ w = w' := by
  go_enter Tryd.func31, Tryd.ntmps31
  go_wp2_with fail
  all_goals go_ret
  all_goals first | exact ⟨rfl, rfl⟩ | (refine ⟨?_, rfl⟩; simp; omega)
set_option maxHeartbeats 1000000 in
set_option maxRecDepth 100000 in
theorem rcal_no (x : Int) (h : x < 0 ∨ 1000 < x) (w : World) : Calls Tryd.prog 31 #[.int .i64 x] w fun e w' => e = .returned (.bool false) ∧ w = w' := by
  rcases h with h | h
  all_goals
    go_enter Tryd.func31, Tryd.ntmps31
    go_wp2_with fail
    all_goals go_ret
    all_goals first | exact ⟨rfl, rfl⟩ | (refine ⟨?_, rfl⟩; simp; omega)
set_option maxHeartbeats 1000000 in
set_option maxRecDepth 100000 in
theorem rup_w (a b : Int) (a0 : 0 ≤ a) (a1 : a ≤ 1000000000000) (b0 : 0 < b) (b1 : b ≤ 1000000000000) (w : World) : Calls Tryd.prog 39 #[.int .i64 a, .int .i64 b] w fun e w' => e = .returned (.int .i64 ((a + b - 1) / b)) ∧ w = w' := by
  go_enter Tryd.func39, Tryd.ntmps39
  go_wp2_with fail
  all_goals go_ret
  all_goals first | exact ⟨rfl, rfl⟩ | (refine ⟨?_, rfl⟩; simp; omega)
set_option maxHeartbeats 1000000 in
set_option maxRecDepth 100000 in
theorem ratio_no (a d : Int) (h : rE a d ≠ 0) (w : World) : Calls Tryd.prog 30 #[.int .i64 a, .int .i64 d] w fun e w' => e = .returned (.tuple #[.int .i64 (0), .int .i64 (rE a d)]) ∧ w = w' := by
  by_cases c : a < -200000 ∨ 6000000 < a
  · rw [show rE a d = 2 from if_pos c]; exact ratio_alt a d c w
  · have e : rE a d = if d < -4000 ∨ 4000 < d then 1 else 0 := if_neg c
    by_cases c2 : d < -4000 ∨ 4000 < d
    · rw [show rE a d = 1 by rw [e, if_pos c2]]; exact ratio_dev a d (by omega) (by omega) c2 w
    · exfalso; apply h; rw [e, if_neg c2]
set_option maxHeartbeats 1000000 in
set_option maxRecDepth 100000 in
theorem sound_no (a d : Int) (h : rE a d ≠ 0) (w : World) : Calls Tryd.prog 34 #[.int .i64 a, .int .i64 d] w fun e w' => e = .returned (.tuple #[.int .i64 (0), .int .i64 (rE a d)]) ∧ w = w' := by
  by_cases c : a < -200000 ∨ 6000000 < a
  · rw [show rE a d = 2 from if_pos c]; exact sound_alt a d c w
  · have e : rE a d = if d < -4000 ∨ 4000 < d then 1 else 0 := if_neg c
    by_cases c2 : d < -4000 ∨ 4000 < d
    · rw [show rE a d = 1 by rw [e, if_pos c2]]; exact sound_dev a d (by omega) (by omega) c2 w
    · exfalso; apply h; rw [e, if_neg c2]
set_option maxHeartbeats 1000000 in
set_option maxRecDepth 100000 in
theorem ref_ratio_no (a d : Int) (h : rE a d ≠ 0) (w : World) : Calls Tryd.prog 32 #[.int .i64 a, .int .i64 d] w fun e w' => e = .returned (.tuple #[.int .i64 (0), .int .i64 (rE a d)]) ∧ w = w' := by
  by_cases c : a < -200000 ∨ 6000000 < a
  · rw [show rE a d = 2 from if_pos c]; exact ref_ratio_alt a d c w
  · have e : rE a d = if d < -4000 ∨ 4000 < d then 1 else 0 := if_neg c
    by_cases c2 : d < -4000 ∨ 4000 < d
    · rw [show rE a d = 1 by rw [e, if_pos c2]]; exact ref_ratio_dev a d (by omega) (by omega) c2 w
    · exfalso; apply h; rw [e, if_neg c2]
set_option maxHeartbeats 1000000 in
set_option maxRecDepth 100000 in
theorem ref_sound_no (a d : Int) (h : rE a d ≠ 0) (w : World) : Calls Tryd.prog 35 #[.int .i64 a, .int .i64 d] w fun e w' => e = .returned (.tuple #[.int .i64 (0), .int .i64 (rE a d)]) ∧ w = w' := by
  by_cases c : a < -200000 ∨ 6000000 < a
  · rw [show rE a d = 2 from if_pos c]; exact ref_sound_alt a d c w
  · have e : rE a d = if d < -4000 ∨ 4000 < d then 1 else 0 := if_neg c
    by_cases c2 : d < -4000 ∨ 4000 < d
    · rw [show rE a d = 1 by rw [e, if_pos c2]]; exact ref_sound_dev a d (by omega) (by omega) c2 w
    · exfalso; apply h; rw [e, if_neg c2]
set_option maxHeartbeats 1000000 in
set_option maxRecDepth 100000 in
theorem tas_arg (c a d : Int) (h : c < 0 ∨ 1000 < c) (w : World) : Calls Tryd.prog 11 #[.int .i64 c, .int .i64 a, .int .i64 d] w fun e w' => e = .returned (.tuple #[.int .i64 (0), .int .i64 (1)]) ∧ w = w' := by
  have HV := Lib.hid (vcas_no c h)
  clear h
  go_enter Tryd.func11, Tryd.ntmps11
  go_wp2_with (first | (go_at_call 29; with_reducible refine (HV.out _).mono ?_; rintro e w' ⟨rfl, rfl⟩))
  all_goals go_ret2
  all_goals exact ⟨rfl, rfl⟩
set_option maxHeartbeats 1000000 in
set_option maxRecDepth 100000 in
theorem tas_no (c a d : Int) (h0 : 0 ≤ c) (h1 : c ≤ 1000) (h : rE a d ≠ 0) (w : World) : Calls Tryd.prog 11 #[.int .i64 c, .int .i64 a, .int .i64 d] w fun e w' => e = .returned (.tuple #[.int .i64 (0), .int .i64 (rE a d)]) ∧ w = w' := by
  have HV := Lib.hid (vcas_yes c h0 h1)
  have HR := Lib.hid (ratio_no a d h)
  obtain ⟨E, hE⟩ : ∃ E, rE a d = E := ⟨_, rfl⟩
  rw [hE] at HR h
  rw [hE]
  clear hE
  go_enter Tryd.func11, Tryd.ntmps11
  go_wp2_with (first | (go_at_call 29; with_reducible refine (HV.out _).mono ?_; rintro e w' ⟨rfl, rfl⟩) | (go_at_call 30; with_reducible refine (HR.out _).mono ?_; rintro e w' ⟨rfl, rfl⟩))
  all_goals go_ret2
  all_goals exact ⟨rfl, rfl⟩
set_option maxHeartbeats 1000000 in
set_option maxRecDepth 100000 in
theorem tas_ok (c a d : Int) (h0 : 0 ≤ c) (h1 : c ≤ 1000) (h : Ok2 a d) (w : World) (ht : Hid (Tab w)) : Calls Tryd.prog 11 #[.int .i64 c, .int .i64 a, .int .i64 d] w fun e w' => e = .returned (.tuple #[.int .i64 (tV c a d), .int .i64 (0)]) ∧ Kept w w' := by
  have HV := Lib.hid (vcas_yes c h0 h1)
  have HR := Lib.hid (ratio_ok a d h.1 h.2.1 h.2.2.1 h.2.2.2 w ht)
  rw [(tV_ok h0 h1 h).2]
  obtain ⟨p0, p1⟩ := cr_bd h0 h1 h
  obtain ⟨r0, r1⟩ := ratD_bd h
  generalize ratD a d = S at *
  clear h
  go_enter Tryd.func11, Tryd.ntmps11
  go_wp2_with (first | (go_at_call 29; with_reducible refine (HV.out _).mono ?_; rintro e w' ⟨rfl, rfl⟩) | (go_at_call 30; with_reducible refine (HR.out).mono ?_; rintro e w' ⟨rfl, hk⟩))
  all_goals go_ret2
  all_goals exact ⟨rfl, (by repeat (first | with_reducible exact Kept.refl _ | with_reducible assumption | with_reducible refine Kept.setCell ?_ (by first | (simp; done) | (simp; omega) | omega) _ | with_reducible refine Kept.alloc ?_ _ | with_reducible refine Kept.drewN ?_ _ | with_reducible refine Kept.drew ?_ | with_reducible refine Kept.trans ?_ (by with_reducible assumption) | with_reducible refine Kept.dr ?_ (by with_reducible assumption)))⟩
set_option maxHeartbeats 1000000 in
set_option maxRecDepth 100000 in
theorem ref_tas_arg (c a d : Int) (h : c < 0 ∨ 1000 < c) (w : World) : Calls Tryd.prog 12 #[.int .i64 c, .int .i64 a, .int .i64 d] w fun e w' => e = .returned (.tuple #[.int .i64 (0), .int .i64 (1)]) ∧ w = w' := by
  have HV := Lib.hid (rcal_no c h)
  clear h
  go_enter Tryd.func12, Tryd.ntmps12
  go_wp2_with (first | (go_at_call 31; with_reducible refine (HV.out _).mono ?_; rintro e w' ⟨rfl, rfl⟩))
  all_goals go_ret2
  all_goals exact ⟨rfl, rfl⟩
set_option maxHeartbeats 1000000 in
set_option maxRecDepth 100000 in
theorem ref_tas_no (c a d : Int) (h0 : 0 ≤ c) (h1 : c ≤ 1000) (h : rE a d ≠ 0) (w : World) : Calls Tryd.prog 12 #[.int .i64 c, .int .i64 a, .int .i64 d] w fun e w' => e = .returned (.tuple #[.int .i64 (0), .int .i64 (rE a d)]) ∧ w = w' := by
  have HV := Lib.hid (rcal_yes c h0 h1)
  have HR := Lib.hid (ref_ratio_no a d h)
  obtain ⟨E, hE⟩ : ∃ E, rE a d = E := ⟨_, rfl⟩
  rw [hE] at HR h
  rw [hE]
  clear hE
  go_enter Tryd.func12, Tryd.ntmps12
  go_wp2_with (first | (go_at_call 31; with_reducible refine (HV.out _).mono ?_; rintro e w' ⟨rfl, rfl⟩) | (go_at_call 32; with_reducible refine (HR.out _).mono ?_; rintro e w' ⟨rfl, rfl⟩))
  all_goals go_ret2
  all_goals exact ⟨rfl, rfl⟩
set_option maxHeartbeats 1000000 in
set_option maxRecDepth 100000 in
theorem ref_tas_ok (c a d : Int) (h0 : 0 ≤ c) (h1 : c ≤ 1000) (h : Ok2 a d) (w : World) : Calls Tryd.prog 12 #[.int .i64 c, .int .i64 a, .int .i64 d] w fun e w' => e = .returned (.tuple #[.int .i64 (tV c a d), .int .i64 (0)]) ∧ Kept w w' := by
  have HV := Lib.hid (rcal_yes c h0 h1)
  have HR := Lib.hid (ref_ratio_ok a d h.1 h.2.1 h.2.2.1 h.2.2.2 w)
  rw [(tV_ok h0 h1 h).2]
  obtain ⟨p0, p1⟩ := cr_bd h0 h1 h
  obtain ⟨r0, r1⟩ := ratD_bd h
  generalize ratD a d = S at *
  clear h
  go_enter Tryd.func12, Tryd.ntmps12
  go_wp2_with (first | (go_at_call 31; with_reducible refine (HV.out _).mono ?_; rintro e w' ⟨rfl, rfl⟩) | (go_at_call 32; with_reducible refine (HR.out).mono ?_; rintro e w' ⟨rfl, hk⟩))
  all_goals go_ret2
  all_goals exact ⟨rfl, (by repeat (first | with_reducible exact Kept.refl _ | with_reducible assumption | with_reducible refine Kept.setCell ?_ (by first | (simp; done) | (simp; omega) | omega) _ | with_reducible refine Kept.alloc ?_ _ | with_reducible refine Kept.drewN ?_ _ | with_reducible refine Kept.drew ?_ | with_reducible refine Kept.trans ?_ (by with_reducible assumption) | with_reducible refine Kept.dr ?_ (by with_reducible assumption)))⟩
set_option maxHeartbeats 1000000 in
set_option maxRecDepth 100000 in
theorem mach_arg (t a d : Int) (h : t < 0 ∨ 4000 < t) (w : World) : Calls Tryd.prog 13 #[.int .i64 t, .int .i64 a, .int .i64 d] w fun e w' => e = .returned (.tuple #[.int .i64 (0), .int .i64 (1)]) ∧ w = w' := by
  have HV := Lib.hid (vtas_no t h)
  clear h
  go_enter Tryd.func13, Tryd.ntmps13
  go_wp2_with (first | (go_at_call 33; with_reducible refine (HV.out _).mono ?_; rintro e w' ⟨rfl, rfl⟩))
  all_goals go_ret2
  all_goals exact ⟨rfl, rfl⟩
set_option maxHeartbeats 1000000 in
set_option maxRecDepth 100000 in
theorem mach_no (t a d : Int) (h0 : 0 ≤ t) (h1 : t ≤ 4000) (h : rE a d ≠ 0) (w : World) : Calls Tryd.prog 13 #[.int .i64 t, .int .i64 a, .int .i64 d] w fun e w' => e = .returned (.tuple #[.int .i64 (0), .int .i64 (rE a d)]) ∧ w = w' := by
  have HV := Lib.hid (vtas_yes t h0 h1)
  have HR := Lib.hid (sound_no a d h)
  obtain ⟨E, hE⟩ : ∃ E, rE a d = E := ⟨_, rfl⟩
  rw [hE] at HR h
  rw [hE]
  clear hE
  go_enter Tryd.func13, Tryd.ntmps13
  go_wp2_with (first | (go_at_call 33; with_reducible refine (HV.out _).mono ?_; rintro e w' ⟨rfl, rfl⟩) | (go_at_call 34; with_reducible refine (HR.out _).mono ?_; rintro e w' ⟨rfl, rfl⟩))
  all_goals go_ret2
  all_goals exact ⟨rfl, rfl⟩
set_option maxHeartbeats 1000000 in
set_option maxRecDepth 100000 in
theorem mach_ok (t a d : Int) (h0 : 0 ≤ t) (h1 : t ≤ 4000) (h : Ok2 a d) (w : World) (ht : Hid (Tab w)) : Calls Tryd.prog 13 #[.int .i64 t, .int .i64 a, .int .i64 d] w fun e w' => e = .returned (.tuple #[.int .i64 (mV t a d), .int .i64 (0)]) ∧ Kept w w' := by
  have HV := Lib.hid (vtas_yes t h0 h1)
  have HR := Lib.hid (sound_ok a d h.1 h.2.1 h.2.2.1 h.2.2.2 w ht)
  rw [(mV_ok h0 h1 h).2]
  obtain ⟨s0, s1⟩ := snd_bd h
  generalize snd a d = S at *
  clear h
  go_enter Tryd.func13, Tryd.ntmps13
  go_wp2_with (first | (go_at_call 33; with_reducible refine (HV.out _).mono ?_; rintro e w' ⟨rfl, rfl⟩) | (go_at_call 34; with_reducible refine (HR.out).mono ?_; rintro e w' ⟨rfl, hk⟩))
  all_goals go_ret2
  all_goals exact ⟨rfl, (by repeat (first | with_reducible exact Kept.refl _ | with_reducible assumption | with_reducible refine Kept.setCell ?_ (by first | (simp; done) | (simp; omega) | omega) _ | with_reducible refine Kept.alloc ?_ _ | with_reducible refine Kept.drewN ?_ _ | with_reducible refine Kept.drew ?_ | with_reducible refine Kept.trans ?_ (by with_reducible assumption) | with_reducible refine Kept.dr ?_ (by with_reducible assumption)))⟩
set_option maxHeartbeats 1000000 in
set_option maxRecDepth 100000 in
theorem ref_mach_arg (t a d : Int) (h : t < 0 ∨ 4000 < t) (w : World) : Calls Tryd.prog 14 #[.int .i64 t, .int .i64 a, .int .i64 d] w fun e w' => e = .returned (.tuple #[.int .i64 (0), .int .i64 (1)]) ∧ w = w' := by
  rcases h with h | h
  all_goals
    go_enter Tryd.func14, Tryd.ntmps14
    go_wp2_with fail
    all_goals go_ret2
    all_goals exact ⟨rfl, rfl⟩
set_option maxHeartbeats 1000000 in
set_option maxRecDepth 100000 in
theorem ref_mach_no (t a d : Int) (h0 : 0 ≤ t) (h1 : t ≤ 4000) (h : rE a d ≠ 0) (w : World) : Calls Tryd.prog 14 #[.int .i64 t, .int .i64 a, .int .i64 d] w fun e w' => e = .returned (.tuple #[.int .i64 (0), .int .i64 (rE a d)]) ∧ w = w' := by
  have HR := Lib.hid (ref_sound_no a d h)
  obtain ⟨E, hE⟩ : ∃ E, rE a d = E := ⟨_, rfl⟩
  rw [hE] at HR h
  rw [hE]
  clear hE
  go_enter Tryd.func14, Tryd.ntmps14
  go_wp2_with (first | (go_at_call 35; with_reducible refine (HR.out _).mono ?_; rintro e w' ⟨rfl, rfl⟩))
  all_goals go_ret2
  all_goals exact ⟨rfl, rfl⟩
set_option maxHeartbeats 1000000 in
set_option maxRecDepth 100000 in
theorem ref_mach_ok (t a d : Int) (h0 : 0 ≤ t) (h1 : t ≤ 4000) (h : Ok2 a d) (w : World) : Calls Tryd.prog 14 #[.int .i64 t, .int .i64 a, .int .i64 d] w fun e w' => e = .returned (.tuple #[.int .i64 (mV t a d), .int .i64 (0)]) ∧ Kept w w' := by
  have HR := Lib.hid (ref_sound_ok a d h.1 h.2.1 h.2.2.1 h.2.2.2 w)
  rw [(mV_ok h0 h1 h).2]
  obtain ⟨s0, s1⟩ := snd_bd h
  generalize snd a d = S at *
  clear h
  go_enter Tryd.func14, Tryd.ntmps14
  go_wp2_with (first | (go_at_call 35; with_reducible refine (HR.out).mono ?_; rintro e w' ⟨rfl, hk⟩))
  all_goals go_ret2
  all_goals exact ⟨rfl, (by repeat (first | with_reducible exact Kept.refl _ | with_reducible assumption | with_reducible refine Kept.setCell ?_ (by first | (simp; done) | (simp; omega) | omega) _ | with_reducible refine Kept.alloc ?_ _ | with_reducible refine Kept.drewN ?_ _ | with_reducible refine Kept.drew ?_ | with_reducible refine Kept.trans ?_ (by with_reducible assumption) | with_reducible refine Kept.dr ?_ (by with_reducible assumption)))⟩
set_option maxHeartbeats 1000000 in
set_option maxRecDepth 100000 in
theorem ofmach_arg (m a d : Int) (h : m < 0 ∨ 2000 < m) (w : World) : Calls Tryd.prog 19 #[.int .i64 m, .int .i64 a, .int .i64 d] w fun e w' => e = .returned (.tuple #[.int .i64 (0), .int .i64 (1)]) ∧ w = w' := by
  have HV := Lib.hid (vmach_no m h)
  clear h
  go_enter Tryd.func19, Tryd.ntmps19
  go_wp2_with (first | (go_at_call 36; with_reducible refine (HV.out _).mono ?_; rintro e w' ⟨rfl, rfl⟩))
  all_goals go_ret2
  all_goals exact ⟨rfl, rfl⟩
set_option maxHeartbeats 1000000 in
set_option maxRecDepth 100000 in
theorem ofmach_no (m a d : Int) (h0 : 0 ≤ m) (h1 : m ≤ 2000) (h : rE a d ≠ 0) (w : World) : Calls Tryd.prog 19 #[.int .i64 m, .int .i64 a, .int .i64 d] w fun e w' => e = .returned (.tuple #[.int .i64 (0), .int .i64 (rE a d)]) ∧ w = w' := by
  have HV := Lib.hid (vmach_yes m h0 h1)
  have HR := Lib.hid (sound_no a d h)
  obtain ⟨E, hE⟩ : ∃ E, rE a d = E := ⟨_, rfl⟩
  rw [hE] at HR h
  rw [hE]
  clear hE
  go_enter Tryd.func19, Tryd.ntmps19
  go_wp2_with (first | (go_at_call 36; with_reducible refine (HV.out _).mono ?_; rintro e w' ⟨rfl, rfl⟩) | (go_at_call 34; with_reducible refine (HR.out _).mono ?_; rintro e w' ⟨rfl, rfl⟩))
  all_goals go_ret2
  all_goals exact ⟨rfl, rfl⟩
set_option maxHeartbeats 1000000 in
set_option maxRecDepth 100000 in
theorem ofmach_ok (m a d : Int) (h0 : 0 ≤ m) (h1 : m ≤ 2000) (h : Ok2 a d) (w : World) (ht : Hid (Tab w)) : Calls Tryd.prog 19 #[.int .i64 m, .int .i64 a, .int .i64 d] w fun e w' => e = .returned (.tuple #[.int .i64 (oV m a d), .int .i64 (0)]) ∧ Kept w w' := by
  have HV := Lib.hid (vmach_yes m h0 h1)
  have HR := Lib.hid (sound_ok a d h.1 h.2.1 h.2.2.1 h.2.2.2 w ht)
  rw [(oV_ok h0 h1 h).2]
  obtain ⟨p0, p1⟩ := ms_bd h0 h1 h
  obtain ⟨s0, s1⟩ := snd_bd h
  generalize snd a d = S at *
  clear h
  go_enter Tryd.func19, Tryd.ntmps19
  go_wp2_with (first | (go_at_call 36; with_reducible refine (HV.out _).mono ?_; rintro e w' ⟨rfl, rfl⟩) | (go_at_call 34; with_reducible refine (HR.out).mono ?_; rintro e w' ⟨rfl, hk⟩))
  all_goals go_ret2
  all_goals exact ⟨rfl, (by repeat (first | with_reducible exact Kept.refl _ | with_reducible assumption | with_reducible refine Kept.setCell ?_ (by first | (simp; done) | (simp; omega) | omega) _ | with_reducible refine Kept.alloc ?_ _ | with_reducible refine Kept.drewN ?_ _ | with_reducible refine Kept.drew ?_ | with_reducible refine Kept.trans ?_ (by with_reducible assumption) | with_reducible refine Kept.dr ?_ (by with_reducible assumption)))⟩
set_option maxHeartbeats 1000000 in
set_option maxRecDepth 100000 in
theorem ref_ofmach_arg (m a d : Int) (h : m < 0 ∨ 2000 < m) (w : World) : Calls Tryd.prog 20 #[.int .i64 m, .int .i64 a, .int .i64 d] w fun e w' => e = .returned (.tuple #[.int .i64 (0), .int .i64 (1)]) ∧ w = w' := by
  rcases h with h | h
  all_goals
    go_enter Tryd.func20, Tryd.ntmps20
    go_wp2_with fail
    all_goals go_ret2
    all_goals exact ⟨rfl, rfl⟩
set_option maxHeartbeats 1000000 in
set_option maxRecDepth 100000 in
theorem ref_ofmach_no (m a d : Int) (h0 : 0 ≤ m) (h1 : m ≤ 2000) (h : rE a d ≠ 0) (w : World) : Calls Tryd.prog 20 #[.int .i64 m, .int .i64 a, .int .i64 d] w fun e w' => e = .returned (.tuple #[.int .i64 (0), .int .i64 (rE a d)]) ∧ w = w' := by
  have HR := Lib.hid (ref_sound_no a d h)
  obtain ⟨E, hE⟩ : ∃ E, rE a d = E := ⟨_, rfl⟩
  rw [hE] at HR h
  rw [hE]
  clear hE
  go_enter Tryd.func20, Tryd.ntmps20
  go_wp2_with (first | (go_at_call 35; with_reducible refine (HR.out _).mono ?_; rintro e w' ⟨rfl, rfl⟩))
  all_goals go_ret2
  all_goals exact ⟨rfl, rfl⟩
set_option maxHeartbeats 1000000 in
set_option maxRecDepth 100000 in
theorem ref_ofmach_ok (m a d : Int) (h0 : 0 ≤ m) (h1 : m ≤ 2000) (h : Ok2 a d) (w : World) : Calls Tryd.prog 20 #[.int .i64 m, .int .i64 a, .int .i64 d] w fun e w' => e = .returned (.tuple #[.int .i64 (oV m a d), .int .i64 (0)]) ∧ Kept w w' := by
  have HR := Lib.hid (ref_sound_ok a d h.1 h.2.1 h.2.2.1 h.2.2.2 w)
  rw [(oV_ok h0 h1 h).2]
  obtain ⟨p0, p1⟩ := ms_bd h0 h1 h
  obtain ⟨s0, s1⟩ := snd_bd h
  generalize snd a d = S at *
  have eu : (m * S + 16000 - 1) / 16000 = (m * S + 15999) / 16000 := by rw [show m * S + 16000 - 1 = m * S + 15999 by omega]
  have HU := rup_w (m * S) 16000 (by omega) (by omega) (by omega) (by omega)
  rw [eu] at HU
  clear h
  go_enter Tryd.func20, Tryd.ntmps20
  go_wp2_with (first | (go_at_call 35; with_reducible refine (HR.out).mono ?_; rintro e w' ⟨rfl, hk⟩) | (go_at_call 39; with_reducible refine (HU _).mono ?_; rintro e w' ⟨rfl, rfl⟩))
  all_goals go_ret2
  all_goals exact ⟨rfl, (by repeat (first | with_reducible exact Kept.refl _ | with_reducible assumption | with_reducible refine Kept.setCell ?_ (by first | (simp; done) | (simp; omega) | omega) _ | with_reducible refine Kept.alloc ?_ _ | with_reducible refine Kept.drewN ?_ _ | with_reducible refine Kept.drew ?_ | with_reducible refine Kept.trans ?_ (by with_reducible assumption) | with_reducible refine Kept.dr ?_ (by with_reducible assumption)))⟩
theorem rE_bool (E : Int) (h : E ≠ 0) : (E == 0) = false ∧ (E != 0) = true := by
  constructor
  · rw [beq_eq_false_iff_ne]; exact h
  · rw [bne_iff_ne]; exact h
set_option maxHeartbeats 1000000 in
set_option maxRecDepth 100000 in
theorem tas_w (c a d : Int) (w : World) (ht : Hid (Tab w)) : Calls Tryd.prog 11 #[.int .i64 c, .int .i64 a, .int .i64 d] w fun e w' => e = .returned (.tuple #[.int .i64 (tV c a d), .int .i64 (tE c a d)]) ∧ Kept w w' := by
  have hk : ∀ {w' : World}, w = w' → Kept w w' := fun h => h ▸ Kept.refl _
  by_cases c_ : c < 0 ∨ 1000 < c
  · have e1 : tE c a d = 1 := if_pos c_
    have e2 : tV c a d = 0 := by unfold tV; rw [e1]; rfl
    rw [e1, e2]
    exact (tas_arg c a d c_ w).mono fun e w' ⟨p, q⟩ => ⟨p, hk q⟩
  · have e1 : tE c a d = rE a d := if_neg c_
    by_cases h : rE a d = 0
    · rw [e1, h]
      exact tas_ok c a d (by omega) (by omega) (rE_ok h) w ht
    · have e2 : tV c a d = 0 := by unfold tV; rw [e1, if_neg h]
      rw [e1, e2]
      exact (tas_no c a d (by omega) (by omega) h w).mono fun e w' ⟨p, q⟩ => ⟨p, hk q⟩
set_option maxHeartbeats 1000000 in
set_option maxRecDepth 100000 in
theorem mach_w (t a d : Int) (w : World) (ht : Hid (Tab w)) : Calls Tryd.prog 13 #[.int .i64 t, .int .i64 a, .int .i64 d] w fun e w' => e = .returned (.tuple #[.int .i64 (mV t a d), .int .i64 (mE t a d)]) ∧ Kept w w' := by
  have hk : ∀ {w' : World}, w = w' → Kept w w' := fun h => h ▸ Kept.refl _
  by_cases c_ : t < 0 ∨ 4000 < t
  · have e1 : mE t a d = 1 := if_pos c_
    have e2 : mV t a d = 0 := by unfold mV; rw [e1]; rfl
    rw [e1, e2]
    exact (mach_arg t a d c_ w).mono fun e w' ⟨p, q⟩ => ⟨p, hk q⟩
  · have e1 : mE t a d = rE a d := if_neg c_
    by_cases h : rE a d = 0
    · rw [e1, h]
      exact mach_ok t a d (by omega) (by omega) (rE_ok h) w ht
    · have e2 : mV t a d = 0 := by unfold mV; rw [e1, if_neg h]
      rw [e1, e2]
      exact (mach_no t a d (by omega) (by omega) h w).mono fun e w' ⟨p, q⟩ => ⟨p, hk q⟩
set_option maxHeartbeats 1000000 in
set_option maxRecDepth 100000 in
theorem ofmach_w (m a d : Int) (w : World) (ht : Hid (Tab w)) : Calls Tryd.prog 19 #[.int .i64 m, .int .i64 a, .int .i64 d] w fun e w' => e = .returned (.tuple #[.int .i64 (oV m a d), .int .i64 (oE m a d)]) ∧ Kept w w' := by
  have hk : ∀ {w' : World}, w = w' → Kept w w' := fun h => h ▸ Kept.refl _
  by_cases c_ : m < 0 ∨ 2000 < m
  · have e1 : oE m a d = 1 := if_pos c_
    have e2 : oV m a d = 0 := by unfold oV; rw [e1]; rfl
    rw [e1, e2]
    exact (ofmach_arg m a d c_ w).mono fun e w' ⟨p, q⟩ => ⟨p, hk q⟩
  · have e1 : oE m a d = rE a d := if_neg c_
    by_cases h : rE a d = 0
    · rw [e1, h]
      exact ofmach_ok m a d (by omega) (by omega) (rE_ok h) w ht
    · have e2 : oV m a d = 0 := by unfold oV; rw [e1, if_neg h]
      rw [e1, e2]
      exact (ofmach_no m a d (by omega) (by omega) h w).mono fun e w' ⟨p, q⟩ => ⟨p, hk q⟩
set_option maxHeartbeats 1000000 in
set_option maxRecDepth 100000 in
theorem ref_tas_w (c a d : Int) (w : World) : Calls Tryd.prog 12 #[.int .i64 c, .int .i64 a, .int .i64 d] w fun e w' => e = .returned (.tuple #[.int .i64 (tV c a d), .int .i64 (tE c a d)]) ∧ Kept w w' := by
  have hk : ∀ {w' : World}, w = w' → Kept w w' := fun h => h ▸ Kept.refl _
  by_cases c_ : c < 0 ∨ 1000 < c
  · have e1 : tE c a d = 1 := if_pos c_
    have e2 : tV c a d = 0 := by unfold tV; rw [e1]; rfl
    rw [e1, e2]
    exact (ref_tas_arg c a d c_ w).mono fun e w' ⟨p, q⟩ => ⟨p, hk q⟩
  · have e1 : tE c a d = rE a d := if_neg c_
    by_cases h : rE a d = 0
    · rw [e1, h]
      exact ref_tas_ok c a d (by omega) (by omega) (rE_ok h) w
    · have e2 : tV c a d = 0 := by unfold tV; rw [e1, if_neg h]
      rw [e1, e2]
      exact (ref_tas_no c a d (by omega) (by omega) h w).mono fun e w' ⟨p, q⟩ => ⟨p, hk q⟩
set_option maxHeartbeats 1000000 in
set_option maxRecDepth 100000 in
theorem ref_mach_w (t a d : Int) (w : World) : Calls Tryd.prog 14 #[.int .i64 t, .int .i64 a, .int .i64 d] w fun e w' => e = .returned (.tuple #[.int .i64 (mV t a d), .int .i64 (mE t a d)]) ∧ Kept w w' := by
  have hk : ∀ {w' : World}, w = w' → Kept w w' := fun h => h ▸ Kept.refl _
  by_cases c_ : t < 0 ∨ 4000 < t
  · have e1 : mE t a d = 1 := if_pos c_
    have e2 : mV t a d = 0 := by unfold mV; rw [e1]; rfl
    rw [e1, e2]
    exact (ref_mach_arg t a d c_ w).mono fun e w' ⟨p, q⟩ => ⟨p, hk q⟩
  · have e1 : mE t a d = rE a d := if_neg c_
    by_cases h : rE a d = 0
    · rw [e1, h]
      exact ref_mach_ok t a d (by omega) (by omega) (rE_ok h) w
    · have e2 : mV t a d = 0 := by unfold mV; rw [e1, if_neg h]
      rw [e1, e2]
      exact (ref_mach_no t a d (by omega) (by omega) h w).mono fun e w' ⟨p, q⟩ => ⟨p, hk q⟩
set_option maxHeartbeats 1000000 in
set_option maxRecDepth 100000 in
theorem ref_ofmach_w (m a d : Int) (w : World) : Calls Tryd.prog 20 #[.int .i64 m, .int .i64 a, .int .i64 d] w fun e w' => e = .returned (.tuple #[.int .i64 (oV m a d), .int .i64 (oE m a d)]) ∧ Kept w w' := by
  have hk : ∀ {w' : World}, w = w' → Kept w w' := fun h => h ▸ Kept.refl _
  by_cases c_ : m < 0 ∨ 2000 < m
  · have e1 : oE m a d = 1 := if_pos c_
    have e2 : oV m a d = 0 := by unfold oV; rw [e1]; rfl
    rw [e1, e2]
    exact (ref_ofmach_arg m a d c_ w).mono fun e w' ⟨p, q⟩ => ⟨p, hk q⟩
  · have e1 : oE m a d = rE a d := if_neg c_
    by_cases h : rE a d = 0
    · rw [e1, h]
      exact ref_ofmach_ok m a d (by omega) (by omega) (rE_ok h) w
    · have e2 : oV m a d = 0 := by unfold oV; rw [e1, if_neg h]
      rw [e1, e2]
      exact (ref_ofmach_no m a d (by omega) (by omega) h w).mono fun e w' ⟨p, q⟩ => ⟨p, hk q⟩
set_option maxHeartbeats 1000000 in
set_option maxRecDepth 100000 in
theorem sch_arg (c m a d : Int) (h : (c < 0 ∨ 1000 < c) ∨ (m < 0 ∨ 2000 < m)) (w : World) : Calls Tryd.prog 15 #[.int .i64 c, .int .i64 m, .int .i64 a, .int .i64 d] w fun e w' => e = .returned (.tuple #[.int .i64 (0), .int .i64 (1)]) ∧ w = w' := by
  by_cases hc : c < 0 ∨ 1000 < c
  · have HC := Lib.hid (vcas_no c hc)
    clear h hc
    go_enter Tryd.func15, Tryd.ntmps15
    go_wp2_with (first | (go_at_call 29; with_reducible refine (HC.out _).mono ?_; rintro e w' ⟨rfl, rfl⟩))
    all_goals go_ret2
    all_goals exact ⟨rfl, rfl⟩
  · have hm : m < 0 ∨ 2000 < m := by omega
    have HC := Lib.hid (vcas_yes c (by omega) (by omega))
    have HM := Lib.hid (vmach_no m hm)
    clear h hc
    go_enter Tryd.func15, Tryd.ntmps15
    go_wp2_with (first | (go_at_call 29; with_reducible refine (HC.out _).mono ?_; rintro e w' ⟨rfl, rfl⟩) | (go_at_call 36; with_reducible refine (HM.out _).mono ?_; rintro e w' ⟨rfl, rfl⟩))
    all_goals go_ret2
    all_goals exact ⟨rfl, rfl⟩
set_option maxHeartbeats 1000000 in
set_option maxRecDepth 100000 in
theorem sch_no (c m a d : Int) (c0 : 0 ≤ c) (c1 : c ≤ 1000) (m0 : 0 ≤ m) (m1 : m ≤ 2000) (h : rE a d ≠ 0) (w : World) : Calls Tryd.prog 15 #[.int .i64 c, .int .i64 m, .int .i64 a, .int .i64 d] w fun e w' => e = .returned (.tuple #[.int .i64 (0), .int .i64 (rE a d)]) ∧ w = w' := by
  have HC := Lib.hid (vcas_yes c c0 c1)
  have HM := Lib.hid (vmach_yes m m0 m1)
  have HT := Lib.hid (tas_no c a d c0 c1 h)
  obtain ⟨E, hE⟩ : ∃ E, rE a d = E := ⟨_, rfl⟩
  rw [hE] at HT h
  rw [hE]
  clear hE
  go_enter Tryd.func15, Tryd.ntmps15
  go_wp2_with (first | (go_at_call 29; with_reducible refine (HC.out _).mono ?_; rintro e w' ⟨rfl, rfl⟩) | (go_at_call 36; with_reducible refine (HM.out _).mono ?_; rintro e w' ⟨rfl, rfl⟩) | (go_at_call 11; with_reducible refine (HT.out _).mono ?_; rintro e w' ⟨rfl, rfl⟩))
  all_goals go_ret2
  all_goals exact ⟨rfl, rfl⟩
set_option maxHeartbeats 1000000 in
set_option maxRecDepth 100000 in
theorem sch_ok (c m a d : Int) (c0 : 0 ≤ c) (c1 : c ≤ 1000) (m0 : 0 ≤ m) (m1 : m ≤ 2000) (h : Ok2 a d) (w : World) (ht : Hid (Tab w)) : Calls Tryd.prog 15 #[.int .i64 c, .int .i64 m, .int .i64 a, .int .i64 d] w fun e w' => e = .returned (.tuple #[.int .i64 (hV c m a d), .int .i64 (0)]) ∧ Kept w w' := by
  have HC := Lib.hid (vcas_yes c c0 c1)
  have HM := Lib.hid (vmach_yes m m0 m1)
  obtain ⟨t0, t1⟩ := tV_bd c0 c1 h
  obtain ⟨o0, o1⟩ := oV_bd m0 m1 h
  rw [(hV_ok c0 c1 m0 m1 h).2]
  have HT := Lib.hid (tas_ok c a d c0 c1 h w ht)
  have HO := Lib.hid (fun W (k : Kept w W) => ofmach_ok m a d m0 m1 h W (Lib.hid (tab_kept ht.out k)))
  generalize tV c a d = T at *
  generalize oV m a d = O at *
  go_enter Tryd.func15, Tryd.ntmps15
  go_wp2_with (first | (go_at_call 29; with_reducible refine (HC.out _).mono ?_; rintro e w' ⟨rfl, rfl⟩) | (go_at_call 36; with_reducible refine (HM.out _).mono ?_; rintro e w' ⟨rfl, rfl⟩) | (go_at_call 11; with_reducible refine HT.out.mono ?_; rintro e w1 ⟨rfl, hk1⟩) | (go_at_call 19; refine (HO.out _ hk1).mono ?_; rintro e w2 ⟨rfl, hk2⟩))
  all_goals go_ret2
  all_goals refine ⟨?_, (by repeat (first | with_reducible exact Kept.refl _ | with_reducible assumption | with_reducible refine Kept.setCell ?_ (by first | (simp; done) | (simp; omega) | omega) _ | with_reducible refine Kept.alloc ?_ _ | with_reducible refine Kept.drewN ?_ _ | with_reducible refine Kept.drew ?_ | with_reducible refine Kept.trans ?_ (by with_reducible assumption) | with_reducible refine Kept.dr ?_ (by with_reducible assumption)))⟩
  all_goals first | (rw [show min T O = T by omega]; rfl) | (rw [show min T O = O by omega]; rfl)
set_option maxHeartbeats 1000000 in
set_option maxRecDepth 100000 in
theorem sch_w (c m a d : Int) (w : World) (ht : Hid (Tab w)) : Calls Tryd.prog 15 #[.int .i64 c, .int .i64 m, .int .i64 a, .int .i64 d] w fun e w' => e = .returned (.tuple #[.int .i64 (hV c m a d), .int .i64 (hE c m a d)]) ∧ Kept w w' := by
  have hk : ∀ {w' : World}, w = w' → Kept w w' := fun h => h ▸ Kept.refl _
  by_cases c_ : (c < 0 ∨ 1000 < c) ∨ (m < 0 ∨ 2000 < m)
  · have e1 : hE c m a d = 1 := if_pos c_
    have e2 : hV c m a d = 0 := by unfold hV; rw [e1]; rfl
    rw [e1, e2]
    exact (sch_arg c m a d c_ w).mono fun e w' ⟨p, q⟩ => ⟨p, hk q⟩
  · have e1 : hE c m a d = rE a d := if_neg c_
    by_cases h : rE a d = 0
    · rw [e1, h]
      exact sch_ok c m a d (by omega) (by omega) (by omega) (by omega) (rE_ok h) w ht
    · have e2 : hV c m a d = 0 := by unfold hV; rw [e1, if_neg h]
      rw [e1, e2]
      exact (sch_no c m a d (by omega) (by omega) (by omega) (by omega) h w).mono fun e w' ⟨p, q⟩ => ⟨p, hk q⟩
set_option maxHeartbeats 1000000 in
set_option maxRecDepth 100000 in
theorem ref_sch_arg (c m a d : Int) (h : (c < 0 ∨ 1000 < c) ∨ (m < 0 ∨ 2000 < m)) (w : World) : Calls Tryd.prog 16 #[.int .i64 c, .int .i64 m, .int .i64 a, .int .i64 d] w fun e w' => e = .returned (.tuple #[.int .i64 (0), .int .i64 (1)]) ∧ w = w' := by
  by_cases hc : c < 0 ∨ 1000 < c
  · have HC := Lib.hid (rcal_no c hc)
    clear h hc
    go_enter Tryd.func16, Tryd.ntmps16
    go_wp2_with (first | (go_at_call 31; with_reducible refine (HC.out _).mono ?_; rintro e w' ⟨rfl, rfl⟩))
    all_goals go_ret2
    all_goals exact ⟨rfl, rfl⟩
  · have hm : m < 0 ∨ 2000 < m := by omega
    have HC := Lib.hid (rcal_yes c (by omega) (by omega))
    clear h hc
    rcases hm with hm | hm
    all_goals
      go_enter Tryd.func16, Tryd.ntmps16
      go_wp2_with (first | (go_at_call 31; with_reducible refine (HC.out _).mono ?_; rintro e w' ⟨rfl, rfl⟩))
      all_goals go_ret2
      all_goals exact ⟨rfl, rfl⟩
set_option maxHeartbeats 1000000 in
set_option maxRecDepth 100000 in
theorem ref_sch_no (c m a d : Int) (c0 : 0 ≤ c) (c1 : c ≤ 1000) (m0 : 0 ≤ m) (m1 : m ≤ 2000) (h : rE a d ≠ 0) (w : World) : Calls Tryd.prog 16 #[.int .i64 c, .int .i64 m, .int .i64 a, .int .i64 d] w fun e w' => e = .returned (.tuple #[.int .i64 (0), .int .i64 (rE a d)]) ∧ w = w' := by
  have HC := Lib.hid (rcal_yes c c0 c1)
  have HT := Lib.hid (ref_tas_no c a d c0 c1 h)
  obtain ⟨E, hE⟩ : ∃ E, rE a d = E := ⟨_, rfl⟩
  rw [hE] at HT h
  rw [hE]
  clear hE
  go_enter Tryd.func16, Tryd.ntmps16
  go_wp2_with (first | (go_at_call 31; with_reducible refine (HC.out _).mono ?_; rintro e w' ⟨rfl, rfl⟩) | (go_at_call 12; with_reducible refine (HT.out _).mono ?_; rintro e w' ⟨rfl, rfl⟩))
  all_goals go_ret2
  all_goals exact ⟨rfl, rfl⟩
set_option maxHeartbeats 1000000 in
set_option maxRecDepth 100000 in
theorem ref_sch_ok (c m a d : Int) (c0 : 0 ≤ c) (c1 : c ≤ 1000) (m0 : 0 ≤ m) (m1 : m ≤ 2000) (h : Ok2 a d) (w : World) : Calls Tryd.prog 16 #[.int .i64 c, .int .i64 m, .int .i64 a, .int .i64 d] w fun e w' => e = .returned (.tuple #[.int .i64 (hV c m a d), .int .i64 (0)]) ∧ Kept w w' := by
  have HC := Lib.hid (rcal_yes c c0 c1)
  obtain ⟨t0, t1⟩ := tV_bd c0 c1 h
  obtain ⟨o0, o1⟩ := oV_bd m0 m1 h
  rw [(hV_ok c0 c1 m0 m1 h).2]
  have HT := Lib.hid (ref_tas_ok c a d c0 c1 h w)
  have HO := Lib.hid (fun W (k : Kept w W) => ref_ofmach_ok m a d m0 m1 h W)
  generalize tV c a d = T at *
  generalize oV m a d = O at *
  go_enter Tryd.func16, Tryd.ntmps16
  go_wp2_with (first | (go_at_call 31; with_reducible refine (HC.out _).mono ?_; rintro e w' ⟨rfl, rfl⟩) | (go_at_call 12; with_reducible refine HT.out.mono ?_; rintro e w1 ⟨rfl, hk1⟩) | (go_at_call 20; refine (HO.out _ hk1).mono ?_; rintro e w2 ⟨rfl, hk2⟩))
  all_goals go_ret2
  all_goals refine ⟨?_, (by repeat (first | with_reducible exact Kept.refl _ | with_reducible assumption | with_reducible refine Kept.setCell ?_ (by first | (simp; done) | (simp; omega) | omega) _ | with_reducible refine Kept.alloc ?_ _ | with_reducible refine Kept.drewN ?_ _ | with_reducible refine Kept.drew ?_ | with_reducible refine Kept.trans ?_ (by with_reducible assumption) | with_reducible refine Kept.dr ?_ (by with_reducible assumption)))⟩
  all_goals first | (rw [show min T O = T by omega]; rfl) | (rw [show min T O = O by omega]; rfl)
set_option maxHeartbeats 1000000 in
set_option maxRecDepth 100000 in
theorem ref_sch_w (c m a d : Int) (w : World) : Calls Tryd.prog 16 #[.int .i64 c, .int .i64 m, .int .i64 a, .int .i64 d] w fun e w' => e = .returned (.tuple #[.int .i64 (hV c m a d), .int .i64 (hE c m a d)]) ∧ Kept w w' := by
  have hk : ∀ {w' : World}, w = w' → Kept w w' := fun h => h ▸ Kept.refl _
  by_cases c_ : (c < 0 ∨ 1000 < c) ∨ (m < 0 ∨ 2000 < m)
  · have e1 : hE c m a d = 1 := if_pos c_
    have e2 : hV c m a d = 0 := by unfold hV; rw [e1]; rfl
    rw [e1, e2]
    exact (ref_sch_arg c m a d c_ w).mono fun e w' ⟨p, q⟩ => ⟨p, hk q⟩
  · have e1 : hE c m a d = rE a d := if_neg c_
    by_cases h : rE a d = 0
    · rw [e1, h]
      exact ref_sch_ok c m a d (by omega) (by omega) (by omega) (by omega) (rE_ok h) w
    · have e2 : hV c m a d = 0 := by unfold hV; rw [e1, if_neg h]
      rw [e1, e2]
      exact (ref_sch_no c m a d (by omega) (by omega) (by omega) (by omega) h w).mono fun e w' ⟨p, q⟩ => ⟨p, hk q⟩
end Go.Proofs.YtfkgghjinkmpiaaDoor
