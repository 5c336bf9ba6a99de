/-
  Own contracts: package trig and the document's answers: the series, sines and cosines.
-/
import Derived.Test.YtfpgdicacjkfoaaGreatDoorTrga
import Derived.WalkKit
import Derived.ProofKit
import Derived.OpenShut
import Derived.WalkLawsBesides
import Derived.WalkSpells
import Derived.Lib.Hide
import Derived.Deep.DeepCutAuto
import Derived.Deep.CutBlock
import Derived.Deep.QuietTactic
import Derived.BigQuiet
import Derived.Handy
import Derived.StillTailTactics
import Derived.IntWalk
import Derived.LoopN
import Derived.Deep.RegionHeld3
namespace Go.Proofs.YtfpgdicacjkfoaaGreatDoor
open Go.ChangeShapes Go.WideShapes Go.ChangeAt Go.RowKit
set_option linter.unusedVariables false
set_option linter.unusedSimpArgs false
theorem sineSeries_w (a : Int) (h0 : 0 ≤ a) (h1 : a ≤ 16200000) (w : World) : Calls Tryz.prog 70 #[.int .i64 a] w fun e w' => e = .returned (.int .i64 (ssn a)) ∧ Kept w w' := by
  obtain ⟨r0, r1⟩ := rad_bd a h0 h1
  obtain ⟨v0, v1, u0, u1⟩ := usq_bd (rad a) r0 r1
  obtain ⟨k0, k1⟩ := ssn_bd a h0 h1
  have m := tms_bd (rad a) (sser (tms (rad a) (rad a))) 1686629713 r0 r1 (by omega) (sser_bd _ u0 u1).1 (sser_bd _ u0 u1).2
  obtain ⟨m0, m1, m2, m3⟩ := m
  have HV : Hid (ssn a = (tms (rad a) (sser (tms (rad a) (rad a))) + 1) / 2) := Lib.hid rfl
  rw [HV.out]
  go_enter Tryz.func70, Tryz.ntmps70
  go_wp2_with fail
  refine (radians_w a h0 (by omega) _).mono ?_
  rintro e w' ⟨rfl, rfl⟩
  go_wp2_with fail
  refine (times_w _ _ (by omega) (by omega) _).mono ?_
  rintro e w' ⟨rfl, rfl⟩
  go_wp2_with fail
  refine (series_ss _ u0 u1 _).mono ?_
  rintro e w1 ⟨rfl, hk⟩
  go_wp2_with fail
  refine (times_w _ _ m0 m1 _).mono ?_
  rintro e w' ⟨rfl, rfl⟩
  go_wp2_with fail
  go_ret
  exact ⟨rfl, (by repeat (first | with_reducible exact Kept.refl _ | with_reducible assumption | with_reducible refine Kept.setCell ?_ (by first | (simp; done) | (simp; omega) | omega) _ | with_reducible refine Kept.alloc ?_ _ | with_reducible refine Kept.drewN ?_ _ | with_reducible refine Kept.drew ?_ | with_reducible refine Kept.trans ?_ (by with_reducible assumption) | with_reducible refine Kept.dr ?_ (by with_reducible assumption)))⟩
theorem cosineSeries_w (a : Int) (h0 : 0 ≤ a) (h1 : a ≤ 16200000) (w : World) : Calls Tryz.prog 71 #[.int .i64 a] w fun e w' => e = .returned (.int .i64 (csn a)) ∧ Kept w w' := by
  obtain ⟨r0, r1⟩ := rad_bd a h0 h1
  obtain ⟨v0, v1, u0, u1⟩ := usq_bd (rad a) r0 r1
  obtain ⟨k0, k1⟩ := csn_bd a h0 h1
  obtain ⟨m2, m3⟩ := cser_bd _ u0 u1
  have HV : Hid (csn a = (cser (tms (rad a) (rad a)) + 1) / 2) := Lib.hid rfl
  rw [HV.out]
  go_enter Tryz.func71, Tryz.ntmps71
  go_wp2_with fail
  refine (radians_w a h0 (by omega) _).mono ?_
  rintro e w' ⟨rfl, rfl⟩
  go_wp2_with fail
  refine (times_w _ _ (by omega) (by omega) _).mono ?_
  rintro e w' ⟨rfl, rfl⟩
  go_wp2_with fail
  refine (series_cs _ u0 u1 _).mono ?_
  rintro e w1 ⟨rfl, hk⟩
  go_wp2_with fail
  go_ret
  exact ⟨rfl, (by repeat (first | with_reducible exact Kept.refl _ | with_reducible assumption | with_reducible refine Kept.setCell ?_ (by first | (simp; done) | (simp; omega) | omega) _ | with_reducible refine Kept.alloc ?_ _ | with_reducible refine Kept.drewN ?_ _ | with_reducible refine Kept.drew ?_ | with_reducible refine Kept.trans ?_ (by with_reducible assumption) | with_reducible refine Kept.dr ?_ (by with_reducible assumption)))⟩
theorem quarterSine_w (a : Int) (h0 : 0 ≤ a) (h1 : a ≤ 32400000) (w : World) : Calls Tryz.prog 53 #[.int .i64 a] w fun e w' => e = .returned (.int .i64 (qsn a)) ∧ Kept w w' := by
  obtain ⟨k0, k1⟩ := qsn_bd a h0 h1
  by_cases c : a ≤ 16200000
  · have HV : Hid (qsn a = ssn a) := Lib.hid (by unfold qsn; rw [if_pos c])
    rw [HV.out]
    go_enter Tryz.func53, Tryz.ntmps53
    go_wp2_with fail
    refine (sineSeries_w a h0 c _).mono ?_
    rintro e w1 ⟨rfl, hk⟩
    go_wp2_with fail
    go_ret
    exact ⟨rfl, (by repeat (first | with_reducible exact Kept.refl _ | with_reducible assumption | with_reducible refine Kept.setCell ?_ (by first | (simp; done) | (simp; omega) | omega) _ | with_reducible refine Kept.alloc ?_ _ | with_reducible refine Kept.drewN ?_ _ | with_reducible refine Kept.drew ?_ | with_reducible refine Kept.trans ?_ (by with_reducible assumption) | with_reducible refine Kept.dr ?_ (by with_reducible assumption)))⟩
  · have HV : Hid (qsn a = csn (32400000 - a)) := Lib.hid (by unfold qsn; rw [if_neg c])
    rw [HV.out]
    go_enter Tryz.func53, Tryz.ntmps53
    go_wp2_with fail
    refine (cosineSeries_w _ (by omega) (by omega) _).mono ?_
    rintro e w1 ⟨rfl, hk⟩
    go_wp2_with fail
    go_ret
    exact ⟨rfl, (by repeat (first | with_reducible exact Kept.refl _ | with_reducible assumption | with_reducible refine Kept.setCell ?_ (by first | (simp; done) | (simp; omega) | omega) _ | with_reducible refine Kept.alloc ?_ _ | with_reducible refine Kept.drewN ?_ _ | with_reducible refine Kept.drew ?_ | with_reducible refine Kept.trans ?_ (by with_reducible assumption) | with_reducible refine Kept.dr ?_ (by with_reducible assumption)))⟩
theorem sin_w (a : Int) (a0 : -9223372036854775808 ≤ a) (a1 : a ≤ 9223372036854775807) (w : World) : Calls Tryz.prog 28 #[.int .i64 a] w fun e w' => e = .returned (.int .i64 (sinV a)) ∧ Kept w w' := by
  obtain ⟨n0, n1⟩ := nrm_bd a
  obtain ⟨b, hb⟩ : ∃ b, nrm a = b := ⟨_, rfl⟩
  rw [hb] at n0 n1
  by_cases c1 : b ≤ 32400000
  · have HV : Hid (sinV a = qsn b) := Lib.hid (by unfold sinV; rw [hb]; rw [if_pos c1])
    rw [HV.out]
    obtain ⟨k0, k1⟩ := qsn_bd (b) (by omega) (by omega)
    have HB := Lib.hid hb; clear hb
    go_enter Tryz.func28, Tryz.ntmps28
    go_wp2_with fail
    refine (norm_w a a0 a1 _).mono ?_
    rw [HB.out]
    rintro e w' ⟨rfl, rfl⟩
    go_wp2_with fail
    refine (quarterSine_w _ (by omega) (by omega) _).mono ?_
    rintro e w1 ⟨rfl, hk⟩
    go_wp2_with fail
    go_ret
    exact ⟨rfl, (by repeat (first | with_reducible exact Kept.refl _ | with_reducible assumption | with_reducible refine Kept.setCell ?_ (by first | (simp; done) | (simp; omega) | omega) _ | with_reducible refine Kept.alloc ?_ _ | with_reducible refine Kept.drewN ?_ _ | with_reducible refine Kept.drew ?_ | with_reducible refine Kept.trans ?_ (by with_reducible assumption) | with_reducible refine Kept.dr ?_ (by with_reducible assumption)))⟩
  by_cases c2 : b ≤ 64800000
  · have HV : Hid (sinV a = qsn (64800000 - b)) := Lib.hid (by unfold sinV; rw [hb]; rw [if_neg c1, if_pos c2])
    rw [HV.out]
    obtain ⟨k0, k1⟩ := qsn_bd (64800000 - b) (by omega) (by omega)
    have HB := Lib.hid hb; clear hb
    go_enter Tryz.func28, Tryz.ntmps28
    go_wp2_with fail
    refine (norm_w a a0 a1 _).mono ?_
    rw [HB.out]
    rintro e w' ⟨rfl, rfl⟩
    go_wp2_with fail
    refine (quarterSine_w _ (by omega) (by omega) _).mono ?_
    rintro e w1 ⟨rfl, hk⟩
    go_wp2_with fail
    go_ret
    exact ⟨rfl, (by repeat (first | with_reducible exact Kept.refl _ | with_reducible assumption | with_reducible refine Kept.setCell ?_ (by first | (simp; done) | (simp; omega) | omega) _ | with_reducible refine Kept.alloc ?_ _ | with_reducible refine Kept.drewN ?_ _ | with_reducible refine Kept.drew ?_ | with_reducible refine Kept.trans ?_ (by with_reducible assumption) | with_reducible refine Kept.dr ?_ (by with_reducible assumption)))⟩
  by_cases c3 : b ≤ 97200000
  · have HV : Hid (sinV a = -qsn (b - 64800000)) := Lib.hid (by unfold sinV; rw [hb]; rw [if_neg c1, if_neg c2, if_pos c3])
    rw [HV.out]
    obtain ⟨k0, k1⟩ := qsn_bd (b - 64800000) (by omega) (by omega)
    have HB := Lib.hid hb; clear hb
    go_enter Tryz.func28, Tryz.ntmps28
    go_wp2_with fail
    refine (norm_w a a0 a1 _).mono ?_
    rw [HB.out]
    rintro e w' ⟨rfl, rfl⟩
    go_wp2_with fail
    refine (quarterSine_w _ (by omega) (by omega) _).mono ?_
    rintro e w1 ⟨rfl, hk⟩
    go_wp2_with fail
    go_ret
    exact ⟨rfl, (by repeat (first | with_reducible exact Kept.refl _ | with_reducible assumption | with_reducible refine Kept.setCell ?_ (by first | (simp; done) | (simp; omega) | omega) _ | with_reducible refine Kept.alloc ?_ _ | with_reducible refine Kept.drewN ?_ _ | with_reducible refine Kept.drew ?_ | with_reducible refine Kept.trans ?_ (by with_reducible assumption) | with_reducible refine Kept.dr ?_ (by with_reducible assumption)))⟩
  · have HV : Hid (sinV a = -qsn (129600000 - b)) := Lib.hid (by unfold sinV; rw [hb]; rw [if_neg c1, if_neg c2, if_neg c3])
    rw [HV.out]
    obtain ⟨k0, k1⟩ := qsn_bd (129600000 - b) (by omega) (by omega)
    have HB := Lib.hid hb; clear hb
    go_enter Tryz.func28, Tryz.ntmps28
    go_wp2_with fail
    refine (norm_w a a0 a1 _).mono ?_
    rw [HB.out]
    rintro e w' ⟨rfl, rfl⟩
    go_wp2_with fail
    refine (quarterSine_w _ (by omega) (by omega) _).mono ?_
    rintro e w1 ⟨rfl, hk⟩
    go_wp2_with fail
    go_ret
    exact ⟨rfl, (by repeat (first | with_reducible exact Kept.refl _ | with_reducible assumption | with_reducible refine Kept.setCell ?_ (by first | (simp; done) | (simp; omega) | omega) _ | with_reducible refine Kept.alloc ?_ _ | with_reducible refine Kept.drewN ?_ _ | with_reducible refine Kept.drew ?_ | with_reducible refine Kept.trans ?_ (by with_reducible assumption) | with_reducible refine Kept.dr ?_ (by with_reducible assumption)))⟩
theorem cos_w (a : Int) (a0 : -9223372036854775808 ≤ a) (a1 : a ≤ 9223372036854775807) (w : World) : Calls Tryz.prog 29 #[.int .i64 a] w fun e w' => e = .returned (.int .i64 (cosV a)) ∧ Kept w w' := by
  obtain ⟨n0, n1⟩ := nrm_bd (nrm a + nrm 32400000)
  have h0 : 0 ≤ trn a 32400000 := n0
  have h1 : trn a 32400000 < 129600000 := n1
  clear n0 n1
  go_enter Tryz.func29, Tryz.ntmps29
  go_wp2_with fail
  refine (turn_w a _ a0 a1 (by omega) (by omega) _).mono ?_
  rintro e w' ⟨rfl, rfl⟩
  go_wp2_with fail
  refine (sin_w _ (by omega) (by omega) _).mono ?_
  rintro e w1 ⟨rfl, hk⟩
  go_wp2_with fail
  go_ret
  exact ⟨rfl, (by repeat (first | with_reducible exact Kept.refl _ | with_reducible assumption | with_reducible refine Kept.setCell ?_ (by first | (simp; done) | (simp; omega) | omega) _ | with_reducible refine Kept.alloc ?_ _ | with_reducible refine Kept.drewN ?_ _ | with_reducible refine Kept.drew ?_ | with_reducible refine Kept.trans ?_ (by with_reducible assumption) | with_reducible refine Kept.dr ?_ (by with_reducible assumption)))⟩
theorem ref_mul_w (x y : Int) (h0 : 0 ≤ x * y) (h1 : x * y ≤ 4611686018427387904) (w : World) : Calls Tryz.prog 97 #[.int .i64 x, .int .i64 y] w fun e w' => e = .returned (.int .i64 (tms x y)) ∧ w = w' := by
  go_enter Tryz.func97, Tryz.ntmps97
  go_wp2
  go_ret
  exact ⟨rfl, rfl⟩
theorem ref_div_w (x n : Int) (h0 : 0 ≤ x) (h1 : x ≤ 4611686018427387904) (n0 : 2 ≤ n) (n1 : n ≤ 110) (w : World) : Calls Tryz.prog 96 #[.int .i64 x, .int .i64 n] w fun e w' => e = .returned (.int .i64 ((x + n / 2) / n)) ∧ w = w' := by
  go_enter Tryz.func96, Tryz.ntmps96
  go_wp2
  go_ret
  exact ⟨rfl, rfl⟩
theorem ref_argument_w (a : Int) (h0 : 0 ≤ a) (h1 : a ≤ 16200000) (w : World) : Calls Tryz.prog 95 #[.int .i64 a] w fun e w' => e = .returned (.tuple #[.int .i64 (rad a), .int .i64 (tms (rad a) (rad a))]) ∧ w = w' := by
  obtain ⟨r0, r1⟩ := rad_bd a h0 h1
  obtain ⟨v0, v1, u0, u1⟩ := usq_bd (rad a) r0 r1
  have HR : Hid ((a * 6746518852 + 32400000) / 64800000 = rad a) := Lib.hid rfl
  go_enter Tryz.func95, Tryz.ntmps95
  go_wp2_with fail
  rw [HR.out]
  refine (ref_mul_w _ _ (by omega) (by omega) _).mono ?_
  rintro e w' ⟨rfl, rfl⟩
  go_wp2_with fail
  go_ret2
  exact ⟨rfl, rfl⟩
set_option maxHeartbeats 1000000 in
theorem ref_sine_w (a : Int) (h0 : 0 ≤ a) (h1 : a ≤ 16200000) (w : World) : Calls Tryz.prog 77 #[.int .i64 a] w fun e w' => e = .returned (.int .i64 (ssn a)) ∧ w = w' := by
  obtain ⟨z0, z1⟩ := rad_bd a h0 h1
  obtain ⟨v0, v1, u0, u1⟩ := usq_bd (rad a) z0 z1
  obtain ⟨t, ht⟩ : ∃ t, rad a = t := ⟨_, rfl⟩
  rw [ht] at z0 z1 v0 v1 u0 u1
  obtain ⟨u, hu⟩ : ∃ u, tms t t = u := ⟨_, rfl⟩
  rw [hu] at u0 u1
  obtain ⟨r0, hr0⟩ : ∃ r, stp u 2147483648 110 = r := ⟨_, rfl⟩
  have b0 := stp_bd u 2147483648 110 u0 u1 (by omega) (by omega) (by omega)
  have m0 := tms_bd u 2147483648 1324675879 u0 u1 (by omega) (by omega) (by omega)
  rw [hr0] at b0
  have e0 : 2147483648 - (tms u 2147483648 + 55) / 110 = r0 := hr0
  obtain ⟨r1, hr1⟩ : ∃ r, stp u r0 72 = r := ⟨_, rfl⟩
  have b1 := stp_bd u r0 72 u0 u1 (by omega) (by omega) (by omega)
  have m1 := tms_bd u r0 1324675879 u0 u1 (by omega) (by omega) (by omega)
  rw [hr1] at b1
  have e1 : 2147483648 - (tms u r0 + 36) / 72 = r1 := hr1
  obtain ⟨r2, hr2⟩ : ∃ r, stp u r1 42 = r := ⟨_, rfl⟩
  have b2 := stp_bd u r1 42 u0 u1 (by omega) (by omega) (by omega)
  have m2 := tms_bd u r1 1324675879 u0 u1 (by omega) (by omega) (by omega)
  rw [hr2] at b2
  have e2 : 2147483648 - (tms u r1 + 21) / 42 = r2 := hr2
  obtain ⟨r3, hr3⟩ : ∃ r, stp u r2 20 = r := ⟨_, rfl⟩
  have b3 := stp_bd u r2 20 u0 u1 (by omega) (by omega) (by omega)
  have m3 := tms_bd u r2 1324675879 u0 u1 (by omega) (by omega) (by omega)
  rw [hr3] at b3
  have e3 : 2147483648 - (tms u r2 + 10) / 20 = r3 := hr3
  obtain ⟨r4, hr4⟩ : ∃ r, stp u r3 6 = r := ⟨_, rfl⟩
  have b4 := stp_bd u r3 6 u0 u1 (by omega) (by omega) (by omega)
  have m4 := tms_bd u r3 1324675879 u0 u1 (by omega) (by omega) (by omega)
  rw [hr4] at b4
  have e4 : 2147483648 - (tms u r3 + 3) / 6 = r4 := hr4
  rw [tms_one] at e0 m0
  obtain ⟨n00, n01⟩ := b0
  obtain ⟨p00, p01, p02, p03⟩ := m0
  obtain ⟨n10, n11⟩ := b1
  obtain ⟨p10, p11, p12, p13⟩ := m1
  obtain ⟨n20, n21⟩ := b2
  obtain ⟨p20, p21, p22, p23⟩ := m2
  obtain ⟨n30, n31⟩ := b3
  obtain ⟨p30, p31, p32, p33⟩ := m3
  obtain ⟨n40, n41⟩ := b4
  obtain ⟨p40, p41, p42, p43⟩ := m4
  have HV : Hid (ssn a = (tms t r4 + 1) / 2) := Lib.hid (by unfold ssn sser; rw [ht, hu, hr0, hr1, hr2, hr3, hr4])
  clear hr0 hr1 hr2 hr3 hr4
  have E0 := Lib.hid e0; clear e0
  have E1 := Lib.hid e1; clear e1
  have E2 := Lib.hid e2; clear e2
  have E3 := Lib.hid e3; clear e3
  have E4 := Lib.hid e4; clear e4
  obtain ⟨m0, m1, m2, m3⟩ := tms_bd t r4 1686629713 z0 z1 (by omega) (by omega) (by omega)
  have HT := Lib.hid ht; have HU := Lib.hid hu; clear ht hu
  rw [HV.out]
  go_enter Tryz.func77, Tryz.ntmps77
  go_wp2_with fail
  refine (ref_argument_w a h0 h1 _).mono ?_
  rw [HT.out, HU.out]
  rintro e w' ⟨rfl, rfl⟩
  go_wp2_with fail
  refine (ref_div_w _ _ (by omega) (by omega) (by omega) (by omega) _).mono ?_
  rintro e w' ⟨rfl, rfl⟩
  go_wp2_with fail
  rw [E0.out]
  refine (ref_mul_w u _ (by omega) (by omega) _).mono ?_
  rintro e w' ⟨rfl, rfl⟩
  go_wp2_with fail
  refine (ref_div_w _ _ (by omega) (by omega) (by omega) (by omega) _).mono ?_
  rintro e w' ⟨rfl, rfl⟩
  go_wp2_with fail
  rw [E1.out]
  refine (ref_mul_w u _ (by omega) (by omega) _).mono ?_
  rintro e w' ⟨rfl, rfl⟩
  go_wp2_with fail
  refine (ref_div_w _ _ (by omega) (by omega) (by omega) (by omega) _).mono ?_
  rintro e w' ⟨rfl, rfl⟩
  go_wp2_with fail
  rw [E2.out]
  refine (ref_mul_w u _ (by omega) (by omega) _).mono ?_
  rintro e w' ⟨rfl, rfl⟩
  go_wp2_with fail
  refine (ref_div_w _ _ (by omega) (by omega) (by omega) (by omega) _).mono ?_
  rintro e w' ⟨rfl, rfl⟩
  go_wp2_with fail
  rw [E3.out]
  refine (ref_mul_w u _ (by omega) (by omega) _).mono ?_
  rintro e w' ⟨rfl, rfl⟩
  go_wp2_with fail
  refine (ref_div_w _ _ (by omega) (by omega) (by omega) (by omega) _).mono ?_
  rintro e w' ⟨rfl, rfl⟩
  go_wp2_with fail
  rw [E4.out]
  refine (ref_mul_w t _ (by omega) (by omega) _).mono ?_
  rintro e w' ⟨rfl, rfl⟩
  go_wp2_with fail
  go_ret
  exact ⟨rfl, rfl⟩
set_option maxHeartbeats 1000000 in
theorem ref_cosine_w (a : Int) (h0 : 0 ≤ a) (h1 : a ≤ 16200000) (w : World) : Calls Tryz.prog 78 #[.int .i64 a] w fun e w' => e = .returned (.int .i64 (csn a)) ∧ w = w' := by
  obtain ⟨z0, z1⟩ := rad_bd a h0 h1
  obtain ⟨v0, v1, u0, u1⟩ := usq_bd (rad a) z0 z1
  obtain ⟨t, ht⟩ : ∃ t, rad a = t := ⟨_, rfl⟩
  rw [ht] at z0 z1 v0 v1 u0 u1
  obtain ⟨u, hu⟩ : ∃ u, tms t t = u := ⟨_, rfl⟩
  rw [hu] at u0 u1
  obtain ⟨r0, hr0⟩ : ∃ r, stp u 2147483648 90 = r := ⟨_, rfl⟩
  have b0 := stp_bd u 2147483648 90 u0 u1 (by omega) (by omega) (by omega)
  have m0 := tms_bd u 2147483648 1324675879 u0 u1 (by omega) (by omega) (by omega)
  rw [hr0] at b0
  have e0 : 2147483648 - (tms u 2147483648 + 45) / 90 = r0 := hr0
  obtain ⟨r1, hr1⟩ : ∃ r, stp u r0 56 = r := ⟨_, rfl⟩
  have b1 := stp_bd u r0 56 u0 u1 (by omega) (by omega) (by omega)
  have m1 := tms_bd u r0 1324675879 u0 u1 (by omega) (by omega) (by omega)
  rw [hr1] at b1
  have e1 : 2147483648 - (tms u r0 + 28) / 56 = r1 := hr1
  obtain ⟨r2, hr2⟩ : ∃ r, stp u r1 30 = r := ⟨_, rfl⟩
  have b2 := stp_bd u r1 30 u0 u1 (by omega) (by omega) (by omega)
  have m2 := tms_bd u r1 1324675879 u0 u1 (by omega) (by omega) (by omega)
  rw [hr2] at b2
  have e2 : 2147483648 - (tms u r1 + 15) / 30 = r2 := hr2
  obtain ⟨r3, hr3⟩ : ∃ r, stp u r2 12 = r := ⟨_, rfl⟩
  have b3 := stp_bd u r2 12 u0 u1 (by omega) (by omega) (by omega)
  have m3 := tms_bd u r2 1324675879 u0 u1 (by omega) (by omega) (by omega)
  rw [hr3] at b3
  have e3 : 2147483648 - (tms u r2 + 6) / 12 = r3 := hr3
  obtain ⟨r4, hr4⟩ : ∃ r, stp u r3 2 = r := ⟨_, rfl⟩
  have b4 := stp_bd u r3 2 u0 u1 (by omega) (by omega) (by omega)
  have m4 := tms_bd u r3 1324675879 u0 u1 (by omega) (by omega) (by omega)
  rw [hr4] at b4
  have e4 : 2147483648 - (tms u r3 + 1) / 2 = r4 := hr4
  rw [tms_one] at e0 m0
  obtain ⟨n00, n01⟩ := b0
  obtain ⟨p00, p01, p02, p03⟩ := m0
  obtain ⟨n10, n11⟩ := b1
  obtain ⟨p10, p11, p12, p13⟩ := m1
  obtain ⟨n20, n21⟩ := b2
  obtain ⟨p20, p21, p22, p23⟩ := m2
  obtain ⟨n30, n31⟩ := b3
  obtain ⟨p30, p31, p32, p33⟩ := m3
  obtain ⟨n40, n41⟩ := b4
  obtain ⟨p40, p41, p42, p43⟩ := m4
  have HV : Hid (csn a = (r4 + 1) / 2) := Lib.hid (by unfold csn cser; rw [ht, hu, hr0, hr1, hr2, hr3, hr4])
  clear hr0 hr1 hr2 hr3 hr4
  have E0 := Lib.hid e0; clear e0
  have E1 := Lib.hid e1; clear e1
  have E2 := Lib.hid e2; clear e2
  have E3 := Lib.hid e3; clear e3
  have E4 := Lib.hid e4; clear e4
  have HT := Lib.hid ht; have HU := Lib.hid hu; clear ht hu
  rw [HV.out]
  go_enter Tryz.func78, Tryz.ntmps78
  go_wp2_with fail
  refine (ref_argument_w a h0 h1 _).mono ?_
  rw [HT.out, HU.out]
  rintro e w' ⟨rfl, rfl⟩
  go_wp2_with fail
  refine (ref_div_w _ _ (by omega) (by omega) (by omega) (by omega) _).mono ?_
  rintro e w' ⟨rfl, rfl⟩
  go_wp2_with fail
  rw [E0.out]
  refine (ref_mul_w u _ (by omega) (by omega) _).mono ?_
  rintro e w' ⟨rfl, rfl⟩
  go_wp2_with fail
  refine (ref_div_w _ _ (by omega) (by omega) (by omega) (by omega) _).mono ?_
  rintro e w' ⟨rfl, rfl⟩
  go_wp2_with fail
  rw [E1.out]
  refine (ref_mul_w u _ (by omega) (by omega) _).mono ?_
  rintro e w' ⟨rfl, rfl⟩
  go_wp2_with fail
  refine (ref_div_w _ _ (by omega) (by omega) (by omega) (by omega) _).mono ?_
  rintro e w' ⟨rfl, rfl⟩
  go_wp2_with fail
  rw [E2.out]
  refine (ref_mul_w u _ (by omega) (by omega) _).mono ?_
  rintro e w' ⟨rfl, rfl⟩
  go_wp2_with fail
  refine (ref_div_w _ _ (by omega) (by omega) (by omega) (by omega) _).mono ?_
  rintro e w' ⟨rfl, rfl⟩
  go_wp2_with fail
  rw [E3.out]
  refine (ref_mul_w u _ (by omega) (by omega) _).mono ?_
  rintro e w' ⟨rfl, rfl⟩
  go_wp2_with fail
  refine (ref_div_w _ _ (by omega) (by omega) (by omega) (by omega) _).mono ?_
  rintro e w' ⟨rfl, rfl⟩
  go_wp2_with fail
  rw [E4.out]
  go_ret
  exact ⟨rfl, rfl⟩
theorem ref_quarter_w (a : Int) (h0 : 0 ≤ a) (h1 : a ≤ 32400000) (w : World) : Calls Tryz.prog 57 #[.int .i64 a] w fun e w' => e = .returned (.int .i64 (qsn a)) ∧ w = w' := by
  by_cases c : a ≤ 16200000
  · have HV : Hid (qsn a = ssn a) := Lib.hid (by unfold qsn; rw [if_pos c])
    rw [HV.out]
    go_enter Tryz.func57, Tryz.ntmps57
    go_wp2_with fail
    refine (ref_sine_w a h0 c _).mono ?_
    rintro e w' ⟨rfl, rfl⟩
    go_wp2_with fail
    go_ret
    exact ⟨rfl, rfl⟩
  · have HV : Hid (qsn a = csn (32400000 - a)) := Lib.hid (by unfold qsn; rw [if_neg c])
    rw [HV.out]
    go_enter Tryz.func57, Tryz.ntmps57
    go_wp2_with fail
    refine (ref_cosine_w _ (by omega) (by omega) _).mono ?_
    rintro e w' ⟨rfl, rfl⟩
    go_wp2_with fail
    go_ret
    exact ⟨rfl, rfl⟩
theorem ref_sin_w (a : Int) (a0 : -9223372036854775808 ≤ a) (a1 : a ≤ 9223372036854775807) (w : World) : Calls Tryz.prog 34 #[.int .i64 a] w fun e w' => e = .returned (.int .i64 (sinV a)) ∧ w = w' := by
  obtain ⟨n0, n1⟩ := nrm_bd a
  obtain ⟨b, hb⟩ : ∃ b, nrm a = b := ⟨_, rfl⟩
  rw [hb] at n0 n1
  by_cases c1 : b ≤ 32400000
  · have HV : Hid (sinV a = qsn b) := Lib.hid (by unfold sinV; rw [hb]; rw [if_pos c1])
    rw [HV.out]
    obtain ⟨k0, k1⟩ := qsn_bd (b) (by omega) (by omega)
    have HB := Lib.hid hb; clear hb
    go_enter Tryz.func34, Tryz.ntmps34
    go_wp2_with fail
    refine (ref_norm_w a a0 a1 _).mono ?_
    rw [HB.out]
    rintro e w' ⟨rfl, rfl⟩
    go_wp2_with fail
    refine (ref_quarter_w _ (by omega) (by omega) _).mono ?_
    rintro e w' ⟨rfl, rfl⟩
    go_wp2_with fail
    go_ret
    exact ⟨rfl, rfl⟩
  by_cases c2 : b ≤ 64800000
  · have HV : Hid (sinV a = qsn (64800000 - b)) := Lib.hid (by unfold sinV; rw [hb]; rw [if_neg c1, if_pos c2])
    rw [HV.out]
    obtain ⟨k0, k1⟩ := qsn_bd (64800000 - b) (by omega) (by omega)
    have HB := Lib.hid hb; clear hb
    go_enter Tryz.func34, Tryz.ntmps34
    go_wp2_with fail
    refine (ref_norm_w a a0 a1 _).mono ?_
    rw [HB.out]
    rintro e w' ⟨rfl, rfl⟩
    go_wp2_with fail
    refine (ref_quarter_w _ (by omega) (by omega) _).mono ?_
    rintro e w' ⟨rfl, rfl⟩
    go_wp2_with fail
    go_ret
    exact ⟨rfl, rfl⟩
  by_cases c3 : b ≤ 97200000
  · have HV : Hid (sinV a = -qsn (b - 64800000)) := Lib.hid (by unfold sinV; rw [hb]; rw [if_neg c1, if_neg c2, if_pos c3])
    rw [HV.out]
    obtain ⟨k0, k1⟩ := qsn_bd (b - 64800000) (by omega) (by omega)
    have HB := Lib.hid hb; clear hb
    go_enter Tryz.func34, Tryz.ntmps34
    go_wp2_with fail
    refine (ref_norm_w a a0 a1 _).mono ?_
    rw [HB.out]
    rintro e w' ⟨rfl, rfl⟩
    go_wp2_with fail
    refine (ref_quarter_w _ (by omega) (by omega) _).mono ?_
    rintro e w' ⟨rfl, rfl⟩
    go_wp2_with fail
    go_ret
    exact ⟨rfl, rfl⟩
  · have HV : Hid (sinV a = -qsn (129600000 - b)) := Lib.hid (by unfold sinV; rw [hb]; rw [if_neg c1, if_neg c2, if_neg c3])
    rw [HV.out]
    obtain ⟨k0, k1⟩ := qsn_bd (129600000 - b) (by omega) (by omega)
    have HB := Lib.hid hb; clear hb
    go_enter Tryz.func34, Tryz.ntmps34
    go_wp2_with fail
    refine (ref_norm_w a a0 a1 _).mono ?_
    rw [HB.out]
    rintro e w' ⟨rfl, rfl⟩
    go_wp2_with fail
    refine (ref_quarter_w _ (by omega) (by omega) _).mono ?_
    rintro e w' ⟨rfl, rfl⟩
    go_wp2_with fail
    go_ret
    exact ⟨rfl, rfl⟩
theorem ref_cos_w (a : Int) (a0 : -9223372036854775808 ≤ a) (a1 : a ≤ 9223372036854775807) (w : World) : Calls Tryz.prog 35 #[.int .i64 a] w fun e w' => e = .returned (.int .i64 (cosV a)) ∧ w = w' := by
  obtain ⟨n0, n1⟩ := nrm_bd (nrm a + nrm 32400000)
  have h0 : 0 ≤ trn a 32400000 := n0
  have h1 : trn a 32400000 < 129600000 := n1
  clear n0 n1
  go_enter Tryz.func35, Tryz.ntmps35
  go_wp2_with fail
  refine (ref_turn_w a _ a0 a1 (by omega) (by omega) _).mono ?_
  rintro e w' ⟨rfl, rfl⟩
  go_wp2_with fail
  refine (ref_sin_w _ (by omega) (by omega) _).mono ?_
  rintro e w' ⟨rfl, rfl⟩
  go_wp2_with fail
  go_ret
  exact ⟨rfl, rfl⟩

end Go.Proofs.YtfpgdicacjkfoaaGreatDoor
