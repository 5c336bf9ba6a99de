/-
  Own contracts: package trig and the document's answers: the series, sines and cosines.
-/
import Derived.Test.YtfpgdicacjkfoaaDoorTrga
import Derived.WalkKit
import Derived.ProofKit
import Derived.OpenShut
import Derived.WalkLawsBesides
import Derived.WalkSpells
import Derived.Lib.Hide
import Derived.Deep.DeepCutAuto
import Derived.Deep.CutBlock
import Derived.Deep.QuietTactic
import Derived.BigQuiet
import Derived.Handy
import Derived.StillTailTactics
import Derived.IntWalk
import Derived.LoopN
import Derived.Deep.RegionHeld3
namespace Go.Proofs.YtfpgdicacjkfoaaDoor
open Go.ChangeShapes Go.WideShapes Go.ChangeAt Go.RowKit
set_option linter.unusedVariables false
set_option linter.unusedSimpArgs false
theorem sineSeries_w (a : Int) (h0 : 0 ≤ a) (h1 : a ≤ 16200000) (w : World) : Calls Tryd.prog 63 #[.int .i64 a] w fun e w' => e = .returned (.int .i64 (ssn a)) ∧ Kept w w' := by
  obtain ⟨r0, r1⟩ := rad_bd a h0 h1
  obtain ⟨v0, v1, u0, u1⟩ := usq_bd (rad a) r0 r1
  obtain ⟨k0, k1⟩ := ssn_bd a h0 h1
  have m := tms_bd (rad a) (sser (tms (rad a) (rad a))) 1686629713 r0 r1 (by omega) (sser_bd _ u0 u1).1 (sser_bd _ u0 u1).2
  obtain ⟨m0, m1, m2, m3⟩ := m
  have HV : Hid (ssn a = (tms (rad a) (sser (tms (rad a) (rad a))) + 1) / 2) := Lib.hid rfl
  rw [HV.out]
  go_enter Tryd.func63, Tryd.ntmps63
  go_wp2_with fail
  refine (radians_w a h0 (by omega) _).mono ?_
  rintro e w' ⟨rfl, rfl⟩
  go_wp2_with fail
  refine (times_w _ _ (by omega) (by omega) _).mono ?_
  rintro e w' ⟨rfl, rfl⟩
  go_wp2_with fail
  refine (series_ss _ u0 u1 _).mono ?_
  rintro e w1 ⟨rfl, hk⟩
  go_wp2_with fail
  refine (times_w _ _ m0 m1 _).mono ?_
  rintro e w' ⟨rfl, rfl⟩
  go_wp2_with fail
  go_ret
  exact ⟨rfl, (by repeat (first | with_reducible exact Kept.refl _ | with_reducible assumption | with_reducible refine Kept.setCell ?_ (by first | (simp; done) | (simp; omega) | omega) _ | with_reducible refine Kept.alloc ?_ _ | with_reducible refine Kept.drewN ?_ _ | with_reducible refine Kept.drew ?_ | with_reducible refine Kept.trans ?_ (by with_reducible assumption) | with_reducible refine Kept.dr ?_ (by with_reducible assumption)))⟩
theorem cosineSeries_w (a : Int) (h0 : 0 ≤ a) (h1 : a ≤ 16200000) (w : World) : Calls Tryd.prog 64 #[.int .i64 a] w fun e w' => e = .returned (.int .i64 (csn a)) ∧ Kept w w' := by
  obtain ⟨r0, r1⟩ := rad_bd a h0 h1
  obtain ⟨v0, v1, u0, u1⟩ := usq_bd (rad a) r0 r1
  obtain ⟨k0, k1⟩ := csn_bd a h0 h1
  obtain ⟨m2, m3⟩ := cser_bd _ u0 u1
  have HV : Hid (csn a = (cser (tms (rad a) (rad a)) + 1) / 2) := Lib.hid rfl
  rw [HV.out]
  go_enter Tryd.func64, Tryd.ntmps64
  go_wp2_with fail
  refine (radians_w a h0 (by omega) _).mono ?_
  rintro e w' ⟨rfl, rfl⟩
  go_wp2_with fail
  refine (times_w _ _ (by omega) (by omega) _).mono ?_
  rintro e w' ⟨rfl, rfl⟩
  go_wp2_with fail
  refine (series_cs _ u0 u1 _).mono ?_
  rintro e w1 ⟨rfl, hk⟩
  go_wp2_with fail
  go_ret
  exact ⟨rfl, (by repeat (first | with_reducible exact Kept.refl _ | with_reducible assumption | with_reducible refine Kept.setCell ?_ (by first | (simp; done) | (simp; omega) | omega) _ | with_reducible refine Kept.alloc ?_ _ | with_reducible refine Kept.drewN ?_ _ | with_reducible refine Kept.drew ?_ | with_reducible refine Kept.trans ?_ (by with_reducible assumption) | with_reducible refine Kept.dr ?_ (by with_reducible assumption)))⟩
theorem quarterSine_w (a : Int) (h0 : 0 ≤ a) (h1 : a ≤ 32400000) (w : World) : Calls Tryd.prog 52 #[.int .i64 a] w fun e w' => e = .returned (.int .i64 (qsn a)) ∧ Kept w w' := by
  obtain ⟨k0, k1⟩ := qsn_bd a h0 h1
  by_cases c : a ≤ 16200000
  · have HV : Hid (qsn a = ssn a) := Lib.hid (by unfold qsn; rw [if_pos c])
    rw [HV.out]
    go_enter Tryd.func52, Tryd.ntmps52
    go_wp2_with fail
    refine (sineSeries_w a h0 c _).mono ?_
    rintro e w1 ⟨rfl, hk⟩
    go_wp2_with fail
    go_ret
    exact ⟨rfl, (by repeat (first | with_reducible exact Kept.refl _ | with_reducible assumption | with_reducible refine Kept.setCell ?_ (by first | (simp; done) | (simp; omega) | omega) _ | with_reducible refine Kept.alloc ?_ _ | with_reducible refine Kept.drewN ?_ _ | with_reducible refine Kept.drew ?_ | with_reducible refine Kept.trans ?_ (by with_reducible assumption) | with_reducible refine Kept.dr ?_ (by with_reducible assumption)))⟩
  · have HV : Hid (qsn a = csn (32400000 - a)) := Lib.hid (by unfold qsn; rw [if_neg c])
    rw [HV.out]
    go_enter Tryd.func52, Tryd.ntmps52
    go_wp2_with fail
    refine (cosineSeries_w _ (by omega) (by omega) _).mono ?_
    rintro e w1 ⟨rfl, hk⟩
    go_wp2_with fail
    go_ret
    exact ⟨rfl, (by repeat (first | with_reducible exact Kept.refl _ | with_reducible assumption | with_reducible refine Kept.setCell ?_ (by first | (simp; done) | (simp; omega) | omega) _ | with_reducible refine Kept.alloc ?_ _ | with_reducible refine Kept.drewN ?_ _ | with_reducible refine Kept.drew ?_ | with_reducible refine Kept.trans ?_ (by with_reducible assumption) | with_reducible refine Kept.dr ?_ (by with_reducible assumption)))⟩
theorem sin_w (a : Int) (a0 : -9223372036854775808 ≤ a) (a1 : a ≤ 9223372036854775807) (w : World) : Calls Tryd.prog 34 #[.int .i64 a] w fun e w' => e = .returned (.int .i64 (sinV a)) ∧ Kept w w' := by
  obtain ⟨n0, n1⟩ := nrm_bd a
  obtain ⟨b, hb⟩ : ∃ b, nrm a = b := ⟨_, rfl⟩
  rw [hb] at n0 n1
  by_cases c1 : b ≤ 32400000
  · have HV : Hid (sinV a = qsn b) := Lib.hid (by unfold sinV; rw [hb]; rw [if_pos c1])
    rw [HV.out]
    obtain ⟨k0, k1⟩ := qsn_bd (b) (by omega) (by omega)
    have HB := Lib.hid hb; clear hb
    go_enter Tryd.func34, Tryd.ntmps34
    go_wp2_with fail
    refine (norm_w a a0 a1 _).mono ?_
    rw [HB.out]
    rintro e w' ⟨rfl, rfl⟩
    go_wp2_with fail
    refine (quarterSine_w _ (by omega) (by omega) _).mono ?_
    rintro e w1 ⟨rfl, hk⟩
    go_wp2_with fail
    go_ret
    exact ⟨rfl, (by repeat (first | with_reducible exact Kept.refl _ | with_reducible assumption | with_reducible refine Kept.setCell ?_ (by first | (simp; done) | (simp; omega) | omega) _ | with_reducible refine Kept.alloc ?_ _ | with_reducible refine Kept.drewN ?_ _ | with_reducible refine Kept.drew ?_ | with_reducible refine Kept.trans ?_ (by with_reducible assumption) | with_reducible refine Kept.dr ?_ (by with_reducible assumption)))⟩
  by_cases c2 : b ≤ 64800000
  · have HV : Hid (sinV a = qsn (64800000 - b)) := Lib.hid (by unfold sinV; rw [hb]; rw [if_neg c1, if_pos c2])
    rw [HV.out]
    obtain ⟨k0, k1⟩ := qsn_bd (64800000 - b) (by omega) (by omega)
    have HB := Lib.hid hb; clear hb
    go_enter Tryd.func34, Tryd.ntmps34
    go_wp2_with fail
    refine (norm_w a a0 a1 _).mono ?_
    rw [HB.out]
    rintro e w' ⟨rfl, rfl⟩
    go_wp2_with fail
    refine (quarterSine_w _ (by omega) (by omega) _).mono ?_
    rintro e w1 ⟨rfl, hk⟩
    go_wp2_with fail
    go_ret
    exact ⟨rfl, (by repeat (first | with_reducible exact Kept.refl _ | with_reducible assumption | with_reducible refine Kept.setCell ?_ (by first | (simp; done) | (simp; omega) | omega) _ | with_reducible refine Kept.alloc ?_ _ | with_reducible refine Kept.drewN ?_ _ | with_reducible refine Kept.drew ?_ | with_reducible refine Kept.trans ?_ (by with_reducible assumption) | with_reducible refine Kept.dr ?_ (by with_reducible assumption)))⟩
  by_cases c3 : b ≤ 97200000
  · have HV : Hid (sinV a = -qsn (b - 64800000)) := Lib.hid (by unfold sinV; rw [hb]; rw [if_neg c1, if_neg c2, if_pos c3])
    rw [HV.out]
    obtain ⟨k0, k1⟩ := qsn_bd (b - 64800000) (by omega) (by omega)
    have HB := Lib.hid hb; clear hb
    go_enter Tryd.func34, Tryd.ntmps34
    go_wp2_with fail
    refine (norm_w a a0 a1 _).mono ?_
    rw [HB.out]
    rintro e w' ⟨rfl, rfl⟩
    go_wp2_with fail
    refine (quarterSine_w _ (by omega) (by omega) _).mono ?_
    rintro e w1 ⟨rfl, hk⟩
    go_wp2_with fail
    go_ret
    exact ⟨rfl, (by repeat (first | with_reducible exact Kept.refl _ | with_reducible assumption | with_reducible refine Kept.setCell ?_ (by first | (simp; done) | (simp; omega) | omega) _ | with_reducible refine Kept.alloc ?_ _ | with_reducible refine Kept.drewN ?_ _ | with_reducible refine Kept.drew ?_ | with_reducible refine Kept.trans ?_ (by with_reducible assumption) | with_reducible refine Kept.dr ?_ (by with_reducible assumption)))⟩
  · have HV : Hid (sinV a = -qsn (129600000 - b)) := Lib.hid (by unfold sinV; rw [hb]; rw [if_neg c1, if_neg c2, if_neg c3])
    rw [HV.out]
    obtain ⟨k0, k1⟩ := qsn_bd (129600000 - b) (by omega) (by omega)
    have HB := Lib.hid hb; clear hb
    go_enter Tryd.func34, Tryd.ntmps34
    go_wp2_with fail
    refine (norm_w a a0 a1 _).mono ?_
    rw [HB.out]
    rintro e w' ⟨rfl, rfl⟩
    go_wp2_with fail
    refine (quarterSine_w _ (by omega) (by omega) _).mono ?_
    rintro e w1 ⟨rfl, hk⟩
    go_wp2_with fail
    go_ret
    exact ⟨rfl, (by repeat (first | with_reducible exact Kept.refl _ | with_reducible assumption | with_reducible refine Kept.setCell ?_ (by first | (simp; done) | (simp; omega) | omega) _ | with_reducible refine Kept.alloc ?_ _ | with_reducible refine Kept.drewN ?_ _ | with_reducible refine Kept.drew ?_ | with_reducible refine Kept.trans ?_ (by with_reducible assumption) | with_reducible refine Kept.dr ?_ (by with_reducible assumption)))⟩
theorem cos_w (a : Int) (a0 : -9223372036854775808 ≤ a) (a1 : a ≤ 9223372036854775807) (w : World) : Calls Tryd.prog 35 #[.int .i64 a] w fun e w' => e = .returned (.int .i64 (cosV a)) ∧ Kept w w' := by
  obtain ⟨n0, n1⟩ := nrm_bd (nrm a + nrm 32400000)
  have h0 : 0 ≤ trn a 32400000 := n0
  have h1 : trn a 32400000 < 129600000 := n1
  clear n0 n1
  go_enter Tryd.func35, Tryd.ntmps35
  go_wp2_with fail
  refine (turn_w a _ a0 a1 (by omega) (by omega) _).mono ?_
  rintro e w' ⟨rfl, rfl⟩
  go_wp2_with fail
  refine (sin_w _ (by omega) (by omega) _).mono ?_
  rintro e w1 ⟨rfl, hk⟩
  go_wp2_with fail
  go_ret
  exact ⟨rfl, (by repeat (first | with_reducible exact Kept.refl _ | with_reducible assumption | with_reducible refine Kept.setCell ?_ (by first | (simp; done) | (simp; omega) | omega) _ | with_reducible refine Kept.alloc ?_ _ | with_reducible refine Kept.drewN ?_ _ | with_reducible refine Kept.drew ?_ | with_reducible refine Kept.trans ?_ (by with_reducible assumption) | with_reducible refine Kept.dr ?_ (by with_reducible assumption)))⟩
end Go.Proofs.YtfpgdicacjkfoaaDoor
