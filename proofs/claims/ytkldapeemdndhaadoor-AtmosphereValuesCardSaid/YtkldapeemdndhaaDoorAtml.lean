/-
  The laws of layer 29 that are independent of the document's answers: walks.
-/
import Derived.Test.YtkldapeemdndhaaDoorAtma
import Derived.Test.YtkldapeemdndhaaDoorLaid
import Derived.Deep.DeepHandedRow
import Derived.Lib.LaidTab
import Derived.WalkKit
import Derived.ProofKit
import Derived.OpenShut
import Derived.WalkLawsBesides
import Derived.WalkSpells
import Derived.Lib.Hide
import Derived.Deep.DeepCutAuto
import Derived.Deep.CutBlock
import Derived.Deep.QuietTactic
import Derived.BigQuiet
import Derived.Handy
import Derived.StillTailTactics
import Derived.IntWalk
import Derived.LoopN
import Derived.Deep.RegionHeld3
namespace Go.Proofs.YtkldapeemdndhaaDoor
open Go.ChangeShapes Go.WideShapes Go.ChangeAt Go.RowKit
set_option linter.unusedVariables false
set_option linter.unusedSimpArgs false

theorem prs_z : ∀ i : Fin 14, ([(-2000, 1074400), (0, 1000000), (5000, 832000), (10000, 687700), (15000, 564300), (20000, 459500), (25000, 371100), (30000, 297000), (35000, 235300), (40000, 185100), (45000, 145500), (50000, 114500), (55000, 90000), (60000, 70800)] : List (Int × Int))[i.1]? = some (prsF i.1, prsV i.1) := by decide +kernel
theorem rat_z : ∀ i : Fin 14, ([(-2000, 971400), (0, 1000000), (5000, 1077300), (10000, 1163700), (15000, 1260600), (20000, 1370000), (25000, 1493800), (30000, 1634900), (35000, 1796400), (40000, 2015500), (45000, 2272700), (50000, 2562800), (55000, 2890100), (60000, 3259100)] : List (Int × Int))[i.1]? = some (ratF i.1, ratV i.1) := by decide +kernel
theorem tmp_z : ∀ i : Fin 4, ([(-2000, 29211), (0, 28815), (36089, 21665), (60000, 21665)] : List (Int × Int))[i.1]? = some (tmpF i.1, tmpV i.1) := by decide +kernel
theorem tab_of {W : World} (h : laidMetH Tryd.prog [("flightdeck/atmosphere.pressures", Rows.laid_flightdeck_atmosphere_pressures), ("flightdeck/atmosphere.ratios", Rows.laid_flightdeck_atmosphere_ratios), ("flightdeck/atmosphere.temperatures", Rows.laid_flightdeck_atmosphere_temperatures)] W) : Tab W := by
  have c0 := pairs_cells (P := Tryd.prog) (w := W) (nm := "flightdeck/atmosphere.pressures") (l := [("flightdeck/atmosphere.pressures", Rows.laid_flightdeck_atmosphere_pressures), ("flightdeck/atmosphere.ratios", Rows.laid_flightdeck_atmosphere_ratios), ("flightdeck/atmosphere.temperatures", Rows.laid_flightdeck_atmosphere_temperatures)]) (zs := [(-2000, 1074400), (0, 1000000), (5000, 832000), (10000, 687700), (15000, 564300), (20000, 459500), (25000, 371100), (30000, 297000), (35000, 235300), (40000, 185100), (45000, 145500), (50000, 114500), (55000, 90000), (60000, 70800)]) (n := 14) (g := 0) (t := 35) (e := 34) (u := 2) h (.head _) (by kernel_rfl) (by kernel_rfl) (by kernel_rfl) Tryd.underlying34 ⟨rfl, rfl⟩ ⟨rfl, rfl⟩ (by kernel_rfl) (by kernel_rfl) (by kernel_rfl)
  have d0 : ∀ i : Nat, i < 14 → W.cell? ⟨0, i * 2, none⟩ = some (.int .i64 (prsF i)) ∧ W.cell? ⟨0, i * 2 + 1, none⟩ = some (.int .i64 (prsV i)) := fun i hi => by
    obtain ⟨z, hz, h1, h2⟩ := c0 i hi
    rw [prs_z ⟨i, hi⟩] at hz
    cases hz
    exact ⟨h1, h2⟩
  have c1 := pairs_cells (P := Tryd.prog) (w := W) (nm := "flightdeck/atmosphere.ratios") (l := [("flightdeck/atmosphere.pressures", Rows.laid_flightdeck_atmosphere_pressures), ("flightdeck/atmosphere.ratios", Rows.laid_flightdeck_atmosphere_ratios), ("flightdeck/atmosphere.temperatures", Rows.laid_flightdeck_atmosphere_temperatures)]) (zs := [(-2000, 971400), (0, 1000000), (5000, 1077300), (10000, 1163700), (15000, 1260600), (20000, 1370000), (25000, 1493800), (30000, 1634900), (35000, 1796400), (40000, 2015500), (45000, 2272700), (50000, 2562800), (55000, 2890100), (60000, 3259100)]) (n := 14) (g := 2) (t := 35) (e := 34) (u := 2) h (.tail _ (.head _)) (by kernel_rfl) (by kernel_rfl) (by kernel_rfl) Tryd.underlying34 ⟨rfl, rfl⟩ ⟨rfl, rfl⟩ (by kernel_rfl) (by kernel_rfl) (by kernel_rfl)
  have d1 : ∀ i : Nat, i < 14 → W.cell? ⟨2, i * 2, none⟩ = some (.int .i64 (ratF i)) ∧ W.cell? ⟨2, i * 2 + 1, none⟩ = some (.int .i64 (ratV i)) := fun i hi => by
    obtain ⟨z, hz, h1, h2⟩ := c1 i hi
    rw [rat_z ⟨i, hi⟩] at hz
    cases hz
    exact ⟨h1, h2⟩
  have c2 := pairs_cells (P := Tryd.prog) (w := W) (nm := "flightdeck/atmosphere.temperatures") (l := [("flightdeck/atmosphere.pressures", Rows.laid_flightdeck_atmosphere_pressures), ("flightdeck/atmosphere.ratios", Rows.laid_flightdeck_atmosphere_ratios), ("flightdeck/atmosphere.temperatures", Rows.laid_flightdeck_atmosphere_temperatures)]) (zs := [(-2000, 29211), (0, 28815), (36089, 21665), (60000, 21665)]) (n := 4) (g := 1) (t := 39) (e := 34) (u := 2) h (.tail _ (.tail _ (.head _))) (by kernel_rfl) (by kernel_rfl) (by kernel_rfl) Tryd.underlying34 ⟨rfl, rfl⟩ ⟨rfl, rfl⟩ (by kernel_rfl) (by kernel_rfl) (by kernel_rfl)
  have d2 : ∀ i : Nat, i < 4 → W.cell? ⟨1, i * 2, none⟩ = some (.int .i64 (tmpF i)) ∧ W.cell? ⟨1, i * 2 + 1, none⟩ = some (.int .i64 (tmpV i)) := fun i hi => by
    obtain ⟨z, hz, h1, h2⟩ := c2 i hi
    rw [tmp_z ⟨i, hi⟩] at hz
    cases hz
    exact ⟨h1, h2⟩
  exact ⟨fun i hi => (d0 i hi).1, fun i hi => (d0 i hi).2, fun i hi => (d1 i hi).1, fun i hi => (d1 i hi).2, fun i hi => (d2 i hi).1, fun i hi => (d2 i hi).2⟩
theorem lev_is (p a b : Int) (h : LevOf p a) (b0 : -200000 ≤ b) (b1 : b ≤ 6000000) (b2 : prs b ≤ p) (b3 : b = -200000 ∨ p < prs (b - 1)) : a = b :=
  lev_unique p a b h.1 h.2.1 h.2.2.1 h.2.2.2 b0 b1 b2 (fun x hx hb => by
    rcases b3 with e | e
    · omega
    · have := prs_mono x (b - 1) hx (by omega) (by omega); omega)
theorem level_1000000 (w : World) (ht : Hid (Tab w)) : Calls Tryd.prog 12 #[.int .i64 1000000] w fun en w' => en = .returned (.tuple #[.int .i64 (-2), .int .i64 0]) ∧ Kept w w' :=
  (level_ok 1000000 (by omega) (by omega) w ht).mono fun e w' ⟨a, h1, h2, h3⟩ => by
    obtain rfl := lev_is 1000000 a (-2) h1 (by omega) (by omega) (by decide +kernel) (by right; decide +kernel)
    exact ⟨h2, h3⟩
theorem level_2000000 (w : World) (ht : Hid (Tab w)) : Calls Tryd.prog 12 #[.int .i64 2000000] w fun en w' => en = .returned (.tuple #[.int .i64 (-200000), .int .i64 0]) ∧ Kept w w' :=
  (level_ok 2000000 (by omega) (by omega) w ht).mono fun e w' ⟨a, h1, h2, h3⟩ => by
    obtain rfl := lev_is 2000000 a (-200000) h1 (by omega) (by omega) (by decide +kernel) (by left; rfl)
    exact ⟨h2, h3⟩
theorem c_press (w : World) (ht : Hid (Tab w)) : Calls Tryd.prog 10 #[.int .i64 250000] w fun en w' => en = .returned (.tuple #[.int .i64 916000, .int .i64 0]) ∧ Kept w w' := by
  have h := pressure_ok (250000) (by omega) (by omega) w ht
  rwa [show prs 250000 = 916000 by decide +kernel] at h
theorem c_temp (w : World) (ht : Hid (Tab w)) : Calls Tryd.prog 14 #[.int .i64 4000000, .int .i64 (-100)] w fun en w' => en = .returned (.tuple #[.int .i64 21565, .int .i64 0]) ∧ Kept w w' := by
  have h := temperature_ok (4000000) (-100) (by omega) (by omega) (by omega) (by omega) w ht
  rwa [show tmp 4000000 + -100 = 21565 by decide +kernel] at h
theorem c_sound (w : World) (ht : Hid (Tab w)) : Calls Tryd.prog 16 #[.int .i64 0, .int .i64 0] w fun en w' => en = .returned (.tuple #[.int .i64 10583, .int .i64 0]) ∧ Kept w w' := by
  have h := sound_ok (0) (0) (by omega) (by omega) (by omega) (by omega) w ht
  rwa [show snd 0 0 = 10583 by decide +kernel] at h
theorem c_ratio (w : World) (ht : Hid (Tab w)) : Calls Tryd.prog 18 #[.int .i64 250000, .int .i64 0] w fun en w' => en = .returned (.tuple #[.int .i64 1038650, .int .i64 0]) ∧ Kept w w' := by
  have h := ratio_ok (250000) (0) (by omega) (by omega) (by omega) (by omega) w ht
  rwa [show ratD 250000 0 = 1038650 by decide +kernel] at h
set_option maxHeartbeats 4000000 in
set_option maxRecDepth 100000 in
theorem awake_w (w : World) (hT : Hid (Tab w)) : Calls Tryd.prog 9 #[] w fun en w' => en = .returned (.bool true) ∧ Kept w w' := by
  have T := hT
  have K := Lib.hid (Kept.refl w)
  go_enter Tryd.func9, Tryd.ntmps9
  go_wp2_with fail
  refine (c_press w T).mono ?_
  rintro e w1 ⟨rfl, hk1⟩
  have T1 := Lib.hid (tab_kept T.out hk1)
  have K1 := Lib.hid ((K.out).trans hk1)
  clear hk1
  go_wp2_with fail
  refine (level_1000000 w1 T1).mono ?_
  rintro e w2 ⟨rfl, hk2⟩
  have T2 := Lib.hid (tab_kept T1.out hk2)
  have K2 := Lib.hid ((K1.out).trans hk2)
  clear hk2
  go_wp2_with fail
  refine (level_2000000 w2 T2).mono ?_
  rintro e w3 ⟨rfl, hk3⟩
  have T3 := Lib.hid (tab_kept T2.out hk3)
  have K3 := Lib.hid ((K2.out).trans hk3)
  clear hk3
  go_wp2_with fail
  refine (level_bad 70799 (by omega) (by omega) _).mono ?_
  rintro e w' ⟨rfl, rfl⟩
  go_wp2_with fail
  refine (c_temp w3 T3).mono ?_
  rintro e w5 ⟨rfl, hk5⟩
  have T5 := Lib.hid (tab_kept T3.out hk5)
  have K5 := Lib.hid ((K3.out).trans hk5)
  clear hk5
  go_wp2_with fail
  refine (c_sound w5 T5).mono ?_
  rintro e w6 ⟨rfl, hk6⟩
  have T6 := Lib.hid (tab_kept T5.out hk6)
  have K6 := Lib.hid ((K5.out).trans hk6)
  clear hk6
  go_wp2_with fail
  refine (c_ratio w6 T6).mono ?_
  rintro e w7 ⟨rfl, hk7⟩
  have T7 := Lib.hid (tab_kept T6.out hk7)
  have K7 := Lib.hid ((K6.out).trans hk7)
  clear hk7
  go_wp2_with fail

  go_ret
  exact ⟨by first | rfl | simp, K7.out⟩
set_option maxHeartbeats 4000000 in
set_option maxRecDepth 100000 in
theorem law_level (p : Int) (p_0 : -9223372036854775808 ≤ p) (p_1 : p ≤ 9223372036854775807) (w : World) (hT : Hid (Tab w)) : Calls Tryd.prog 5 #[.int .i64 p] w fun en w' => en = .returned (.bool true) ∧ Kept w w' := by
  by_cases h : p < 70800
  · have T := hT
    go_enter Tryd.func5, Tryd.ntmps5
    go_wp2_with fail
    refine (awake_w _ T).mono ?_
    rintro e w1 ⟨rfl, hk1⟩
    have T1 := Lib.hid (tab_kept T.out hk1)
    have K1 := Lib.hid hk1
    clear hk1
    go_wp2_with fail
    refine (level_bad p (by omega) h _).mono ?_
    rintro e w' ⟨rfl, rfl⟩
    go_wp2_with fail
    all_goals go_wp2
    all_goals first | (go_ret; refine ⟨?_, by repeat (first | with_reducible exact Kept.refl _ | with_reducible exact K1.out | with_reducible refine Kept.drewN ?_ _ | with_reducible refine Kept.drew ?_)⟩; first | rfl | (show Ending.returned (.bool (decide _)) = _; rw [decide_eq_true (by omega)]) | (refine retb ?_; simp; done) | (refine retb ?_; simp; omega)) | (exfalso; omega)
  have HP := Lib.hid h
  have T := hT
  go_enter Tryd.func5, Tryd.ntmps5
  go_wp2_with fail
  refine (awake_w _ T).mono ?_
  rintro e w1 ⟨rfl, hk1⟩
  have T1 := Lib.hid (tab_kept T.out hk1)
  have K1 := Lib.hid hk1
  clear hk1
  go_wp2_with fail
  refine (level_ok p (by have := HP.out; omega) p_1 w1 T1).mono ?_
  rintro e w2 ⟨a, la, rfl, hk2⟩
  have T2 := Lib.hid (tab_kept T1.out hk2)
  have K2 := Lib.hid (K1.out.trans hk2)
  obtain ⟨a0, a1, a2, a3⟩ := la
  have e1 := a3 (a - 1)
  clear hk2 a3
  have c1 := pressure_ok a a0 a1
  by_cases ea : a = -200000
  · subst ea
    generalize prs (-200000) = y at c1 a2
    clear e1
    go_wp2_with fail
    refine (c1 w2 T2).mono ?_
    rintro e w3 ⟨rfl, hk3⟩
    have T3 := Lib.hid (tab_kept T2.out hk3)
    have K3 := Lib.hid ((K2.out).trans hk3)
    clear hk3
    go_wp2_with fail
    all_goals go_wp2
    all_goals first | (go_ret; refine ⟨?_, by repeat (first | with_reducible exact Kept.refl _ | with_reducible exact K3.out | with_reducible refine Kept.drewN ?_ _ | with_reducible refine Kept.drew ?_)⟩; first | rfl | (show Ending.returned (.bool (decide _)) = _; rw [decide_eq_true (by omega)]) | (refine retb ?_; simp; done) | (refine retb ?_; simp; omega)) | (exfalso; omega)
  · have c2 := pressure_ok (a - 1) (by omega) (by omega)
    have e2 := e1 (by omega) (by omega)
    generalize prs (a - 1) = y2 at c2 e2
    generalize prs a = y at c1 a2
    clear e1
    go_wp2_with fail
    refine (c1 w2 T2).mono ?_
    rintro e w3 ⟨rfl, hk3⟩
    have T3 := Lib.hid (tab_kept T2.out hk3)
    have K3 := Lib.hid ((K2.out).trans hk3)
    clear hk3
    go_wp2_with fail
    refine (c2 w3 T3).mono ?_
    rintro e w4 ⟨rfl, hk4⟩
    have T4 := Lib.hid (tab_kept T3.out hk4)
    have K4 := Lib.hid ((K3.out).trans hk4)
    clear hk4
    go_wp2_with fail
    all_goals go_wp2
    all_goals first | (go_ret; refine ⟨?_, by repeat (first | with_reducible exact Kept.refl _ | with_reducible exact K4.out | with_reducible refine Kept.drewN ?_ _ | with_reducible refine Kept.drew ?_)⟩; first | rfl | (show Ending.returned (.bool (decide _)) = _; rw [decide_eq_true (by omega)]) | (refine retb ?_; simp; done) | (refine retb ?_; simp; omega)) | (exfalso; omega)
set_option maxHeartbeats 4000000 in
set_option maxRecDepth 100000 in
theorem law_smooth (a : Int) (a_0 : -9223372036854775808 ≤ a) (a_1 : a ≤ 9223372036854775807) (w : World) (hT : Hid (Tab w)) : Calls Tryd.prog 8 #[.int .i64 a] w fun en w' => en = .returned (.bool true) ∧ Kept w w' := by
  by_cases h : a < -200000
  · have T := hT
    go_enter Tryd.func8, Tryd.ntmps8
    go_wp2_with fail
    refine (awake_w _ T).mono ?_
    rintro e w1 ⟨rfl, hk1⟩
    have T1 := Lib.hid (tab_kept T.out hk1)
    have K1 := Lib.hid hk1
    clear hk1
    go_wp2_with fail
    refine (pressure_bad a (by omega) _).mono ?_
    rintro e w' ⟨rfl, rfl⟩
    go_wp2_with fail
    all_goals go_wp2
    all_goals first | (go_ret; refine ⟨?_, by repeat (first | with_reducible exact Kept.refl _ | with_reducible exact K1.out | with_reducible refine Kept.drewN ?_ _ | with_reducible refine Kept.drew ?_)⟩; first | rfl | (show Ending.returned (.bool (decide _)) = _; rw [decide_eq_true (by omega)]) | (refine retb ?_; simp; done) | (refine retb ?_; simp; omega)) | (exfalso; omega)
  by_cases h2 : 6000000 < a
  · have T := hT
    go_enter Tryd.func8, Tryd.ntmps8
    go_wp2_with fail
    refine (awake_w _ T).mono ?_
    rintro e w1 ⟨rfl, hk1⟩
    have T1 := Lib.hid (tab_kept T.out hk1)
    have K1 := Lib.hid hk1
    clear hk1
    go_wp2_with fail
    refine (pressure_bad a (by omega) _).mono ?_
    rintro e w' ⟨rfl, rfl⟩
    go_wp2_with fail
    all_goals go_wp2
    all_goals first | (go_ret; refine ⟨?_, by repeat (first | with_reducible exact Kept.refl _ | with_reducible exact K1.out | with_reducible refine Kept.drewN ?_ _ | with_reducible refine Kept.drew ?_)⟩; first | rfl | (show Ending.returned (.bool (decide _)) = _; rw [decide_eq_true (by omega)]) | (refine retb ?_; simp; done) | (refine retb ?_; simp; omega)) | (exfalso; omega)
  by_cases h3 : a = 6000000
  · subst h3
    have c1 := pressure_ok 6000000 (by omega) (by omega)
    generalize prs 6000000 = y at c1
    have T := hT
    go_enter Tryd.func8, Tryd.ntmps8
    go_wp2_with fail
    refine (awake_w _ T).mono ?_
    rintro e w1 ⟨rfl, hk1⟩
    have T1 := Lib.hid (tab_kept T.out hk1)
    have K1 := Lib.hid hk1
    clear hk1
    go_wp2_with fail
    refine (c1 w1 T1).mono ?_
    rintro e w2 ⟨rfl, hk2⟩
    have T2 := Lib.hid (tab_kept T1.out hk2)
    have K2 := Lib.hid ((K1.out).trans hk2)
    clear hk2
    go_wp2_with fail
    all_goals go_wp2
    all_goals first | (go_ret; refine ⟨?_, by repeat (first | with_reducible exact Kept.refl _ | with_reducible exact K2.out | with_reducible refine Kept.drewN ?_ _ | with_reducible refine Kept.drew ?_)⟩; first | rfl | (show Ending.returned (.bool (decide _)) = _; rw [decide_eq_true (by omega)]) | (refine retb ?_; simp; done) | (refine retb ?_; simp; omega)) | (exfalso; omega)
  have c1 := pressure_ok a (by omega) (by omega)
  have c2 := pressure_ok (a + 1) (by omega) (by omega)
  have c3 := ratio_ok a 0 (by omega) (by omega) (by omega) (by omega)
  have c4 := ratio_ok (a + 1) 0 (by omega) (by omega) (by omega) (by omega)
  have s1 := prs_step a (by omega) (by omega)
  have s2 := rat_step a (by omega) (by omega)
  have e3 : ratD a 0 = rat a := by unfold ratD; omega
  have e4 : ratD (a + 1) 0 = rat (a + 1) := by unfold ratD; omega
  rw [e3] at c3
  rw [e4] at c4
  have b1 := prs_bd a (by omega) (by omega)
  have b2 := prs_bd (a + 1) (by omega) (by omega)
  have b3 := rat_bd a (by omega) (by omega)
  have b4 := rat_bd (a + 1) (by omega) (by omega)
  clear e3 e4
  generalize prs (a + 1) = y2 at c2 s1 b2
  generalize prs a = y1 at c1 s1 b1
  generalize rat (a + 1) = y4 at c4 s2 b4
  generalize rat a = y3 at c3 s2 b3
  have T := hT
  go_enter Tryd.func8, Tryd.ntmps8
  go_wp2_with fail
  refine (awake_w _ T).mono ?_
  rintro e w1 ⟨rfl, hk1⟩
  have T1 := Lib.hid (tab_kept T.out hk1)
  have K1 := Lib.hid hk1
  clear hk1
  go_wp2_with fail
  refine (c1 w1 T1).mono ?_
  rintro e w2 ⟨rfl, hk2⟩
  have T2 := Lib.hid (tab_kept T1.out hk2)
  have K2 := Lib.hid ((K1.out).trans hk2)
  clear hk2
  go_wp2_with fail
  refine (c2 w2 T2).mono ?_
  rintro e w3 ⟨rfl, hk3⟩
  have T3 := Lib.hid (tab_kept T2.out hk3)
  have K3 := Lib.hid ((K2.out).trans hk3)
  clear hk3
  go_wp2_with fail
  refine (c3 w3 T3).mono ?_
  rintro e w4 ⟨rfl, hk4⟩
  have T4 := Lib.hid (tab_kept T3.out hk4)
  have K4 := Lib.hid ((K3.out).trans hk4)
  clear hk4
  go_wp2_with fail
  refine (c4 w4 T4).mono ?_
  rintro e w5 ⟨rfl, hk5⟩
  have T5 := Lib.hid (tab_kept T4.out hk5)
  have K5 := Lib.hid ((K4.out).trans hk5)
  clear hk5
  go_wp2_with fail
  all_goals go_wp2
  all_goals first | (go_ret; refine ⟨?_, by repeat (first | with_reducible exact Kept.refl _ | with_reducible exact K5.out | with_reducible refine Kept.drewN ?_ _ | with_reducible refine Kept.drew ?_)⟩; first | rfl | (show Ending.returned (.bool (decide _)) = _; rw [decide_eq_true (by omega)]) | (refine retb ?_; simp; done) | (refine retb ?_; simp; omega)) | (exfalso; omega)
set_option maxHeartbeats 4000000 in
set_option maxRecDepth 100000 in
theorem falls_lt (x y d : Int) (x_0 : -9223372036854775808 ≤ x) (x_1 : x ≤ 9223372036854775807) (y_0 : -9223372036854775808 ≤ y) (y_1 : y ≤ 9223372036854775807) (d_0 : -9223372036854775808 ≤ d) (d_1 : d ≤ 9223372036854775807) (hxy : x < y) (w : World) (hT : Hid (Tab w)) : Calls Tryd.prog 6 #[.agg #[.int .i64 x, .int .i64 y], .int .i64 d] w fun en w' => en = .returned (.bool true) ∧ Kept w w' := by
  skip
  by_cases hl : x < -200000 ∨ 6000000 < x
  · by_cases hh : y < -200000 ∨ 6000000 < y
    · have T := hT
      go_enter Tryd.func6, Tryd.ntmps6
      go_wp2_with fail
      have ka : Kept w (w.alloc (.cells #[.int .i64 x, .int .i64 y] 29)) := (Kept.refl w).alloc _
      refine (awake_w _ (Lib.hid (tab_kept T.out ka))).mono ?_
      rintro e w1 ⟨rfl, hk1⟩
      have T1 := Lib.hid (tab_kept (tab_kept T.out ka) hk1)
      have K1 := Lib.hid (ka.trans hk1)
      refine kuse (b := w.heap.size) hk1 (by first | (simp; done) | (simp; omega) | omega) ?_
      intro ha hb
      have hz1_0 : w.heap.size < w1.heap.size := by have := hk1.size; (try simp at this); omega
      have hn1_0 : ¬ w.heap.size = w1.heap.size := by omega
      have hm1_0 : ¬ w1.heap.size = w.heap.size := by omega
      have hf1_0_0 : w1.cell? ⟨w.heap.size, 0, none⟩ = some (.int .i64 x) := by first | (rw [ha]; with_reducible assumption) | (simp (maxDischargeDepth := 7) [go_sem, ha]; done) | (rw [ha]; assumption) | (simp (maxDischargeDepth := 7) [go_sem, ha, *]; done)
      have hf1_0_1 : w1.cell? ⟨w.heap.size, 1, none⟩ = some (.int .i64 y) := by first | (rw [ha]; with_reducible assumption) | (simp (maxDischargeDepth := 7) [go_sem, ha]; done) | (rw [ha]; assumption) | (simp (maxDischargeDepth := 7) [go_sem, ha, *]; done)
      try have hg1_0 : ∀ o, w1.frozen? ⟨w.heap.size, o, none⟩ = false := by intro o; first | (simp (maxDischargeDepth := 7) [go_sem, hb]; done) | (rw [hb]; simp (maxDischargeDepth := 7) [go_sem, *]; done)
      clear ha hb
      clear hk1 ka
      go_wp2_with fail
      go_quiet (fail)
      have T1d := Lib.hid (tab_kept T1.out ((Kept.refl w1).drewN nq))
      have K1d := Lib.hid (K1.out.drewN nq)
      clear T1 K1
      generalize w1.drewN nq = w1d at T1d K1d ⊢
      go_wp2_with fail
      refine (pressure_bad x hl _).mono ?_
      rintro e w' ⟨rfl, rfl⟩
      go_wp2_with fail
      refine (pressure_bad y hh _).mono ?_
      rintro e w' ⟨rfl, rfl⟩
      go_wp2_with fail
      all_goals go_wp2
      all_goals first | (go_ret; refine ⟨?_, by repeat (first | with_reducible exact Kept.refl _ | with_reducible exact K1d.out | with_reducible refine Kept.drewN ?_ _ | with_reducible refine Kept.drew ?_)⟩; first | rfl | (show Ending.returned (.bool (decide _)) = _; rw [decide_eq_true (by omega)]) | (refine retb ?_; simp; done) | (refine retb ?_; simp; omega)) | (exfalso; omega)
    · have c2 := pressure_ok y (by omega) (by omega)
      generalize prs y = p2 at c2
      have T := hT
      go_enter Tryd.func6, Tryd.ntmps6
      go_wp2_with fail
      have ka : Kept w (w.alloc (.cells #[.int .i64 x, .int .i64 y] 29)) := (Kept.refl w).alloc _
      refine (awake_w _ (Lib.hid (tab_kept T.out ka))).mono ?_
      rintro e w1 ⟨rfl, hk1⟩
      have T1 := Lib.hid (tab_kept (tab_kept T.out ka) hk1)
      have K1 := Lib.hid (ka.trans hk1)
      refine kuse (b := w.heap.size) hk1 (by first | (simp; done) | (simp; omega) | omega) ?_
      intro ha hb
      have hz1_0 : w.heap.size < w1.heap.size := by have := hk1.size; (try simp at this); omega
      have hn1_0 : ¬ w.heap.size = w1.heap.size := by omega
      have hm1_0 : ¬ w1.heap.size = w.heap.size := by omega
      have hf1_0_0 : w1.cell? ⟨w.heap.size, 0, none⟩ = some (.int .i64 x) := by first | (rw [ha]; with_reducible assumption) | (simp (maxDischargeDepth := 7) [go_sem, ha]; done) | (rw [ha]; assumption) | (simp (maxDischargeDepth := 7) [go_sem, ha, *]; done)
      have hf1_0_1 : w1.cell? ⟨w.heap.size, 1, none⟩ = some (.int .i64 y) := by first | (rw [ha]; with_reducible assumption) | (simp (maxDischargeDepth := 7) [go_sem, ha]; done) | (rw [ha]; assumption) | (simp (maxDischargeDepth := 7) [go_sem, ha, *]; done)
      try have hg1_0 : ∀ o, w1.frozen? ⟨w.heap.size, o, none⟩ = false := by intro o; first | (simp (maxDischargeDepth := 7) [go_sem, hb]; done) | (rw [hb]; simp (maxDischargeDepth := 7) [go_sem, *]; done)
      clear ha hb
      clear hk1 ka
      go_wp2_with fail
      go_quiet (fail)
      have T1d := Lib.hid (tab_kept T1.out ((Kept.refl w1).drewN nq))
      have K1d := Lib.hid (K1.out.drewN nq)
      clear T1 K1
      generalize w1.drewN nq = w1d at T1d K1d ⊢
      go_wp2_with fail
      refine (pressure_bad x hl _).mono ?_
      rintro e w' ⟨rfl, rfl⟩
      go_wp2_with fail
      refine (c2 w1d T1d).mono ?_
      rintro e w3 ⟨rfl, hk3⟩
      have T3 := Lib.hid (tab_kept T1d.out hk3)
      have K3 := Lib.hid ((K1d.out).trans hk3)
      clear hk3
      go_wp2_with fail
      all_goals go_wp2
      all_goals first | (go_ret; refine ⟨?_, by repeat (first | with_reducible exact Kept.refl _ | with_reducible exact K3.out | with_reducible refine Kept.drewN ?_ _ | with_reducible refine Kept.drew ?_)⟩; first | rfl | (show Ending.returned (.bool (decide _)) = _; rw [decide_eq_true (by omega)]) | (refine retb ?_; simp; done) | (refine retb ?_; simp; omega)) | (exfalso; omega)
  by_cases hh : y < -200000 ∨ 6000000 < y
  · have c1 := pressure_ok x (by omega) (by omega)
    generalize prs x = p1 at c1
    have T := hT
    go_enter Tryd.func6, Tryd.ntmps6
    go_wp2_with fail
    have ka : Kept w (w.alloc (.cells #[.int .i64 x, .int .i64 y] 29)) := (Kept.refl w).alloc _
    refine (awake_w _ (Lib.hid (tab_kept T.out ka))).mono ?_
    rintro e w1 ⟨rfl, hk1⟩
    have T1 := Lib.hid (tab_kept (tab_kept T.out ka) hk1)
    have K1 := Lib.hid (ka.trans hk1)
    refine kuse (b := w.heap.size) hk1 (by first | (simp; done) | (simp; omega) | omega) ?_
    intro ha hb
    have hz1_0 : w.heap.size < w1.heap.size := by have := hk1.size; (try simp at this); omega
    have hn1_0 : ¬ w.heap.size = w1.heap.size := by omega
    have hm1_0 : ¬ w1.heap.size = w.heap.size := by omega
    have hf1_0_0 : w1.cell? ⟨w.heap.size, 0, none⟩ = some (.int .i64 x) := by first | (rw [ha]; with_reducible assumption) | (simp (maxDischargeDepth := 7) [go_sem, ha]; done) | (rw [ha]; assumption) | (simp (maxDischargeDepth := 7) [go_sem, ha, *]; done)
    have hf1_0_1 : w1.cell? ⟨w.heap.size, 1, none⟩ = some (.int .i64 y) := by first | (rw [ha]; with_reducible assumption) | (simp (maxDischargeDepth := 7) [go_sem, ha]; done) | (rw [ha]; assumption) | (simp (maxDischargeDepth := 7) [go_sem, ha, *]; done)
    try have hg1_0 : ∀ o, w1.frozen? ⟨w.heap.size, o, none⟩ = false := by intro o; first | (simp (maxDischargeDepth := 7) [go_sem, hb]; done) | (rw [hb]; simp (maxDischargeDepth := 7) [go_sem, *]; done)
    clear ha hb
    clear hk1 ka
    go_wp2_with fail
    go_quiet (fail)
    have T1d := Lib.hid (tab_kept T1.out ((Kept.refl w1).drewN nq))
    have K1d := Lib.hid (K1.out.drewN nq)
    clear T1 K1
    generalize w1.drewN nq = w1d at T1d K1d ⊢
    go_wp2_with fail
    refine (c1 w1d T1d).mono ?_
    rintro e w2 ⟨rfl, hk2⟩
    have T2 := Lib.hid (tab_kept T1d.out hk2)
    have K2 := Lib.hid ((K1d.out).trans hk2)
    clear hk2
    go_wp2_with fail
    refine (pressure_bad y hh _).mono ?_
    rintro e w' ⟨rfl, rfl⟩
    go_wp2_with fail
    all_goals go_wp2
    all_goals first | (go_ret; refine ⟨?_, by repeat (first | with_reducible exact Kept.refl _ | with_reducible exact K2.out | with_reducible refine Kept.drewN ?_ _ | with_reducible refine Kept.drew ?_)⟩; first | rfl | (show Ending.returned (.bool (decide _)) = _; rw [decide_eq_true (by omega)]) | (refine retb ?_; simp; done) | (refine retb ?_; simp; omega)) | (exfalso; omega)
  have m1 := prs_mono x y (by omega) (by omega) (by omega)
  have m2 := tmp_mono x y (by omega) (by omega) (by omega)
  have m3 := rat_mono x y (by omega) (by omega) (by omega)
  have b1 := prs_bd x (by omega) (by omega)
  have b2 := prs_bd y (by omega) (by omega)
  have c1 := pressure_ok x (by omega) (by omega)
  have c2 := pressure_ok y (by omega) (by omega)
  generalize prs y = p2 at c2 m1 b2
  generalize prs x = p1 at c1 m1 b1
  by_cases hd : d < -4000 ∨ 4000 < d
  · have c3 := temperature_dev x d (by omega) (by omega) hd
    have c4 := temperature_dev y d (by omega) (by omega) hd
    have c5 := sound_dev x d (by omega) (by omega) hd
    have c6 := sound_dev y d (by omega) (by omega) hd
    have c7 := ratio_dev x d (by omega) (by omega) hd
    have c8 := ratio_dev y d (by omega) (by omega) hd
    clear m2 m3
    have T := hT
    go_enter Tryd.func6, Tryd.ntmps6
    go_wp2_with fail
    have ka : Kept w (w.alloc (.cells #[.int .i64 x, .int .i64 y] 29)) := (Kept.refl w).alloc _
    refine (awake_w _ (Lib.hid (tab_kept T.out ka))).mono ?_
    rintro e w1 ⟨rfl, hk1⟩
    have T1 := Lib.hid (tab_kept (tab_kept T.out ka) hk1)
    have K1 := Lib.hid (ka.trans hk1)
    refine kuse (b := w.heap.size) hk1 (by first | (simp; done) | (simp; omega) | omega) ?_
    intro ha hb
    have hz1_0 : w.heap.size < w1.heap.size := by have := hk1.size; (try simp at this); omega
    have hn1_0 : ¬ w.heap.size = w1.heap.size := by omega
    have hm1_0 : ¬ w1.heap.size = w.heap.size := by omega
    have hf1_0_0 : w1.cell? ⟨w.heap.size, 0, none⟩ = some (.int .i64 x) := by first | (rw [ha]; with_reducible assumption) | (simp (maxDischargeDepth := 7) [go_sem, ha]; done) | (rw [ha]; assumption) | (simp (maxDischargeDepth := 7) [go_sem, ha, *]; done)
    have hf1_0_1 : w1.cell? ⟨w.heap.size, 1, none⟩ = some (.int .i64 y) := by first | (rw [ha]; with_reducible assumption) | (simp (maxDischargeDepth := 7) [go_sem, ha]; done) | (rw [ha]; assumption) | (simp (maxDischargeDepth := 7) [go_sem, ha, *]; done)
    try have hg1_0 : ∀ o, w1.frozen? ⟨w.heap.size, o, none⟩ = false := by intro o; first | (simp (maxDischargeDepth := 7) [go_sem, hb]; done) | (rw [hb]; simp (maxDischargeDepth := 7) [go_sem, *]; done)
    clear ha hb
    clear hk1 ka
    go_wp2_with fail
    go_quiet (fail)
    have T1d := Lib.hid (tab_kept T1.out ((Kept.refl w1).drewN nq))
    have K1d := Lib.hid (K1.out.drewN nq)
    clear T1 K1
    generalize w1.drewN nq = w1d at T1d K1d ⊢
    go_wp2_with fail
    refine (c1 w1d T1d).mono ?_
    rintro e w2 ⟨rfl, hk2⟩
    have T2 := Lib.hid (tab_kept T1d.out hk2)
    have K2 := Lib.hid ((K1d.out).trans hk2)
    clear hk2
    go_wp2_with fail
    refine (c2 w2 T2).mono ?_
    rintro e w3 ⟨rfl, hk3⟩
    have T3 := Lib.hid (tab_kept T2.out hk3)
    have K3 := Lib.hid ((K2.out).trans hk3)
    clear hk3
    go_wp2_with fail
    refine (c3 _).mono ?_
    rintro e w' ⟨rfl, rfl⟩
    go_wp2_with fail
    refine (c4 _).mono ?_
    rintro e w' ⟨rfl, rfl⟩
    go_wp2_with fail
    refine (c5 _).mono ?_
    rintro e w' ⟨rfl, rfl⟩
    go_wp2_with fail
    refine (c6 _).mono ?_
    rintro e w' ⟨rfl, rfl⟩
    go_wp2_with fail
    refine (c7 _).mono ?_
    rintro e w' ⟨rfl, rfl⟩
    go_wp2_with fail
    refine (c8 _).mono ?_
    rintro e w' ⟨rfl, rfl⟩
    go_wp2_with fail
    all_goals go_wp2
    all_goals first | (go_ret; refine ⟨?_, by repeat (first | with_reducible exact Kept.refl _ | with_reducible exact K3.out | with_reducible refine Kept.drewN ?_ _ | with_reducible refine Kept.drew ?_)⟩; first | rfl | (show Ending.returned (.bool (decide _)) = _; rw [decide_eq_true (by omega)]) | (refine retb ?_; simp; done) | (refine retb ?_; simp; omega)) | (exfalso; omega)
  have v1 := tmp_bd x (by omega) (by omega)
  have v2 := tmp_bd y (by omega) (by omega)
  have v3 := rat_bd x (by omega) (by omega)
  have v4 := rat_bd y (by omega) (by omega)
  have c3 := temperature_ok x d (by omega) (by omega) (by omega) (by omega)
  have c4 := temperature_ok y d (by omega) (by omega) (by omega) (by omega)
  have c5 := sound_ok x d (by omega) (by omega) (by omega) (by omega)
  have c6 := sound_ok y d (by omega) (by omega) (by omega) (by omega)
  have c7 := ratio_ok x d (by omega) (by omega) (by omega) (by omega)
  have c8 := ratio_ok y d (by omega) (by omega) (by omega) (by omega)
  have n1 : snd y d ≤ snd x d := isq_mono _ _ (by omega) (by omega) (by omega)
  have n2 : ratD x d ≤ ratD y d := Int.ediv_le_ediv (by omega) (Int.mul_le_mul_of_nonneg_right m3 (by omega))
  generalize snd y d = s2 at n1 c6
  generalize snd x d = s1 at n1 c5
  generalize ratD y d = r2 at n2 c8
  generalize ratD x d = r1 at n2 c7
  generalize tmp y = t2 at m2 c4 v2
  generalize tmp x = t1 at m2 c3 v1
  clear m3 v3 v4
  have T := hT
  go_enter Tryd.func6, Tryd.ntmps6
  go_wp2_with fail
  have ka : Kept w (w.alloc (.cells #[.int .i64 x, .int .i64 y] 29)) := (Kept.refl w).alloc _
  refine (awake_w _ (Lib.hid (tab_kept T.out ka))).mono ?_
  rintro e w1 ⟨rfl, hk1⟩
  have T1 := Lib.hid (tab_kept (tab_kept T.out ka) hk1)
  have K1 := Lib.hid (ka.trans hk1)
  refine kuse (b := w.heap.size) hk1 (by first | (simp; done) | (simp; omega) | omega) ?_
  intro ha hb
  have hz1_0 : w.heap.size < w1.heap.size := by have := hk1.size; (try simp at this); omega
  have hn1_0 : ¬ w.heap.size = w1.heap.size := by omega
  have hm1_0 : ¬ w1.heap.size = w.heap.size := by omega
  have hf1_0_0 : w1.cell? ⟨w.heap.size, 0, none⟩ = some (.int .i64 x) := by first | (rw [ha]; with_reducible assumption) | (simp (maxDischargeDepth := 7) [go_sem, ha]; done) | (rw [ha]; assumption) | (simp (maxDischargeDepth := 7) [go_sem, ha, *]; done)
  have hf1_0_1 : w1.cell? ⟨w.heap.size, 1, none⟩ = some (.int .i64 y) := by first | (rw [ha]; with_reducible assumption) | (simp (maxDischargeDepth := 7) [go_sem, ha]; done) | (rw [ha]; assumption) | (simp (maxDischargeDepth := 7) [go_sem, ha, *]; done)
  try have hg1_0 : ∀ o, w1.frozen? ⟨w.heap.size, o, none⟩ = false := by intro o; first | (simp (maxDischargeDepth := 7) [go_sem, hb]; done) | (rw [hb]; simp (maxDischargeDepth := 7) [go_sem, *]; done)
  clear ha hb
  clear hk1 ka
  go_wp2_with fail
  go_quiet (fail)
  have T1d := Lib.hid (tab_kept T1.out ((Kept.refl w1).drewN nq))
  have K1d := Lib.hid (K1.out.drewN nq)
  clear T1 K1
  generalize w1.drewN nq = w1d at T1d K1d ⊢
  go_wp2_with fail
  refine (c1 w1d T1d).mono ?_
  rintro e w2 ⟨rfl, hk2⟩
  have T2 := Lib.hid (tab_kept T1d.out hk2)
  have K2 := Lib.hid ((K1d.out).trans hk2)
  clear hk2
  go_wp2_with fail
  refine (c2 w2 T2).mono ?_
  rintro e w3 ⟨rfl, hk3⟩
  have T3 := Lib.hid (tab_kept T2.out hk3)
  have K3 := Lib.hid ((K2.out).trans hk3)
  clear hk3
  go_wp2_with fail
  refine (c3 w3 T3).mono ?_
  rintro e w4 ⟨rfl, hk4⟩
  have T4 := Lib.hid (tab_kept T3.out hk4)
  have K4 := Lib.hid ((K3.out).trans hk4)
  clear hk4
  go_wp2_with fail
  refine (c4 w4 T4).mono ?_
  rintro e w5 ⟨rfl, hk5⟩
  have T5 := Lib.hid (tab_kept T4.out hk5)
  have K5 := Lib.hid ((K4.out).trans hk5)
  clear hk5
  go_wp2_with fail
  refine (c5 w5 T5).mono ?_
  rintro e w6 ⟨rfl, hk6⟩
  have T6 := Lib.hid (tab_kept T5.out hk6)
  have K6 := Lib.hid ((K5.out).trans hk6)
  clear hk6
  go_wp2_with fail
  refine (c6 w6 T6).mono ?_
  rintro e w7 ⟨rfl, hk7⟩
  have T7 := Lib.hid (tab_kept T6.out hk7)
  have K7 := Lib.hid ((K6.out).trans hk7)
  clear hk7
  go_wp2_with fail
  refine (c7 w7 T7).mono ?_
  rintro e w8 ⟨rfl, hk8⟩
  have T8 := Lib.hid (tab_kept T7.out hk8)
  have K8 := Lib.hid ((K7.out).trans hk8)
  clear hk8
  go_wp2_with fail
  refine (c8 w8 T8).mono ?_
  rintro e w9 ⟨rfl, hk9⟩
  have T9 := Lib.hid (tab_kept T8.out hk9)
  have K9 := Lib.hid ((K8.out).trans hk9)
  clear hk9
  go_wp2_with fail
  all_goals go_wp2
  all_goals first | (go_ret; refine ⟨?_, by repeat (first | with_reducible exact Kept.refl _ | with_reducible exact K9.out | with_reducible refine Kept.drewN ?_ _ | with_reducible refine Kept.drew ?_)⟩; first | rfl | (show Ending.returned (.bool (decide _)) = _; rw [decide_eq_true (by omega)]) | (refine retb ?_; simp; done) | (refine retb ?_; simp; omega)) | (exfalso; omega)
set_option maxHeartbeats 4000000 in
set_option maxRecDepth 100000 in
theorem falls_gt (x y d : Int) (x_0 : -9223372036854775808 ≤ x) (x_1 : x ≤ 9223372036854775807) (y_0 : -9223372036854775808 ≤ y) (y_1 : y ≤ 9223372036854775807) (d_0 : -9223372036854775808 ≤ d) (d_1 : d ≤ 9223372036854775807) (hxy : y < x) (w : World) (hT : Hid (Tab w)) : Calls Tryd.prog 6 #[.agg #[.int .i64 x, .int .i64 y], .int .i64 d] w fun en w' => en = .returned (.bool true) ∧ Kept w w' := by
  skip
  by_cases hl : y < -200000 ∨ 6000000 < y
  · by_cases hh : x < -200000 ∨ 6000000 < x
    · have T := hT
      go_enter Tryd.func6, Tryd.ntmps6
      go_wp2_with fail
      have ka : Kept w (w.alloc (.cells #[.int .i64 x, .int .i64 y] 29)) := (Kept.refl w).alloc _
      refine (awake_w _ (Lib.hid (tab_kept T.out ka))).mono ?_
      rintro e w1 ⟨rfl, hk1⟩
      have T1 := Lib.hid (tab_kept (tab_kept T.out ka) hk1)
      have K1 := Lib.hid (ka.trans hk1)
      refine kuse (b := w.heap.size) hk1 (by first | (simp; done) | (simp; omega) | omega) ?_
      intro ha hb
      have hz1_0 : w.heap.size < w1.heap.size := by have := hk1.size; (try simp at this); omega
      have hn1_0 : ¬ w.heap.size = w1.heap.size := by omega
      have hm1_0 : ¬ w1.heap.size = w.heap.size := by omega
      have hf1_0_0 : w1.cell? ⟨w.heap.size, 0, none⟩ = some (.int .i64 x) := by first | (rw [ha]; with_reducible assumption) | (simp (maxDischargeDepth := 7) [go_sem, ha]; done) | (rw [ha]; assumption) | (simp (maxDischargeDepth := 7) [go_sem, ha, *]; done)
      have hf1_0_1 : w1.cell? ⟨w.heap.size, 1, none⟩ = some (.int .i64 y) := by first | (rw [ha]; with_reducible assumption) | (simp (maxDischargeDepth := 7) [go_sem, ha]; done) | (rw [ha]; assumption) | (simp (maxDischargeDepth := 7) [go_sem, ha, *]; done)
      try have hg1_0 : ∀ o, w1.frozen? ⟨w.heap.size, o, none⟩ = false := by intro o; first | (simp (maxDischargeDepth := 7) [go_sem, hb]; done) | (rw [hb]; simp (maxDischargeDepth := 7) [go_sem, *]; done)
      clear ha hb
      clear hk1 ka
      go_wp2_with fail
      go_quiet (fail)
      have T1d := Lib.hid (tab_kept T1.out ((Kept.refl w1).drewN nq))
      have K1d := Lib.hid (K1.out.drewN nq)
      clear T1 K1
      generalize w1.drewN nq = w1d at T1d K1d ⊢
      go_wp2_with fail
      refine (pressure_bad y hl _).mono ?_
      rintro e w' ⟨rfl, rfl⟩
      go_wp2_with fail
      refine (pressure_bad x hh _).mono ?_
      rintro e w' ⟨rfl, rfl⟩
      go_wp2_with fail
      all_goals go_wp2
      all_goals first | (go_ret; refine ⟨?_, by repeat (first | with_reducible exact Kept.refl _ | with_reducible exact K1d.out | with_reducible refine Kept.drewN ?_ _ | with_reducible refine Kept.drew ?_)⟩; first | rfl | (show Ending.returned (.bool (decide _)) = _; rw [decide_eq_true (by omega)]) | (refine retb ?_; simp; done) | (refine retb ?_; simp; omega)) | (exfalso; omega)
    · have c2 := pressure_ok x (by omega) (by omega)
      generalize prs x = p2 at c2
      have T := hT
      go_enter Tryd.func6, Tryd.ntmps6
      go_wp2_with fail
      have ka : Kept w (w.alloc (.cells #[.int .i64 x, .int .i64 y] 29)) := (Kept.refl w).alloc _
      refine (awake_w _ (Lib.hid (tab_kept T.out ka))).mono ?_
      rintro e w1 ⟨rfl, hk1⟩
      have T1 := Lib.hid (tab_kept (tab_kept T.out ka) hk1)
      have K1 := Lib.hid (ka.trans hk1)
      refine kuse (b := w.heap.size) hk1 (by first | (simp; done) | (simp; omega) | omega) ?_
      intro ha hb
      have hz1_0 : w.heap.size < w1.heap.size := by have := hk1.size; (try simp at this); omega
      have hn1_0 : ¬ w.heap.size = w1.heap.size := by omega
      have hm1_0 : ¬ w1.heap.size = w.heap.size := by omega
      have hf1_0_0 : w1.cell? ⟨w.heap.size, 0, none⟩ = some (.int .i64 x) := by first | (rw [ha]; with_reducible assumption) | (simp (maxDischargeDepth := 7) [go_sem, ha]; done) | (rw [ha]; assumption) | (simp (maxDischargeDepth := 7) [go_sem, ha, *]; done)
      have hf1_0_1 : w1.cell? ⟨w.heap.size, 1, none⟩ = some (.int .i64 y) := by first | (rw [ha]; with_reducible assumption) | (simp (maxDischargeDepth := 7) [go_sem, ha]; done) | (rw [ha]; assumption) | (simp (maxDischargeDepth := 7) [go_sem, ha, *]; done)
      try have hg1_0 : ∀ o, w1.frozen? ⟨w.heap.size, o, none⟩ = false := by intro o; first | (simp (maxDischargeDepth := 7) [go_sem, hb]; done) | (rw [hb]; simp (maxDischargeDepth := 7) [go_sem, *]; done)
      clear ha hb
      clear hk1 ka
      go_wp2_with fail
      go_quiet (fail)
      have T1d := Lib.hid (tab_kept T1.out ((Kept.refl w1).drewN nq))
      have K1d := Lib.hid (K1.out.drewN nq)
      clear T1 K1
      generalize w1.drewN nq = w1d at T1d K1d ⊢
      go_wp2_with fail
      refine (pressure_bad y hl _).mono ?_
      rintro e w' ⟨rfl, rfl⟩
      go_wp2_with fail
      refine (c2 w1d T1d).mono ?_
      rintro e w3 ⟨rfl, hk3⟩
      have T3 := Lib.hid (tab_kept T1d.out hk3)
      have K3 := Lib.hid ((K1d.out).trans hk3)
      clear hk3
      go_wp2_with fail
      all_goals go_wp2
      all_goals first | (go_ret; refine ⟨?_, by repeat (first | with_reducible exact Kept.refl _ | with_reducible exact K3.out | with_reducible refine Kept.drewN ?_ _ | with_reducible refine Kept.drew ?_)⟩; first | rfl | (show Ending.returned (.bool (decide _)) = _; rw [decide_eq_true (by omega)]) | (refine retb ?_; simp; done) | (refine retb ?_; simp; omega)) | (exfalso; omega)
  by_cases hh : x < -200000 ∨ 6000000 < x
  · have c1 := pressure_ok y (by omega) (by omega)
    generalize prs y = p1 at c1
    have T := hT
    go_enter Tryd.func6, Tryd.ntmps6
    go_wp2_with fail
    have ka : Kept w (w.alloc (.cells #[.int .i64 x, .int .i64 y] 29)) := (Kept.refl w).alloc _
    refine (awake_w _ (Lib.hid (tab_kept T.out ka))).mono ?_
    rintro e w1 ⟨rfl, hk1⟩
    have T1 := Lib.hid (tab_kept (tab_kept T.out ka) hk1)
    have K1 := Lib.hid (ka.trans hk1)
    refine kuse (b := w.heap.size) hk1 (by first | (simp; done) | (simp; omega) | omega) ?_
    intro ha hb
    have hz1_0 : w.heap.size < w1.heap.size := by have := hk1.size; (try simp at this); omega
    have hn1_0 : ¬ w.heap.size = w1.heap.size := by omega
    have hm1_0 : ¬ w1.heap.size = w.heap.size := by omega
    have hf1_0_0 : w1.cell? ⟨w.heap.size, 0, none⟩ = some (.int .i64 x) := by first | (rw [ha]; with_reducible assumption) | (simp (maxDischargeDepth := 7) [go_sem, ha]; done) | (rw [ha]; assumption) | (simp (maxDischargeDepth := 7) [go_sem, ha, *]; done)
    have hf1_0_1 : w1.cell? ⟨w.heap.size, 1, none⟩ = some (.int .i64 y) := by first | (rw [ha]; with_reducible assumption) | (simp (maxDischargeDepth := 7) [go_sem, ha]; done) | (rw [ha]; assumption) | (simp (maxDischargeDepth := 7) [go_sem, ha, *]; done)
    try have hg1_0 : ∀ o, w1.frozen? ⟨w.heap.size, o, none⟩ = false := by intro o; first | (simp (maxDischargeDepth := 7) [go_sem, hb]; done) | (rw [hb]; simp (maxDischargeDepth := 7) [go_sem, *]; done)
    clear ha hb
    clear hk1 ka
    go_wp2_with fail
    go_quiet (fail)
    have T1d := Lib.hid (tab_kept T1.out ((Kept.refl w1).drewN nq))
    have K1d := Lib.hid (K1.out.drewN nq)
    clear T1 K1
    generalize w1.drewN nq = w1d at T1d K1d ⊢
    go_wp2_with fail
    refine (c1 w1d T1d).mono ?_
    rintro e w2 ⟨rfl, hk2⟩
    have T2 := Lib.hid (tab_kept T1d.out hk2)
    have K2 := Lib.hid ((K1d.out).trans hk2)
    clear hk2
    go_wp2_with fail
    refine (pressure_bad x hh _).mono ?_
    rintro e w' ⟨rfl, rfl⟩
    go_wp2_with fail
    all_goals go_wp2
    all_goals first | (go_ret; refine ⟨?_, by repeat (first | with_reducible exact Kept.refl _ | with_reducible exact K2.out | with_reducible refine Kept.drewN ?_ _ | with_reducible refine Kept.drew ?_)⟩; first | rfl | (show Ending.returned (.bool (decide _)) = _; rw [decide_eq_true (by omega)]) | (refine retb ?_; simp; done) | (refine retb ?_; simp; omega)) | (exfalso; omega)
  have m1 := prs_mono y x (by omega) (by omega) (by omega)
  have m2 := tmp_mono y x (by omega) (by omega) (by omega)
  have m3 := rat_mono y x (by omega) (by omega) (by omega)
  have b1 := prs_bd y (by omega) (by omega)
  have b2 := prs_bd x (by omega) (by omega)
  have c1 := pressure_ok y (by omega) (by omega)
  have c2 := pressure_ok x (by omega) (by omega)
  generalize prs x = p2 at c2 m1 b2
  generalize prs y = p1 at c1 m1 b1
  by_cases hd : d < -4000 ∨ 4000 < d
  · have c3 := temperature_dev y d (by omega) (by omega) hd
    have c4 := temperature_dev x d (by omega) (by omega) hd
    have c5 := sound_dev y d (by omega) (by omega) hd
    have c6 := sound_dev x d (by omega) (by omega) hd
    have c7 := ratio_dev y d (by omega) (by omega) hd
    have c8 := ratio_dev x d (by omega) (by omega) hd
    clear m2 m3
    have T := hT
    go_enter Tryd.func6, Tryd.ntmps6
    go_wp2_with fail
    have ka : Kept w (w.alloc (.cells #[.int .i64 x, .int .i64 y] 29)) := (Kept.refl w).alloc _
    refine (awake_w _ (Lib.hid (tab_kept T.out ka))).mono ?_
    rintro e w1 ⟨rfl, hk1⟩
    have T1 := Lib.hid (tab_kept (tab_kept T.out ka) hk1)
    have K1 := Lib.hid (ka.trans hk1)
    refine kuse (b := w.heap.size) hk1 (by first | (simp; done) | (simp; omega) | omega) ?_
    intro ha hb
    have hz1_0 : w.heap.size < w1.heap.size := by have := hk1.size; (try simp at this); omega
    have hn1_0 : ¬ w.heap.size = w1.heap.size := by omega
    have hm1_0 : ¬ w1.heap.size = w.heap.size := by omega
    have hf1_0_0 : w1.cell? ⟨w.heap.size, 0, none⟩ = some (.int .i64 x) := by first | (rw [ha]; with_reducible assumption) | (simp (maxDischargeDepth := 7) [go_sem, ha]; done) | (rw [ha]; assumption) | (simp (maxDischargeDepth := 7) [go_sem, ha, *]; done)
    have hf1_0_1 : w1.cell? ⟨w.heap.size, 1, none⟩ = some (.int .i64 y) := by first | (rw [ha]; with_reducible assumption) | (simp (maxDischargeDepth := 7) [go_sem, ha]; done) | (rw [ha]; assumption) | (simp (maxDischargeDepth := 7) [go_sem, ha, *]; done)
    try have hg1_0 : ∀ o, w1.frozen? ⟨w.heap.size, o, none⟩ = false := by intro o; first | (simp (maxDischargeDepth := 7) [go_sem, hb]; done) | (rw [hb]; simp (maxDischargeDepth := 7) [go_sem, *]; done)
    clear ha hb
    clear hk1 ka
    go_wp2_with fail
    go_quiet (fail)
    have T1d := Lib.hid (tab_kept T1.out ((Kept.refl w1).drewN nq))
    have K1d := Lib.hid (K1.out.drewN nq)
    clear T1 K1
    generalize w1.drewN nq = w1d at T1d K1d ⊢
    go_wp2_with fail
    refine (c1 w1d T1d).mono ?_
    rintro e w2 ⟨rfl, hk2⟩
    have T2 := Lib.hid (tab_kept T1d.out hk2)
    have K2 := Lib.hid ((K1d.out).trans hk2)
    clear hk2
    go_wp2_with fail
    refine (c2 w2 T2).mono ?_
    rintro e w3 ⟨rfl, hk3⟩
    have T3 := Lib.hid (tab_kept T2.out hk3)
    have K3 := Lib.hid ((K2.out).trans hk3)
    clear hk3
    go_wp2_with fail
    refine (c3 _).mono ?_
    rintro e w' ⟨rfl, rfl⟩
    go_wp2_with fail
    refine (c4 _).mono ?_
    rintro e w' ⟨rfl, rfl⟩
    go_wp2_with fail
    refine (c5 _).mono ?_
    rintro e w' ⟨rfl, rfl⟩
    go_wp2_with fail
    refine (c6 _).mono ?_
    rintro e w' ⟨rfl, rfl⟩
    go_wp2_with fail
    refine (c7 _).mono ?_
    rintro e w' ⟨rfl, rfl⟩
    go_wp2_with fail
    refine (c8 _).mono ?_
    rintro e w' ⟨rfl, rfl⟩
    go_wp2_with fail
    all_goals go_wp2
    all_goals first | (go_ret; refine ⟨?_, by repeat (first | with_reducible exact Kept.refl _ | with_reducible exact K3.out | with_reducible refine Kept.drewN ?_ _ | with_reducible refine Kept.drew ?_)⟩; first | rfl | (show Ending.returned (.bool (decide _)) = _; rw [decide_eq_true (by omega)]) | (refine retb ?_; simp; done) | (refine retb ?_; simp; omega)) | (exfalso; omega)
  have v1 := tmp_bd y (by omega) (by omega)
  have v2 := tmp_bd x (by omega) (by omega)
  have v3 := rat_bd y (by omega) (by omega)
  have v4 := rat_bd x (by omega) (by omega)
  have c3 := temperature_ok y d (by omega) (by omega) (by omega) (by omega)
  have c4 := temperature_ok x d (by omega) (by omega) (by omega) (by omega)
  have c5 := sound_ok y d (by omega) (by omega) (by omega) (by omega)
  have c6 := sound_ok x d (by omega) (by omega) (by omega) (by omega)
  have c7 := ratio_ok y d (by omega) (by omega) (by omega) (by omega)
  have c8 := ratio_ok x d (by omega) (by omega) (by omega) (by omega)
  have n1 : snd x d ≤ snd y d := isq_mono _ _ (by omega) (by omega) (by omega)
  have n2 : ratD y d ≤ ratD x d := Int.ediv_le_ediv (by omega) (Int.mul_le_mul_of_nonneg_right m3 (by omega))
  generalize snd x d = s2 at n1 c6
  generalize snd y d = s1 at n1 c5
  generalize ratD x d = r2 at n2 c8
  generalize ratD y d = r1 at n2 c7
  generalize tmp x = t2 at m2 c4 v2
  generalize tmp y = t1 at m2 c3 v1
  clear m3 v3 v4
  have T := hT
  go_enter Tryd.func6, Tryd.ntmps6
  go_wp2_with fail
  have ka : Kept w (w.alloc (.cells #[.int .i64 x, .int .i64 y] 29)) := (Kept.refl w).alloc _
  refine (awake_w _ (Lib.hid (tab_kept T.out ka))).mono ?_
  rintro e w1 ⟨rfl, hk1⟩
  have T1 := Lib.hid (tab_kept (tab_kept T.out ka) hk1)
  have K1 := Lib.hid (ka.trans hk1)
  refine kuse (b := w.heap.size) hk1 (by first | (simp; done) | (simp; omega) | omega) ?_
  intro ha hb
  have hz1_0 : w.heap.size < w1.heap.size := by have := hk1.size; (try simp at this); omega
  have hn1_0 : ¬ w.heap.size = w1.heap.size := by omega
  have hm1_0 : ¬ w1.heap.size = w.heap.size := by omega
  have hf1_0_0 : w1.cell? ⟨w.heap.size, 0, none⟩ = some (.int .i64 x) := by first | (rw [ha]; with_reducible assumption) | (simp (maxDischargeDepth := 7) [go_sem, ha]; done) | (rw [ha]; assumption) | (simp (maxDischargeDepth := 7) [go_sem, ha, *]; done)
  have hf1_0_1 : w1.cell? ⟨w.heap.size, 1, none⟩ = some (.int .i64 y) := by first | (rw [ha]; with_reducible assumption) | (simp (maxDischargeDepth := 7) [go_sem, ha]; done) | (rw [ha]; assumption) | (simp (maxDischargeDepth := 7) [go_sem, ha, *]; done)
  try have hg1_0 : ∀ o, w1.frozen? ⟨w.heap.size, o, none⟩ = false := by intro o; first | (simp (maxDischargeDepth := 7) [go_sem, hb]; done) | (rw [hb]; simp (maxDischargeDepth := 7) [go_sem, *]; done)
  clear ha hb
  clear hk1 ka
  go_wp2_with fail
  go_quiet (fail)
  have T1d := Lib.hid (tab_kept T1.out ((Kept.refl w1).drewN nq))
  have K1d := Lib.hid (K1.out.drewN nq)
  clear T1 K1
  generalize w1.drewN nq = w1d at T1d K1d ⊢
  go_wp2_with fail
  refine (c1 w1d T1d).mono ?_
  rintro e w2 ⟨rfl, hk2⟩
  have T2 := Lib.hid (tab_kept T1d.out hk2)
  have K2 := Lib.hid ((K1d.out).trans hk2)
  clear hk2
  go_wp2_with fail
  refine (c2 w2 T2).mono ?_
  rintro e w3 ⟨rfl, hk3⟩
  have T3 := Lib.hid (tab_kept T2.out hk3)
  have K3 := Lib.hid ((K2.out).trans hk3)
  clear hk3
  go_wp2_with fail
  refine (c3 w3 T3).mono ?_
  rintro e w4 ⟨rfl, hk4⟩
  have T4 := Lib.hid (tab_kept T3.out hk4)
  have K4 := Lib.hid ((K3.out).trans hk4)
  clear hk4
  go_wp2_with fail
  refine (c4 w4 T4).mono ?_
  rintro e w5 ⟨rfl, hk5⟩
  have T5 := Lib.hid (tab_kept T4.out hk5)
  have K5 := Lib.hid ((K4.out).trans hk5)
  clear hk5
  go_wp2_with fail
  refine (c5 w5 T5).mono ?_
  rintro e w6 ⟨rfl, hk6⟩
  have T6 := Lib.hid (tab_kept T5.out hk6)
  have K6 := Lib.hid ((K5.out).trans hk6)
  clear hk6
  go_wp2_with fail
  refine (c6 w6 T6).mono ?_
  rintro e w7 ⟨rfl, hk7⟩
  have T7 := Lib.hid (tab_kept T6.out hk7)
  have K7 := Lib.hid ((K6.out).trans hk7)
  clear hk7
  go_wp2_with fail
  refine (c7 w7 T7).mono ?_
  rintro e w8 ⟨rfl, hk8⟩
  have T8 := Lib.hid (tab_kept T7.out hk8)
  have K8 := Lib.hid ((K7.out).trans hk8)
  clear hk8
  go_wp2_with fail
  refine (c8 w8 T8).mono ?_
  rintro e w9 ⟨rfl, hk9⟩
  have T9 := Lib.hid (tab_kept T8.out hk9)
  have K9 := Lib.hid ((K8.out).trans hk9)
  clear hk9
  go_wp2_with fail
  all_goals go_wp2
  all_goals first | (go_ret; refine ⟨?_, by repeat (first | with_reducible exact Kept.refl _ | with_reducible exact K9.out | with_reducible refine Kept.drewN ?_ _ | with_reducible refine Kept.drew ?_)⟩; first | rfl | (show Ending.returned (.bool (decide _)) = _; rw [decide_eq_true (by omega)]) | (refine retb ?_; simp; done) | (refine retb ?_; simp; omega)) | (exfalso; omega)
set_option maxHeartbeats 4000000 in
set_option maxRecDepth 100000 in
theorem falls_eq (x y d : Int) (x_0 : -9223372036854775808 ≤ x) (x_1 : x ≤ 9223372036854775807) (y_0 : -9223372036854775808 ≤ y) (y_1 : y ≤ 9223372036854775807) (d_0 : -9223372036854775808 ≤ d) (d_1 : d ≤ 9223372036854775807) (hxy : x = y) (w : World) (hT : Hid (Tab w)) : Calls Tryd.prog 6 #[.agg #[.int .i64 x, .int .i64 y], .int .i64 d] w fun en w' => en = .returned (.bool true) ∧ Kept w w' := by
  subst hxy
  by_cases hl : x < -200000 ∨ 6000000 < x
  · by_cases hh : x < -200000 ∨ 6000000 < x
    · have T := hT
      go_enter Tryd.func6, Tryd.ntmps6
      go_wp2_with fail
      have ka : Kept w (w.alloc (.cells #[.int .i64 x, .int .i64 x] 29)) := (Kept.refl w).alloc _
      refine (awake_w _ (Lib.hid (tab_kept T.out ka))).mono ?_
      rintro e w1 ⟨rfl, hk1⟩
      have T1 := Lib.hid (tab_kept (tab_kept T.out ka) hk1)
      have K1 := Lib.hid (ka.trans hk1)
      refine kuse (b := w.heap.size) hk1 (by first | (simp; done) | (simp; omega) | omega) ?_
      intro ha hb
      have hz1_0 : w.heap.size < w1.heap.size := by have := hk1.size; (try simp at this); omega
      have hn1_0 : ¬ w.heap.size = w1.heap.size := by omega
      have hm1_0 : ¬ w1.heap.size = w.heap.size := by omega
      have hf1_0_0 : w1.cell? ⟨w.heap.size, 0, none⟩ = some (.int .i64 x) := by first | (rw [ha]; with_reducible assumption) | (simp (maxDischargeDepth := 7) [go_sem, ha]; done) | (rw [ha]; assumption) | (simp (maxDischargeDepth := 7) [go_sem, ha, *]; done)
      have hf1_0_1 : w1.cell? ⟨w.heap.size, 1, none⟩ = some (.int .i64 x) := by first | (rw [ha]; with_reducible assumption) | (simp (maxDischargeDepth := 7) [go_sem, ha]; done) | (rw [ha]; assumption) | (simp (maxDischargeDepth := 7) [go_sem, ha, *]; done)
      try have hg1_0 : ∀ o, w1.frozen? ⟨w.heap.size, o, none⟩ = false := by intro o; first | (simp (maxDischargeDepth := 7) [go_sem, hb]; done) | (rw [hb]; simp (maxDischargeDepth := 7) [go_sem, *]; done)
      clear ha hb
      clear hk1 ka
      go_wp2_with fail
      go_quiet (fail)
      have T1d := Lib.hid (tab_kept T1.out ((Kept.refl w1).drewN nq))
      have K1d := Lib.hid (K1.out.drewN nq)
      clear T1 K1
      generalize w1.drewN nq = w1d at T1d K1d ⊢
      go_wp2_with fail
      refine (pressure_bad x hl _).mono ?_
      rintro e w' ⟨rfl, rfl⟩
      go_wp2_with fail
      refine (pressure_bad x hh _).mono ?_
      rintro e w' ⟨rfl, rfl⟩
      go_wp2_with fail
      all_goals go_wp2
      all_goals first | (go_ret; refine ⟨?_, by repeat (first | with_reducible exact Kept.refl _ | with_reducible exact K1d.out | with_reducible refine Kept.drewN ?_ _ | with_reducible refine Kept.drew ?_)⟩; first | rfl | (show Ending.returned (.bool (decide _)) = _; rw [decide_eq_true (by omega)]) | (refine retb ?_; simp; done) | (refine retb ?_; simp; omega)) | (exfalso; omega)
    · have c2 := pressure_ok x (by omega) (by omega)
      generalize prs x = p2 at c2
      have T := hT
      go_enter Tryd.func6, Tryd.ntmps6
      go_wp2_with fail
      have ka : Kept w (w.alloc (.cells #[.int .i64 x, .int .i64 x] 29)) := (Kept.refl w).alloc _
      refine (awake_w _ (Lib.hid (tab_kept T.out ka))).mono ?_
      rintro e w1 ⟨rfl, hk1⟩
      have T1 := Lib.hid (tab_kept (tab_kept T.out ka) hk1)
      have K1 := Lib.hid (ka.trans hk1)
      refine kuse (b := w.heap.size) hk1 (by first | (simp; done) | (simp; omega) | omega) ?_
      intro ha hb
      have hz1_0 : w.heap.size < w1.heap.size := by have := hk1.size; (try simp at this); omega
      have hn1_0 : ¬ w.heap.size = w1.heap.size := by omega
      have hm1_0 : ¬ w1.heap.size = w.heap.size := by omega
      have hf1_0_0 : w1.cell? ⟨w.heap.size, 0, none⟩ = some (.int .i64 x) := by first | (rw [ha]; with_reducible assumption) | (simp (maxDischargeDepth := 7) [go_sem, ha]; done) | (rw [ha]; assumption) | (simp (maxDischargeDepth := 7) [go_sem, ha, *]; done)
      have hf1_0_1 : w1.cell? ⟨w.heap.size, 1, none⟩ = some (.int .i64 x) := by first | (rw [ha]; with_reducible assumption) | (simp (maxDischargeDepth := 7) [go_sem, ha]; done) | (rw [ha]; assumption) | (simp (maxDischargeDepth := 7) [go_sem, ha, *]; done)
      try have hg1_0 : ∀ o, w1.frozen? ⟨w.heap.size, o, none⟩ = false := by intro o; first | (simp (maxDischargeDepth := 7) [go_sem, hb]; done) | (rw [hb]; simp (maxDischargeDepth := 7) [go_sem, *]; done)
      clear ha hb
      clear hk1 ka
      go_wp2_with fail
      go_quiet (fail)
      have T1d := Lib.hid (tab_kept T1.out ((Kept.refl w1).drewN nq))
      have K1d := Lib.hid (K1.out.drewN nq)
      clear T1 K1
      generalize w1.drewN nq = w1d at T1d K1d ⊢
      go_wp2_with fail
      refine (pressure_bad x hl _).mono ?_
      rintro e w' ⟨rfl, rfl⟩
      go_wp2_with fail
      refine (c2 w1d T1d).mono ?_
      rintro e w3 ⟨rfl, hk3⟩
      have T3 := Lib.hid (tab_kept T1d.out hk3)
      have K3 := Lib.hid ((K1d.out).trans hk3)
      clear hk3
      go_wp2_with fail
      all_goals go_wp2
      all_goals first | (go_ret; refine ⟨?_, by repeat (first | with_reducible exact Kept.refl _ | with_reducible exact K3.out | with_reducible refine Kept.drewN ?_ _ | with_reducible refine Kept.drew ?_)⟩; first | rfl | (show Ending.returned (.bool (decide _)) = _; rw [decide_eq_true (by omega)]) | (refine retb ?_; simp; done) | (refine retb ?_; simp; omega)) | (exfalso; omega)
  by_cases hh : x < -200000 ∨ 6000000 < x
  · have c1 := pressure_ok x (by omega) (by omega)
    generalize prs x = p1 at c1
    have T := hT
    go_enter Tryd.func6, Tryd.ntmps6
    go_wp2_with fail
    have ka : Kept w (w.alloc (.cells #[.int .i64 x, .int .i64 x] 29)) := (Kept.refl w).alloc _
    refine (awake_w _ (Lib.hid (tab_kept T.out ka))).mono ?_
    rintro e w1 ⟨rfl, hk1⟩
    have T1 := Lib.hid (tab_kept (tab_kept T.out ka) hk1)
    have K1 := Lib.hid (ka.trans hk1)
    refine kuse (b := w.heap.size) hk1 (by first | (simp; done) | (simp; omega) | omega) ?_
    intro ha hb
    have hz1_0 : w.heap.size < w1.heap.size := by have := hk1.size; (try simp at this); omega
    have hn1_0 : ¬ w.heap.size = w1.heap.size := by omega
    have hm1_0 : ¬ w1.heap.size = w.heap.size := by omega
    have hf1_0_0 : w1.cell? ⟨w.heap.size, 0, none⟩ = some (.int .i64 x) := by first | (rw [ha]; with_reducible assumption) | (simp (maxDischargeDepth := 7) [go_sem, ha]; done) | (rw [ha]; assumption) | (simp (maxDischargeDepth := 7) [go_sem, ha, *]; done)
    have hf1_0_1 : w1.cell? ⟨w.heap.size, 1, none⟩ = some (.int .i64 x) := by first | (rw [ha]; with_reducible assumption) | (simp (maxDischargeDepth := 7) [go_sem, ha]; done) | (rw [ha]; assumption) | (simp (maxDischargeDepth := 7) [go_sem, ha, *]; done)
    try have hg1_0 : ∀ o, w1.frozen? ⟨w.heap.size, o, none⟩ = false := by intro o; first | (simp (maxDischargeDepth := 7) [go_sem, hb]; done) | (rw [hb]; simp (maxDischargeDepth := 7) [go_sem, *]; done)
    clear ha hb
    clear hk1 ka
    go_wp2_with fail
    go_quiet (fail)
    have T1d := Lib.hid (tab_kept T1.out ((Kept.refl w1).drewN nq))
    have K1d := Lib.hid (K1.out.drewN nq)
    clear T1 K1
    generalize w1.drewN nq = w1d at T1d K1d ⊢
    go_wp2_with fail
    refine (c1 w1d T1d).mono ?_
    rintro e w2 ⟨rfl, hk2⟩
    have T2 := Lib.hid (tab_kept T1d.out hk2)
    have K2 := Lib.hid ((K1d.out).trans hk2)
    clear hk2
    go_wp2_with fail
    refine (pressure_bad x hh _).mono ?_
    rintro e w' ⟨rfl, rfl⟩
    go_wp2_with fail
    all_goals go_wp2
    all_goals first | (go_ret; refine ⟨?_, by repeat (first | with_reducible exact Kept.refl _ | with_reducible exact K2.out | with_reducible refine Kept.drewN ?_ _ | with_reducible refine Kept.drew ?_)⟩; first | rfl | (show Ending.returned (.bool (decide _)) = _; rw [decide_eq_true (by omega)]) | (refine retb ?_; simp; done) | (refine retb ?_; simp; omega)) | (exfalso; omega)
  have m1 := prs_mono x x (by omega) (by omega) (by omega)
  have m2 := tmp_mono x x (by omega) (by omega) (by omega)
  have m3 := rat_mono x x (by omega) (by omega) (by omega)
  have b1 := prs_bd x (by omega) (by omega)
  have b2 := prs_bd x (by omega) (by omega)
  have c1 := pressure_ok x (by omega) (by omega)
  have c2 := pressure_ok x (by omega) (by omega)
  generalize prs x = p1 at c1 c2 m1 b1 b2
  by_cases hd : d < -4000 ∨ 4000 < d
  · have c3 := temperature_dev x d (by omega) (by omega) hd
    have c4 := temperature_dev x d (by omega) (by omega) hd
    have c5 := sound_dev x d (by omega) (by omega) hd
    have c6 := sound_dev x d (by omega) (by omega) hd
    have c7 := ratio_dev x d (by omega) (by omega) hd
    have c8 := ratio_dev x d (by omega) (by omega) hd
    clear m2 m3
    have T := hT
    go_enter Tryd.func6, Tryd.ntmps6
    go_wp2_with fail
    have ka : Kept w (w.alloc (.cells #[.int .i64 x, .int .i64 x] 29)) := (Kept.refl w).alloc _
    refine (awake_w _ (Lib.hid (tab_kept T.out ka))).mono ?_
    rintro e w1 ⟨rfl, hk1⟩
    have T1 := Lib.hid (tab_kept (tab_kept T.out ka) hk1)
    have K1 := Lib.hid (ka.trans hk1)
    refine kuse (b := w.heap.size) hk1 (by first | (simp; done) | (simp; omega) | omega) ?_
    intro ha hb
    have hz1_0 : w.heap.size < w1.heap.size := by have := hk1.size; (try simp at this); omega
    have hn1_0 : ¬ w.heap.size = w1.heap.size := by omega
    have hm1_0 : ¬ w1.heap.size = w.heap.size := by omega
    have hf1_0_0 : w1.cell? ⟨w.heap.size, 0, none⟩ = some (.int .i64 x) := by first | (rw [ha]; with_reducible assumption) | (simp (maxDischargeDepth := 7) [go_sem, ha]; done) | (rw [ha]; assumption) | (simp (maxDischargeDepth := 7) [go_sem, ha, *]; done)
    have hf1_0_1 : w1.cell? ⟨w.heap.size, 1, none⟩ = some (.int .i64 x) := by first | (rw [ha]; with_reducible assumption) | (simp (maxDischargeDepth := 7) [go_sem, ha]; done) | (rw [ha]; assumption) | (simp (maxDischargeDepth := 7) [go_sem, ha, *]; done)
    try have hg1_0 : ∀ o, w1.frozen? ⟨w.heap.size, o, none⟩ = false := by intro o; first | (simp (maxDischargeDepth := 7) [go_sem, hb]; done) | (rw [hb]; simp (maxDischargeDepth := 7) [go_sem, *]; done)
    clear ha hb
    clear hk1 ka
    go_wp2_with fail
    go_quiet (fail)
    have T1d := Lib.hid (tab_kept T1.out ((Kept.refl w1).drewN nq))
    have K1d := Lib.hid (K1.out.drewN nq)
    clear T1 K1
    generalize w1.drewN nq = w1d at T1d K1d ⊢
    go_wp2_with fail
    refine (c1 w1d T1d).mono ?_
    rintro e w2 ⟨rfl, hk2⟩
    have T2 := Lib.hid (tab_kept T1d.out hk2)
    have K2 := Lib.hid ((K1d.out).trans hk2)
    clear hk2
    go_wp2_with fail
    refine (c2 w2 T2).mono ?_
    rintro e w3 ⟨rfl, hk3⟩
    have T3 := Lib.hid (tab_kept T2.out hk3)
    have K3 := Lib.hid ((K2.out).trans hk3)
    clear hk3
    go_wp2_with fail
    refine (c3 _).mono ?_
    rintro e w' ⟨rfl, rfl⟩
    go_wp2_with fail
    refine (c4 _).mono ?_
    rintro e w' ⟨rfl, rfl⟩
    go_wp2_with fail
    refine (c5 _).mono ?_
    rintro e w' ⟨rfl, rfl⟩
    go_wp2_with fail
    refine (c6 _).mono ?_
    rintro e w' ⟨rfl, rfl⟩
    go_wp2_with fail
    refine (c7 _).mono ?_
    rintro e w' ⟨rfl, rfl⟩
    go_wp2_with fail
    refine (c8 _).mono ?_
    rintro e w' ⟨rfl, rfl⟩
    go_wp2_with fail
    all_goals go_wp2
    all_goals first | (go_ret; refine ⟨?_, by repeat (first | with_reducible exact Kept.refl _ | with_reducible exact K3.out | with_reducible refine Kept.drewN ?_ _ | with_reducible refine Kept.drew ?_)⟩; first | rfl | (show Ending.returned (.bool (decide _)) = _; rw [decide_eq_true (by omega)]) | (refine retb ?_; simp; done) | (refine retb ?_; simp; omega)) | (exfalso; omega)
  have v1 := tmp_bd x (by omega) (by omega)
  have v2 := tmp_bd x (by omega) (by omega)
  have v3 := rat_bd x (by omega) (by omega)
  have v4 := rat_bd x (by omega) (by omega)
  have c3 := temperature_ok x d (by omega) (by omega) (by omega) (by omega)
  have c4 := temperature_ok x d (by omega) (by omega) (by omega) (by omega)
  have c5 := sound_ok x d (by omega) (by omega) (by omega) (by omega)
  have c6 := sound_ok x d (by omega) (by omega) (by omega) (by omega)
  have c7 := ratio_ok x d (by omega) (by omega) (by omega) (by omega)
  have c8 := ratio_ok x d (by omega) (by omega) (by omega) (by omega)
  have n1 : snd x d ≤ snd x d := isq_mono _ _ (by omega) (by omega) (by omega)
  have n2 : ratD x d ≤ ratD x d := Int.ediv_le_ediv (by omega) (Int.mul_le_mul_of_nonneg_right m3 (by omega))
  generalize snd x d = s1 at n1 c5 c6
  generalize ratD x d = r1 at n2 c7 c8
  generalize tmp x = t1 at m2 c3 c4 v1 v2
  clear m3 v3 v4
  have T := hT
  go_enter Tryd.func6, Tryd.ntmps6
  go_wp2_with fail
  have ka : Kept w (w.alloc (.cells #[.int .i64 x, .int .i64 x] 29)) := (Kept.refl w).alloc _
  refine (awake_w _ (Lib.hid (tab_kept T.out ka))).mono ?_
  rintro e w1 ⟨rfl, hk1⟩
  have T1 := Lib.hid (tab_kept (tab_kept T.out ka) hk1)
  have K1 := Lib.hid (ka.trans hk1)
  refine kuse (b := w.heap.size) hk1 (by first | (simp; done) | (simp; omega) | omega) ?_
  intro ha hb
  have hz1_0 : w.heap.size < w1.heap.size := by have := hk1.size; (try simp at this); omega
  have hn1_0 : ¬ w.heap.size = w1.heap.size := by omega
  have hm1_0 : ¬ w1.heap.size = w.heap.size := by omega
  have hf1_0_0 : w1.cell? ⟨w.heap.size, 0, none⟩ = some (.int .i64 x) := by first | (rw [ha]; with_reducible assumption) | (simp (maxDischargeDepth := 7) [go_sem, ha]; done) | (rw [ha]; assumption) | (simp (maxDischargeDepth := 7) [go_sem, ha, *]; done)
  have hf1_0_1 : w1.cell? ⟨w.heap.size, 1, none⟩ = some (.int .i64 x) := by first | (rw [ha]; with_reducible assumption) | (simp (maxDischargeDepth := 7) [go_sem, ha]; done) | (rw [ha]; assumption) | (simp (maxDischargeDepth := 7) [go_sem, ha, *]; done)
  try have hg1_0 : ∀ o, w1.frozen? ⟨w.heap.size, o, none⟩ = false := by intro o; first | (simp (maxDischargeDepth := 7) [go_sem, hb]; done) | (rw [hb]; simp (maxDischargeDepth := 7) [go_sem, *]; done)
  clear ha hb
  clear hk1 ka
  go_wp2_with fail
  go_quiet (fail)
  have T1d := Lib.hid (tab_kept T1.out ((Kept.refl w1).drewN nq))
  have K1d := Lib.hid (K1.out.drewN nq)
  clear T1 K1
  generalize w1.drewN nq = w1d at T1d K1d ⊢
  go_wp2_with fail
  refine (c1 w1d T1d).mono ?_
  rintro e w2 ⟨rfl, hk2⟩
  have T2 := Lib.hid (tab_kept T1d.out hk2)
  have K2 := Lib.hid ((K1d.out).trans hk2)
  clear hk2
  go_wp2_with fail
  refine (c2 w2 T2).mono ?_
  rintro e w3 ⟨rfl, hk3⟩
  have T3 := Lib.hid (tab_kept T2.out hk3)
  have K3 := Lib.hid ((K2.out).trans hk3)
  clear hk3
  go_wp2_with fail
  refine (c3 w3 T3).mono ?_
  rintro e w4 ⟨rfl, hk4⟩
  have T4 := Lib.hid (tab_kept T3.out hk4)
  have K4 := Lib.hid ((K3.out).trans hk4)
  clear hk4
  go_wp2_with fail
  refine (c4 w4 T4).mono ?_
  rintro e w5 ⟨rfl, hk5⟩
  have T5 := Lib.hid (tab_kept T4.out hk5)
  have K5 := Lib.hid ((K4.out).trans hk5)
  clear hk5
  go_wp2_with fail
  refine (c5 w5 T5).mono ?_
  rintro e w6 ⟨rfl, hk6⟩
  have T6 := Lib.hid (tab_kept T5.out hk6)
  have K6 := Lib.hid ((K5.out).trans hk6)
  clear hk6
  go_wp2_with fail
  refine (c6 w6 T6).mono ?_
  rintro e w7 ⟨rfl, hk7⟩
  have T7 := Lib.hid (tab_kept T6.out hk7)
  have K7 := Lib.hid ((K6.out).trans hk7)
  clear hk7
  go_wp2_with fail
  refine (c7 w7 T7).mono ?_
  rintro e w8 ⟨rfl, hk8⟩
  have T8 := Lib.hid (tab_kept T7.out hk8)
  have K8 := Lib.hid ((K7.out).trans hk8)
  clear hk8
  go_wp2_with fail
  refine (c8 w8 T8).mono ?_
  rintro e w9 ⟨rfl, hk9⟩
  have T9 := Lib.hid (tab_kept T8.out hk9)
  have K9 := Lib.hid ((K8.out).trans hk9)
  clear hk9
  go_wp2_with fail
  all_goals go_wp2
  all_goals first | (go_ret; refine ⟨?_, by repeat (first | with_reducible exact Kept.refl _ | with_reducible exact K9.out | with_reducible refine Kept.drewN ?_ _ | with_reducible refine Kept.drew ?_)⟩; first | rfl | (show Ending.returned (.bool (decide _)) = _; rw [decide_eq_true (by omega)]) | (refine retb ?_; simp; done) | (refine retb ?_; simp; omega)) | (exfalso; omega)
theorem law_falls (x y d : Int) (x_0 : -9223372036854775808 ≤ x) (x_1 : x ≤ 9223372036854775807) (y_0 : -9223372036854775808 ≤ y) (y_1 : y ≤ 9223372036854775807) (d_0 : -9223372036854775808 ≤ d) (d_1 : d ≤ 9223372036854775807) (w : World) (hT : Hid (Tab w)) : Calls Tryd.prog 6 #[.agg #[.int .i64 x, .int .i64 y], .int .i64 d] w fun en w' => en = .returned (.bool true) ∧ Kept w w' := by
  by_cases h : x < y
  · exact falls_lt x y d x_0 x_1 y_0 y_1 d_0 d_1 h w hT
  · by_cases h2 : y < x
    · exact falls_gt x y d x_0 x_1 y_0 y_1 d_0 d_1 h2 w hT
    · exact falls_eq x y d x_0 x_1 y_0 y_1 d_0 d_1 (by omega) w hT
theorem isq_pos (n : Int) (h : 1 ≤ n) (h1 : n < 18446744073709551616) : 1 ≤ isq n := by
  obtain ⟨p1, p2, p3, p4⟩ := isq_ok n (by omega) h1
  apply Int.not_lt.1
  intro k
  have e : isq n = 0 := by omega
  rw [e] at p3
  omega
theorem ratd_pos (a d : Int) (h0 : -200000 ≤ a) (h1 : a ≤ 6000000) (d0 : -4000 ≤ d) : 1 ≤ ratD a d := by
  have b := rat_bd a h0 h1
  have := Int.mul_le_mul b.1 (show (53630 : Int) ≤ 57630 + d by omega) (by omega) (by omega)
  exact Int.le_ediv_of_mul_le (by omega) (by omega)
set_option maxHeartbeats 4000000 in
set_option maxRecDepth 100000 in
theorem warmer_lt (a x y : Int) (a_0 : -9223372036854775808 ≤ a) (a_1 : a ≤ 9223372036854775807) (x_0 : -9223372036854775808 ≤ x) (x_1 : x ≤ 9223372036854775807) (y_0 : -9223372036854775808 ≤ y) (y_1 : y ≤ 9223372036854775807) (hxy : x < y) (w : World) (hT : Hid (Tab w)) : Calls Tryd.prog 7 #[.int .i64 a, .agg #[.int .i64 x, .int .i64 y]] w fun en w' => en = .returned (.bool true) ∧ Kept w w' := by
  skip
  by_cases ha : a < -200000 ∨ 6000000 < a
  · have T := hT
    go_enter Tryd.func7, Tryd.ntmps7
    go_wp2_with fail
    have ka : Kept w (w.alloc (.cells #[.int .i64 x, .int .i64 y] 29)) := (Kept.refl w).alloc _
    refine (awake_w _ (Lib.hid (tab_kept T.out ka))).mono ?_
    rintro e w1 ⟨rfl, hk1⟩
    have T1 := Lib.hid (tab_kept (tab_kept T.out ka) hk1)
    have K1 := Lib.hid (ka.trans hk1)
    refine kuse (b := w.heap.size) hk1 (by first | (simp; done) | (simp; omega) | omega) ?_
    intro ha hb
    have hz1_0 : w.heap.size < w1.heap.size := by have := hk1.size; (try simp at this); omega
    have hn1_0 : ¬ w.heap.size = w1.heap.size := by omega
    have hm1_0 : ¬ w1.heap.size = w.heap.size := by omega
    have hf1_0_0 : w1.cell? ⟨w.heap.size, 0, none⟩ = some (.int .i64 x) := by first | (rw [ha]; with_reducible assumption) | (simp (maxDischargeDepth := 7) [go_sem, ha]; done) | (rw [ha]; assumption) | (simp (maxDischargeDepth := 7) [go_sem, ha, *]; done)
    have hf1_0_1 : w1.cell? ⟨w.heap.size, 1, none⟩ = some (.int .i64 y) := by first | (rw [ha]; with_reducible assumption) | (simp (maxDischargeDepth := 7) [go_sem, ha]; done) | (rw [ha]; assumption) | (simp (maxDischargeDepth := 7) [go_sem, ha, *]; done)
    try have hg1_0 : ∀ o, w1.frozen? ⟨w.heap.size, o, none⟩ = false := by intro o; first | (simp (maxDischargeDepth := 7) [go_sem, hb]; done) | (rw [hb]; simp (maxDischargeDepth := 7) [go_sem, *]; done)
    clear ha hb
    clear hk1 ka
    go_wp2_with fail
    go_quiet (fail)
    have T1d := Lib.hid (tab_kept T1.out ((Kept.refl w1).drewN nq))
    have K1d := Lib.hid (K1.out.drewN nq)
    clear T1 K1
    generalize w1.drewN nq = w1d at T1d K1d ⊢
    go_wp2_with fail
    refine (temperature_alt a x ha _).mono ?_
    rintro e w' ⟨rfl, rfl⟩
    go_wp2_with fail
    refine (temperature_alt a y ha _).mono ?_
    rintro e w' ⟨rfl, rfl⟩
    go_wp2_with fail
    all_goals go_wp2
    all_goals first | (go_ret; refine ⟨?_, by repeat (first | with_reducible exact Kept.refl _ | with_reducible exact K1d.out | with_reducible refine Kept.drewN ?_ _ | with_reducible refine Kept.drew ?_)⟩; first | rfl | (show Ending.returned (.bool (decide _)) = _; rw [decide_eq_true (by omega)]) | (refine retb ?_; simp; done) | (refine retb ?_; simp; omega)) | (exfalso; omega)
  by_cases hl : x < -4000 ∨ 4000 < x
  · by_cases hh : y < -4000 ∨ 4000 < y
    · have T := hT
      go_enter Tryd.func7, Tryd.ntmps7
      go_wp2_with fail
      have ka : Kept w (w.alloc (.cells #[.int .i64 x, .int .i64 y] 29)) := (Kept.refl w).alloc _
      refine (awake_w _ (Lib.hid (tab_kept T.out ka))).mono ?_
      rintro e w1 ⟨rfl, hk1⟩
      have T1 := Lib.hid (tab_kept (tab_kept T.out ka) hk1)
      have K1 := Lib.hid (ka.trans hk1)
      refine kuse (b := w.heap.size) hk1 (by first | (simp; done) | (simp; omega) | omega) ?_
      intro ha hb
      have hz1_0 : w.heap.size < w1.heap.size := by have := hk1.size; (try simp at this); omega
      have hn1_0 : ¬ w.heap.size = w1.heap.size := by omega
      have hm1_0 : ¬ w1.heap.size = w.heap.size := by omega
      have hf1_0_0 : w1.cell? ⟨w.heap.size, 0, none⟩ = some (.int .i64 x) := by first | (rw [ha]; with_reducible assumption) | (simp (maxDischargeDepth := 7) [go_sem, ha]; done) | (rw [ha]; assumption) | (simp (maxDischargeDepth := 7) [go_sem, ha, *]; done)
      have hf1_0_1 : w1.cell? ⟨w.heap.size, 1, none⟩ = some (.int .i64 y) := by first | (rw [ha]; with_reducible assumption) | (simp (maxDischargeDepth := 7) [go_sem, ha]; done) | (rw [ha]; assumption) | (simp (maxDischargeDepth := 7) [go_sem, ha, *]; done)
      try have hg1_0 : ∀ o, w1.frozen? ⟨w.heap.size, o, none⟩ = false := by intro o; first | (simp (maxDischargeDepth := 7) [go_sem, hb]; done) | (rw [hb]; simp (maxDischargeDepth := 7) [go_sem, *]; done)
      clear ha hb
      clear hk1 ka
      go_wp2_with fail
      go_quiet (fail)
      have T1d := Lib.hid (tab_kept T1.out ((Kept.refl w1).drewN nq))
      have K1d := Lib.hid (K1.out.drewN nq)
      clear T1 K1
      generalize w1.drewN nq = w1d at T1d K1d ⊢
      go_wp2_with fail
      refine (temperature_dev a x (by omega) (by omega) hl _).mono ?_
      rintro e w' ⟨rfl, rfl⟩
      go_wp2_with fail
      refine (temperature_dev a y (by omega) (by omega) hh _).mono ?_
      rintro e w' ⟨rfl, rfl⟩
      go_wp2_with fail
      all_goals go_wp2
      all_goals first | (go_ret; refine ⟨?_, by repeat (first | with_reducible exact Kept.refl _ | with_reducible exact K1d.out | with_reducible refine Kept.drewN ?_ _ | with_reducible refine Kept.drew ?_)⟩; first | rfl | (show Ending.returned (.bool (decide _)) = _; rw [decide_eq_true (by omega)]) | (refine retb ?_; simp; done) | (refine retb ?_; simp; omega)) | (exfalso; omega)
    · have v1 := tmp_bd a (by omega) (by omega)
      have c2 := temperature_ok a y (by omega) (by omega) (by omega) (by omega)
      generalize tmp a = t1 at c2 v1
      have T := hT
      go_enter Tryd.func7, Tryd.ntmps7
      go_wp2_with fail
      have ka : Kept w (w.alloc (.cells #[.int .i64 x, .int .i64 y] 29)) := (Kept.refl w).alloc _
      refine (awake_w _ (Lib.hid (tab_kept T.out ka))).mono ?_
      rintro e w1 ⟨rfl, hk1⟩
      have T1 := Lib.hid (tab_kept (tab_kept T.out ka) hk1)
      have K1 := Lib.hid (ka.trans hk1)
      refine kuse (b := w.heap.size) hk1 (by first | (simp; done) | (simp; omega) | omega) ?_
      intro ha hb
      have hz1_0 : w.heap.size < w1.heap.size := by have := hk1.size; (try simp at this); omega
      have hn1_0 : ¬ w.heap.size = w1.heap.size := by omega
      have hm1_0 : ¬ w1.heap.size = w.heap.size := by omega
      have hf1_0_0 : w1.cell? ⟨w.heap.size, 0, none⟩ = some (.int .i64 x) := by first | (rw [ha]; with_reducible assumption) | (simp (maxDischargeDepth := 7) [go_sem, ha]; done) | (rw [ha]; assumption) | (simp (maxDischargeDepth := 7) [go_sem, ha, *]; done)
      have hf1_0_1 : w1.cell? ⟨w.heap.size, 1, none⟩ = some (.int .i64 y) := by first | (rw [ha]; with_reducible assumption) | (simp (maxDischargeDepth := 7) [go_sem, ha]; done) | (rw [ha]; assumption) | (simp (maxDischargeDepth := 7) [go_sem, ha, *]; done)
      try have hg1_0 : ∀ o, w1.frozen? ⟨w.heap.size, o, none⟩ = false := by intro o; first | (simp (maxDischargeDepth := 7) [go_sem, hb]; done) | (rw [hb]; simp (maxDischargeDepth := 7) [go_sem, *]; done)
      clear ha hb
      clear hk1 ka
      go_wp2_with fail
      go_quiet (fail)
      have T1d := Lib.hid (tab_kept T1.out ((Kept.refl w1).drewN nq))
      have K1d := Lib.hid (K1.out.drewN nq)
      clear T1 K1
      generalize w1.drewN nq = w1d at T1d K1d ⊢
      go_wp2_with fail
      refine (temperature_dev a x (by omega) (by omega) hl _).mono ?_
      rintro e w' ⟨rfl, rfl⟩
      go_wp2_with fail
      refine (c2 w1d T1d).mono ?_
      rintro e w3 ⟨rfl, hk3⟩
      have T3 := Lib.hid (tab_kept T1d.out hk3)
      have K3 := Lib.hid ((K1d.out).trans hk3)
      clear hk3
      go_wp2_with fail
      all_goals go_wp2
      all_goals first | (go_ret; refine ⟨?_, by repeat (first | with_reducible exact Kept.refl _ | with_reducible exact K3.out | with_reducible refine Kept.drewN ?_ _ | with_reducible refine Kept.drew ?_)⟩; first | rfl | (show Ending.returned (.bool (decide _)) = _; rw [decide_eq_true (by omega)]) | (refine retb ?_; simp; done) | (refine retb ?_; simp; omega)) | (exfalso; omega)
  by_cases hh : y < -4000 ∨ 4000 < y
  · have v1 := tmp_bd a (by omega) (by omega)
    have c1 := temperature_ok a x (by omega) (by omega) (by omega) (by omega)
    generalize tmp a = t1 at c1 v1
    have T := hT
    go_enter Tryd.func7, Tryd.ntmps7
    go_wp2_with fail
    have ka : Kept w (w.alloc (.cells #[.int .i64 x, .int .i64 y] 29)) := (Kept.refl w).alloc _
    refine (awake_w _ (Lib.hid (tab_kept T.out ka))).mono ?_
    rintro e w1 ⟨rfl, hk1⟩
    have T1 := Lib.hid (tab_kept (tab_kept T.out ka) hk1)
    have K1 := Lib.hid (ka.trans hk1)
    refine kuse (b := w.heap.size) hk1 (by first | (simp; done) | (simp; omega) | omega) ?_
    intro ha hb
    have hz1_0 : w.heap.size < w1.heap.size := by have := hk1.size; (try simp at this); omega
    have hn1_0 : ¬ w.heap.size = w1.heap.size := by omega
    have hm1_0 : ¬ w1.heap.size = w.heap.size := by omega
    have hf1_0_0 : w1.cell? ⟨w.heap.size, 0, none⟩ = some (.int .i64 x) := by first | (rw [ha]; with_reducible assumption) | (simp (maxDischargeDepth := 7) [go_sem, ha]; done) | (rw [ha]; assumption) | (simp (maxDischargeDepth := 7) [go_sem, ha, *]; done)
    have hf1_0_1 : w1.cell? ⟨w.heap.size, 1, none⟩ = some (.int .i64 y) := by first | (rw [ha]; with_reducible assumption) | (simp (maxDischargeDepth := 7) [go_sem, ha]; done) | (rw [ha]; assumption) | (simp (maxDischargeDepth := 7) [go_sem, ha, *]; done)
    try have hg1_0 : ∀ o, w1.frozen? ⟨w.heap.size, o, none⟩ = false := by intro o; first | (simp (maxDischargeDepth := 7) [go_sem, hb]; done) | (rw [hb]; simp (maxDischargeDepth := 7) [go_sem, *]; done)
    clear ha hb
    clear hk1 ka
    go_wp2_with fail
    go_quiet (fail)
    have T1d := Lib.hid (tab_kept T1.out ((Kept.refl w1).drewN nq))
    have K1d := Lib.hid (K1.out.drewN nq)
    clear T1 K1
    generalize w1.drewN nq = w1d at T1d K1d ⊢
    go_wp2_with fail
    refine (c1 w1d T1d).mono ?_
    rintro e w2 ⟨rfl, hk2⟩
    have T2 := Lib.hid (tab_kept T1d.out hk2)
    have K2 := Lib.hid ((K1d.out).trans hk2)
    clear hk2
    go_wp2_with fail
    refine (temperature_dev a y (by omega) (by omega) hh _).mono ?_
    rintro e w' ⟨rfl, rfl⟩
    go_wp2_with fail
    all_goals go_wp2
    all_goals first | (go_ret; refine ⟨?_, by repeat (first | with_reducible exact Kept.refl _ | with_reducible exact K2.out | with_reducible refine Kept.drewN ?_ _ | with_reducible refine Kept.drew ?_)⟩; first | rfl | (show Ending.returned (.bool (decide _)) = _; rw [decide_eq_true (by omega)]) | (refine retb ?_; simp; done) | (refine retb ?_; simp; omega)) | (exfalso; omega)
  have v1 := tmp_bd a (by omega) (by omega)
  have v3 := rat_bd a (by omega) (by omega)
  have c1 := temperature_ok a x (by omega) (by omega) (by omega) (by omega)
  have c2 := temperature_ok a y (by omega) (by omega) (by omega) (by omega)
  have c3 := sound_ok a x (by omega) (by omega) (by omega) (by omega)
  have c4 := sound_ok a y (by omega) (by omega) (by omega) (by omega)
  have c5 := ratio_ok a x (by omega) (by omega) (by omega) (by omega)
  have c6 := ratio_ok a y (by omega) (by omega) (by omega) (by omega)
  have n1 : snd a x ≤ snd a y := isq_mono _ _ (by omega) (by omega) (by omega)
  have n3 : 1 ≤ snd a x := isq_pos _ (by omega) (by omega)
  have n2 : ratD a x ≤ ratD a y := Int.ediv_le_ediv (by omega) (Int.mul_le_mul_of_nonneg_left (by omega) (by omega))
  have n4 := ratd_pos a x (by omega) (by omega) (by omega)
  generalize snd a y = s2 at n1 c4
  generalize snd a x = s1 at n1 n3 c3
  generalize ratD a y = r2 at n2 c6
  generalize ratD a x = r1 at n2 n4 c5
  generalize tmp a = t1 at c1 c2 v1
  clear v3
  have T := hT
  go_enter Tryd.func7, Tryd.ntmps7
  go_wp2_with fail
  have ka : Kept w (w.alloc (.cells #[.int .i64 x, .int .i64 y] 29)) := (Kept.refl w).alloc _
  refine (awake_w _ (Lib.hid (tab_kept T.out ka))).mono ?_
  rintro e w1 ⟨rfl, hk1⟩
  have T1 := Lib.hid (tab_kept (tab_kept T.out ka) hk1)
  have K1 := Lib.hid (ka.trans hk1)
  refine kuse (b := w.heap.size) hk1 (by first | (simp; done) | (simp; omega) | omega) ?_
  intro ha hb
  have hz1_0 : w.heap.size < w1.heap.size := by have := hk1.size; (try simp at this); omega
  have hn1_0 : ¬ w.heap.size = w1.heap.size := by omega
  have hm1_0 : ¬ w1.heap.size = w.heap.size := by omega
  have hf1_0_0 : w1.cell? ⟨w.heap.size, 0, none⟩ = some (.int .i64 x) := by first | (rw [ha]; with_reducible assumption) | (simp (maxDischargeDepth := 7) [go_sem, ha]; done) | (rw [ha]; assumption) | (simp (maxDischargeDepth := 7) [go_sem, ha, *]; done)
  have hf1_0_1 : w1.cell? ⟨w.heap.size, 1, none⟩ = some (.int .i64 y) := by first | (rw [ha]; with_reducible assumption) | (simp (maxDischargeDepth := 7) [go_sem, ha]; done) | (rw [ha]; assumption) | (simp (maxDischargeDepth := 7) [go_sem, ha, *]; done)
  try have hg1_0 : ∀ o, w1.frozen? ⟨w.heap.size, o, none⟩ = false := by intro o; first | (simp (maxDischargeDepth := 7) [go_sem, hb]; done) | (rw [hb]; simp (maxDischargeDepth := 7) [go_sem, *]; done)
  clear ha hb
  clear hk1 ka
  go_wp2_with fail
  go_quiet (fail)
  have T1d := Lib.hid (tab_kept T1.out ((Kept.refl w1).drewN nq))
  have K1d := Lib.hid (K1.out.drewN nq)
  clear T1 K1
  generalize w1.drewN nq = w1d at T1d K1d ⊢
  go_wp2_with fail
  refine (c1 w1d T1d).mono ?_
  rintro e w2 ⟨rfl, hk2⟩
  have T2 := Lib.hid (tab_kept T1d.out hk2)
  have K2 := Lib.hid ((K1d.out).trans hk2)
  clear hk2
  go_wp2_with fail
  refine (c2 w2 T2).mono ?_
  rintro e w3 ⟨rfl, hk3⟩
  have T3 := Lib.hid (tab_kept T2.out hk3)
  have K3 := Lib.hid ((K2.out).trans hk3)
  clear hk3
  go_wp2_with fail
  refine (c3 w3 T3).mono ?_
  rintro e w4 ⟨rfl, hk4⟩
  have T4 := Lib.hid (tab_kept T3.out hk4)
  have K4 := Lib.hid ((K3.out).trans hk4)
  clear hk4
  go_wp2_with fail
  refine (c4 w4 T4).mono ?_
  rintro e w5 ⟨rfl, hk5⟩
  have T5 := Lib.hid (tab_kept T4.out hk5)
  have K5 := Lib.hid ((K4.out).trans hk5)
  clear hk5
  go_wp2_with fail
  refine (c5 w5 T5).mono ?_
  rintro e w6 ⟨rfl, hk6⟩
  have T6 := Lib.hid (tab_kept T5.out hk6)
  have K6 := Lib.hid ((K5.out).trans hk6)
  clear hk6
  go_wp2_with fail
  refine (c6 w6 T6).mono ?_
  rintro e w7 ⟨rfl, hk7⟩
  have T7 := Lib.hid (tab_kept T6.out hk7)
  have K7 := Lib.hid ((K6.out).trans hk7)
  clear hk7
  go_wp2_with fail
  all_goals go_wp2
  all_goals first | (go_ret; refine ⟨?_, by repeat (first | with_reducible exact Kept.refl _ | with_reducible exact K7.out | with_reducible refine Kept.drewN ?_ _ | with_reducible refine Kept.drew ?_)⟩; first | rfl | (show Ending.returned (.bool (decide _)) = _; rw [decide_eq_true (by omega)]) | (refine retb ?_; simp; done) | (refine retb ?_; simp; omega)) | (exfalso; omega)
set_option maxHeartbeats 4000000 in
set_option maxRecDepth 100000 in
theorem warmer_gt (a x y : Int) (a_0 : -9223372036854775808 ≤ a) (a_1 : a ≤ 9223372036854775807) (x_0 : -9223372036854775808 ≤ x) (x_1 : x ≤ 9223372036854775807) (y_0 : -9223372036854775808 ≤ y) (y_1 : y ≤ 9223372036854775807) (hxy : y < x) (w : World) (hT : Hid (Tab w)) : Calls Tryd.prog 7 #[.int .i64 a, .agg #[.int .i64 x, .int .i64 y]] w fun en w' => en = .returned (.bool true) ∧ Kept w w' := by
  skip
  by_cases ha : a < -200000 ∨ 6000000 < a
  · have T := hT
    go_enter Tryd.func7, Tryd.ntmps7
    go_wp2_with fail
    have ka : Kept w (w.alloc (.cells #[.int .i64 x, .int .i64 y] 29)) := (Kept.refl w).alloc _
    refine (awake_w _ (Lib.hid (tab_kept T.out ka))).mono ?_
    rintro e w1 ⟨rfl, hk1⟩
    have T1 := Lib.hid (tab_kept (tab_kept T.out ka) hk1)
    have K1 := Lib.hid (ka.trans hk1)
    refine kuse (b := w.heap.size) hk1 (by first | (simp; done) | (simp; omega) | omega) ?_
    intro ha hb
    have hz1_0 : w.heap.size < w1.heap.size := by have := hk1.size; (try simp at this); omega
    have hn1_0 : ¬ w.heap.size = w1.heap.size := by omega
    have hm1_0 : ¬ w1.heap.size = w.heap.size := by omega
    have hf1_0_0 : w1.cell? ⟨w.heap.size, 0, none⟩ = some (.int .i64 x) := by first | (rw [ha]; with_reducible assumption) | (simp (maxDischargeDepth := 7) [go_sem, ha]; done) | (rw [ha]; assumption) | (simp (maxDischargeDepth := 7) [go_sem, ha, *]; done)
    have hf1_0_1 : w1.cell? ⟨w.heap.size, 1, none⟩ = some (.int .i64 y) := by first | (rw [ha]; with_reducible assumption) | (simp (maxDischargeDepth := 7) [go_sem, ha]; done) | (rw [ha]; assumption) | (simp (maxDischargeDepth := 7) [go_sem, ha, *]; done)
    try have hg1_0 : ∀ o, w1.frozen? ⟨w.heap.size, o, none⟩ = false := by intro o; first | (simp (maxDischargeDepth := 7) [go_sem, hb]; done) | (rw [hb]; simp (maxDischargeDepth := 7) [go_sem, *]; done)
    clear ha hb
    clear hk1 ka
    go_wp2_with fail
    go_quiet (fail)
    have T1d := Lib.hid (tab_kept T1.out ((Kept.refl w1).drewN nq))
    have K1d := Lib.hid (K1.out.drewN nq)
    clear T1 K1
    generalize w1.drewN nq = w1d at T1d K1d ⊢
    go_wp2_with fail
    refine (temperature_alt a y ha _).mono ?_
    rintro e w' ⟨rfl, rfl⟩
    go_wp2_with fail
    refine (temperature_alt a x ha _).mono ?_
    rintro e w' ⟨rfl, rfl⟩
    go_wp2_with fail
    all_goals go_wp2
    all_goals first | (go_ret; refine ⟨?_, by repeat (first | with_reducible exact Kept.refl _ | with_reducible exact K1d.out | with_reducible refine Kept.drewN ?_ _ | with_reducible refine Kept.drew ?_)⟩; first | rfl | (show Ending.returned (.bool (decide _)) = _; rw [decide_eq_true (by omega)]) | (refine retb ?_; simp; done) | (refine retb ?_; simp; omega)) | (exfalso; omega)
  by_cases hl : y < -4000 ∨ 4000 < y
  · by_cases hh : x < -4000 ∨ 4000 < x
    · have T := hT
      go_enter Tryd.func7, Tryd.ntmps7
      go_wp2_with fail
      have ka : Kept w (w.alloc (.cells #[.int .i64 x, .int .i64 y] 29)) := (Kept.refl w).alloc _
      refine (awake_w _ (Lib.hid (tab_kept T.out ka))).mono ?_
      rintro e w1 ⟨rfl, hk1⟩
      have T1 := Lib.hid (tab_kept (tab_kept T.out ka) hk1)
      have K1 := Lib.hid (ka.trans hk1)
      refine kuse (b := w.heap.size) hk1 (by first | (simp; done) | (simp; omega) | omega) ?_
      intro ha hb
      have hz1_0 : w.heap.size < w1.heap.size := by have := hk1.size; (try simp at this); omega
      have hn1_0 : ¬ w.heap.size = w1.heap.size := by omega
      have hm1_0 : ¬ w1.heap.size = w.heap.size := by omega
      have hf1_0_0 : w1.cell? ⟨w.heap.size, 0, none⟩ = some (.int .i64 x) := by first | (rw [ha]; with_reducible assumption) | (simp (maxDischargeDepth := 7) [go_sem, ha]; done) | (rw [ha]; assumption) | (simp (maxDischargeDepth := 7) [go_sem, ha, *]; done)
      have hf1_0_1 : w1.cell? ⟨w.heap.size, 1, none⟩ = some (.int .i64 y) := by first | (rw [ha]; with_reducible assumption) | (simp (maxDischargeDepth := 7) [go_sem, ha]; done) | (rw [ha]; assumption) | (simp (maxDischargeDepth := 7) [go_sem, ha, *]; done)
      try have hg1_0 : ∀ o, w1.frozen? ⟨w.heap.size, o, none⟩ = false := by intro o; first | (simp (maxDischargeDepth := 7) [go_sem, hb]; done) | (rw [hb]; simp (maxDischargeDepth := 7) [go_sem, *]; done)
      clear ha hb
      clear hk1 ka
      go_wp2_with fail
      go_quiet (fail)
      have T1d := Lib.hid (tab_kept T1.out ((Kept.refl w1).drewN nq))
      have K1d := Lib.hid (K1.out.drewN nq)
      clear T1 K1
      generalize w1.drewN nq = w1d at T1d K1d ⊢
      go_wp2_with fail
      refine (temperature_dev a y (by omega) (by omega) hl _).mono ?_
      rintro e w' ⟨rfl, rfl⟩
      go_wp2_with fail
      refine (temperature_dev a x (by omega) (by omega) hh _).mono ?_
      rintro e w' ⟨rfl, rfl⟩
      go_wp2_with fail
      all_goals go_wp2
      all_goals first | (go_ret; refine ⟨?_, by repeat (first | with_reducible exact Kept.refl _ | with_reducible exact K1d.out | with_reducible refine Kept.drewN ?_ _ | with_reducible refine Kept.drew ?_)⟩; first | rfl | (show Ending.returned (.bool (decide _)) = _; rw [decide_eq_true (by omega)]) | (refine retb ?_; simp; done) | (refine retb ?_; simp; omega)) | (exfalso; omega)
    · have v1 := tmp_bd a (by omega) (by omega)
      have c2 := temperature_ok a x (by omega) (by omega) (by omega) (by omega)
      generalize tmp a = t1 at c2 v1
      have T := hT
      go_enter Tryd.func7, Tryd.ntmps7
      go_wp2_with fail
      have ka : Kept w (w.alloc (.cells #[.int .i64 x, .int .i64 y] 29)) := (Kept.refl w).alloc _
      refine (awake_w _ (Lib.hid (tab_kept T.out ka))).mono ?_
      rintro e w1 ⟨rfl, hk1⟩
      have T1 := Lib.hid (tab_kept (tab_kept T.out ka) hk1)
      have K1 := Lib.hid (ka.trans hk1)
      refine kuse (b := w.heap.size) hk1 (by first | (simp; done) | (simp; omega) | omega) ?_
      intro ha hb
      have hz1_0 : w.heap.size < w1.heap.size := by have := hk1.size; (try simp at this); omega
      have hn1_0 : ¬ w.heap.size = w1.heap.size := by omega
      have hm1_0 : ¬ w1.heap.size = w.heap.size := by omega
      have hf1_0_0 : w1.cell? ⟨w.heap.size, 0, none⟩ = some (.int .i64 x) := by first | (rw [ha]; with_reducible assumption) | (simp (maxDischargeDepth := 7) [go_sem, ha]; done) | (rw [ha]; assumption) | (simp (maxDischargeDepth := 7) [go_sem, ha, *]; done)
      have hf1_0_1 : w1.cell? ⟨w.heap.size, 1, none⟩ = some (.int .i64 y) := by first | (rw [ha]; with_reducible assumption) | (simp (maxDischargeDepth := 7) [go_sem, ha]; done) | (rw [ha]; assumption) | (simp (maxDischargeDepth := 7) [go_sem, ha, *]; done)
      try have hg1_0 : ∀ o, w1.frozen? ⟨w.heap.size, o, none⟩ = false := by intro o; first | (simp (maxDischargeDepth := 7) [go_sem, hb]; done) | (rw [hb]; simp (maxDischargeDepth := 7) [go_sem, *]; done)
      clear ha hb
      clear hk1 ka
      go_wp2_with fail
      go_quiet (fail)
      have T1d := Lib.hid (tab_kept T1.out ((Kept.refl w1).drewN nq))
      have K1d := Lib.hid (K1.out.drewN nq)
      clear T1 K1
      generalize w1.drewN nq = w1d at T1d K1d ⊢
      go_wp2_with fail
      refine (temperature_dev a y (by omega) (by omega) hl _).mono ?_
      rintro e w' ⟨rfl, rfl⟩
      go_wp2_with fail
      refine (c2 w1d T1d).mono ?_
      rintro e w3 ⟨rfl, hk3⟩
      have T3 := Lib.hid (tab_kept T1d.out hk3)
      have K3 := Lib.hid ((K1d.out).trans hk3)
      clear hk3
      go_wp2_with fail
      all_goals go_wp2
      all_goals first | (go_ret; refine ⟨?_, by repeat (first | with_reducible exact Kept.refl _ | with_reducible exact K3.out | with_reducible refine Kept.drewN ?_ _ | with_reducible refine Kept.drew ?_)⟩; first | rfl | (show Ending.returned (.bool (decide _)) = _; rw [decide_eq_true (by omega)]) | (refine retb ?_; simp; done) | (refine retb ?_; simp; omega)) | (exfalso; omega)
  by_cases hh : x < -4000 ∨ 4000 < x
  · have v1 := tmp_bd a (by omega) (by omega)
    have c1 := temperature_ok a y (by omega) (by omega) (by omega) (by omega)
    generalize tmp a = t1 at c1 v1
    have T := hT
    go_enter Tryd.func7, Tryd.ntmps7
    go_wp2_with fail
    have ka : Kept w (w.alloc (.cells #[.int .i64 x, .int .i64 y] 29)) := (Kept.refl w).alloc _
    refine (awake_w _ (Lib.hid (tab_kept T.out ka))).mono ?_
    rintro e w1 ⟨rfl, hk1⟩
    have T1 := Lib.hid (tab_kept (tab_kept T.out ka) hk1)
    have K1 := Lib.hid (ka.trans hk1)
    refine kuse (b := w.heap.size) hk1 (by first | (simp; done) | (simp; omega) | omega) ?_
    intro ha hb
    have hz1_0 : w.heap.size < w1.heap.size := by have := hk1.size; (try simp at this); omega
    have hn1_0 : ¬ w.heap.size = w1.heap.size := by omega
    have hm1_0 : ¬ w1.heap.size = w.heap.size := by omega
    have hf1_0_0 : w1.cell? ⟨w.heap.size, 0, none⟩ = some (.int .i64 x) := by first | (rw [ha]; with_reducible assumption) | (simp (maxDischargeDepth := 7) [go_sem, ha]; done) | (rw [ha]; assumption) | (simp (maxDischargeDepth := 7) [go_sem, ha, *]; done)
    have hf1_0_1 : w1.cell? ⟨w.heap.size, 1, none⟩ = some (.int .i64 y) := by first | (rw [ha]; with_reducible assumption) | (simp (maxDischargeDepth := 7) [go_sem, ha]; done) | (rw [ha]; assumption) | (simp (maxDischargeDepth := 7) [go_sem, ha, *]; done)
    try have hg1_0 : ∀ o, w1.frozen? ⟨w.heap.size, o, none⟩ = false := by intro o; first | (simp (maxDischargeDepth := 7) [go_sem, hb]; done) | (rw [hb]; simp (maxDischargeDepth := 7) [go_sem, *]; done)
    clear ha hb
    clear hk1 ka
    go_wp2_with fail
    go_quiet (fail)
    have T1d := Lib.hid (tab_kept T1.out ((Kept.refl w1).drewN nq))
    have K1d := Lib.hid (K1.out.drewN nq)
    clear T1 K1
    generalize w1.drewN nq = w1d at T1d K1d ⊢
    go_wp2_with fail
    refine (c1 w1d T1d).mono ?_
    rintro e w2 ⟨rfl, hk2⟩
    have T2 := Lib.hid (tab_kept T1d.out hk2)
    have K2 := Lib.hid ((K1d.out).trans hk2)
    clear hk2
    go_wp2_with fail
    refine (temperature_dev a x (by omega) (by omega) hh _).mono ?_
    rintro e w' ⟨rfl, rfl⟩
    go_wp2_with fail
    all_goals go_wp2
    all_goals first | (go_ret; refine ⟨?_, by repeat (first | with_reducible exact Kept.refl _ | with_reducible exact K2.out | with_reducible refine Kept.drewN ?_ _ | with_reducible refine Kept.drew ?_)⟩; first | rfl | (show Ending.returned (.bool (decide _)) = _; rw [decide_eq_true (by omega)]) | (refine retb ?_; simp; done) | (refine retb ?_; simp; omega)) | (exfalso; omega)
  have v1 := tmp_bd a (by omega) (by omega)
  have v3 := rat_bd a (by omega) (by omega)
  have c1 := temperature_ok a y (by omega) (by omega) (by omega) (by omega)
  have c2 := temperature_ok a x (by omega) (by omega) (by omega) (by omega)
  have c3 := sound_ok a y (by omega) (by omega) (by omega) (by omega)
  have c4 := sound_ok a x (by omega) (by omega) (by omega) (by omega)
  have c5 := ratio_ok a y (by omega) (by omega) (by omega) (by omega)
  have c6 := ratio_ok a x (by omega) (by omega) (by omega) (by omega)
  have n1 : snd a y ≤ snd a x := isq_mono _ _ (by omega) (by omega) (by omega)
  have n3 : 1 ≤ snd a y := isq_pos _ (by omega) (by omega)
  have n2 : ratD a y ≤ ratD a x := Int.ediv_le_ediv (by omega) (Int.mul_le_mul_of_nonneg_left (by omega) (by omega))
  have n4 := ratd_pos a y (by omega) (by omega) (by omega)
  generalize snd a x = s2 at n1 c4
  generalize snd a y = s1 at n1 n3 c3
  generalize ratD a x = r2 at n2 c6
  generalize ratD a y = r1 at n2 n4 c5
  generalize tmp a = t1 at c1 c2 v1
  clear v3
  have T := hT
  go_enter Tryd.func7, Tryd.ntmps7
  go_wp2_with fail
  have ka : Kept w (w.alloc (.cells #[.int .i64 x, .int .i64 y] 29)) := (Kept.refl w).alloc _
  refine (awake_w _ (Lib.hid (tab_kept T.out ka))).mono ?_
  rintro e w1 ⟨rfl, hk1⟩
  have T1 := Lib.hid (tab_kept (tab_kept T.out ka) hk1)
  have K1 := Lib.hid (ka.trans hk1)
  refine kuse (b := w.heap.size) hk1 (by first | (simp; done) | (simp; omega) | omega) ?_
  intro ha hb
  have hz1_0 : w.heap.size < w1.heap.size := by have := hk1.size; (try simp at this); omega
  have hn1_0 : ¬ w.heap.size = w1.heap.size := by omega
  have hm1_0 : ¬ w1.heap.size = w.heap.size := by omega
  have hf1_0_0 : w1.cell? ⟨w.heap.size, 0, none⟩ = some (.int .i64 x) := by first | (rw [ha]; with_reducible assumption) | (simp (maxDischargeDepth := 7) [go_sem, ha]; done) | (rw [ha]; assumption) | (simp (maxDischargeDepth := 7) [go_sem, ha, *]; done)
  have hf1_0_1 : w1.cell? ⟨w.heap.size, 1, none⟩ = some (.int .i64 y) := by first | (rw [ha]; with_reducible assumption) | (simp (maxDischargeDepth := 7) [go_sem, ha]; done) | (rw [ha]; assumption) | (simp (maxDischargeDepth := 7) [go_sem, ha, *]; done)
  try have hg1_0 : ∀ o, w1.frozen? ⟨w.heap.size, o, none⟩ = false := by intro o; first | (simp (maxDischargeDepth := 7) [go_sem, hb]; done) | (rw [hb]; simp (maxDischargeDepth := 7) [go_sem, *]; done)
  clear ha hb
  clear hk1 ka
  go_wp2_with fail
  go_quiet (fail)
  have T1d := Lib.hid (tab_kept T1.out ((Kept.refl w1).drewN nq))
  have K1d := Lib.hid (K1.out.drewN nq)
  clear T1 K1
  generalize w1.drewN nq = w1d at T1d K1d ⊢
  go_wp2_with fail
  refine (c1 w1d T1d).mono ?_
  rintro e w2 ⟨rfl, hk2⟩
  have T2 := Lib.hid (tab_kept T1d.out hk2)
  have K2 := Lib.hid ((K1d.out).trans hk2)
  clear hk2
  go_wp2_with fail
  refine (c2 w2 T2).mono ?_
  rintro e w3 ⟨rfl, hk3⟩
  have T3 := Lib.hid (tab_kept T2.out hk3)
  have K3 := Lib.hid ((K2.out).trans hk3)
  clear hk3
  go_wp2_with fail
  refine (c3 w3 T3).mono ?_
  rintro e w4 ⟨rfl, hk4⟩
  have T4 := Lib.hid (tab_kept T3.out hk4)
  have K4 := Lib.hid ((K3.out).trans hk4)
  clear hk4
  go_wp2_with fail
  refine (c4 w4 T4).mono ?_
  rintro e w5 ⟨rfl, hk5⟩
  have T5 := Lib.hid (tab_kept T4.out hk5)
  have K5 := Lib.hid ((K4.out).trans hk5)
  clear hk5
  go_wp2_with fail
  refine (c5 w5 T5).mono ?_
  rintro e w6 ⟨rfl, hk6⟩
  have T6 := Lib.hid (tab_kept T5.out hk6)
  have K6 := Lib.hid ((K5.out).trans hk6)
  clear hk6
  go_wp2_with fail
  refine (c6 w6 T6).mono ?_
  rintro e w7 ⟨rfl, hk7⟩
  have T7 := Lib.hid (tab_kept T6.out hk7)
  have K7 := Lib.hid ((K6.out).trans hk7)
  clear hk7
  go_wp2_with fail
  all_goals go_wp2
  all_goals first | (go_ret; refine ⟨?_, by repeat (first | with_reducible exact Kept.refl _ | with_reducible exact K7.out | with_reducible refine Kept.drewN ?_ _ | with_reducible refine Kept.drew ?_)⟩; first | rfl | (show Ending.returned (.bool (decide _)) = _; rw [decide_eq_true (by omega)]) | (refine retb ?_; simp; done) | (refine retb ?_; simp; omega)) | (exfalso; omega)
set_option maxHeartbeats 4000000 in
set_option maxRecDepth 100000 in
theorem warmer_eq (a x y : Int) (a_0 : -9223372036854775808 ≤ a) (a_1 : a ≤ 9223372036854775807) (x_0 : -9223372036854775808 ≤ x) (x_1 : x ≤ 9223372036854775807) (y_0 : -9223372036854775808 ≤ y) (y_1 : y ≤ 9223372036854775807) (hxy : x = y) (w : World) (hT : Hid (Tab w)) : Calls Tryd.prog 7 #[.int .i64 a, .agg #[.int .i64 x, .int .i64 y]] w fun en w' => en = .returned (.bool true) ∧ Kept w w' := by
  subst hxy
  by_cases ha : a < -200000 ∨ 6000000 < a
  · have T := hT
    go_enter Tryd.func7, Tryd.ntmps7
    go_wp2_with fail
    have ka : Kept w (w.alloc (.cells #[.int .i64 x, .int .i64 x] 29)) := (Kept.refl w).alloc _
    refine (awake_w _ (Lib.hid (tab_kept T.out ka))).mono ?_
    rintro e w1 ⟨rfl, hk1⟩
    have T1 := Lib.hid (tab_kept (tab_kept T.out ka) hk1)
    have K1 := Lib.hid (ka.trans hk1)
    refine kuse (b := w.heap.size) hk1 (by first | (simp; done) | (simp; omega) | omega) ?_
    intro ha hb
    have hz1_0 : w.heap.size < w1.heap.size := by have := hk1.size; (try simp at this); omega
    have hn1_0 : ¬ w.heap.size = w1.heap.size := by omega
    have hm1_0 : ¬ w1.heap.size = w.heap.size := by omega
    have hf1_0_0 : w1.cell? ⟨w.heap.size, 0, none⟩ = some (.int .i64 x) := by first | (rw [ha]; with_reducible assumption) | (simp (maxDischargeDepth := 7) [go_sem, ha]; done) | (rw [ha]; assumption) | (simp (maxDischargeDepth := 7) [go_sem, ha, *]; done)
    have hf1_0_1 : w1.cell? ⟨w.heap.size, 1, none⟩ = some (.int .i64 x) := by first | (rw [ha]; with_reducible assumption) | (simp (maxDischargeDepth := 7) [go_sem, ha]; done) | (rw [ha]; assumption) | (simp (maxDischargeDepth := 7) [go_sem, ha, *]; done)
    try have hg1_0 : ∀ o, w1.frozen? ⟨w.heap.size, o, none⟩ = false := by intro o; first | (simp (maxDischargeDepth := 7) [go_sem, hb]; done) | (rw [hb]; simp (maxDischargeDepth := 7) [go_sem, *]; done)
    clear ha hb
    clear hk1 ka
    go_wp2_with fail
    go_quiet (fail)
    have T1d := Lib.hid (tab_kept T1.out ((Kept.refl w1).drewN nq))
    have K1d := Lib.hid (K1.out.drewN nq)
    clear T1 K1
    generalize w1.drewN nq = w1d at T1d K1d ⊢
    go_wp2_with fail
    refine (temperature_alt a x ha _).mono ?_
    rintro e w' ⟨rfl, rfl⟩
    go_wp2_with fail
    refine (temperature_alt a x ha _).mono ?_
    rintro e w' ⟨rfl, rfl⟩
    go_wp2_with fail
    all_goals go_wp2
    all_goals first | (go_ret; refine ⟨?_, by repeat (first | with_reducible exact Kept.refl _ | with_reducible exact K1d.out | with_reducible refine Kept.drewN ?_ _ | with_reducible refine Kept.drew ?_)⟩; first | rfl | (show Ending.returned (.bool (decide _)) = _; rw [decide_eq_true (by omega)]) | (refine retb ?_; simp; done) | (refine retb ?_; simp; omega)) | (exfalso; omega)
  by_cases hl : x < -4000 ∨ 4000 < x
  · have T := hT
    go_enter Tryd.func7, Tryd.ntmps7
    go_wp2_with fail
    have ka : Kept w (w.alloc (.cells #[.int .i64 x, .int .i64 x] 29)) := (Kept.refl w).alloc _
    refine (awake_w _ (Lib.hid (tab_kept T.out ka))).mono ?_
    rintro e w1 ⟨rfl, hk1⟩
    have T1 := Lib.hid (tab_kept (tab_kept T.out ka) hk1)
    have K1 := Lib.hid (ka.trans hk1)
    refine kuse (b := w.heap.size) hk1 (by first | (simp; done) | (simp; omega) | omega) ?_
    intro ha hb
    have hz1_0 : w.heap.size < w1.heap.size := by have := hk1.size; (try simp at this); omega
    have hn1_0 : ¬ w.heap.size = w1.heap.size := by omega
    have hm1_0 : ¬ w1.heap.size = w.heap.size := by omega
    have hf1_0_0 : w1.cell? ⟨w.heap.size, 0, none⟩ = some (.int .i64 x) := by first | (rw [ha]; with_reducible assumption) | (simp (maxDischargeDepth := 7) [go_sem, ha]; done) | (rw [ha]; assumption) | (simp (maxDischargeDepth := 7) [go_sem, ha, *]; done)
    have hf1_0_1 : w1.cell? ⟨w.heap.size, 1, none⟩ = some (.int .i64 x) := by first | (rw [ha]; with_reducible assumption) | (simp (maxDischargeDepth := 7) [go_sem, ha]; done) | (rw [ha]; assumption) | (simp (maxDischargeDepth := 7) [go_sem, ha, *]; done)
    try have hg1_0 : ∀ o, w1.frozen? ⟨w.heap.size, o, none⟩ = false := by intro o; first | (simp (maxDischargeDepth := 7) [go_sem, hb]; done) | (rw [hb]; simp (maxDischargeDepth := 7) [go_sem, *]; done)
    clear ha hb
    clear hk1 ka
    go_wp2_with fail
    go_quiet (fail)
    have T1d := Lib.hid (tab_kept T1.out ((Kept.refl w1).drewN nq))
    have K1d := Lib.hid (K1.out.drewN nq)
    clear T1 K1
    generalize w1.drewN nq = w1d at T1d K1d ⊢
    go_wp2_with fail
    refine (temperature_dev a x (by omega) (by omega) hl _).mono ?_
    rintro e w' ⟨rfl, rfl⟩
    go_wp2_with fail
    refine (temperature_dev a x (by omega) (by omega) hl _).mono ?_
    rintro e w' ⟨rfl, rfl⟩
    go_wp2_with fail
    all_goals go_wp2
    all_goals first | (go_ret; refine ⟨?_, by repeat (first | with_reducible exact Kept.refl _ | with_reducible exact K1d.out | with_reducible refine Kept.drewN ?_ _ | with_reducible refine Kept.drew ?_)⟩; first | rfl | (show Ending.returned (.bool (decide _)) = _; rw [decide_eq_true (by omega)]) | (refine retb ?_; simp; done) | (refine retb ?_; simp; omega)) | (exfalso; omega)
  have v1 := tmp_bd a (by omega) (by omega)
  have v3 := rat_bd a (by omega) (by omega)
  have c1 := temperature_ok a x (by omega) (by omega) (by omega) (by omega)
  have c2 := temperature_ok a x (by omega) (by omega) (by omega) (by omega)
  have c3 := sound_ok a x (by omega) (by omega) (by omega) (by omega)
  have c4 := sound_ok a x (by omega) (by omega) (by omega) (by omega)
  have c5 := ratio_ok a x (by omega) (by omega) (by omega) (by omega)
  have c6 := ratio_ok a x (by omega) (by omega) (by omega) (by omega)
  have n1 : snd a x ≤ snd a x := isq_mono _ _ (by omega) (by omega) (by omega)
  have n3 : 1 ≤ snd a x := isq_pos _ (by omega) (by omega)
  have n2 : ratD a x ≤ ratD a x := Int.ediv_le_ediv (by omega) (Int.mul_le_mul_of_nonneg_left (by omega) (by omega))
  have n4 := ratd_pos a x (by omega) (by omega) (by omega)
  generalize snd a x = s1 at n1 n3 c3 c4
  generalize ratD a x = r1 at n2 n4 c5 c6
  generalize tmp a = t1 at c1 c2 v1
  clear v3
  have T := hT
  go_enter Tryd.func7, Tryd.ntmps7
  go_wp2_with fail
  have ka : Kept w (w.alloc (.cells #[.int .i64 x, .int .i64 x] 29)) := (Kept.refl w).alloc _
  refine (awake_w _ (Lib.hid (tab_kept T.out ka))).mono ?_
  rintro e w1 ⟨rfl, hk1⟩
  have T1 := Lib.hid (tab_kept (tab_kept T.out ka) hk1)
  have K1 := Lib.hid (ka.trans hk1)
  refine kuse (b := w.heap.size) hk1 (by first | (simp; done) | (simp; omega) | omega) ?_
  intro ha hb
  have hz1_0 : w.heap.size < w1.heap.size := by have := hk1.size; (try simp at this); omega
  have hn1_0 : ¬ w.heap.size = w1.heap.size := by omega
  have hm1_0 : ¬ w1.heap.size = w.heap.size := by omega
  have hf1_0_0 : w1.cell? ⟨w.heap.size, 0, none⟩ = some (.int .i64 x) := by first | (rw [ha]; with_reducible assumption) | (simp (maxDischargeDepth := 7) [go_sem, ha]; done) | (rw [ha]; assumption) | (simp (maxDischargeDepth := 7) [go_sem, ha, *]; done)
  have hf1_0_1 : w1.cell? ⟨w.heap.size, 1, none⟩ = some (.int .i64 x) := by first | (rw [ha]; with_reducible assumption) | (simp (maxDischargeDepth := 7) [go_sem, ha]; done) | (rw [ha]; assumption) | (simp (maxDischargeDepth := 7) [go_sem, ha, *]; done)
  try have hg1_0 : ∀ o, w1.frozen? ⟨w.heap.size, o, none⟩ = false := by intro o; first | (simp (maxDischargeDepth := 7) [go_sem, hb]; done) | (rw [hb]; simp (maxDischargeDepth := 7) [go_sem, *]; done)
  clear ha hb
  clear hk1 ka
  go_wp2_with fail
  go_quiet (fail)
  have T1d := Lib.hid (tab_kept T1.out ((Kept.refl w1).drewN nq))
  have K1d := Lib.hid (K1.out.drewN nq)
  clear T1 K1
  generalize w1.drewN nq = w1d at T1d K1d ⊢
  go_wp2_with fail
  refine (c1 w1d T1d).mono ?_
  rintro e w2 ⟨rfl, hk2⟩
  have T2 := Lib.hid (tab_kept T1d.out hk2)
  have K2 := Lib.hid ((K1d.out).trans hk2)
  clear hk2
  go_wp2_with fail
  refine (c2 w2 T2).mono ?_
  rintro e w3 ⟨rfl, hk3⟩
  have T3 := Lib.hid (tab_kept T2.out hk3)
  have K3 := Lib.hid ((K2.out).trans hk3)
  clear hk3
  go_wp2_with fail
  refine (c3 w3 T3).mono ?_
  rintro e w4 ⟨rfl, hk4⟩
  have T4 := Lib.hid (tab_kept T3.out hk4)
  have K4 := Lib.hid ((K3.out).trans hk4)
  clear hk4
  go_wp2_with fail
  refine (c4 w4 T4).mono ?_
  rintro e w5 ⟨rfl, hk5⟩
  have T5 := Lib.hid (tab_kept T4.out hk5)
  have K5 := Lib.hid ((K4.out).trans hk5)
  clear hk5
  go_wp2_with fail
  refine (c5 w5 T5).mono ?_
  rintro e w6 ⟨rfl, hk6⟩
  have T6 := Lib.hid (tab_kept T5.out hk6)
  have K6 := Lib.hid ((K5.out).trans hk6)
  clear hk6
  go_wp2_with fail
  refine (c6 w6 T6).mono ?_
  rintro e w7 ⟨rfl, hk7⟩
  have T7 := Lib.hid (tab_kept T6.out hk7)
  have K7 := Lib.hid ((K6.out).trans hk7)
  clear hk7
  go_wp2_with fail
  all_goals go_wp2
  all_goals first | (go_ret; refine ⟨?_, by repeat (first | with_reducible exact Kept.refl _ | with_reducible exact K7.out | with_reducible refine Kept.drewN ?_ _ | with_reducible refine Kept.drew ?_)⟩; first | rfl | (show Ending.returned (.bool (decide _)) = _; rw [decide_eq_true (by omega)]) | (refine retb ?_; simp; done) | (refine retb ?_; simp; omega)) | (exfalso; omega)
theorem law_warmer (a x y : Int) (a_0 : -9223372036854775808 ≤ a) (a_1 : a ≤ 9223372036854775807) (x_0 : -9223372036854775808 ≤ x) (x_1 : x ≤ 9223372036854775807) (y_0 : -9223372036854775808 ≤ y) (y_1 : y ≤ 9223372036854775807) (w : World) (hT : Hid (Tab w)) : Calls Tryd.prog 7 #[.int .i64 a, .agg #[.int .i64 x, .int .i64 y]] w fun en w' => en = .returned (.bool true) ∧ Kept w w' := by
  by_cases h : x < y
  · exact warmer_lt a x y a_0 a_1 x_0 x_1 y_0 y_1 h w hT
  · by_cases h2 : y < x
    · exact warmer_gt a x y a_0 a_1 x_0 x_1 y_0 y_1 h2 w hT
    · exact warmer_eq a x y a_0 a_1 x_0 x_1 y_0 y_1 (by omega) w hT
end Go.Proofs.YtkldapeemdndhaaDoor
