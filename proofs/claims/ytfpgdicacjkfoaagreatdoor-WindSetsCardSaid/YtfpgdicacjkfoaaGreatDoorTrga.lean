/-
  Own contracts: package trig: the series, sines and cosines.
-/
import Derived.Test.YtfpgdicacjkfoaaGreatDoorTrgn
import Derived.WalkKit
import Derived.ProofKit
import Derived.OpenShut
import Derived.WalkLawsBesides
import Derived.WalkSpells
import Derived.Lib.Hide
import Derived.Deep.DeepCutAuto
import Derived.Deep.CutBlock
import Derived.Deep.QuietTactic
import Derived.BigQuiet
import Derived.Handy
import Derived.StillTailTactics
import Derived.IntWalk
import Derived.LoopN
import Derived.Deep.RegionHeld3
namespace Go.Proofs.YtfpgdicacjkfoaaGreatDoor
open Go.ChangeShapes Go.WideShapes Go.ChangeAt Go.RowKit
set_option linter.unusedVariables false
set_option linter.unusedSimpArgs false
theorem times_w (x y : Int) (h0 : 0 ≤ x * y) (h1 : x * y ≤ 4611686018427387904) (w : World) : Calls Tryz.prog 93 #[.int .i64 x, .int .i64 y] w fun e w' => e = .returned (.int .i64 (tms x y)) ∧ w = w' := by
  go_enter Tryz.func93, Tryz.ntmps93
  go_wp2
  go_ret
  exact ⟨rfl, rfl⟩
theorem radians_w (a : Int) (h0 : 0 ≤ a) (h1 : a ≤ 32400000) (w : World) : Calls Tryz.prog 91 #[.int .i64 a] w fun e w' => e = .returned (.int .i64 (rad a)) ∧ w = w' := by
  go_enter Tryz.func91, Tryz.ntmps91
  go_wp2
  go_ret
  exact ⟨rfl, rfl⟩
set_option maxHeartbeats 2000000 in
set_option maxRecDepth 100000 in
theorem series_ss (u : Int) (u0 : 0 ≤ u) (u1 : u ≤ 1324675879) (w : World) : Calls Tryz.prog 92 #[.int .i64 u, .agg #[.int .i64 110, .int .i64 72, .int .i64 42, .int .i64 20, .int .i64 6]] w fun e w' => e = .returned (.int .i64 (sser u)) ∧ Kept w w' := by
  obtain ⟨r0, hr0⟩ : ∃ r, stp u 2147483648 110 = r := ⟨_, rfl⟩
  have b0 := stp_bd u 2147483648 110 u0 u1 (by omega) (by omega) (by omega)
  have m0 := tms_bd u 2147483648 1324675879 u0 u1 (by omega) (by omega) (by omega)
  rw [hr0] at b0
  have e0 : 2147483648 - (tms u 2147483648 + 55) / 110 = r0 := hr0
  obtain ⟨r1, hr1⟩ : ∃ r, stp u r0 72 = r := ⟨_, rfl⟩
  have b1 := stp_bd u r0 72 u0 u1 (by omega) (by omega) (by omega)
  have m1 := tms_bd u r0 1324675879 u0 u1 (by omega) (by omega) (by omega)
  rw [hr1] at b1
  have e1 : 2147483648 - (tms u r0 + 36) / 72 = r1 := hr1
  obtain ⟨r2, hr2⟩ : ∃ r, stp u r1 42 = r := ⟨_, rfl⟩
  have b2 := stp_bd u r1 42 u0 u1 (by omega) (by omega) (by omega)
  have m2 := tms_bd u r1 1324675879 u0 u1 (by omega) (by omega) (by omega)
  rw [hr2] at b2
  have e2 : 2147483648 - (tms u r1 + 21) / 42 = r2 := hr2
  obtain ⟨r3, hr3⟩ : ∃ r, stp u r2 20 = r := ⟨_, rfl⟩
  have b3 := stp_bd u r2 20 u0 u1 (by omega) (by omega) (by omega)
  have m3 := tms_bd u r2 1324675879 u0 u1 (by omega) (by omega) (by omega)
  rw [hr3] at b3
  have e3 : 2147483648 - (tms u r2 + 10) / 20 = r3 := hr3
  obtain ⟨r4, hr4⟩ : ∃ r, stp u r3 6 = r := ⟨_, rfl⟩
  have b4 := stp_bd u r3 6 u0 u1 (by omega) (by omega) (by omega)
  have m4 := tms_bd u r3 1324675879 u0 u1 (by omega) (by omega) (by omega)
  rw [hr4] at b4
  have e4 : 2147483648 - (tms u r3 + 3) / 6 = r4 := hr4
  obtain ⟨n00, n01⟩ := b0
  obtain ⟨p00, p01, p02, p03⟩ := m0
  obtain ⟨n10, n11⟩ := b1
  obtain ⟨p10, p11, p12, p13⟩ := m1
  obtain ⟨n20, n21⟩ := b2
  obtain ⟨p20, p21, p22, p23⟩ := m2
  obtain ⟨n30, n31⟩ := b3
  obtain ⟨p30, p31, p32, p33⟩ := m3
  obtain ⟨n40, n41⟩ := b4
  obtain ⟨p40, p41, p42, p43⟩ := m4
  have HV : Hid (sser u = r4) := Lib.hid (by unfold sser; rw [hr0, hr1, hr2, hr3, hr4])
  clear hr0 hr1 hr2 hr3 hr4
  have E0 := Lib.hid e0; clear e0
  have E1 := Lib.hid e1; clear e1
  have E2 := Lib.hid e2; clear e2
  have E3 := Lib.hid e3; clear e3
  have E4 := Lib.hid e4; clear e4
  rw [HV.out]
  go_enter Tryz.func92, Tryz.ntmps92
  go_wp2_with fail
  refine wp_loop_rounds 6 ?_
  rw [rounds_succ]
  have i0 : ∀ w, (Instr.index 97 (.agg #[.int .i64 110, .int .i64 72, .int .i64 42, .int .i64 20, .int .i64 6]) (.int .i64 0)).run Tryz.prog w = .ok (.int .i64 110) w := fun _ => by kernel_rfl
  go_wp2_with fail
  refine (times_w _ _ (by omega) (by omega) _).mono ?_
  rintro e w' ⟨rfl, rfl⟩
  go_wp2_with fail
  rw [E0.out]
  rw [rounds_succ]
  have i1 : ∀ w, (Instr.index 97 (.agg #[.int .i64 110, .int .i64 72, .int .i64 42, .int .i64 20, .int .i64 6]) (.int .i64 1)).run Tryz.prog w = .ok (.int .i64 72) w := fun _ => by kernel_rfl
  go_wp2_with fail
  refine (times_w _ _ (by omega) (by omega) _).mono ?_
  rintro e w' ⟨rfl, rfl⟩
  go_wp2_with fail
  rw [E1.out]
  rw [rounds_succ]
  have i2 : ∀ w, (Instr.index 97 (.agg #[.int .i64 110, .int .i64 72, .int .i64 42, .int .i64 20, .int .i64 6]) (.int .i64 2)).run Tryz.prog w = .ok (.int .i64 42) w := fun _ => by kernel_rfl
  go_wp2_with fail
  refine (times_w _ _ (by omega) (by omega) _).mono ?_
  rintro e w' ⟨rfl, rfl⟩
  go_wp2_with fail
  rw [E2.out]
  rw [rounds_succ]
  have i3 : ∀ w, (Instr.index 97 (.agg #[.int .i64 110, .int .i64 72, .int .i64 42, .int .i64 20, .int .i64 6]) (.int .i64 3)).run Tryz.prog w = .ok (.int .i64 20) w := fun _ => by kernel_rfl
  go_wp2_with fail
  refine (times_w _ _ (by omega) (by omega) _).mono ?_
  rintro e w' ⟨rfl, rfl⟩
  go_wp2_with fail
  rw [E3.out]
  rw [rounds_succ]
  have i4 : ∀ w, (Instr.index 97 (.agg #[.int .i64 110, .int .i64 72, .int .i64 42, .int .i64 20, .int .i64 6]) (.int .i64 4)).run Tryz.prog w = .ok (.int .i64 6) w := fun _ => by kernel_rfl
  go_wp2_with fail
  refine (times_w _ _ (by omega) (by omega) _).mono ?_
  rintro e w' ⟨rfl, rfl⟩
  go_wp2_with fail
  rw [E4.out]
  rw [rounds_succ]
  go_wp2_with fail
  go_ret
  exact ⟨rfl, (by repeat (first | with_reducible exact Kept.refl _ | with_reducible assumption | with_reducible refine Kept.setCell ?_ (by first | (simp; done) | (simp; omega) | omega) _ | with_reducible refine Kept.alloc ?_ _ | with_reducible refine Kept.drewN ?_ _ | with_reducible refine Kept.drew ?_ | with_reducible refine Kept.trans ?_ (by with_reducible assumption) | with_reducible refine Kept.dr ?_ (by with_reducible assumption)))⟩
set_option maxHeartbeats 2000000 in
set_option maxRecDepth 100000 in
theorem series_cs (u : Int) (u0 : 0 ≤ u) (u1 : u ≤ 1324675879) (w : World) : Calls Tryz.prog 92 #[.int .i64 u, .agg #[.int .i64 90, .int .i64 56, .int .i64 30, .int .i64 12, .int .i64 2]] w fun e w' => e = .returned (.int .i64 (cser u)) ∧ Kept w w' := by
  obtain ⟨r0, hr0⟩ : ∃ r, stp u 2147483648 90 = r := ⟨_, rfl⟩
  have b0 := stp_bd u 2147483648 90 u0 u1 (by omega) (by omega) (by omega)
  have m0 := tms_bd u 2147483648 1324675879 u0 u1 (by omega) (by omega) (by omega)
  rw [hr0] at b0
  have e0 : 2147483648 - (tms u 2147483648 + 45) / 90 = r0 := hr0
  obtain ⟨r1, hr1⟩ : ∃ r, stp u r0 56 = r := ⟨_, rfl⟩
  have b1 := stp_bd u r0 56 u0 u1 (by omega) (by omega) (by omega)
  have m1 := tms_bd u r0 1324675879 u0 u1 (by omega) (by omega) (by omega)
  rw [hr1] at b1
  have e1 : 2147483648 - (tms u r0 + 28) / 56 = r1 := hr1
  obtain ⟨r2, hr2⟩ : ∃ r, stp u r1 30 = r := ⟨_, rfl⟩
  have b2 := stp_bd u r1 30 u0 u1 (by omega) (by omega) (by omega)
  have m2 := tms_bd u r1 1324675879 u0 u1 (by omega) (by omega) (by omega)
  rw [hr2] at b2
  have e2 : 2147483648 - (tms u r1 + 15) / 30 = r2 := hr2
  obtain ⟨r3, hr3⟩ : ∃ r, stp u r2 12 = r := ⟨_, rfl⟩
  have b3 := stp_bd u r2 12 u0 u1 (by omega) (by omega) (by omega)
  have m3 := tms_bd u r2 1324675879 u0 u1 (by omega) (by omega) (by omega)
  rw [hr3] at b3
  have e3 : 2147483648 - (tms u r2 + 6) / 12 = r3 := hr3
  obtain ⟨r4, hr4⟩ : ∃ r, stp u r3 2 = r := ⟨_, rfl⟩
  have b4 := stp_bd u r3 2 u0 u1 (by omega) (by omega) (by omega)
  have m4 := tms_bd u r3 1324675879 u0 u1 (by omega) (by omega) (by omega)
  rw [hr4] at b4
  have e4 : 2147483648 - (tms u r3 + 1) / 2 = r4 := hr4
  obtain ⟨n00, n01⟩ := b0
  obtain ⟨p00, p01, p02, p03⟩ := m0
  obtain ⟨n10, n11⟩ := b1
  obtain ⟨p10, p11, p12, p13⟩ := m1
  obtain ⟨n20, n21⟩ := b2
  obtain ⟨p20, p21, p22, p23⟩ := m2
  obtain ⟨n30, n31⟩ := b3
  obtain ⟨p30, p31, p32, p33⟩ := m3
  obtain ⟨n40, n41⟩ := b4
  obtain ⟨p40, p41, p42, p43⟩ := m4
  have HV : Hid (cser u = r4) := Lib.hid (by unfold cser; rw [hr0, hr1, hr2, hr3, hr4])
  clear hr0 hr1 hr2 hr3 hr4
  have E0 := Lib.hid e0; clear e0
  have E1 := Lib.hid e1; clear e1
  have E2 := Lib.hid e2; clear e2
  have E3 := Lib.hid e3; clear e3
  have E4 := Lib.hid e4; clear e4
  rw [HV.out]
  go_enter Tryz.func92, Tryz.ntmps92
  go_wp2_with fail
  refine wp_loop_rounds 6 ?_
  rw [rounds_succ]
  have i0 : ∀ w, (Instr.index 97 (.agg #[.int .i64 90, .int .i64 56, .int .i64 30, .int .i64 12, .int .i64 2]) (.int .i64 0)).run Tryz.prog w = .ok (.int .i64 90) w := fun _ => by kernel_rfl
  go_wp2_with fail
  refine (times_w _ _ (by omega) (by omega) _).mono ?_
  rintro e w' ⟨rfl, rfl⟩
  go_wp2_with fail
  rw [E0.out]
  rw [rounds_succ]
  have i1 : ∀ w, (Instr.index 97 (.agg #[.int .i64 90, .int .i64 56, .int .i64 30, .int .i64 12, .int .i64 2]) (.int .i64 1)).run Tryz.prog w = .ok (.int .i64 56) w := fun _ => by kernel_rfl
  go_wp2_with fail
  refine (times_w _ _ (by omega) (by omega) _).mono ?_
  rintro e w' ⟨rfl, rfl⟩
  go_wp2_with fail
  rw [E1.out]
  rw [rounds_succ]
  have i2 : ∀ w, (Instr.index 97 (.agg #[.int .i64 90, .int .i64 56, .int .i64 30, .int .i64 12, .int .i64 2]) (.int .i64 2)).run Tryz.prog w = .ok (.int .i64 30) w := fun _ => by kernel_rfl
  go_wp2_with fail
  refine (times_w _ _ (by omega) (by omega) _).mono ?_
  rintro e w' ⟨rfl, rfl⟩
  go_wp2_with fail
  rw [E2.out]
  rw [rounds_succ]
  have i3 : ∀ w, (Instr.index 97 (.agg #[.int .i64 90, .int .i64 56, .int .i64 30, .int .i64 12, .int .i64 2]) (.int .i64 3)).run Tryz.prog w = .ok (.int .i64 12) w := fun _ => by kernel_rfl
  go_wp2_with fail
  refine (times_w _ _ (by omega) (by omega) _).mono ?_
  rintro e w' ⟨rfl, rfl⟩
  go_wp2_with fail
  rw [E3.out]
  rw [rounds_succ]
  have i4 : ∀ w, (Instr.index 97 (.agg #[.int .i64 90, .int .i64 56, .int .i64 30, .int .i64 12, .int .i64 2]) (.int .i64 4)).run Tryz.prog w = .ok (.int .i64 2) w := fun _ => by kernel_rfl
  go_wp2_with fail
  refine (times_w _ _ (by omega) (by omega) _).mono ?_
  rintro e w' ⟨rfl, rfl⟩
  go_wp2_with fail
  rw [E4.out]
  rw [rounds_succ]
  go_wp2_with fail
  go_ret
  exact ⟨rfl, (by repeat (first | with_reducible exact Kept.refl _ | with_reducible assumption | with_reducible refine Kept.setCell ?_ (by first | (simp; done) | (simp; omega) | omega) _ | with_reducible refine Kept.alloc ?_ _ | with_reducible refine Kept.drewN ?_ _ | with_reducible refine Kept.drew ?_ | with_reducible refine Kept.trans ?_ (by with_reducible assumption) | with_reducible refine Kept.dr ?_ (by with_reducible assumption)))⟩

end Go.Proofs.YtfpgdicacjkfoaaGreatDoor
