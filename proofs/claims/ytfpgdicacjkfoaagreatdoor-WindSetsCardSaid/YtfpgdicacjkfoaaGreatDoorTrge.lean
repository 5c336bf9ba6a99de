/-
  Own contracts: package trig and the document's answers: inverse functions, hypotenuses.
-/
import Derived.Test.YtfpgdicacjkfoaaGreatDoorTrgd
import Derived.WalkKit
import Derived.ProofKit
import Derived.OpenShut
import Derived.WalkLawsBesides
import Derived.WalkSpells
import Derived.Lib.Hide
import Derived.Deep.DeepCutAuto
import Derived.Deep.CutBlock
import Derived.Deep.QuietTactic
import Derived.BigQuiet
import Derived.Handy
import Derived.StillTailTactics
import Derived.IntWalk
import Derived.LoopN
import Derived.Deep.RegionHeld3
namespace Go.Proofs.YtfpgdicacjkfoaaGreatDoor
open Go.ChangeShapes Go.WideShapes Go.ChangeAt Go.RowKit
set_option linter.unusedVariables false
set_option linter.unusedSimpArgs false

theorem sat_neg (x : Int) (h0 : -2147483647 ≤ x) (h1 : x < 0) : sat (x.natAbs : Int) = -x := by unfold sat; (repeat' split) <;> omega
theorem sat_pos (x : Int) (h0 : 0 ≤ x) (h1 : x ≤ 2147483647) : sat (x.natAbs : Int) = x := by unfold sat; (repeat' split) <;> omega
def hyV (x y : Int) : Int := if ¬ (smB x ∧ smB y) then 0 else isq (x * x + y * y)
def hyE (x y : Int) : Int := if ¬ (smB x ∧ smB y) then 2 else 0
theorem sq_bd (x : Int) (h0 : -2147483647 ≤ x) (h1 : x ≤ 2147483647) : 0 ≤ x * x ∧ x * x ≤ 4611686014132420609 := by
  rcases Int.le_total 0 x with h | h
  · exact mul_bd x x 2147483647 2147483647 h h1 h h1
  · have := mul_bd (-x) (-x) 2147483647 2147483647 (by omega) (by omega) (by omega) (by omega)
    rw [Int.neg_mul_neg] at this
    exact this
set_option maxHeartbeats 2000000 in
set_option maxRecDepth 100000 in
theorem hypot_w (x y : Int) (x0 : -9223372036854775808 ≤ x) (x1 : x ≤ 9223372036854775807) (y0 : -9223372036854775808 ≤ y) (y1 : y ≤ 9223372036854775807) (w : World) : Calls Tryz.prog 37 #[.int .i64 x, .int .i64 y] w fun e w' => e = .returned (.tuple #[.int .i64 (hyV x y), .int .i64 (hyE x y)]) ∧ w = w' := by
  rcases sm_cases x with ⟨ex, c0, c1⟩ | ⟨ex, hb⟩
  · rcases sm_cases y with ⟨ey, d0, d1⟩ | ⟨ey, hb⟩
    · have hv : hyV x y = isq (x * x + y * y) := by unfold hyV; rw [ex, ey]; simp
      have he : hyE x y = 0 := by unfold hyE; rw [ex, ey]; simp
      rw [hv, he]
      have sy := Lib.hid ey; have sx := Lib.hid ex
      obtain ⟨p0, p1⟩ := sq_bd x c0 c1
      obtain ⟨q0, q1⟩ := sq_bd y d0 d1
      clear hv he ey ex
      go_enter Tryz.func37, Tryz.ntmps37
      go_wp2_with fail
      refine (small_w x (by omega) (by omega) _).mono ?_
      rw [sx.out]
      rintro e w' ⟨rfl, rfl⟩
      go_wp2_with fail
      refine (small_w y (by omega) (by omega) _).mono ?_
      rw [sy.out]
      rintro e w' ⟨rfl, rfl⟩
      go_wp2_with fail
      refine (sqrt_w _ (by omega) (by omega) _).mono ?_
      rintro e w' ⟨rfl, rfl⟩
      go_wp2_with fail
      go_ret2
      exact ⟨rfl, rfl⟩
    · have hv : hyV x y = 0 := by unfold hyV; rw [ex, ey]; simp
      have he : hyE x y = 2 := by unfold hyE; rw [ex, ey]; simp
      rw [hv, he]
      have sy := Lib.hid ey; have sx := Lib.hid ex
      clear hv he ey ex hb
      go_enter Tryz.func37, Tryz.ntmps37
      go_wp2_with fail
      refine (small_w x (by omega) (by omega) _).mono ?_
      rw [sx.out]
      rintro e w' ⟨rfl, rfl⟩
      go_wp2_with fail
      refine (small_w y (by omega) (by omega) _).mono ?_
      rw [sy.out]
      rintro e w' ⟨rfl, rfl⟩
      go_wp2_with fail
      go_ret2
      exact ⟨rfl, rfl⟩
  · have hv : hyV x y = 0 := by unfold hyV; rw [ex]; simp
    have he : hyE x y = 2 := by unfold hyE; rw [ex]; simp
    rw [hv, he]
    have sx := Lib.hid ex
    clear hv he ex hb
    go_enter Tryz.func37, Tryz.ntmps37
    go_wp2_with fail
    refine (small_w x (by omega) (by omega) _).mono ?_
    rw [sx.out]
    rintro e w' ⟨rfl, rfl⟩
    go_wp2_with fail
    go_ret2
    exact ⟨rfl, rfl⟩
set_option maxHeartbeats 2000000 in
set_option maxRecDepth 100000 in
theorem ref_hypot_w (x y : Int) (x0 : -9223372036854775808 ≤ x) (x1 : x ≤ 9223372036854775807) (y0 : -9223372036854775808 ≤ y) (y1 : y ≤ 9223372036854775807) (w : World) : Calls Tryz.prog 39 #[.int .i64 x, .int .i64 y] w fun e w' => e = .returned (.tuple #[.int .i64 (hyV x y), .int .i64 (hyE x y)]) ∧ w = w' := by
  rcases sm_cases x with ⟨ex, c0, c1⟩ | ⟨ex, hb⟩
  · rcases sm_cases y with ⟨ey, d0, d1⟩ | ⟨ey, hb⟩
    · have hv : hyV x y = isq (x * x + y * y) := by unfold hyV; rw [ex, ey]; simp
      have he : hyE x y = 0 := by unfold hyE; rw [ex, ey]; simp
      rw [hv, he]
      have sy := Lib.hid ey; have sx := Lib.hid ex
      obtain ⟨p0, p1⟩ := sq_bd x c0 c1
      obtain ⟨q0, q1⟩ := sq_bd y d0 d1
      clear hv he ey ex
      go_enter Tryz.func39, Tryz.ntmps39
      go_wp2_with fail
      refine (outside_w x (by omega) (by omega) _).mono ?_
      rw [sx.out]
      rintro e w' ⟨rfl, rfl⟩
      go_wp2_with fail
      refine (outside_w y (by omega) (by omega) _).mono ?_
      rw [sy.out]
      rintro e w' ⟨rfl, rfl⟩
      go_wp2_with fail
      refine (ref_sqrt_w _ (by omega) (by omega) _).mono ?_
      rintro e w' ⟨rfl, rfl⟩
      go_wp2_with fail
      go_ret2
      exact ⟨rfl, rfl⟩
    · have hv : hyV x y = 0 := by unfold hyV; rw [ex, ey]; simp
      have he : hyE x y = 2 := by unfold hyE; rw [ex, ey]; simp
      rw [hv, he]
      have sy := Lib.hid ey; have sx := Lib.hid ex
      clear hv he ey ex hb
      go_enter Tryz.func39, Tryz.ntmps39
      go_wp2_with fail
      refine (outside_w x (by omega) (by omega) _).mono ?_
      rw [sx.out]
      rintro e w' ⟨rfl, rfl⟩
      go_wp2_with fail
      refine (outside_w y (by omega) (by omega) _).mono ?_
      rw [sy.out]
      rintro e w' ⟨rfl, rfl⟩
      go_wp2_with fail
      go_ret2
      exact ⟨rfl, rfl⟩
  · have hv : hyV x y = 0 := by unfold hyV; rw [ex]; simp
    have he : hyE x y = 2 := by unfold hyE; rw [ex]; simp
    rw [hv, he]
    have sx := Lib.hid ex
    clear hv he ex hb
    go_enter Tryz.func39, Tryz.ntmps39
    go_wp2_with fail
    refine (outside_w x (by omega) (by omega) _).mono ?_
    rw [sx.out]
    rintro e w' ⟨rfl, rfl⟩
    go_wp2_with fail
    go_ret2
    exact ⟨rfl, rfl⟩

end Go.Proofs.YtfpgdicacjkfoaaGreatDoor
