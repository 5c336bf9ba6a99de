/-
  Plain numbers of layer 12: the chapter's examples.
-/
import Derived.Test.YtfnhnlnofglkoaaTurb
import Derived.Test.YtfnhnlnofglkoaaTurbo
import Derived.Test.YtfnhnlnofglkoaaTurda
import Derived.Test.YtfnhnlnofglkoaaTurdb
import Derived.Test.YtfnhnlnofglkoaaTurdc
import Derived.Test.YtfnhnlnofglkoaaTurdd
namespace Go.Proofs.Ytfnhnlnofglkoaa
set_option linter.unusedVariables false
set_option linter.unusedSimpArgs false
def lesF (m n : Int) : Int := grtF (lesP m n) 25 0 16200000
theorem les_F (m n : Int) : les m n = lesF m n := (grtF_eq _ 25 _ _ (by decide)).symm
def at2QF (y x : Int) : Int := if iabs x < iabs y then 32400000 - lesF (iabs y) (iabs x) else lesF (iabs x) (iabs y)
theorem at2Q_F (y x : Int) : at2Q y x = at2QF y x := by unfold at2Q at2QF; rw [les_F, les_F]
def at2VF (y x : Int) : Int := if ¬ (smB y ∧ smB x) then 0 else if x = 0 ∧ y = 0 then 0 else if x < 0 ∧ y < 0 then 64800000 + at2QF y x else if x < 0 then 64800000 - at2QF y x else if y < 0 then nrm (-at2QF y x) else at2QF y x
theorem at2V_F (y x : Int) : at2V y x = at2VF y x := by unfold at2V at2VF; rw [at2Q_F]
theorem tv1 : lnV 6000 32400000 = 9425 := by decide +kernel
theorem tv2 : arB 0 0 6000 0 32400000 = true := by decide +kernel
theorem tv3 : mvX 0 0 (sinV (atD 9425 6000 0 32400000)) (cosV (atD 9425 6000 0 32400000)) 6000 1073741824 = 6000 ∧ mvY 0 0 (sinV (atD 9425 6000 0 32400000)) (cosV (atD 9425 6000 0 32400000)) 6000 1073741824 = 0 ∧ mvE 0 0 (sinV (atD 9425 6000 0 32400000)) (cosV (atD 9425 6000 0 32400000)) 6000 1073741824 = 0 := by decide +kernel
theorem tv4 : atC 9425 0 0 6000 0 32400000 = 64800000 := by decide +kernel
theorem tv5 : csE 0 0 3000 0 = 0 := by decide +kernel
theorem tv6 : csV 0 0 3000 0 = 32400000 := by rw [csV_ok tv5, at2V_F]; decide +kernel
theorem tv7 : sg1 32400000 * (6000 - (isq (dtp (3000 - 0) (0 - 0) (3000 - 0) (0 - 0)))) = 3000 := by decide +kernel
theorem tv8 : alV (swT 0 (csV 0 0 3000 0) (if (32400000 : Int) < 0 then 1 else 2)) 6000 32400000 = 9425 := by rw [tv6]; decide +kernel
theorem tv9 : csE 0 (-10000) 0 0 = 0 ∧ csE 0 0 10000 0 = 0 := by decide +kernel
theorem tv10 : csV 0 (-10000) 0 0 = 0 := by rw [csV_ok tv9.1, at2V_F]; decide +kernel
theorem tv11 : csV 0 0 10000 0 = 32400000 := by rw [csV_ok tv9.2, at2V_F]; decide +kernel
theorem tv12 : iabs (dif (csV 0 (-10000) 0 0) (csV 0 0 10000 0)) ≤ 54000000 := by rw [tv10, tv11]; decide +kernel
theorem tv13 : (mqv 1 1000 (sinV (iabs (dif (csV 0 (-10000) 0 0) (csV 0 0 10000 0)) / 2)) (cosV (iabs (dif (csV 0 (-10000) 0 0) (csV 0 0 10000 0)) / 2))) = 1000 := by rw [tv10, tv11]; decide +kernel
theorem tv14 : 1000 ≤ dsF 0 (-10000) 0 0 ∧ 1000 ≤ dsF 0 0 10000 0 := by decide +kernel
theorem tv15 : mvE 0 0 (sinV (trn 0 64800000)) (cosV (trn 0 64800000)) 1000 1073741824 = 0 ∧ mvX 0 0 (sinV (trn 0 64800000)) (cosV (trn 0 64800000)) 1000 1073741824 = 0 ∧ mvY 0 0 (sinV (trn 0 64800000)) (cosV (trn 0 64800000)) 1000 1073741824 = -1000 := by decide +kernel
theorem tv16 : mvE 0 0 (sinV 32400000) (cosV 32400000) 1000 1073741824 = 0 ∧ mvX 0 0 (sinV 32400000) (cosV 32400000) 1000 1073741824 = 1000 ∧ mvY 0 0 (sinV 32400000) (cosV 32400000) 1000 1073741824 = 0 := by decide +kernel
theorem tv17 : mvE 0 (-1000) (sinV (trn 0 (sg1 (dif 0 32400000) * 32400000))) (cosV (trn 0 (sg1 (dif 0 32400000) * 32400000))) 1000 1073741824 = 0 ∧ mvX 0 (-1000) (sinV (trn 0 (sg1 (dif 0 32400000) * 32400000))) (cosV (trn 0 (sg1 (dif 0 32400000) * 32400000))) 1000 1073741824 = 1000 ∧ mvY 0 (-1000) (sinV (trn 0 (sg1 (dif 0 32400000) * 32400000))) (cosV (trn 0 (sg1 (dif 0 32400000) * 32400000))) 1000 1073741824 = -1000 := by decide +kernel
theorem tv18 : trn 0 (-sg1 (dif 0 32400000) * 32400000) = 97200000 ∧ dif 0 32400000 = 32400000 := by decide +kernel
theorem tv19 : csE 0 0 0 5000 = 0 := by decide +kernel
theorem tv20 : csV 0 0 0 5000 = 0 := by rw [csV_ok tv19, at2V_F]; decide +kernel
theorem tv21 : isq (dtp (0 - 0) (5000 - 0) (0 - 0) (5000 - 0) - 3000 * 3000) = 4000 := by decide +kernel
theorem tv22 : ∃ z, at2V 4000 3000 = z ∧ mvX 0 0 (sinV (trn 0 (-z))) (cosV (trn 0 (-z))) 3000 1073741824 = -2400 ∧ mvY 0 0 (sinV (trn 0 (-z))) (cosV (trn 0 (-z))) 3000 1073741824 = 1800 ∧ mvE 0 0 (sinV (trn 0 (-z))) (cosV (trn 0 (-z))) 3000 1073741824 = 0 := ⟨at2VF 4000 3000, at2V_F _ _, by decide +kernel⟩
theorem tv23 : 3000 * 3000 < dtp (0 - 0) (5000 - 0) (0 - 0) (5000 - 0) := by decide +kernel
theorem tv24 : csE 0 0 0 100 = 0 ∧ csE 0 0 100 0 = 0 := by decide +kernel
theorem tv25 : csV 0 0 0 100 = 0 := by rw [csV_ok tv24.1, at2V_F]; decide +kernel
theorem tv26 : csV 0 0 100 0 = 32400000 := by rw [csV_ok tv24.2, at2V_F]; decide +kernel
theorem tv27 : isq (dtp (0 - 0) (100 - 0) (0 - 0) (100 - 0)) = 100 ∧ isq (dtp (100 - 0) (0 - 0) (100 - 0) (0 - 0)) = 100 := by decide +kernel
theorem tv28 : arS (swT (csV 0 0 0 100) (csV 0 0 100 0) 1) 1 = -97200000 := by rw [tv25, tv26]; decide +kernel
set_option maxHeartbeats 2000000 in
theorem at_ex (w : World) : Calls Try.prog 24 #[.agg #[.int .i64 0, .int .i64 0, .int .i64 6000, .int .i64 0, .int .i64 32400000], .int .i64 9425] w fun e w' => e = .returned (.tuple #[.agg #[.int .i64 6000, .int .i64 0], .int .i64 64800000, .int .i64 0]) ∧ Kept w w' := by
  have h := at_ok 0 0 6000 0 32400000 9425 tv2 (by decide) (by rw [tv1]; decide) w
  rw [tv3.1, tv3.2.1, tv3.2.2, tv4] at h
  exact h
theorem toffset_ex (w : World) : Calls Try.prog 27 #[.agg #[.int .i64 0, .int .i64 0, .int .i64 6000, .int .i64 0, .int .i64 32400000], .agg #[.int .i64 3000, .int .i64 0]] w fun e w' => e = .returned (.tuple #[.int .i64 3000, .int .i64 9425, .int .i64 0]) ∧ Kept w w' := by
  have h := toffset_ok 0 0 6000 0 32400000 3000 0 tv2 (by decide +kernel) tv5 (by decide) w
  rw [tv7, tv8] at h
  exact h
theorem length_ex (w : World) : Calls Try.prog 22 #[.agg #[.int .i64 0, .int .i64 0, .int .i64 6000, .int .i64 0, .int .i64 32400000]] w fun e w' => e = .returned (.int .i64 9425) ∧ Kept w w' := by
  have h := length_ok 0 0 6000 0 32400000 tv2 w
  rw [tv1] at h
  exact h
theorem fly_ex (w : World) : Calls Try.prog 69 #[.agg #[.int .i64 0, .int .i64 0], .int .i64 0, .int .i64 32400000, .int .i64 1000, .int .i64 1000] w fun e w' => e = .returned (.tuple #[.agg #[.int .i64 1000, .int .i64 (-1000), .int .i64 1000, .int .i64 97200000, .int .i64 32400000, .int .i64 0, .int .i64 (-1000), .int .i64 1000, .int .i64 0, .int .i64 1000], .int .i64 0]) ∧ Kept w w' := by
  have h := flyBy_ok 0 0 0 32400000 1000 1000 (by decide +kernel) (by decide) (by decide) (by decide) (by decide) (by decide) (by decide) (by decide) (by decide) tv15.1 (by rw [tv15.2.1, tv15.2.2]; decide +kernel) tv16.1 (by rw [tv15.2.1, tv15.2.2]; exact tv17.1) w
  rw [tv15.2.1, tv15.2.2, tv16.2.1, tv16.2.2, tv17.2.1, tv17.2.2, tv18.1, tv18.2] at h
  exact h
theorem FlyBy_ex (w : World) : Calls Try.prog 29 #[.agg #[.int .i64 0, .int .i64 (-10000)], .agg #[.int .i64 0, .int .i64 0], .agg #[.int .i64 10000, .int .i64 0], .int .i64 1000] w fun e w' => e = .returned (.tuple #[.agg #[.int .i64 1000, .int .i64 (-1000), .int .i64 1000, .int .i64 97200000, .int .i64 32400000, .int .i64 0, .int .i64 (-1000), .int .i64 1000, .int .i64 0, .int .i64 1000], .int .i64 0]) ∧ Kept w w' :=
  FlyBy_ok 0 (-10000) 0 0 10000 0 1000 1000 (-1000) 1000 97200000 32400000 0 (-1000) 1000 0 1000 (by decide +kernel) (by decide +kernel) (by decide +kernel) (by decide) (by decide) tv9.1 tv9.2 tv12 (by rw [tv13]; exact tv14.1) (by rw [tv13]; exact tv14.2) (fun w => by rw [tv13, tv10, tv11]; exact fly_ex w) w
theorem tangent_ex (w : World) : Calls Try.prog 32 #[.agg #[.int .i64 0, .int .i64 0], .int .i64 3000, .int .u8 2, .agg #[.int .i64 0, .int .i64 5000]] w fun e w' => e = .returned (.tuple #[.agg #[.int .i64 (-2400), .int .i64 1800], .int .i64 0]) ∧ Kept w w' := by
  have h := tangent_2 0 0 0 5000 3000 (by decide +kernel) (by decide +kernel) (by decide) (by decide) tv23 w
  obtain ⟨z, z0, z1, z2, z3⟩ := tv22
  rw [tv21, tv20, z0, z1, z2, z3] at h
  exact h
theorem around_ex (w : World) : Calls Try.prog 36 #[.agg #[.int .i64 0, .int .i64 100], .agg #[.int .i64 0, .int .i64 0], .agg #[.int .i64 100, .int .i64 0], .int .u8 1] w fun e w' => e = .returned (.tuple #[.agg #[.int .i64 0, .int .i64 0, .int .i64 100, .int .i64 0, .int .i64 (-97200000)], .int .i64 0]) ∧ Kept w w' := by
  have h := around_1 0 100 0 0 100 0 (by decide +kernel) (by decide +kernel) (by decide +kernel) (by rw [tv27.1]; decide) (by rw [tv27.2]; decide) (by rw [tv27.1, tv27.2]; decide) w
  rw [tv27.1, tv28, tv25] at h
  exact h
end Go.Proofs.Ytfnhnlnofglkoaa
