/-
  Own contracts: package line and the document's answers of layer 11: the law TurnBanks.
-/
import Derived.Test.YtfnhnlnofglkoaaTure
import Derived.Test.YtfnhnlnofglkoaaTurbk
import Derived.WalkKit
import Derived.ProofKit
import Derived.OpenShut
import Derived.WalkLawsBesides
import Derived.WalkSpells
import Derived.Lib.Hide
import Derived.Deep.DeepCutAuto
import Derived.Deep.CutBlock
import Derived.Deep.QuietTactic
import Derived.BigQuiet
import Derived.Handy
import Derived.StillTailTactics
import Derived.IntWalk
import Derived.LoopN
import Derived.Deep.RegionHeld3
namespace Go.Proofs.Ytfnhnlnofglkoaa
open Go.ChangeShapes Go.WideShapes Go.ChangeAt Go.RowKit
set_option linter.unusedVariables false
set_option linter.unusedSimpArgs false
set_option maxHeartbeats 4000000 in
set_option maxRecDepth 100000 in
theorem law_banks (v r : Int) (v_0 : -9223372036854775808 ≤ v) (v_1 : v ≤ 9223372036854775807) (r_0 : -9223372036854775808 ≤ r) (r_1 : r ≤ 9223372036854775807) (w : World) : Calls Try.prog 4 #[.int .i64 v, .int .i64 r] w fun e w' => e = .returned (.bool true) ∧ Kept w w' := by
  by_cases hin : 1 ≤ v ∧ v ≤ 1000 ∧ 1 ≤ r ∧ r ≤ 8000000
  · obtain ⟨v0, v1, r0, r1⟩ := hin
    cases h3 : ftB v 3000 r
    · have z := ft_no h3
      rcases z with z | z
      · have R3 := fun w => radius_w v 3000 v_0 v_1 (by omega) (by omega) w
        rw [z.1] at R3
        rw [z.2] at R3
        have HR3 := Lib.hid R3
        clear R3
        go_enter Try.func4, Try.ntmps4
        go_wp2_with fail
        with_reducible refine (awake_w _).mono ?_
        rintro e w1 ⟨rfl, hk1⟩
        go_wp2_with fail
        with_reducible refine (bank_none v r v0 v1 r0 r1 h3 _).mono ?_
        rintro e w2 ⟨rfl, hk2⟩
        go_wp2_with fail
        with_reducible refine (HR3.out _).mono ?_
        rintro e w3 ⟨rfl, hk3⟩
        go_wp2_with fail
        all_goals first | (go_ret; refine ⟨?_, (by repeat (first | with_reducible exact Kept.refl _ | with_reducible assumption | with_reducible refine Kept.setCell ?_ (by first | (simp; done) | (simp; omega) | omega) _ | with_reducible refine Kept.alloc ?_ _ | with_reducible refine Kept.drewN ?_ _ | with_reducible refine Kept.drew ?_ | with_reducible refine Kept.trans ?_ (by with_reducible assumption) | with_reducible refine Kept.dr ?_ (by with_reducible assumption)))⟩; first | rfl | (refine retb ?_; simp; done) | (refine retb ?_; simp; omega)) | (exfalso; omega)
      · have R3 := fun w => radius_w v 3000 v_0 v_1 (by omega) (by omega) w
        rw [z.1] at R3
        have zz := z.2
        clear z
        generalize rdR v 3000 = X at *
        have HR3 := Lib.hid R3
        clear R3
        go_enter Try.func4, Try.ntmps4
        go_wp2_with fail
        with_reducible refine (awake_w _).mono ?_
        rintro e w1 ⟨rfl, hk1⟩
        go_wp2_with fail
        with_reducible refine (bank_none v r v0 v1 r0 r1 h3 _).mono ?_
        rintro e w2 ⟨rfl, hk2⟩
        go_wp2_with fail
        with_reducible refine (HR3.out _).mono ?_
        rintro e w3 ⟨rfl, hk3⟩
        go_wp2_with fail
        all_goals first | (go_ret; refine ⟨?_, (by repeat (first | with_reducible exact Kept.refl _ | with_reducible assumption | with_reducible refine Kept.setCell ?_ (by first | (simp; done) | (simp; omega) | omega) _ | with_reducible refine Kept.alloc ?_ _ | with_reducible refine Kept.drewN ?_ _ | with_reducible refine Kept.drew ?_ | with_reducible refine Kept.trans ?_ (by with_reducible assumption) | with_reducible refine Kept.dr ?_ (by with_reducible assumption)))⟩; first | rfl | (refine retb ?_; simp; done) | (refine retb ?_; simp; omega)) | (exfalso; omega)
    · go_enter Try.func4, Try.ntmps4
      go_wp2_with fail
      with_reducible refine (awake_w _).mono ?_
      rintro e w1 ⟨rfl, hk1⟩
      go_wp2_with fail
      refine (bank_ok v r v0 v1 r0 r1 h3 _).mono ?_
      rintro e wB ⟨b, ⟨c0, c1, c2, c3⟩, rfl, hkB⟩
      have y := ft_yes c2
      have z : (rdE v (b - 1) = 2 ∧ rdR v (b - 1) = 0) ∨ (rdE v (b - 1) = 0 ∧ r < rdR v (b - 1)) := by
        rcases c3 with c3 | c3
        · subst c3; exact Or.inl (rd_zero v)
        · exact ft_no c3
      clear c2 c3
      rcases z with z | z
      · have R1 := fun w => radius_w v b v_0 v_1 (by omega) (by omega) w
        have R2 := fun w => radius_w v (b - 1) v_0 v_1 (by omega) (by omega) w
        rw [y.1] at R1
        have yy := y.2
        clear y
        generalize rdR v b = X at *
        rw [z.1] at R2
        rw [z.2] at R2
        have wr1 : IntKind.i64.wrap (b - 1) = b - 1 := IntWalk.i64_in _ (by omega)
        have HR1 := Lib.hid R1
        have HR2 := Lib.hid R2
        clear R1 R2
        go_wp2_with fail
        with_reducible refine (HR1.out _).mono ?_
        rintro e wC ⟨rfl, hkC⟩
        go_wp2_with fail
        with_reducible refine (HR2.out _).mono ?_
        rintro e wD ⟨rfl, hkD⟩
        go_wp2_with fail
        all_goals first | (go_ret; refine ⟨?_, (by repeat (first | with_reducible exact Kept.refl _ | with_reducible assumption | with_reducible refine Kept.setCell ?_ (by first | (simp; done) | (simp; omega) | omega) _ | with_reducible refine Kept.alloc ?_ _ | with_reducible refine Kept.drewN ?_ _ | with_reducible refine Kept.drew ?_ | with_reducible refine Kept.trans ?_ (by with_reducible assumption) | with_reducible refine Kept.dr ?_ (by with_reducible assumption)))⟩; first | rfl | (refine retb ?_; simp; done) | (refine retb ?_; simp; omega)) | (exfalso; omega)
      · have R1 := fun w => radius_w v b v_0 v_1 (by omega) (by omega) w
        have R2 := fun w => radius_w v (b - 1) v_0 v_1 (by omega) (by omega) w
        rw [y.1] at R1
        have yy := y.2
        clear y
        generalize rdR v b = X at *
        rw [z.1] at R2
        have zz := z.2
        clear z
        generalize rdR v (b - 1) = Y at *
        have wr1 : IntKind.i64.wrap (b - 1) = b - 1 := IntWalk.i64_in _ (by omega)
        have HR1 := Lib.hid R1
        have HR2 := Lib.hid R2
        clear R1 R2
        go_wp2_with fail
        with_reducible refine (HR1.out _).mono ?_
        rintro e wC ⟨rfl, hkC⟩
        go_wp2_with fail
        with_reducible refine (HR2.out _).mono ?_
        rintro e wD ⟨rfl, hkD⟩
        go_wp2_with fail
        all_goals first | (go_ret; refine ⟨?_, (by repeat (first | with_reducible exact Kept.refl _ | with_reducible assumption | with_reducible refine Kept.setCell ?_ (by first | (simp; done) | (simp; omega) | omega) _ | with_reducible refine Kept.alloc ?_ _ | with_reducible refine Kept.drewN ?_ _ | with_reducible refine Kept.drew ?_ | with_reducible refine Kept.trans ?_ (by with_reducible assumption) | with_reducible refine Kept.dr ?_ (by with_reducible assumption)))⟩; first | rfl | (refine retb ?_; simp; done) | (refine retb ?_; simp; omega)) | (exfalso; omega)
  · have h : v < 1 ∨ 1000 < v ∨ r < 1 ∨ 8000000 < r := by omega
    have R3 := fun w => radius_w v 3000 v_0 v_1 (by omega) (by omega) w
    generalize rdR v 3000 = X at *
    generalize rdE v 3000 = E at *
    have HR3 := Lib.hid R3
    clear R3
    go_enter Try.func4, Try.ntmps4
    go_wp2_with fail
    with_reducible refine (awake_w _).mono ?_
    rintro e w1 ⟨rfl, hk1⟩
    go_wp2_with fail
    with_reducible refine (bank_bad v r h _).mono ?_
    rintro e w2 ⟨rfl, hk2⟩
    go_wp2_with fail
    with_reducible refine (HR3.out _).mono ?_
    rintro e w3 ⟨rfl, hk3⟩
    go_wp2_with fail
    all_goals first | (go_ret; refine ⟨?_, (by repeat (first | with_reducible exact Kept.refl _ | with_reducible assumption | with_reducible refine Kept.setCell ?_ (by first | (simp; done) | (simp; omega) | omega) _ | with_reducible refine Kept.alloc ?_ _ | with_reducible refine Kept.drewN ?_ _ | with_reducible refine Kept.drew ?_ | with_reducible refine Kept.trans ?_ (by with_reducible assumption) | with_reducible refine Kept.dr ?_ (by with_reducible assumption)))⟩; first | rfl | (refine retb ?_; simp; done) | (refine retb ?_; simp; omega)) | (exfalso; omega)

end Go.Proofs.Ytfnhnlnofglkoaa
