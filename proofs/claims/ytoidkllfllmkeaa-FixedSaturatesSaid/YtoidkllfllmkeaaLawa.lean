/-
  The statements of layer 1: what each call comes to.
-/
import Derived.Test.YtoidkllfllmkeaaRefb
import Derived.WalkKit
import Derived.ProofKit
import Derived.OpenShut
import Derived.WalkLawsBesides
import Derived.WalkSpells
import Derived.Lib.Hide
import Derived.Deep.DeepCutAuto
import Derived.Deep.CutBlock
import Derived.Deep.QuietTactic
import Derived.BigQuiet
import Derived.Handy
namespace Go.Proofs.Ytoidkllfllmkeaa
open Go.ChangeShapes Go.WideShapes Go.ChangeAt Go.RowKit
set_option linter.unusedVariables false
set_option linter.unusedSimpArgs false

theorem awake_w (w : World) : Calls Try.prog 11 #[] w fun e w' => e = .returned (.bool true) ∧ Dr w w' := by
  have v1 : mqv 0 (-7) 1 2 = -4 := by decide
  have v2 : mqe 0 (-7) 1 2 = 0 := by decide
  have v3 : mqv 1 (-7) 1 2 = -3 := by decide
  have v4 : mqe 1 (-7) 1 2 = 0 := by decide
  have v5 : mqv 2 (-7) 1 2 = -3 := by decide
  have v6 : mqe 2 (-7) 1 2 = 0 := by decide
  have v7 : mqv 0 1099511627776 1099511627776 1073741824 = 1125899906842624 := by decide
  have v8 : mqe 0 1099511627776 1099511627776 1073741824 = 0 := by decide
  have v9 : mqv 1 7 5 (-2) = -17 := by decide
  have v10 : mqe 1 7 5 (-2) = 0 := by decide
  have v11 : mqv 2 5 1 2 = 3 := by decide
  have v12 : mqe 2 5 1 2 = 0 := by decide
  have v13 : isq 99 = 9 := by decide +kernel
  have v14 : isqUp 99 = 10 := by decide +kernel
  have v15 : sat (9223372036854775807 + 1) = 9223372036854775807 := by decide
  have v16 : clampI 5 7 3 = 7 := by decide
  have v17 : modV (-7) 5 = 3 := by decide
  have v18 : modE 5 = 0 := by decide
  have v15' : sat 9223372036854775808 = 9223372036854775807 := by decide
  go_enter Try.func11, Try.ntmps11
  go_wp2_with (first | (go_at_call 12; refine (floor_w _ _ (by omega) (by omega) (by omega) (by omega) _).mono ?_; rintro e w' ⟨rfl, hg⟩) | (go_at_call 15; refine (ceil_w _ _ (by omega) (by omega) (by omega) (by omega) _).mono ?_; rintro e w' ⟨rfl, hg⟩) | (go_at_call 17; refine (round_w _ _ (by omega) (by omega) (by omega) (by omega) _).mono ?_; rintro e w' ⟨rfl, hg⟩) | (go_at_call 19; refine (mod_w _ _ (by omega) (by omega) (by omega) (by omega) _).mono ?_; rintro e w' ⟨rfl, hg⟩) | (go_at_call 21; refine (muldiv_w _ _ _ (by omega) (by omega) (by omega) (by omega) (by omega) (by omega) _).mono ?_; rintro e w' ⟨rfl, hg⟩) | (go_at_call 23; refine (muldivup_w _ _ _ (by omega) (by omega) (by omega) (by omega) (by omega) (by omega) _).mono ?_; rintro e w' ⟨rfl, hg⟩) | (go_at_call 25; refine (muldivround_w _ _ _ (by omega) (by omega) (by omega) (by omega) (by omega) (by omega) _).mono ?_; rintro e w' ⟨rfl, hg⟩) | (go_at_call 37; refine (sqrt_w _ (by omega) (by omega) _).mono ?_; rintro e w' ⟨rfl, rfl⟩) | (go_at_call 38; refine (sqrtup_w _ (by omega) (by omega) _).mono ?_; rintro e w' ⟨rfl, rfl⟩) | (go_at_call 27; refine (add_w _ _ (by omega) (by omega) (by omega) (by omega) _).mono ?_; rintro e w' ⟨rfl, rfl⟩) | (go_at_call 35; refine (clamp_w _ _ _ _).mono ?_; rintro e w' ⟨rfl, rfl⟩))
  go_ret
  exact ⟨rfl, (by repeat (first | exact Dr.refl _ | assumption | refine Dr.trans ?_ (by assumption)))⟩

theorem same_w (x e : Int) (w : World) : Calls Try.prog 14 #[.int .i64 x, .int .i64 e, .int .i64 x, .int .i64 e] w fun e w' => e = .returned (.bool true) ∧ w = w' := by
  go_enter Try.func14, Try.ntmps14
  go_wp2
  go_ret
  exact ⟨rfl, rfl⟩

theorem divides_w (a b : Int) (a0 : -9223372036854775808 ≤ a) (a1 : a ≤ 9223372036854775807) (b0 : -9223372036854775808 ≤ b) (b1 : b ≤ 9223372036854775807) (w : World) :
    Calls Try.prog 3 #[.int .i64 a, .int .i64 b] w fun e w' => e = .returned (.bool true) ∧ Dr w w' := by
  go_enter Try.func3, Try.ntmps3
  go_wp2_with (first | (go_at_call 11; refine (awake_w _).mono ?_; rintro e w' ⟨rfl, hg⟩) | (go_at_call 12; refine (floor_w _ _ (by omega) (by omega) (by omega) (by omega) _).mono ?_; rintro e w' ⟨rfl, hg⟩) | (go_at_call 15; refine (ceil_w _ _ (by omega) (by omega) (by omega) (by omega) _).mono ?_; rintro e w' ⟨rfl, hg⟩) | (go_at_call 17; refine (round_w _ _ (by omega) (by omega) (by omega) (by omega) _).mono ?_; rintro e w' ⟨rfl, hg⟩) | (go_at_call 19; refine (mod_w _ _ (by omega) (by omega) (by omega) (by omega) _).mono ?_; rintro e w' ⟨rfl, hg⟩) | (go_at_call 13; refine (ref_floor_w _ _ (by omega) (by omega) (by omega) (by omega) _).mono ?_; rintro e w' ⟨rfl, rfl⟩) | (go_at_call 16; refine (ref_ceil_w _ _ (by omega) (by omega) (by omega) (by omega) _).mono ?_; rintro e w' ⟨rfl, rfl⟩) | (go_at_call 18; refine (ref_round_w _ _ (by omega) (by omega) (by omega) (by omega) _).mono ?_; rintro e w' ⟨rfl, rfl⟩) | (go_at_call 20; refine (ref_mod_w _ _ (by omega) (by omega) (by omega) (by omega) _).mono ?_; rintro e w' ⟨rfl, rfl⟩) | (go_at_call 14; refine (same_w _ _ _).mono ?_; rintro e w' ⟨rfl, rfl⟩))
  go_ret
  exact ⟨rfl, (by repeat (first | exact Dr.refl _ | assumption | refine Dr.trans ?_ (by assumption)))⟩

theorem scales_w (a b c : Int) (a0 : -9223372036854775808 ≤ a) (a1 : a ≤ 9223372036854775807) (b0 : -9223372036854775808 ≤ b) (b1 : b ≤ 9223372036854775807) (c0 : -9223372036854775808 ≤ c) (c1 : c ≤ 9223372036854775807) (w : World) :
    Calls Try.prog 4 #[.int .i64 a, .int .i64 b, .int .i64 c] w fun e w' => e = .returned (.bool true) ∧ Dr w w' := by
  go_enter Try.func4, Try.ntmps4
  go_wp2_with (first | (go_at_call 11; refine (awake_w _).mono ?_; rintro e w' ⟨rfl, hg⟩) | (go_at_call 21; refine (muldiv_w _ _ _ (by omega) (by omega) (by omega) (by omega) (by omega) (by omega) _).mono ?_; rintro e w' ⟨rfl, hg⟩) | (go_at_call 23; refine (muldivup_w _ _ _ (by omega) (by omega) (by omega) (by omega) (by omega) (by omega) _).mono ?_; rintro e w' ⟨rfl, hg⟩) | (go_at_call 25; refine (muldivround_w _ _ _ (by omega) (by omega) (by omega) (by omega) (by omega) (by omega) _).mono ?_; rintro e w' ⟨rfl, hg⟩) | (go_at_call 22; refine (ref_muldiv_w _ _ _ (by omega) (by omega) (by omega) (by omega) (by omega) (by omega) _).mono ?_; rintro e w' ⟨rfl, rfl⟩) | (go_at_call 24; refine (ref_muldivup_w _ _ _ (by omega) (by omega) (by omega) (by omega) (by omega) (by omega) _).mono ?_; rintro e w' ⟨rfl, rfl⟩) | (go_at_call 26; refine (ref_muldivround_w _ _ _ (by omega) (by omega) (by omega) (by omega) (by omega) (by omega) _).mono ?_; rintro e w' ⟨rfl, rfl⟩) | (go_at_call 14; refine (same_w _ _ _).mono ?_; rintro e w' ⟨rfl, rfl⟩))
  go_ret
  exact ⟨rfl, (by repeat (first | exact Dr.refl _ | assumption | refine Dr.trans ?_ (by assumption)))⟩
end Go.Proofs.Ytoidkllfllmkeaa
