/-
  Own contracts: package angle and the document's answers of layer 4: middles, sectors.
-/
import Derived.Test.YtokgmhicindibaaAnga
import Derived.WalkKit
import Derived.ProofKit
import Derived.OpenShut
import Derived.WalkLawsBesides
import Derived.WalkSpells
import Derived.Lib.Hide
import Derived.Deep.DeepCutAuto
import Derived.Deep.CutBlock
import Derived.Deep.QuietTactic
import Derived.BigQuiet
import Derived.Handy
import Derived.StillTailTactics
import Derived.IntWalk
import Derived.LoopN
import Derived.Deep.RegionHeld3
namespace Go.Proofs.Ytokgmhicindibaa
open Go.ChangeShapes Go.WideShapes Go.ChangeAt Go.RowKit
set_option linter.unusedVariables false
set_option linter.unusedSimpArgs false
theorem middle_w (f t : Int) (f_0 : -9223372036854775808 ≤ f) (f_1 : f ≤ 9223372036854775807) (t_0 : -9223372036854775808 ≤ t) (t_1 : t ≤ 9223372036854775807) (w : World) : Calls Try.prog 62 #[.int .i64 f, .int .i64 t] w fun e w' => e = .returned (.int .i64 (mid f t)) ∧ w = w' := by
  obtain ⟨d0, d1⟩ := dif_bd f t
  go_enter Try.func62, Try.ntmps62
  go_wp2_with (first | (go_at_call 87; (first | refine (diff_w _ _ (by omega) (by omega) (by omega) (by omega) _).mono ?_); rintro e w' ⟨rfl, rfl⟩) | (go_at_call 48; (first | refine (turn_w _ _ (by omega) (by omega) (by omega) (by omega) _).mono ?_); rintro e w' ⟨rfl, rfl⟩))
  go_ret
  exact ⟨rfl, rfl⟩
theorem half_odd (d : Int) (h0 : d < 0) (h1 : d % 2 = 1) : d.tdiv 2 = d / 2 + 1 ∧ d.tmod 2 = -1 := by
  have a := Int.neg_tdiv (-d) 2
  have b := Int.neg_tmod (-d) 2
  rw [Int.neg_neg] at a b
  have e1 : (-d).tdiv 2 = (-d) / 2 := Int.tdiv_eq_ediv_of_nonneg (by omega)
  have e2 : (-d).tmod 2 = (-d) % 2 := Int.tmod_eq_emod_of_nonneg (by omega)
  constructor <;> omega
theorem half_even (d : Int) (h0 : d < 0) (h1 : d % 2 = 0) : d.tdiv 2 = d / 2 ∧ d.tmod 2 = 0 := by
  have a := Int.neg_tdiv (-d) 2
  have b := Int.neg_tmod (-d) 2
  rw [Int.neg_neg] at a b
  have e1 : (-d).tdiv 2 = (-d) / 2 := Int.tdiv_eq_ediv_of_nonneg (by omega)
  have e2 : (-d).tmod 2 = (-d) % 2 := Int.tmod_eq_emod_of_nonneg (by omega)
  constructor <;> omega
theorem ref_middle_w (f t : Int) (f_0 : -9223372036854775808 ≤ f) (f_1 : f ≤ 9223372036854775807) (t_0 : -9223372036854775808 ≤ t) (t_1 : t ≤ 9223372036854775807) (w : World) : Calls Try.prog 63 #[.int .i64 f, .int .i64 t] w fun e w' => e = .returned (.int .i64 (mid f t)) ∧ w = w' := by
  obtain ⟨d0, d1⟩ := dif_bd f t
  obtain ⟨d, hd⟩ : ∃ d, dif f t = d := ⟨_, rfl⟩
  have E : Hid (mid f t = trn f (d / 2)) := Lib.hid (by unfold mid; rw [hd])
  rw [E.out]
  rw [hd] at d0 d1
  have HD := Lib.hid hd
  clear hd
  by_cases c : 0 ≤ d
  · go_enter Try.func63, Try.ntmps63
    go_wp2_with (first | (go_at_call 88; refine (ref_diff_w _ _ (by omega) (by omega) (by omega) (by omega) _).mono ?_; rw [HD.out]; rintro e w' ⟨rfl, rfl⟩) | (go_at_call 86; (first | refine (ref_turn_w _ _ (by omega) (by omega) (by omega) (by omega) _).mono ?_); rintro e w' ⟨rfl, rfl⟩))
    go_ret
    first | exact ⟨rfl, rfl⟩ | (refine ⟨reti (congrArg (trn f) ?_), rfl⟩; omega)
  by_cases m : d % 2 = 0
  · obtain ⟨q1, q2⟩ := half_even d (by omega) m
    have n1 : -64800000 ≤ d / 2 := by omega
    have n2 : d / 2 ≤ 64800000 := by omega
    clear m
    go_enter Try.func63, Try.ntmps63
    go_wp2_with (first | (go_at_call 88; refine (ref_diff_w _ _ (by omega) (by omega) (by omega) (by omega) _).mono ?_; rw [HD.out]; rintro e w' ⟨rfl, rfl⟩) | (go_at_call 86; (first | refine (ref_turn_w _ _ (by omega) (by omega) (by omega) (by omega) _).mono ?_); rintro e w' ⟨rfl, rfl⟩))
    go_ret
    first | exact ⟨rfl, rfl⟩ | (refine ⟨reti (congrArg (trn f) ?_), rfl⟩; omega)
  · obtain ⟨q1, q2⟩ := half_odd d (by omega) (by omega)
    have n1 : -64800000 ≤ d / 2 := by omega
    have n2 : d / 2 ≤ 64800000 := by omega
    clear m
    go_enter Try.func63, Try.ntmps63
    go_wp2_with (first | (go_at_call 88; refine (ref_diff_w _ _ (by omega) (by omega) (by omega) (by omega) _).mono ?_; rw [HD.out]; rintro e w' ⟨rfl, rfl⟩) | (go_at_call 86; (first | refine (ref_turn_w _ _ (by omega) (by omega) (by omega) (by omega) _).mono ?_); rintro e w' ⟨rfl, rfl⟩))
    go_ret
    first | exact ⟨rfl, rfl⟩ | (refine ⟨reti (congrArg (trn f) ?_), rfl⟩; omega)
end Go.Proofs.Ytokgmhicindibaa
