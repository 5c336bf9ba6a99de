/-
  Own contracts: the document's answers of layer 1, the functions.
-/
import Derived.Test.YtfpgdicacjkfoaaGreatDoorRefa
import Derived.WalkKit
import Derived.ProofKit
import Derived.OpenShut
import Derived.WalkLawsBesides
import Derived.WalkSpells
import Derived.Lib.Hide
import Derived.Deep.DeepCutAuto
import Derived.Deep.CutBlock
import Derived.Deep.QuietTactic
import Derived.BigQuiet
import Derived.Handy
namespace Go.Proofs.YtfpgdicacjkfoaaGreatDoor
open Go.ChangeShapes Go.WideShapes Go.ChangeAt Go.RowKit
set_option linter.unusedVariables false
set_option linter.unusedSimpArgs false

theorem ref_sub_w (a b : Int) (a0 : -9223372036854775808 ≤ a) (a1 : a ≤ 9223372036854775807) (b0 : -9223372036854775808 ≤ b) (b1 : b ≤ 9223372036854775807) (w : World) :
    Calls Tryz.prog 64 #[.int .i64 a, .int .i64 b] w fun e w' => e = .returned (.int .i64 (sat (a - b))) ∧ w = w' := by
  have hs : wrap64 (IntKind.u64.wrap (IntKind.u64.wrap a - IntKind.u64.wrap b)) = wrap64 (a - b) := by simp only [IntKind.wrap_u64, wrap64]; omega
  by_cases ha : a < 0 <;> by_cases hb : b < 0
  all_goals
    go_enter Tryz.func64, Tryz.ntmps64
    go_wp2
    all_goals
      go_ret
      refine ⟨?_, rfl⟩
      show Ending.returned (.int .i64 _) = Ending.returned (.int .i64 _)
      congr 2
      simp only [IntKind.wrap_u64, wrap64, sat] at *
      (repeat' split) <;> omega
theorem ref_abs_w (a : Int) (a0 : -9223372036854775808 ≤ a) (a1 : a ≤ 9223372036854775807) (w : World) :
    Calls Tryz.prog 43 #[.int .i64 a] w fun e w' => e = .returned (.int .i64 (sat a.natAbs)) ∧ w = w' := by
  by_cases c1 : a < 0
  · have e : sat (a.natAbs : Int) = sat (-a) := by congr 1; omega
    have E := Lib.hid e
    clear e
    go_enter Tryz.func43, Tryz.ntmps43
    go_wp2_with fail
    refine (ref_sub_w 0 a (by omega) (by omega) (by omega) (by omega) _).mono ?_
    rintro e w1 ⟨rfl, rfl⟩
    go_wp2_with fail
    go_ret
    refine ⟨?_, rfl⟩
    rw [E.out]; rfl
  · have e : sat (a.natAbs : Int) = a := by unfold sat; rw [if_neg (by omega), if_neg (by omega)]; omega
    have E := Lib.hid e
    clear e
    go_enter Tryz.func43, Tryz.ntmps43
    go_wp2
    go_ret
    refine ⟨?_, rfl⟩
    rw [E.out]; rfl
end Go.Proofs.YtfpgdicacjkfoaaGreatDoor
