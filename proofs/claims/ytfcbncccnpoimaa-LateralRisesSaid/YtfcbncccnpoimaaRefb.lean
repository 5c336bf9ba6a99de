/-
  Own contracts: the document's answers of layer 1, the functions.
-/
import Derived.Test.YtfcbncccnpoimaaRefa
import Derived.WalkKit
import Derived.ProofKit
import Derived.OpenShut
import Derived.WalkLawsBesides
import Derived.WalkSpells
import Derived.Lib.Hide
import Derived.Deep.DeepCutAuto
import Derived.Deep.CutBlock
import Derived.Deep.QuietTactic
import Derived.BigQuiet
import Derived.Handy
namespace Go.Proofs.Ytfcbncccnpoimaa
open Go.ChangeShapes Go.WideShapes Go.ChangeAt Go.RowKit
set_option linter.unusedVariables false
set_option linter.unusedSimpArgs false

theorem ref_add_w (a b : Int) (a0 : -9223372036854775808 ≤ a) (a1 : a ≤ 9223372036854775807) (b0 : -9223372036854775808 ≤ b) (b1 : b ≤ 9223372036854775807) (w : World) :
    Calls Try.prog 18 #[.int .i64 a, .int .i64 b] w fun e w' => e = .returned (.int .i64 (sat (a + b))) ∧ w = w' := by
  have hs : wrap64 (IntKind.u64.wrap (IntKind.u64.wrap a + IntKind.u64.wrap b)) = wrap64 (a + b) := by simp only [IntKind.wrap_u64, wrap64]; omega
  by_cases ha : a < 0 <;> by_cases hb : b < 0
  all_goals
    go_enter Try.func18, Try.ntmps18
    go_wp2
    all_goals
      go_ret
      refine ⟨?_, rfl⟩
      show Ending.returned (.int .i64 _) = Ending.returned (.int .i64 _)
      congr 2
      simp only [IntKind.wrap_u64, wrap64, sat] at *
      (repeat' split) <;> omega
theorem ref_sub_w (a b : Int) (a0 : -9223372036854775808 ≤ a) (a1 : a ≤ 9223372036854775807) (b0 : -9223372036854775808 ≤ b) (b1 : b ≤ 9223372036854775807) (w : World) :
    Calls Try.prog 17 #[.int .i64 a, .int .i64 b] w fun e w' => e = .returned (.int .i64 (sat (a - b))) ∧ w = w' := by
  have hs : wrap64 (IntKind.u64.wrap (IntKind.u64.wrap a - IntKind.u64.wrap b)) = wrap64 (a - b) := by simp only [IntKind.wrap_u64, wrap64]; omega
  by_cases ha : a < 0 <;> by_cases hb : b < 0
  all_goals
    go_enter Try.func17, Try.ntmps17
    go_wp2
    all_goals
      go_ret
      refine ⟨?_, rfl⟩
      show Ending.returned (.int .i64 _) = Ending.returned (.int .i64 _)
      congr 2
      simp only [IntKind.wrap_u64, wrap64, sat] at *
      (repeat' split) <;> omega
theorem ref_clamp_w (x lo hi : Int) (w : World) :
    Calls Try.prog 14 #[.int .i64 x, .int .i64 lo, .int .i64 hi] w fun e w' => e = .returned (.int .i64 (clampI x lo hi)) ∧ w = w' := by
  by_cases c1 : x < lo
  · have e : clampI x lo hi = lo := by unfold clampI; rw [if_pos c1]
    have E := Lib.hid e
    clear e
    go_enter Try.func14, Try.ntmps14
    go_wp2
    go_ret
    refine ⟨?_, rfl⟩
    rw [E.out]; rfl
  · by_cases c2 : hi < x
    · have e : clampI x lo hi = hi := by unfold clampI; rw [if_neg c1, if_pos c2]
      have E := Lib.hid e
      clear e
      go_enter Try.func14, Try.ntmps14
      go_wp2
      go_ret
      refine ⟨?_, rfl⟩
      rw [E.out]; rfl
    · have e : clampI x lo hi = x := by unfold clampI; rw [if_neg c1, if_neg c2]
      have E := Lib.hid e
      clear e
      go_enter Try.func14, Try.ntmps14
      go_wp2
      go_ret
      refine ⟨?_, rfl⟩
      rw [E.out]; rfl
end Go.Proofs.Ytfcbncccnpoimaa
