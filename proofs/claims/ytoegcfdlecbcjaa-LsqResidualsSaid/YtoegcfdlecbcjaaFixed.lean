/-
  Own contracts over the landed program: package fixed.
-/
import Derived.Test.YtoegcfdlecbcjaaBits
import Derived.WalkKit
import Derived.ProofKit
import Derived.OpenShut
import Derived.WalkLawsBesides
import Derived.WalkSpells
import Derived.Lib.Hide
import Derived.Deep.DeepCutAuto
import Derived.Deep.CutBlock
import Derived.Deep.QuietTactic
import Derived.BigQuiet
import Derived.Handy
namespace Go.Proofs.Ytoegcfdlecbcjaa
open Go.ChangeShapes Go.WideShapes Go.ChangeAt Go.RowKit
set_option linter.unusedVariables false
set_option linter.unusedSimpArgs false

/-- the sign as the walk writes it -/
theorem neg3_walk (a b c : Int) : neg3 a b c = (!((!(decide (a < 0) == decide (b < 0))) == decide (c < 0))) := by
  unfold neg3; cases decide (a < 0) <;> cases decide (b < 0) <;> cases decide (c < 0) <;> rfl

theorem extreme_w (n : Bool) (w : World) :
    Calls Try.prog 72 #[.bool n] w fun e w' => e = .returned (.int .i64 (if n then -9223372036854775808 else 9223372036854775807)) ∧ w = w' := by
  cases n <;>
  · go_enter Try.func72, Try.ntmps72
    go_wp2
    go_ret
    exact ⟨rfl, rfl⟩
theorem sub_w (a b : Int) (a0 : -9223372036854775808 ≤ a) (a1 : a ≤ 9223372036854775807) (b0 : -9223372036854775808 ≤ b) (b1 : b ≤ 9223372036854775807) (w : World) :
    Calls Try.prog 65 #[.int .i64 a, .int .i64 b] w fun e w' => e = .returned (.int .i64 (sat (a - b))) ∧ w = w' := by
  by_cases c1 : b = 0
  · subst c1
    have e : sat (a - 0) = a := by unfold sat; rw [if_neg (by omega), if_neg (by omega)]; omega
    have E := Lib.hid e
    clear e
    go_enter Try.func65, Try.ntmps65
    go_wp2
    go_ret
    refine ⟨?_, rfl⟩
    rw [E.out]; rfl
  · have c1' : (b != 0) = true := by rw [bne_iff_ne]; exact c1
    by_cases c2 : 0 < b
    · have c2' : ¬ b < 0 := by omega
      by_cases c3 : -9223372036854775808 ≤ (a - b)
      · have e : sat (a - b) = (a - b) := by unfold sat; rw [if_neg (by omega), if_neg (by omega)]
        have E := Lib.hid e
        clear e c1
        have c4 : a - b < a := by omega
        have c5 : ¬ a < a - b := by omega
        go_enter Try.func65, Try.ntmps65
        go_wp2
        go_ret
        refine ⟨?_, rfl⟩
        rw [E.out]; rfl
      · have e : sat (a - b) = -9223372036854775808 := by unfold sat; rw [if_pos (by omega)]
        have E := Lib.hid e
        clear e c1
        have c4 : a < wrap64 (a - b) := by unfold wrap64; omega
        generalize hs : wrap64 (a - b) = s at c4
        have c5 : ¬ s < a := by omega
        go_enter Try.func65, Try.ntmps65
        go_wp2_with (go_at_call 72; refine (extreme_w _ _).mono ?_; rintro e w' ⟨rfl, rfl⟩)
        go_ret
        refine ⟨?_, rfl⟩
        rw [E.out]; rfl
    · have c2' : b < 0 := by omega
      by_cases c3 : (a - b) ≤ 9223372036854775807
      · have e : sat (a - b) = (a - b) := by unfold sat; rw [if_neg (by omega), if_neg (by omega)]
        have E := Lib.hid e
        clear e c1
        have c4 : a < a - b := by omega
        have c5 : ¬ a - b < a := by omega
        go_enter Try.func65, Try.ntmps65
        go_wp2
        go_ret
        refine ⟨?_, rfl⟩
        rw [E.out]; rfl
      · have e : sat (a - b) = 9223372036854775807 := by unfold sat; rw [if_neg (by omega), if_pos (by omega)]
        have E := Lib.hid e
        clear e c1
        have c4 : wrap64 (a - b) < a := by unfold wrap64; omega
        generalize hs : wrap64 (a - b) = s at c4
        have c5 : ¬ a < s := by omega
        go_enter Try.func65, Try.ntmps65
        go_wp2_with (go_at_call 72; refine (extreme_w _ _).mono ?_; rintro e w' ⟨rfl, rfl⟩)
        go_ret
        refine ⟨?_, rfl⟩
        rw [E.out]; rfl
theorem abs_w (a : Int) (a0 : -9223372036854775808 ≤ a) (a1 : a ≤ 9223372036854775807) (w : World) :
    Calls Try.prog 46 #[.int .i64 a] w fun e w' => e = .returned (.int .i64 (sat a.natAbs)) ∧ w = w' := by
  by_cases c1 : a < 0
  · have e : sat (a.natAbs : Int) = sat (-a) := by congr 1; omega
    have E := Lib.hid e
    clear e
    go_enter Try.func46, Try.ntmps46
    go_wp2_with fail
    refine (sub_w 0 a (by omega) (by omega) (by omega) (by omega) _).mono ?_
    rintro e w1 ⟨rfl, rfl⟩
    go_wp2_with fail
    go_ret
    refine ⟨?_, rfl⟩
    rw [E.out]; rfl
  · have e : sat (a.natAbs : Int) = a := by unfold sat; rw [if_neg (by omega), if_neg (by omega)]; omega
    have E := Lib.hid e
    clear e
    go_enter Try.func46, Try.ntmps46
    go_wp2
    go_ret
    refine ⟨?_, rfl⟩
    rw [E.out]; rfl
end Go.Proofs.Ytoegcfdlecbcjaa
