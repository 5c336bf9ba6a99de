/-
  Own contracts over the landed program: package fixed.
-/
import Derived.Test.YtfcbncccnpoimaaBits
import Derived.WalkKit
import Derived.ProofKit
import Derived.OpenShut
import Derived.WalkLawsBesides
import Derived.WalkSpells
import Derived.Lib.Hide
import Derived.Deep.DeepCutAuto
import Derived.Deep.CutBlock
import Derived.Deep.QuietTactic
import Derived.BigQuiet
import Derived.Handy
namespace Go.Proofs.Ytfcbncccnpoimaa
open Go.ChangeShapes Go.WideShapes Go.ChangeAt Go.RowKit
set_option linter.unusedVariables false
set_option linter.unusedSimpArgs false

/-- the sign as the walk writes it -/
theorem neg3_walk (a b c : Int) : neg3 a b c = (!((!(decide (a < 0) == decide (b < 0))) == decide (c < 0))) := by
  unfold neg3; cases decide (a < 0) <;> cases decide (b < 0) <;> cases decide (c < 0) <;> rfl

theorem extreme_w (n : Bool) (w : World) :
    Calls Try.prog 19 #[.bool n] w fun e w' => e = .returned (.int .i64 (if n then -9223372036854775808 else 9223372036854775807)) ∧ w = w' := by
  cases n <;>
  · go_enter Try.func19, Try.ntmps19
    go_wp2
    go_ret
    exact ⟨rfl, rfl⟩
theorem add_w (a b : Int) (a0 : -9223372036854775808 ≤ a) (a1 : a ≤ 9223372036854775807) (b0 : -9223372036854775808 ≤ b) (b1 : b ≤ 9223372036854775807) (w : World) :
    Calls Try.prog 16 #[.int .i64 a, .int .i64 b] w fun e w' => e = .returned (.int .i64 (sat (a + b))) ∧ w = w' := by
  by_cases c1 : b = 0
  · subst c1
    have e : sat (a + 0) = a := by unfold sat; rw [if_neg (by omega), if_neg (by omega)]; omega
    have E := Lib.hid e
    clear e
    go_enter Try.func16, Try.ntmps16
    go_wp2
    go_ret
    refine ⟨?_, rfl⟩
    rw [E.out]; rfl
  · have c1' : (b != 0) = true := by rw [bne_iff_ne]; exact c1
    by_cases c2 : 0 < b
    · have c2' : ¬ b < 0 := by omega
      by_cases c3 : (a + b) ≤ 9223372036854775807
      · have e : sat (a + b) = (a + b) := by unfold sat; rw [if_neg (by omega), if_neg (by omega)]
        have E := Lib.hid e
        clear e c1
        have c4 : a < a + b := by omega
        have c5 : ¬ a + b < a := by omega
        go_enter Try.func16, Try.ntmps16
        go_wp2
        go_ret
        refine ⟨?_, rfl⟩
        rw [E.out]; rfl
      · have e : sat (a + b) = 9223372036854775807 := by unfold sat; rw [if_neg (by omega), if_pos (by omega)]
        have E := Lib.hid e
        clear e c1
        have c4 : wrap64 (a + b) < a := by unfold wrap64; omega
        generalize hs : wrap64 (a + b) = s at c4
        have c5 : ¬ a < s := by omega
        go_enter Try.func16, Try.ntmps16
        go_wp2_with (go_at_call 19; refine (extreme_w _ _).mono ?_; rintro e w' ⟨rfl, rfl⟩)
        go_ret
        refine ⟨?_, rfl⟩
        rw [E.out]; rfl
    · have c2' : b < 0 := by omega
      by_cases c3 : -9223372036854775808 ≤ (a + b)
      · have e : sat (a + b) = (a + b) := by unfold sat; rw [if_neg (by omega), if_neg (by omega)]
        have E := Lib.hid e
        clear e c1
        have c4 : a + b < a := by omega
        have c5 : ¬ a < a + b := by omega
        go_enter Try.func16, Try.ntmps16
        go_wp2
        go_ret
        refine ⟨?_, rfl⟩
        rw [E.out]; rfl
      · have e : sat (a + b) = -9223372036854775808 := by unfold sat; rw [if_pos (by omega)]
        have E := Lib.hid e
        clear e c1
        have c4 : a < wrap64 (a + b) := by unfold wrap64; omega
        generalize hs : wrap64 (a + b) = s at c4
        have c5 : ¬ s < a := by omega
        go_enter Try.func16, Try.ntmps16
        go_wp2_with (go_at_call 19; refine (extreme_w _ _).mono ?_; rintro e w' ⟨rfl, rfl⟩)
        go_ret
        refine ⟨?_, rfl⟩
        rw [E.out]; rfl
theorem sub_w (a b : Int) (a0 : -9223372036854775808 ≤ a) (a1 : a ≤ 9223372036854775807) (b0 : -9223372036854775808 ≤ b) (b1 : b ≤ 9223372036854775807) (w : World) :
    Calls Try.prog 15 #[.int .i64 a, .int .i64 b] w fun e w' => e = .returned (.int .i64 (sat (a - b))) ∧ w = w' := by
  by_cases c1 : b = 0
  · subst c1
    have e : sat (a - 0) = a := by unfold sat; rw [if_neg (by omega), if_neg (by omega)]; omega
    have E := Lib.hid e
    clear e
    go_enter Try.func15, Try.ntmps15
    go_wp2
    go_ret
    refine ⟨?_, rfl⟩
    rw [E.out]; rfl
  · have c1' : (b != 0) = true := by rw [bne_iff_ne]; exact c1
    by_cases c2 : 0 < b
    · have c2' : ¬ b < 0 := by omega
      by_cases c3 : -9223372036854775808 ≤ (a - b)
      · have e : sat (a - b) = (a - b) := by unfold sat; rw [if_neg (by omega), if_neg (by omega)]
        have E := Lib.hid e
        clear e c1
        have c4 : a - b < a := by omega
        have c5 : ¬ a < a - b := by omega
        go_enter Try.func15, Try.ntmps15
        go_wp2
        go_ret
        refine ⟨?_, rfl⟩
        rw [E.out]; rfl
      · have e : sat (a - b) = -9223372036854775808 := by unfold sat; rw [if_pos (by omega)]
        have E := Lib.hid e
        clear e c1
        have c4 : a < wrap64 (a - b) := by unfold wrap64; omega
        generalize hs : wrap64 (a - b) = s at c4
        have c5 : ¬ s < a := by omega
        go_enter Try.func15, Try.ntmps15
        go_wp2_with (go_at_call 19; refine (extreme_w _ _).mono ?_; rintro e w' ⟨rfl, rfl⟩)
        go_ret
        refine ⟨?_, rfl⟩
        rw [E.out]; rfl
    · have c2' : b < 0 := by omega
      by_cases c3 : (a - b) ≤ 9223372036854775807
      · have e : sat (a - b) = (a - b) := by unfold sat; rw [if_neg (by omega), if_neg (by omega)]
        have E := Lib.hid e
        clear e c1
        have c4 : a < a - b := by omega
        have c5 : ¬ a - b < a := by omega
        go_enter Try.func15, Try.ntmps15
        go_wp2
        go_ret
        refine ⟨?_, rfl⟩
        rw [E.out]; rfl
      · have e : sat (a - b) = 9223372036854775807 := by unfold sat; rw [if_neg (by omega), if_pos (by omega)]
        have E := Lib.hid e
        clear e c1
        have c4 : wrap64 (a - b) < a := by unfold wrap64; omega
        generalize hs : wrap64 (a - b) = s at c4
        have c5 : ¬ a < s := by omega
        go_enter Try.func15, Try.ntmps15
        go_wp2_with (go_at_call 19; refine (extreme_w _ _).mono ?_; rintro e w' ⟨rfl, rfl⟩)
        go_ret
        refine ⟨?_, rfl⟩
        rw [E.out]; rfl
theorem clamp_w (x lo hi : Int) (w : World) :
    Calls Try.prog 13 #[.int .i64 x, .int .i64 lo, .int .i64 hi] w fun e w' => e = .returned (.int .i64 (clampI x lo hi)) ∧ w = w' := by
  by_cases c1 : x < lo
  · have e : clampI x lo hi = lo := by unfold clampI; rw [if_pos c1]
    have E := Lib.hid e
    clear e
    go_enter Try.func13, Try.ntmps13
    go_wp2
    go_ret
    refine ⟨?_, rfl⟩
    rw [E.out]; rfl
  · by_cases c2 : hi < x
    · have e : clampI x lo hi = hi := by unfold clampI; rw [if_neg c1, if_pos c2]
      have E := Lib.hid e
      clear e
      go_enter Try.func13, Try.ntmps13
      go_wp2
      go_ret
      refine ⟨?_, rfl⟩
      rw [E.out]; rfl
    · have e : clampI x lo hi = x := by unfold clampI; rw [if_neg c1, if_neg c2]
      have E := Lib.hid e
      clear e
      go_enter Try.func13, Try.ntmps13
      go_wp2
      go_ret
      refine ⟨?_, rfl⟩
      rw [E.out]; rfl
end Go.Proofs.Ytfcbncccnpoimaa
