/-
  Own contracts: interval: each answer as one function of the arguments.
-/
import Derived.Test.YtinpmooihjdbgaaInte
import Derived.Test.YtinpmooihjdbgaaIntx
import Derived.WalkKit
import Derived.ProofKit
import Derived.OpenShut
import Derived.WalkLawsBesides
import Derived.WalkSpells
import Derived.Lib.Hide
import Derived.Deep.DeepCutAuto
import Derived.Deep.CutBlock
import Derived.Deep.QuietTactic
import Derived.BigQuiet
import Derived.Handy
import Derived.StillTailTactics
import Derived.IntWalk
import Derived.LoopN
import Derived.Deep.RegionHeld3
namespace Go.Proofs.Ytinpmooihjdbgaa
open Go.ChangeShapes Go.WideShapes Go.ChangeAt Go.RowKit
set_option linter.unusedVariables false
set_option linter.unusedSimpArgs false

def vb (a b : Int) : Bool := decide (a ≤ b ∧ -4611686018427387904 ≤ a ∧ b ≤ 4611686018427387904)
def mkl (a b : Int) : Int := if (a ≤ b ∧ -4611686018427387904 ≤ a ∧ b ≤ 4611686018427387904) then a else 0
def mkg (a b : Int) : Int := if (a ≤ b ∧ -4611686018427387904 ≤ a ∧ b ≤ 4611686018427387904) then b else 0
def mke (a b : Int) : Int := if (a ≤ b ∧ -4611686018427387904 ≤ a ∧ b ≤ 4611686018427387904) then 0 else if b < a then 1 else 2
def hb (a b v : Int) : Bool := decide ((a ≤ b ∧ -4611686018427387904 ≤ a ∧ b ≤ 4611686018427387904) ∧ a ≤ v ∧ v ≤ b)
def wd (a b : Int) : Int := if (a ≤ b ∧ -4611686018427387904 ≤ a ∧ b ≤ 4611686018427387904) then b - a else 0
def wi (a b c d : Int) : Bool := decide ((a ≤ b ∧ -4611686018427387904 ≤ a ∧ b ≤ 4611686018427387904) ∧ (c ≤ d ∧ -4611686018427387904 ≤ c ∧ d ≤ 4611686018427387904) ∧ c ≤ a ∧ b ≤ d)
theorem wd_bd (a b : Int) : 0 ≤ wd a b ∧ wd a b ≤ 18446744073709551615 := by unfold wd; split <;> omega
theorem valid_u (a b : Int) (w : World) : Calls Try.prog 16 #[.agg #[.int .i64 a, .int .i64 b]] w fun en w' => en = .returned (.bool (vb a b)) ∧ Kept w w' := by
  by_cases h : (a ≤ b ∧ -4611686018427387904 ≤ a ∧ b ≤ 4611686018427387904)
  · rw [show vb a b = true from decide_eq_true h]; exact valid_ok a b (by omega) (by omega) (by omega) w
  · rw [show vb a b = false from decide_eq_false h]; exact valid_bad a b (by omega) w
theorem make_u (a b : Int) (w : World) : Calls Try.prog 13 #[.int .i64 a, .int .i64 b] w fun en w' => en = .returned (.tuple #[.agg #[.int .i64 (mkl a b), .int .i64 (mkg a b)], .int .i64 (mke a b)]) ∧ Kept w w' := by
  unfold mkl mkg mke
  by_cases h : (a ≤ b ∧ -4611686018427387904 ≤ a ∧ b ≤ 4611686018427387904)
  · rw [if_pos h, if_pos h, if_pos h]; exact make_ok a b (by omega) (by omega) (by omega) w
  · rw [if_neg h, if_neg h, if_neg h]
    by_cases k : b < a
    · rw [if_pos k]; exact make_arg a b (by omega) w
    · rw [if_neg k]; exact make_rng a b (by omega) (by omega) w
theorem has_u (a b v : Int) (w : World) : Calls Try.prog 18 #[.agg #[.int .i64 a, .int .i64 b], .int .i64 v] w fun en w' => en = .returned (.bool (hb a b v)) ∧ Kept w w' := by
  by_cases h : (a ≤ b ∧ -4611686018427387904 ≤ a ∧ b ≤ 4611686018427387904) ∧ a ≤ v ∧ v ≤ b
  · rw [show hb a b v = true from decide_eq_true h]; exact has_yes a b v (by omega) (by omega) (by omega) (by omega) (by omega) w
  · rw [show hb a b v = false from decide_eq_false h]; exact has_no a b v (by omega) w
theorem width_u (a b : Int) (w : World) : Calls Try.prog 22 #[.agg #[.int .i64 a, .int .i64 b]] w fun en w' => en = .returned (.int .u64 (wd a b)) ∧ Kept w w' := by
  unfold wd
  by_cases h : (a ≤ b ∧ -4611686018427387904 ≤ a ∧ b ≤ 4611686018427387904)
  · rw [if_pos h]; exact width_ok a b (by omega) (by omega) (by omega) w
  · rw [if_neg h]; exact width_bad a b (by omega) w
theorem within_u (a b c d : Int) (w : World) : Calls Try.prog 20 #[.agg #[.int .i64 a, .int .i64 b], .agg #[.int .i64 c, .int .i64 d]] w fun en w' => en = .returned (.bool (wi a b c d)) ∧ Kept w w' := by
  by_cases h : (a ≤ b ∧ -4611686018427387904 ≤ a ∧ b ≤ 4611686018427387904) ∧ (c ≤ d ∧ -4611686018427387904 ≤ c ∧ d ≤ 4611686018427387904) ∧ c ≤ a ∧ b ≤ d
  · rw [show wi a b c d = true from decide_eq_true h]; exact iwithin_yes a b c d (by omega) (by omega) (by omega) (by omega) (by omega) (by omega) (by omega) (by omega) w
  · rw [show wi a b c d = false from decide_eq_false h]
    by_cases k : (a ≤ b ∧ -4611686018427387904 ≤ a ∧ b ≤ 4611686018427387904) ∧ (c ≤ d ∧ -4611686018427387904 ≤ c ∧ d ≤ 4611686018427387904)
    · exact iwithin_no a b c d _ _ (by omega) (by omega) (by omega) (by omega) (by omega) (by omega) rfl rfl (by omega) w
    · exact iwithin_arg a b c d (by omega) w
theorem ref_valid_u (a b : Int) (w : World) : Calls Try.prog 17 #[.agg #[.int .i64 a, .int .i64 b]] w fun en w' => en = .returned (.bool (vb a b)) ∧ Kept w w' := by
  by_cases h : (a ≤ b ∧ -4611686018427387904 ≤ a ∧ b ≤ 4611686018427387904)
  · rw [show vb a b = true from decide_eq_true h]; exact ref_valid_ok a b (by omega) (by omega) (by omega) w
  · rw [show vb a b = false from decide_eq_false h]; exact ref_valid_bad a b (by omega) w
theorem ref_make_u (a b : Int) (w : World) : Calls Try.prog 14 #[.int .i64 a, .int .i64 b] w fun en w' => en = .returned (.tuple #[.agg #[.int .i64 (mkl a b), .int .i64 (mkg a b)], .int .i64 (mke a b)]) ∧ Kept w w' := by
  unfold mkl mkg mke
  by_cases h : (a ≤ b ∧ -4611686018427387904 ≤ a ∧ b ≤ 4611686018427387904)
  · rw [if_pos h, if_pos h, if_pos h]; exact ref_make_ok a b (by omega) (by omega) (by omega) w
  · rw [if_neg h, if_neg h, if_neg h]
    by_cases k : b < a
    · rw [if_pos k]; exact ref_make_arg a b (by omega) w
    · rw [if_neg k]; exact ref_make_rng a b (by omega) (by omega) w
theorem ref_has_u (a b v : Int) (w : World) : Calls Try.prog 19 #[.agg #[.int .i64 a, .int .i64 b], .int .i64 v] w fun en w' => en = .returned (.bool (hb a b v)) ∧ Kept w w' := by
  by_cases h : (a ≤ b ∧ -4611686018427387904 ≤ a ∧ b ≤ 4611686018427387904) ∧ a ≤ v ∧ v ≤ b
  · rw [show hb a b v = true from decide_eq_true h]; exact ref_has_yes a b v (by omega) (by omega) (by omega) (by omega) (by omega) w
  · rw [show hb a b v = false from decide_eq_false h]; exact ref_has_no a b v (by omega) w
theorem ref_width_u (a b : Int) (w : World) : Calls Try.prog 23 #[.agg #[.int .i64 a, .int .i64 b]] w fun en w' => en = .returned (.int .u64 (wd a b)) ∧ Kept w w' := by
  unfold wd
  by_cases h : (a ≤ b ∧ -4611686018427387904 ≤ a ∧ b ≤ 4611686018427387904)
  · rw [if_pos h]; exact ref_width_ok a b (by omega) (by omega) (by omega) w
  · rw [if_neg h]; exact ref_width_bad a b (by omega) w
theorem ref_within_u (a b c d : Int) (w : World) : Calls Try.prog 21 #[.agg #[.int .i64 a, .int .i64 b], .agg #[.int .i64 c, .int .i64 d]] w fun en w' => en = .returned (.bool (wi a b c d)) ∧ Kept w w' := by
  by_cases h : (a ≤ b ∧ -4611686018427387904 ≤ a ∧ b ≤ 4611686018427387904) ∧ (c ≤ d ∧ -4611686018427387904 ≤ c ∧ d ≤ 4611686018427387904) ∧ c ≤ a ∧ b ≤ d
  · rw [show wi a b c d = true from decide_eq_true h]; exact ref_iwithin_yes a b c d (by omega) (by omega) (by omega) (by omega) (by omega) (by omega) (by omega) (by omega) w
  · rw [show wi a b c d = false from decide_eq_false h]
    by_cases k : (a ≤ b ∧ -4611686018427387904 ≤ a ∧ b ≤ 4611686018427387904) ∧ (c ≤ d ∧ -4611686018427387904 ≤ c ∧ d ≤ 4611686018427387904)
    · exact ref_iwithin_no a b c d (by omega) (by omega) (by omega) (by omega) (by omega) (by omega) (by omega) w
    · exact ref_iwithin_arg a b c d (by omega) w
theorem same_w (l g e : Int) (w : World) : Calls Try.prog 15 #[.agg #[.int .i64 l, .int .i64 g], .int .i64 e, .agg #[.int .i64 l, .int .i64 g], .int .i64 e] w fun en w' => en = .returned (.bool true) ∧ Kept w w' := by
  go_enter Try.func15, Try.ntmps15
  go_wp2
  all_goals first | (go_ret; refine ⟨?_, (by repeat (first | with_reducible exact Kept.refl _ | with_reducible assumption | with_reducible refine Kept.setCell ?_ (by first | (simp; done) | (simp; omega) | omega) _ | with_reducible refine Kept.alloc ?_ _ | with_reducible refine Kept.drewN ?_ _ | with_reducible refine Kept.drew ?_ | with_reducible refine Kept.trans ?_ (by with_reducible assumption) | with_reducible refine Kept.dr ?_ (by with_reducible assumption)))⟩; first | rfl | (show Ending.returned (.bool (decide _)) = _; rw [decide_eq_true (by omega)]) | (show Ending.returned (.bool (decide _)) = _; rw [decide_eq_false (by omega)]) | (refine retb ?_; simp; done) | (refine retb ?_; simp; omega)) | (exfalso; omega)
end Go.Proofs.Ytinpmooihjdbgaa
