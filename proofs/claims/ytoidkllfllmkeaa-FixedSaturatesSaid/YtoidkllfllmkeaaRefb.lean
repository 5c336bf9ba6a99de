/-
  Own contracts: the document's answers of layer 1, the functions.
-/
import Derived.Test.YtoidkllfllmkeaaRefa
import Derived.WalkKit
import Derived.ProofKit
import Derived.OpenShut
import Derived.WalkLawsBesides
import Derived.WalkSpells
import Derived.Lib.Hide
import Derived.Deep.DeepCutAuto
import Derived.Deep.CutBlock
import Derived.Deep.QuietTactic
import Derived.BigQuiet
import Derived.Handy
namespace Go.Proofs.Ytoidkllfllmkeaa
open Go.ChangeShapes Go.WideShapes Go.ChangeAt Go.RowKit
set_option linter.unusedVariables false
set_option linter.unusedSimpArgs false

theorem ref_floor_w (a b : Int) (a0 : -9223372036854775808 ≤ a) (a1 : a ≤ 9223372036854775807) (b0 : -9223372036854775808 ≤ b) (b1 : b ≤ 9223372036854775807) (w : World) :
    Calls Try.prog 13 #[.int .i64 a, .int .i64 b] w fun e w' => e = .returned (.tuple #[.int .i64 (mqv 0 a 1 b), .int .i64 (mqe 0 a 1 b)]) ∧ w = w' := by
  go_enter Try.func13, Try.ntmps13
  go_wp2_with fail
  refine (ref_quotient_w a 1 b 0 (by omega) (by omega) (by omega) (by omega) (by omega) (by omega) (by omega) _).mono ?_
  rintro e w1 ⟨rfl, rfl⟩
  go_wp2_with fail
  go_ret2
  exact ⟨rfl, rfl⟩

theorem ref_ceil_w (a b : Int) (a0 : -9223372036854775808 ≤ a) (a1 : a ≤ 9223372036854775807) (b0 : -9223372036854775808 ≤ b) (b1 : b ≤ 9223372036854775807) (w : World) :
    Calls Try.prog 16 #[.int .i64 a, .int .i64 b] w fun e w' => e = .returned (.tuple #[.int .i64 (mqv 1 a 1 b), .int .i64 (mqe 1 a 1 b)]) ∧ w = w' := by
  go_enter Try.func16, Try.ntmps16
  go_wp2_with fail
  refine (ref_quotient_w a 1 b 1 (by omega) (by omega) (by omega) (by omega) (by omega) (by omega) (by omega) _).mono ?_
  rintro e w1 ⟨rfl, rfl⟩
  go_wp2_with fail
  go_ret2
  exact ⟨rfl, rfl⟩

theorem ref_round_w (a b : Int) (a0 : -9223372036854775808 ≤ a) (a1 : a ≤ 9223372036854775807) (b0 : -9223372036854775808 ≤ b) (b1 : b ≤ 9223372036854775807) (w : World) :
    Calls Try.prog 18 #[.int .i64 a, .int .i64 b] w fun e w' => e = .returned (.tuple #[.int .i64 (mqv 2 a 1 b), .int .i64 (mqe 2 a 1 b)]) ∧ w = w' := by
  go_enter Try.func18, Try.ntmps18
  go_wp2_with fail
  refine (ref_quotient_w a 1 b 2 (by omega) (by omega) (by omega) (by omega) (by omega) (by omega) (by omega) _).mono ?_
  rintro e w1 ⟨rfl, rfl⟩
  go_wp2_with fail
  go_ret2
  exact ⟨rfl, rfl⟩

theorem ref_muldiv_w (a b c : Int) (a0 : -9223372036854775808 ≤ a) (a1 : a ≤ 9223372036854775807) (b0 : -9223372036854775808 ≤ b) (b1 : b ≤ 9223372036854775807) (c0 : -9223372036854775808 ≤ c) (c1 : c ≤ 9223372036854775807) (w : World) :
    Calls Try.prog 22 #[.int .i64 a, .int .i64 b, .int .i64 c] w fun e w' => e = .returned (.tuple #[.int .i64 (mqv 0 a b c), .int .i64 (mqe 0 a b c)]) ∧ w = w' := by
  go_enter Try.func22, Try.ntmps22
  go_wp2_with fail
  refine (ref_quotient_w a b c 0 (by omega) (by omega) (by omega) (by omega) (by omega) (by omega) (by omega) _).mono ?_
  rintro e w1 ⟨rfl, rfl⟩
  go_wp2_with fail
  go_ret2
  exact ⟨rfl, rfl⟩

theorem ref_muldivup_w (a b c : Int) (a0 : -9223372036854775808 ≤ a) (a1 : a ≤ 9223372036854775807) (b0 : -9223372036854775808 ≤ b) (b1 : b ≤ 9223372036854775807) (c0 : -9223372036854775808 ≤ c) (c1 : c ≤ 9223372036854775807) (w : World) :
    Calls Try.prog 24 #[.int .i64 a, .int .i64 b, .int .i64 c] w fun e w' => e = .returned (.tuple #[.int .i64 (mqv 1 a b c), .int .i64 (mqe 1 a b c)]) ∧ w = w' := by
  go_enter Try.func24, Try.ntmps24
  go_wp2_with fail
  refine (ref_quotient_w a b c 1 (by omega) (by omega) (by omega) (by omega) (by omega) (by omega) (by omega) _).mono ?_
  rintro e w1 ⟨rfl, rfl⟩
  go_wp2_with fail
  go_ret2
  exact ⟨rfl, rfl⟩

theorem ref_muldivround_w (a b c : Int) (a0 : -9223372036854775808 ≤ a) (a1 : a ≤ 9223372036854775807) (b0 : -9223372036854775808 ≤ b) (b1 : b ≤ 9223372036854775807) (c0 : -9223372036854775808 ≤ c) (c1 : c ≤ 9223372036854775807) (w : World) :
    Calls Try.prog 26 #[.int .i64 a, .int .i64 b, .int .i64 c] w fun e w' => e = .returned (.tuple #[.int .i64 (mqv 2 a b c), .int .i64 (mqe 2 a b c)]) ∧ w = w' := by
  go_enter Try.func26, Try.ntmps26
  go_wp2_with fail
  refine (ref_quotient_w a b c 2 (by omega) (by omega) (by omega) (by omega) (by omega) (by omega) (by omega) _).mono ?_
  rintro e w1 ⟨rfl, rfl⟩
  go_wp2_with fail
  go_ret2
  exact ⟨rfl, rfl⟩

theorem ref_mod_w (a b : Int) (a0 : -9223372036854775808 ≤ a) (a1 : a ≤ 9223372036854775807) (b0 : -9223372036854775808 ≤ b) (b1 : b ≤ 9223372036854775807) (w : World) :
    Calls Try.prog 20 #[.int .i64 a, .int .i64 b] w fun e w' => e = .returned (.tuple #[.int .i64 (modV a b), .int .i64 (modE b)]) ∧ w = w' := by
  by_cases c1 : b < 1
  · rw [show modV a b = 0 from if_pos c1, show modE b = 1 from if_pos c1]
    go_enter Try.func20, Try.ntmps20
    go_wp2
    go_ret2
    exact ⟨rfl, rfl⟩
  · rw [show modV a b = a % b from if_neg c1, show modE b = 0 from if_neg c1]
    by_cases c2 : a.tmod b < 0
    · have ⟨e, h1⟩ := tmod_neg a b (by omega) c2
      have E := Lib.hid e
      clear e
      have e2 : 0 ≤ a % b := Int.emod_nonneg a (by omega)
      go_enter Try.func20, Try.ntmps20
      go_wp2
      go_ret2
      refine ⟨?_, rfl⟩
      rw [← E.out]; rfl
    · have e := tmod_pos a b (by omega) (by omega)
      have h1 := Int.emod_nonneg a (show b ≠ 0 by omega)
      clear c2
      go_enter Try.func20, Try.ntmps20
      go_wp2
      go_ret2
      exact ⟨rfl, rfl⟩

theorem ref_add_w (a b : Int) (a0 : -9223372036854775808 ≤ a) (a1 : a ≤ 9223372036854775807) (b0 : -9223372036854775808 ≤ b) (b1 : b ≤ 9223372036854775807) (w : World) :
    Calls Try.prog 28 #[.int .i64 a, .int .i64 b] w fun e w' => e = .returned (.int .i64 (sat (a + b))) ∧ w = w' := by
  have hs : wrap64 (IntKind.u64.wrap (IntKind.u64.wrap a + IntKind.u64.wrap b)) = wrap64 (a + b) := by simp only [IntKind.wrap_u64, wrap64]; omega
  by_cases ha : a < 0 <;> by_cases hb : b < 0
  all_goals
    go_enter Try.func28, Try.ntmps28
    go_wp2
    all_goals
      go_ret
      refine ⟨?_, rfl⟩
      show Ending.returned (.int .i64 _) = Ending.returned (.int .i64 _)
      congr 2
      simp only [IntKind.wrap_u64, wrap64, sat] at *
      (repeat' split) <;> omega

theorem ref_sub_w (a b : Int) (a0 : -9223372036854775808 ≤ a) (a1 : a ≤ 9223372036854775807) (b0 : -9223372036854775808 ≤ b) (b1 : b ≤ 9223372036854775807) (w : World) :
    Calls Try.prog 30 #[.int .i64 a, .int .i64 b] w fun e w' => e = .returned (.int .i64 (sat (a - b))) ∧ w = w' := by
  have hs : wrap64 (IntKind.u64.wrap (IntKind.u64.wrap a - IntKind.u64.wrap b)) = wrap64 (a - b) := by simp only [IntKind.wrap_u64, wrap64]; omega
  by_cases ha : a < 0 <;> by_cases hb : b < 0
  all_goals
    go_enter Try.func30, Try.ntmps30
    go_wp2
    all_goals
      go_ret
      refine ⟨?_, rfl⟩
      show Ending.returned (.int .i64 _) = Ending.returned (.int .i64 _)
      congr 2
      simp only [IntKind.wrap_u64, wrap64, sat] at *
      (repeat' split) <;> omega

theorem ref_mul_w (a b : Int) (a0 : -9223372036854775808 ≤ a) (a1 : a ≤ 9223372036854775807) (b0 : -9223372036854775808 ≤ b) (b1 : b ≤ 9223372036854775807) (w : World) :
    Calls Try.prog 32 #[.int .i64 a, .int .i64 b] w fun e w' => e = .returned (.int .i64 (sat (a * b))) ∧ w = w' := by
  have e := sat_mul a b
  by_cases c1 : mqe 0 a b 1 = 0
  · rw [if_pos c1] at e
    have E := Lib.hid e
    have c2 : (mqe 0 a b 1 == 0) = true := by rw [beq_iff_eq]; exact c1
    clear e
    go_enter Try.func32, Try.ntmps32
    go_wp2_with fail
    refine (ref_quotient_w a b 1 0 (by omega) (by omega) (by omega) (by omega) (by omega) (by omega) (by omega) _).mono ?_
    rintro e w1 ⟨rfl, rfl⟩
    go_wp2_with fail
    go_ret
    refine ⟨?_, rfl⟩
    rw [E.out]; rfl
  · rw [if_neg c1] at e
    have e' : sat (a * b) = if (a < 0 ↔ b < 0) then 9223372036854775807 else -9223372036854775808 := by rw [e]; by_cases h : (a < 0 ↔ b < 0) <;> simp [h]
    have E := Lib.hid e'
    clear e'
    have c2 : (mqe 0 a b 1 == 0) = false := by rw [beq_eq_false_iff_ne]; exact c1
    clear e c1
    obtain ⟨da, hda⟩ : ∃ d, decide (a < 0) = d := ⟨_, rfl⟩
    obtain ⟨db, hdb⟩ : ∃ d, decide (b < 0) = d := ⟨_, rfl⟩
    cases da <;> cases db
    all_goals
      have ha := hda
      have hb := hdb
      simp only [decide_eq_true_eq, decide_eq_false_iff_not] at ha hb
      go_enter Try.func32, Try.ntmps32
      go_wp2_with fail
      refine (ref_quotient_w a b 1 0 (by omega) (by omega) (by omega) (by omega) (by omega) (by omega) (by omega) _).mono ?_
      rintro e w1 ⟨rfl, rfl⟩
      go_wp2_with fail
      go_ret
      refine ⟨?_, rfl⟩
      rw [E.out]; first | (rw [if_pos (by omega)]; rfl) | (rw [if_neg (by omega)]; rfl)

theorem ref_abs_w (a : Int) (a0 : -9223372036854775808 ≤ a) (a1 : a ≤ 9223372036854775807) (w : World) :
    Calls Try.prog 34 #[.int .i64 a] w fun e w' => e = .returned (.int .i64 (sat a.natAbs)) ∧ w = w' := by
  by_cases c1 : a < 0
  · have e : sat (a.natAbs : Int) = sat (-a) := by congr 1; omega
    have E := Lib.hid e
    clear e
    go_enter Try.func34, Try.ntmps34
    go_wp2_with fail
    refine (ref_sub_w 0 a (by omega) (by omega) (by omega) (by omega) _).mono ?_
    rintro e w1 ⟨rfl, rfl⟩
    go_wp2_with fail
    go_ret
    refine ⟨?_, rfl⟩
    rw [E.out]; rfl
  · have e : sat (a.natAbs : Int) = a := by unfold sat; rw [if_neg (by omega), if_neg (by omega)]; omega
    have E := Lib.hid e
    clear e
    go_enter Try.func34, Try.ntmps34
    go_wp2
    go_ret
    refine ⟨?_, rfl⟩
    rw [E.out]; rfl
theorem ref_clamp_w (x lo hi : Int) (w : World) :
    Calls Try.prog 36 #[.int .i64 x, .int .i64 lo, .int .i64 hi] w fun e w' => e = .returned (.int .i64 (clampI x lo hi)) ∧ w = w' := by
  by_cases c1 : x < lo
  · have e : clampI x lo hi = lo := by unfold clampI; rw [if_pos c1]
    have E := Lib.hid e
    clear e
    go_enter Try.func36, Try.ntmps36
    go_wp2
    go_ret
    refine ⟨?_, rfl⟩
    rw [E.out]; rfl
  · by_cases c2 : hi < x
    · have e : clampI x lo hi = hi := by unfold clampI; rw [if_neg c1, if_pos c2]
      have E := Lib.hid e
      clear e
      go_enter Try.func36, Try.ntmps36
      go_wp2
      go_ret
      refine ⟨?_, rfl⟩
      rw [E.out]; rfl
    · have e : clampI x lo hi = x := by unfold clampI; rw [if_neg c1, if_neg c2]
      have E := Lib.hid e
      clear e
      go_enter Try.func36, Try.ntmps36
      go_wp2
      go_ret
      refine ⟨?_, rfl⟩
      rw [E.out]; rfl

end Go.Proofs.Ytoidkllfllmkeaa
