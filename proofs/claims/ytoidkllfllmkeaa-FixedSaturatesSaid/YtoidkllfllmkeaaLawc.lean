/-
  The statements of layer 1 whose arguments are pairs.
-/
import Derived.Test.YtoidkllfllmkeaaLawb
import Derived.WalkKit
import Derived.ProofKit
import Derived.OpenShut
import Derived.WalkLawsBesides
import Derived.WalkSpells
import Derived.Lib.Hide
import Derived.Deep.DeepCutAuto
import Derived.Deep.CutBlock
import Derived.Deep.QuietTactic
import Derived.BigQuiet
import Derived.Handy
namespace Go.Proofs.Ytoidkllfllmkeaa
open Go.ChangeShapes Go.WideShapes Go.ChangeAt Go.RowKit
set_option linter.unusedVariables false
set_option linter.unusedSimpArgs false

theorem saturates_w (a b lo hi : Int) (a0 : -9223372036854775808 ≤ a) (a1 : a ≤ 9223372036854775807) (b0 : -9223372036854775808 ≤ b) (b1 : b ≤ 9223372036854775807) (lo0 : -9223372036854775808 ≤ lo) (lo1 : lo ≤ 9223372036854775807) (hi0 : -9223372036854775808 ≤ hi) (hi1 : hi ≤ 9223372036854775807) (w : World) :
    Calls Try.prog 9 #[.int .i64 a, .int .i64 b, .agg #[.int .i64 lo, .int .i64 hi]] w fun e w' => e = .returned (.bool true) ∧ Kept w w' := by
  go_enter Try.func9, Try.ntmps9
  go_wp2_with (go_at_call 11; refine (awake_w _).mono ?_; rintro e w' ⟨rfl, n, rfl⟩)
  go_quiet (first | (go_at_call 27; first | exact quiet_eq (add_w _ _ (by omega) (by omega) (by omega) (by omega) _) | exact quiet_eq_add (add_w _ _ (by omega) (by omega) (by omega) (by omega) _)) | (go_at_call 28; first | exact quiet_eq (ref_add_w _ _ (by omega) (by omega) (by omega) (by omega) _) | exact quiet_eq_add (ref_add_w _ _ (by omega) (by omega) (by omega) (by omega) _)) | (go_at_call 29; first | exact quiet_eq (sub_w _ _ (by omega) (by omega) (by omega) (by omega) _) | exact quiet_eq_add (sub_w _ _ (by omega) (by omega) (by omega) (by omega) _)) | (go_at_call 30; first | exact quiet_eq (ref_sub_w _ _ (by omega) (by omega) (by omega) (by omega) _) | exact quiet_eq_add (ref_sub_w _ _ (by omega) (by omega) (by omega) (by omega) _)) | (go_at_call 31; first | exact quiet_dr (mul_w _ _ (by omega) (by omega) (by omega) (by omega) _) | exact quiet_dr_add (mul_w _ _ (by omega) (by omega) (by omega) (by omega) _)) | (go_at_call 32; first | exact quiet_eq (ref_mul_w _ _ (by omega) (by omega) (by omega) (by omega) _) | exact quiet_eq_add (ref_mul_w _ _ (by omega) (by omega) (by omega) (by omega) _)) | (go_at_call 33; first | exact quiet_eq (abs_w _ (by omega) (by omega) _) | exact quiet_eq_add (abs_w _ (by omega) (by omega) _)) | (go_at_call 34; first | exact quiet_eq (ref_abs_w _ (by omega) (by omega) _) | exact quiet_eq_add (ref_abs_w _ (by omega) (by omega) _)) | (go_at_call 35; first | exact quiet_eq (clamp_w _ _ _ _) | exact quiet_eq_add (clamp_w _ _ _ _)) | (go_at_call 36; first | exact quiet_eq (ref_clamp_w _ _ _ _) | exact quiet_eq_add (ref_clamp_w _ _ _ _)))
  go_wp2
  go_ret
  exact ⟨rfl, (by repeat (first | exact Kept.refl _ | assumption | refine Kept.drewN ?_ _ | refine Kept.drew ?_ | refine Kept.alloc ?_ _ | refine Kept.trans ?_ (by assumption) | refine Kept.dr ?_ (by assumption)))⟩

theorem fdiv_mono (m n d : Int) (hd : 0 < d) (h : m ≤ n) : m.fdiv d ≤ n.fdiv d := by
  rw [Int.fdiv_eq_ediv_of_nonneg _ (by omega), Int.fdiv_eq_ediv_of_nonneg _ (by omega)]
  exact Int.ediv_le_ediv hd h
theorem rnd_mono (way m n d : Int) (hd : 0 < d) (h : m ≤ n) : rnd way m d ≤ rnd way n d := by
  unfold rnd
  split
  · exact fdiv_mono m n d hd h
  · split
    · have := fdiv_mono (-n) (-m) d hd (by omega); omega
    · exact fdiv_mono _ _ _ (by omega) (by omega)
theorem rnd_down_le (n d : Int) (hd : 0 < d) : rnd 0 n d ≤ rnd 2 n d := by
  have hm := Int.emod_add_mul_ediv n d
  have h1 := Int.emod_nonneg n (show d ≠ 0 by omega)
  have h2 := Int.emod_lt_of_pos n hd
  rw [Int.mul_comm d] at hm
  have p0 := rnd_pos 0 (n / d) (n % d) d (by omega) hd h1 h2
  have p2 := rnd_pos 2 (n / d) (n % d) d (by omega) hd h1 h2
  rw [show n / d * d + n % d = n from by omega] at p0 p2
  have g0 : gr 0 (n % d) d false = false := by unfold gr; split <;> rfl
  rw [g0] at p0
  have hb := gr_bi (gr 2 (n % d) d false)
  have hz : bi false = 0 := rfl
  omega
/-- either an error, or the values in order -/
theorem mq_order (lo hi b c : Int) (h : lo ≤ hi) (hb : 0 ≤ b) (hc : 0 < c) :
    (mqe 0 lo b c = 0 → mqe 0 hi b c = 0 → mqv 0 lo b c ≤ mqv 0 hi b c) ∧ (mqe 2 lo b c = 0 → mqe 2 hi b c = 0 → mqv 2 lo b c ≤ mqv 2 hi b c) ∧ (mqe 0 lo b c = 0 → mqe 2 lo b c = 0 → mqv 0 lo b c ≤ mqv 2 lo b c) := by
  have hp : lo * b ≤ hi * b := Int.mul_le_mul_of_nonneg_right h hb
  refine ⟨fun h1 h2 => ?_, fun h1 h2 => ?_, fun h1 h2 => ?_⟩
  · rcases mq_ok 0 lo b c hc with ⟨_, e1, _⟩ | e
    · rcases mq_ok 0 hi b c hc with ⟨_, e2, _⟩ | e
      · rw [e1, e2]; exact rnd_mono 0 _ _ c hc hp
      · omega
    · omega
  · rcases mq_ok 2 lo b c hc with ⟨_, e1, _⟩ | e
    · rcases mq_ok 2 hi b c hc with ⟨_, e2, _⟩ | e
      · rw [e1, e2]; exact rnd_mono 2 _ _ c hc hp
      · omega
    · omega
  · rcases mq_ok 0 lo b c hc with ⟨_, e1, _⟩ | e
    · rcases mq_ok 2 lo b c hc with ⟨_, e2, _⟩ | e
      · rw [e1, e2]; exact rnd_down_le _ c hc
      · omega
    · omega

set_option maxHeartbeats 4000000 in
theorem order_w (p0 p1 b c : Int) (q0 : -9223372036854775808 ≤ p0) (q1 : p0 ≤ 9223372036854775807) (q2 : -9223372036854775808 ≤ p1) (q3 : p1 ≤ 9223372036854775807) (b0 : -9223372036854775808 ≤ b) (b1 : b ≤ 9223372036854775807) (c0 : -9223372036854775808 ≤ c) (c1 : c ≤ 9223372036854775807) (w : World) :
    Calls Try.prog 8 #[.agg #[.int .i64 p0, .int .i64 p1], .int .i64 b, .int .i64 c] w fun e w' => e = .returned (.bool true) ∧ Kept w w' := by
  obtain ⟨lo, hlo⟩ : ∃ lo, (if p1 < p0 then p1 else p0) = lo := ⟨_, rfl⟩
  obtain ⟨hi, hhi⟩ : ∃ hi, (if p0 < p1 then p1 else p0) = hi := ⟨_, rfl⟩
  have bl : lo ≤ hi ∧ -9223372036854775808 ≤ lo ∧ hi ≤ 9223372036854775807 := by rw [← hlo, ← hhi]; split <;> split <;> omega
  by_cases g1 : b < 0
  · go_enter Try.func8, Try.ntmps8
    go_wp2_with (go_at_call 11; refine (awake_w _).mono ?_; rintro e w' ⟨rfl, n, rfl⟩)
    go_quiet (fail)
    go_wp2
    go_ret
    exact ⟨rfl, (by repeat (first | exact Kept.refl _ | assumption | refine Kept.drewN ?_ _ | refine Kept.drew ?_ | refine Kept.alloc ?_ _ | refine Kept.trans ?_ (by assumption) | refine Kept.dr ?_ (by assumption)))⟩
  by_cases g2 : c ≤ 0
  · go_enter Try.func8, Try.ntmps8
    go_wp2_with (go_at_call 11; refine (awake_w _).mono ?_; rintro e w' ⟨rfl, n, rfl⟩)
    go_quiet (fail)
    go_wp2
    go_ret
    exact ⟨rfl, (by repeat (first | exact Kept.refl _ | assumption | refine Kept.drewN ?_ _ | refine Kept.drew ?_ | refine Kept.alloc ?_ _ | refine Kept.trans ?_ (by assumption) | refine Kept.dr ?_ (by assumption)))⟩
  have ord := mq_order lo hi b c bl.1 (by omega) (by omega)
  have ORD := Lib.hid ord
  clear ord
  have z : ∀ way x, mqe way x b c = 0 ∨ mqe way x b c = 2 := fun way x => by
    rcases mq_ok way x b c (by omega) with ⟨h, _⟩ | h
    · exact Or.inl h
    · exact Or.inr h
  rcases z 0 lo with E | E <;> rcases z 0 hi with F | F <;> rcases z 2 lo with G | G <;> rcases z 2 hi with H | H
  all_goals
    (try have a1 := ORD.out.1 E F)
    (try have a2 := ORD.out.2.1 G H)
    (try have a3 := ORD.out.2.2 E G)
    clear z
    go_enter Try.func8, Try.ntmps8
    go_wp2_with (go_at_call 11; refine (awake_w _).mono ?_; rintro e w' ⟨rfl, n, rfl⟩)
    go_quiet (fail)
    go_wp2_with (first | (go_at_call 21; refine (muldiv_w _ _ _ (by omega) (by omega) (by omega) (by omega) (by omega) (by omega) _).mono ?_; rintro e w' ⟨rfl, hg⟩) | (go_at_call 25; refine (muldivround_w _ _ _ (by omega) (by omega) (by omega) (by omega) (by omega) (by omega) _).mono ?_; rintro e w' ⟨rfl, hg⟩))
    go_ret
    exact ⟨rfl, (by repeat (first | exact Kept.refl _ | assumption | refine Kept.drewN ?_ _ | refine Kept.drew ?_ | refine Kept.alloc ?_ _ | refine Kept.trans ?_ (by assumption) | refine Kept.dr ?_ (by assumption)))⟩
end Go.Proofs.Ytoidkllfllmkeaa
