/-
  The statements of layer 1, those that join results by arithmetic.
-/
import Derived.Test.YtoidkllfllmkeaaLawa
import Derived.WalkKit
import Derived.ProofKit
import Derived.OpenShut
import Derived.WalkLawsBesides
import Derived.WalkSpells
import Derived.Lib.Hide
import Derived.Deep.DeepCutAuto
import Derived.Deep.CutBlock
import Derived.Deep.QuietTactic
import Derived.BigQuiet
import Derived.Handy
namespace Go.Proofs.Ytoidkllfllmkeaa
open Go.ChangeShapes Go.WideShapes Go.ChangeAt Go.RowKit
set_option linter.unusedVariables false
set_option linter.unusedSimpArgs false

theorem rnd_cancel (way a b : Int) (hw : way = 0 ∨ way = 1 ∨ way = 2) (hb : b ≠ 0) : rnd way (a * b) b = a := by
  have key : ∀ c d : Int, 0 < d → rnd way (c * d) d = c := by
    intro c d hd
    have := rnd_pos way c 0 d hw hd (by omega) hd
    rw [Int.add_zero] at this
    rw [this]; simp [gr, bi]
  by_cases h : 0 < b
  · exact key a b h
  · rw [← rnd_flip, ← Int.mul_neg]; exact key a (-b) (by omega)
theorem mq_cancel (way a b : Int) (hw : way = 0 ∨ way = 1 ∨ way = 2) (a0 : -9223372036854775808 ≤ a) (a1 : a ≤ 9223372036854775807) (hb : b ≠ 0) : mqv way a b b = a ∧ mqe way a b b = 0 := by
  unfold mqv mqe; rw [if_neg hb, if_neg hb, rnd_cancel way a b hw hb]
  have : fit64 a = true := by unfold fit64; simp; omega
  rw [this]; simp
theorem mq_cancel' (way a b : Int) (hw : way = 0 ∨ way = 1 ∨ way = 2) (a0 : -9223372036854775808 ≤ a) (a1 : a ≤ 9223372036854775807) (hb : b ≠ 0) : mqv way b a b = a ∧ mqe way b a b = 0 := by
  have h := mq_cancel way a b hw a0 a1 hb
  unfold mqv mqe at h ⊢; rw [Int.mul_comm b a]; exact h
theorem mq_zero (way a b : Int) : mqv way a b 0 = 0 ∧ mqe way a b 0 = 1 := by simp [mqv, mqe]

theorem cancels_w (a b : Int) (a0 : -9223372036854775808 ≤ a) (a1 : a ≤ 9223372036854775807) (b0 : -9223372036854775808 ≤ b) (b1 : b ≤ 9223372036854775807) (w : World) :
    Calls Try.prog 7 #[.int .i64 a, .int .i64 b] w fun e w' => e = .returned (.bool true) ∧ Dr w w' := by
  by_cases hb : b = 0
  · subst hb
    have ⟨x1, x2⟩ := mq_zero 0 a 0
    have ⟨x3, x4⟩ := mq_zero 1 a 0
    have ⟨x5, x6⟩ := mq_zero 2 0 a
    go_enter Try.func7, Try.ntmps7
    go_wp2_with (first | (go_at_call 11; refine (awake_w _).mono ?_; rintro e w' ⟨rfl, hg⟩) | (go_at_call 21; refine (muldiv_w _ _ _ (by omega) (by omega) (by omega) (by omega) (by omega) (by omega) _).mono ?_; rintro e w' ⟨rfl, hg⟩) | (go_at_call 23; refine (muldivup_w _ _ _ (by omega) (by omega) (by omega) (by omega) (by omega) (by omega) _).mono ?_; rintro e w' ⟨rfl, hg⟩) | (go_at_call 25; refine (muldivround_w _ _ _ (by omega) (by omega) (by omega) (by omega) (by omega) (by omega) _).mono ?_; rintro e w' ⟨rfl, hg⟩))
    go_ret
    exact ⟨rfl, (by repeat (first | exact Dr.refl _ | assumption | refine Dr.trans ?_ (by assumption)))⟩
  have hb' : (b == 0) = false := by rw [beq_eq_false_iff_ne]; exact hb
  have ⟨x1, x2⟩ := mq_cancel 0 a b (by omega) a0 a1 hb
  have ⟨x3, x4⟩ := mq_cancel 1 a b (by omega) a0 a1 hb
  have ⟨x5, x6⟩ := mq_cancel' 2 a b (by omega) a0 a1 hb
  clear hb
  go_enter Try.func7, Try.ntmps7
  go_wp2_with (first | (go_at_call 11; refine (awake_w _).mono ?_; rintro e w' ⟨rfl, hg⟩) | (go_at_call 21; refine (muldiv_w _ _ _ (by omega) (by omega) (by omega) (by omega) (by omega) (by omega) _).mono ?_; rintro e w' ⟨rfl, hg⟩) | (go_at_call 23; refine (muldivup_w _ _ _ (by omega) (by omega) (by omega) (by omega) (by omega) (by omega) _).mono ?_; rintro e w' ⟨rfl, hg⟩) | (go_at_call 25; refine (muldivround_w _ _ _ (by omega) (by omega) (by omega) (by omega) (by omega) (by omega) _).mono ?_; rintro e w' ⟨rfl, hg⟩))
  go_ret
  exact ⟨rfl, (by repeat (first | exact Dr.refl _ | assumption | refine Dr.trans ?_ (by assumption)))⟩

theorem near_math (a b : Int) (ha0 : -2305843009213693952 ≤ a) (ha1 : a ≤ 2305843009213693952) (hb0 : -2305843009213693952 ≤ b) (hb1 : b ≤ 2305843009213693952) (hb : b ≠ 0) :
    mqe 2 a 1 b = 0 ∧ mqe 0 (2 * a + b) 1 (2 * b) = 0 ∧ mqe 1 a 1 b = 0 ∧ mqe 0 (-a) 1 b = 0 ∧ mqv 0 (2 * a + b) 1 (2 * b) = mqv 2 a 1 b ∧ mqv 1 a 1 b = -mqv 0 (-a) 1 b ∧ -9223372036854775807 ≤ mqv 0 (-a) 1 b ∧ mqv 0 (-a) 1 b ≤ 9223372036854775807 := by
  have key : ∀ n d : Int, d ≠ 0 → -9223372036854775807 ≤ n → n ≤ 9223372036854775807 → -9223372036854775807 ≤ n.fdiv d ∧ n.fdiv d ≤ 9223372036854775807 := by
    have pos : ∀ n d : Int, 0 < d → -9223372036854775807 ≤ n → n ≤ 9223372036854775807 → -9223372036854775807 ≤ n.fdiv d ∧ n.fdiv d ≤ 9223372036854775807 := by
      intro n d hd h1 h2
      rw [Int.fdiv_eq_ediv_of_nonneg _ (by omega)]
      constructor
      · rw [Int.le_ediv_iff_mul_le hd]
        have := Int.mul_le_mul_of_nonneg_left (show 1 ≤ d by omega) (show (0 : Int) ≤ 9223372036854775807 by omega)
        rw [Int.neg_mul]; omega
      · have h3 : n / d < 9223372036854775808 := by
          rw [Int.ediv_lt_iff_lt_mul hd]
          have := Int.mul_le_mul_of_nonneg_left (show 1 ≤ d by omega) (show (0 : Int) ≤ 9223372036854775808 by omega)
          omega
        omega
    intro n d hd h1 h2
    by_cases h : 0 < d
    · exact pos n d h h1 h2
    · have := pos (-n) (-d) (by omega) (by omega) (by omega)
      rw [Int.neg_fdiv_neg] at this; exact this
  have r1 := key (2 * a + b) (2 * b) (by omega) (by omega) (by omega)
  have r2 := key (-a) b hb (by omega) (by omega)
  have f1 : fit64 (rnd 2 (a * 1) b) = true := by simp only [rnd, fit64, Int.mul_one]; simp; omega
  have f2 : fit64 (rnd 0 ((2 * a + b) * 1) (2 * b)) = true := by simp only [rnd, fit64, Int.mul_one]; simp; omega
  have f3 : fit64 (rnd 1 (a * 1) b) = true := by simp only [rnd, fit64, Int.mul_one]; simp; omega
  have f4 : fit64 (rnd 0 (-a * 1) b) = true := by simp only [rnd, fit64, Int.mul_one]; simp; omega
  unfold mqe mqv
  rw [if_neg hb, if_neg (show 2 * b ≠ 0 by omega), if_neg hb, if_neg hb, if_neg (show 2 * b ≠ 0 by omega), if_neg hb, if_neg hb, if_neg hb, f1, f2, f3, f4]
  simp only [if_true, rnd, Int.mul_one]
  simp; exact r2

theorem nearest_w (a b : Int) (a0 : -9223372036854775808 ≤ a) (a1 : a ≤ 9223372036854775807) (b0 : -9223372036854775808 ≤ b) (b1 : b ≤ 9223372036854775807) (w : World) :
    Calls Try.prog 6 #[.int .i64 a, .int .i64 b] w fun e w' => e = .returned (.bool true) ∧ Dr w w' := by
  have qa : -2305843009213693952 ≤ a.tdiv 4 ∧ a.tdiv 4 ≤ 2305843009213693952 := by rw [tdiv_eq_if]; split <;> omega
  have qb : -2305843009213693952 ≤ b.tdiv 4 ∧ b.tdiv 4 ≤ 2305843009213693952 := by rw [tdiv_eq_if]; split <;> omega
  obtain ⟨p, hp⟩ : ∃ p, a.tdiv 4 = p := ⟨_, rfl⟩
  obtain ⟨q, hq⟩ : ∃ q, b.tdiv 4 = q := ⟨_, rfl⟩
  rw [hp] at qa
  rw [hq] at qb
  by_cases hb : q = 0
  · subst hb
    have ⟨x1, x2⟩ := mq_zero 2 p 1
    have ⟨x3, x4⟩ := mq_zero 0 (2 * p) 1
    have ⟨x5, x6⟩ := mq_zero 1 p 1
    have ⟨x7, x8⟩ := mq_zero 0 (-p) 1
    go_enter Try.func6, Try.ntmps6
    go_wp2_with (first | (go_at_call 11; refine (awake_w _).mono ?_; rintro e w' ⟨rfl, hg⟩) | (go_at_call 17; refine (round_w _ _ (by omega) (by omega) (by omega) (by omega) _).mono ?_; rintro e w' ⟨rfl, hg⟩) | (go_at_call 12; refine (floor_w _ _ (by omega) (by omega) (by omega) (by omega) _).mono ?_; rintro e w' ⟨rfl, hg⟩) | (go_at_call 15; refine (ceil_w _ _ (by omega) (by omega) (by omega) (by omega) _).mono ?_; rintro e w' ⟨rfl, hg⟩))
    go_ret
    exact ⟨rfl, (by repeat (first | exact Dr.refl _ | assumption | refine Dr.trans ?_ (by assumption)))⟩
  have hb' : (q == 0) = false := by rw [beq_eq_false_iff_ne]; exact hb
  have ⟨x1, x2, x3, x4, x5, x6, x7, x8⟩ := near_math p q qa.1 qa.2 qb.1 qb.2 hb
  clear hb
  go_enter Try.func6, Try.ntmps6
  go_wp2_with (first | (go_at_call 11; refine (awake_w _).mono ?_; rintro e w' ⟨rfl, hg⟩) | (go_at_call 17; refine (round_w _ _ (by omega) (by omega) (by omega) (by omega) _).mono ?_; rintro e w' ⟨rfl, hg⟩) | (go_at_call 12; refine (floor_w _ _ (by omega) (by omega) (by omega) (by omega) _).mono ?_; rintro e w' ⟨rfl, hg⟩) | (go_at_call 15; refine (ceil_w _ _ (by omega) (by omega) (by omega) (by omega) _).mono ?_; rintro e w' ⟨rfl, hg⟩))
  go_ret
  exact ⟨rfl, (by repeat (first | exact Dr.refl _ | assumption | refine Dr.trans ?_ (by assumption)))⟩

/-- the words of a product less a product -/
theorem rest_words (a b q c r : Int) (h : a * b - q * c = r) (hr : 0 ≤ r) (hr' : r < 18446744073709551616) :
    IntKind.u64.wrap (IntKind.u64.wrap (IntKind.u64.wrap a * IntKind.u64.wrap b) - IntKind.u64.wrap (IntKind.u64.wrap q * c)) = r := by
  simp only [IntKind.wrap_u64]
  have e1 : (a % 18446744073709551616 * (b % 18446744073709551616)) % 18446744073709551616 = (a * b) % 18446744073709551616 := (Int.mul_emod a b _).symm
  have e2 : (q % 18446744073709551616 * c) % 18446744073709551616 = (q * c) % 18446744073709551616 := by rw [Int.mul_emod, Int.emod_emod_of_dvd _ (Int.dvd_refl _), ← Int.mul_emod]
  rw [e1, e2, ← Int.sub_emod, h]
  omega
theorem mq_ok (way a b c : Int) (hc : 0 < c) : (mqe way a b c = 0 ∧ mqv way a b c = rnd way (a * b) c ∧ fit64 (rnd way (a * b) c) = true) ∨ mqe way a b c = 2 := by
  unfold mqe mqv; simp only [if_neg (show ¬ c = 0 by omega)]
  cases h : fit64 (rnd way (a * b) c) <;> simp
theorem rest_math (a b c : Int) (hc : 0 < c) : ∃ q r : Int, rnd 0 (a * b) c = q ∧ a * b - q * c = r ∧ 0 ≤ r ∧ r < c ∧ (r = 0 → rnd 1 (a * b) c = q) ∧ (r ≠ 0 → rnd 1 (a * b) c = q + 1) := by
  have hm := Int.emod_add_mul_ediv (a * b) c
  have h1 := Int.emod_nonneg (a * b) (show c ≠ 0 by omega)
  have h2 := Int.emod_lt_of_pos (a * b) hc
  rw [Int.mul_comm c] at hm
  have p0 := rnd_pos 0 (a * b / c) (a * b % c) c (by omega) hc h1 h2
  have p1 := rnd_pos 1 (a * b / c) (a * b % c) c (by omega) hc h1 h2
  rw [show a * b / c * c + a * b % c = a * b from by omega] at p0 p1
  have g0 : gr 0 (a * b % c) c false = false := by unfold gr; split <;> rfl
  rw [g0] at p0
  refine ⟨a * b / c, a * b % c, by rw [p0]; exact Int.add_zero _, by omega, h1, h2, fun h => ?_, fun h => ?_⟩
  · rw [p1, h]; exact Int.add_zero _
  · rw [p1]; have : gr 1 (a * b % c) c false = true := by unfold gr; rw [if_neg h]; rfl
    rw [this]; rfl

theorem remainder_w (a b c : Int) (a0 : -9223372036854775808 ≤ a) (a1 : a ≤ 9223372036854775807) (b0 : -9223372036854775808 ≤ b) (b1 : b ≤ 9223372036854775807) (c0 : -9223372036854775808 ≤ c) (c1 : c ≤ 9223372036854775807) (w : World) :
    Calls Try.prog 5 #[.int .i64 a, .int .i64 b, .int .i64 c] w fun e w' => e = .returned (.bool true) ∧ Dr w w' := by
  by_cases hc : c ≤ 0
  · go_enter Try.func5, Try.ntmps5
    go_wp2_with (first | (go_at_call 11; refine (awake_w _).mono ?_; rintro e w' ⟨rfl, hg⟩) | (go_at_call 21; refine (muldiv_w _ _ _ (by omega) (by omega) (by omega) (by omega) (by omega) (by omega) _).mono ?_; rintro e w' ⟨rfl, hg⟩) | (go_at_call 23; refine (muldivup_w _ _ _ (by omega) (by omega) (by omega) (by omega) (by omega) (by omega) _).mono ?_; rintro e w' ⟨rfl, hg⟩))
    go_ret
    exact ⟨rfl, (by repeat (first | exact Dr.refl _ | assumption | refine Dr.trans ?_ (by assumption)))⟩

  have hc0 : 0 < c := by omega
  rcases mq_ok 0 a b c hc0 with ⟨x1, x2, x3⟩ | x1
  rotate_left
  · go_enter Try.func5, Try.ntmps5
    go_wp2_with (first | (go_at_call 11; refine (awake_w _).mono ?_; rintro e w' ⟨rfl, hg⟩) | (go_at_call 21; refine (muldiv_w _ _ _ (by omega) (by omega) (by omega) (by omega) (by omega) (by omega) _).mono ?_; rintro e w' ⟨rfl, hg⟩) | (go_at_call 23; refine (muldivup_w _ _ _ (by omega) (by omega) (by omega) (by omega) (by omega) (by omega) _).mono ?_; rintro e w' ⟨rfl, hg⟩))
    go_ret
    exact ⟨rfl, (by repeat (first | exact Dr.refl _ | assumption | refine Dr.trans ?_ (by assumption)))⟩

  rcases mq_ok 1 a b c hc0 with ⟨y1, y2, y3⟩ | y1
  rotate_left
  · clear x2 x3
    go_enter Try.func5, Try.ntmps5
    go_wp2_with (first | (go_at_call 11; refine (awake_w _).mono ?_; rintro e w' ⟨rfl, hg⟩) | (go_at_call 21; refine (muldiv_w _ _ _ (by omega) (by omega) (by omega) (by omega) (by omega) (by omega) _).mono ?_; rintro e w' ⟨rfl, hg⟩) | (go_at_call 23; refine (muldivup_w _ _ _ (by omega) (by omega) (by omega) (by omega) (by omega) (by omega) _).mono ?_; rintro e w' ⟨rfl, hg⟩))
    go_ret
    exact ⟨rfl, (by repeat (first | exact Dr.refl _ | assumption | refine Dr.trans ?_ (by assumption)))⟩

  obtain ⟨q, r, hq, hr, hr0, hr1, hz, hnz⟩ := rest_math a b c hc0
  rw [hq] at x2 x3
  have bq : -9223372036854775808 ≤ q ∧ q ≤ 9223372036854775807 := by unfold fit64 at x3; simpa using x3
  have hw := rest_words a b q c r hr hr0 (by omega)
  by_cases z : r = 0
  · have y := hz z
    rw [y] at y2
    have hrb : (r == 0) = true := by rw [beq_iff_eq]; exact z
    have hlt : ¬ c ≤ r := by omega
    clear hz hnz hq hr x3 y3 y z
    go_enter Try.func5, Try.ntmps5
    go_wp2_with (first | (go_at_call 11; refine (awake_w _).mono ?_; rintro e w' ⟨rfl, hg⟩) | (go_at_call 21; refine (muldiv_w _ _ _ (by omega) (by omega) (by omega) (by omega) (by omega) (by omega) _).mono ?_; rintro e w' ⟨rfl, hg⟩) | (go_at_call 23; refine (muldivup_w _ _ _ (by omega) (by omega) (by omega) (by omega) (by omega) (by omega) _).mono ?_; rintro e w' ⟨rfl, hg⟩))
    go_ret
    exact ⟨rfl, (by repeat (first | exact Dr.refl _ | assumption | refine Dr.trans ?_ (by assumption)))⟩

  have y := hnz z
  rw [y] at y2 y3
  have bq2 : q + 1 ≤ 9223372036854775807 := by unfold fit64 at y3; simp at y3; omega
  have hrb : (r == 0) = false := by rw [beq_eq_false_iff_ne]; exact z
  have hlt : ¬ c ≤ r := by omega
  clear hz hnz hq hr x3 y3 y z
  go_enter Try.func5, Try.ntmps5
  go_wp2_with (first | (go_at_call 11; refine (awake_w _).mono ?_; rintro e w' ⟨rfl, hg⟩) | (go_at_call 21; refine (muldiv_w _ _ _ (by omega) (by omega) (by omega) (by omega) (by omega) (by omega) _).mono ?_; rintro e w' ⟨rfl, hg⟩) | (go_at_call 23; refine (muldivup_w _ _ _ (by omega) (by omega) (by omega) (by omega) (by omega) (by omega) _).mono ?_; rintro e w' ⟨rfl, hg⟩))
  go_ret
  exact ⟨rfl, (by repeat (first | exact Dr.refl _ | assumption | refine Dr.trans ?_ (by assumption)))⟩

theorem sat_bd (x : Int) : -9223372036854775808 ≤ sat x ∧ sat x ≤ 9223372036854775807 := by unfold sat; split <;> (try split) <;> omega
theorem sat_id (x : Int) (h0 : -9223372036854775808 ≤ x) (h1 : x ≤ 9223372036854775807) : sat x = x := by unfold sat; rw [if_neg (by omega), if_neg (by omega)]

theorem nearer_w (a b : Int) (a0 : -9223372036854775808 ≤ a) (a1 : a ≤ 9223372036854775807) (b0 : -9223372036854775808 ≤ b) (b1 : b ≤ 9223372036854775807) (w : World) :
    Calls Try.prog 10 #[.int .i64 a, .int .i64 b] w fun e w' => e = .returned (.bool true) ∧ Dr w w' := by
  have hab : sat (a + -b) = sat (a - b) := by congr 1
  have sa := sat_id a a0 a1
  have sb := sat_id b b0 b1
  obtain ⟨m, hm⟩ : ∃ m, (b != -9223372036854775808) = m := ⟨_, rfl⟩
  have hmb : m = true → -9223372036854775807 ≤ b := by intro h; rw [h, bne_iff_ne] at hm; omega
  by_cases c1 : 9223372036854775807 ≤ a + b
  · have hs : sat (a + b) = 9223372036854775807 := by unfold sat; rw [if_neg (by omega)]; split <;> omega
    have h2 : 0 < a ∨ 0 < b := by omega
    clear c1
    cases m
    · rcases h2 with h2 | h2
      all_goals
      go_enter Try.func10, Try.ntmps10
      go_wp2_with (first | (go_at_call 11; refine (awake_w _).mono ?_; rintro e w' ⟨rfl, hg⟩) | (go_at_call 27; refine (add_w _ _ (by omega) (by omega) (by omega) (by omega) _).mono ?_; rintro e w' ⟨rfl, rfl⟩) | (go_at_call 29; refine (sub_w _ _ (by omega) (by omega) (by omega) (by omega) _).mono ?_; rintro e w' ⟨rfl, rfl⟩))
      all_goals go_ret
      all_goals exact ⟨rfl, (by repeat (first | exact Dr.refl _ | assumption | refine Dr.trans ?_ (by assumption)))⟩

    · have h3 := hmb rfl
      rcases h2 with h2 | h2
      all_goals
      go_enter Try.func10, Try.ntmps10
      go_wp2_with (first | (go_at_call 11; refine (awake_w _).mono ?_; rintro e w' ⟨rfl, hg⟩) | (go_at_call 27; refine (add_w _ _ (by omega) (by omega) (by omega) (by omega) _).mono ?_; rintro e w' ⟨rfl, rfl⟩) | (go_at_call 29; refine (sub_w _ _ (by omega) (by omega) (by omega) (by omega) _).mono ?_; rintro e w' ⟨rfl, rfl⟩))
      all_goals go_ret
      all_goals exact ⟨rfl, (by repeat (first | exact Dr.refl _ | assumption | refine Dr.trans ?_ (by assumption)))⟩

  by_cases c2 : a + b ≤ -9223372036854775808
  · have hs : sat (a + b) = -9223372036854775808 := by unfold sat; split <;> (try split) <;> omega
    have h2 : a < 0 ∨ b < 0 := by omega
    clear c1 c2
    cases m
    · rcases h2 with h2 | h2
      all_goals
      go_enter Try.func10, Try.ntmps10
      go_wp2_with (first | (go_at_call 11; refine (awake_w _).mono ?_; rintro e w' ⟨rfl, hg⟩) | (go_at_call 27; refine (add_w _ _ (by omega) (by omega) (by omega) (by omega) _).mono ?_; rintro e w' ⟨rfl, rfl⟩) | (go_at_call 29; refine (sub_w _ _ (by omega) (by omega) (by omega) (by omega) _).mono ?_; rintro e w' ⟨rfl, rfl⟩))
      all_goals go_ret
      all_goals exact ⟨rfl, (by repeat (first | exact Dr.refl _ | assumption | refine Dr.trans ?_ (by assumption)))⟩

    · have h3 := hmb rfl
      rcases h2 with h2 | h2
      all_goals
      go_enter Try.func10, Try.ntmps10
      go_wp2_with (first | (go_at_call 11; refine (awake_w _).mono ?_; rintro e w' ⟨rfl, hg⟩) | (go_at_call 27; refine (add_w _ _ (by omega) (by omega) (by omega) (by omega) _).mono ?_; rintro e w' ⟨rfl, rfl⟩) | (go_at_call 29; refine (sub_w _ _ (by omega) (by omega) (by omega) (by omega) _).mono ?_; rintro e w' ⟨rfl, rfl⟩))
      all_goals go_ret
      all_goals exact ⟨rfl, (by repeat (first | exact Dr.refl _ | assumption | refine Dr.trans ?_ (by assumption)))⟩

  have hs : sat (a + b) = a + b := sat_id _ (by omega) (by omega)
  have e1 : sat (a + b - a) = b := by rw [show a + b - a = b from by omega]; exact sb
  have e2 : sat (a + b - b) = a := by rw [show a + b - b = a from by omega]; exact sa
  have h1 : (a + b == 9223372036854775807) = false := by rw [beq_eq_false_iff_ne]; omega
  have h2 : (a + b == -9223372036854775808) = false := by rw [beq_eq_false_iff_ne]; omega
  cases m
  · go_enter Try.func10, Try.ntmps10
    go_wp2_with (first | (go_at_call 11; refine (awake_w _).mono ?_; rintro e w' ⟨rfl, hg⟩) | (go_at_call 27; refine (add_w _ _ (by omega) (by omega) (by omega) (by omega) _).mono ?_; rintro e w' ⟨rfl, rfl⟩) | (go_at_call 29; refine (sub_w _ _ (by omega) (by omega) (by omega) (by omega) _).mono ?_; rintro e w' ⟨rfl, rfl⟩))
    all_goals go_ret
    all_goals exact ⟨rfl, (by repeat (first | exact Dr.refl _ | assumption | refine Dr.trans ?_ (by assumption)))⟩

  have h3 := hmb rfl
  go_enter Try.func10, Try.ntmps10
  go_wp2_with (first | (go_at_call 11; refine (awake_w _).mono ?_; rintro e w' ⟨rfl, hg⟩) | (go_at_call 27; refine (add_w _ _ (by omega) (by omega) (by omega) (by omega) _).mono ?_; rintro e w' ⟨rfl, rfl⟩) | (go_at_call 29; refine (sub_w _ _ (by omega) (by omega) (by omega) (by omega) _).mono ?_; rintro e w' ⟨rfl, rfl⟩))
  all_goals go_ret
  all_goals exact ⟨rfl, (by repeat (first | exact Dr.refl _ | assumption | refine Dr.trans ?_ (by assumption)))⟩
end Go.Proofs.Ytoidkllfllmkeaa
