/-
  Own contracts: package lateral and the document's answers of layer 50: bank commands.
-/
import Derived.Test.YtfcbncccnpoimaaRefb
import Derived.WalkKit
import Derived.ProofKit
import Derived.OpenShut
import Derived.WalkLawsBesides
import Derived.WalkSpells
import Derived.Lib.Hide
import Derived.Deep.DeepCutAuto
import Derived.Deep.CutBlock
import Derived.Deep.QuietTactic
import Derived.BigQuiet
import Derived.Handy
namespace Go.Proofs.Ytfcbncccnpoimaa
open Go.ChangeShapes Go.WideShapes Go.ChangeAt Go.RowKit
set_option linter.unusedVariables false
set_option linter.unusedSimpArgs false

def cmdI (o t n l : Int) : Int :=
  clampI (clampI n (-3000) 3000 + (-(clampI o (-12000) 12000) * 1350 - clampI t (-64800000) 64800000).tdiv 7200) (-(clampI l 0 3000)) (clampI l 0 3000)
theorem cmdI_neg (o t n l : Int) : cmdI (-o) (-t) (-n) l = -cmdI o t n l := by
  unfold cmdI
  have b := clampI_bd l 0 3000 (by omega)
  rw [clampI_neg o 12000 (by omega), clampI_neg t 64800000 (by omega), clampI_neg n 3000 (by omega)]
  generalize clampI o (-12000) 12000 = a
  generalize clampI t (-64800000) 64800000 = c
  generalize clampI n (-3000) 3000 = d
  generalize clampI l 0 3000 = m at *
  have e : (- -a * 1350 - -c) = -(-a * 1350 - c) := by omega
  rw [e, Int.neg_tdiv, ← clampI_neg _ m b.1]
  congr 1; omega
theorem tdiv_mono (a b : Int) (h : a ≤ b) : a.tdiv 7200 ≤ b.tdiv 7200 := by
  rw [tdiv_eq_if, tdiv_eq_if]; split <;> split <;> omega
theorem cmdI_mono (o o' t t' n l : Int) (ho : o ≤ o') (ht : t ≤ t') : cmdI o' t' n l ≤ cmdI o t n l := by
  unfold cmdI
  have b := clampI_bd l 0 3000 (by omega)
  have h1 := clampI_mono o o' (-12000) 12000 (by omega) ho
  have h2 := clampI_mono t t' (-64800000) 64800000 (by omega) ht
  refine clampI_mono _ _ _ _ (by omega) ?_
  have := tdiv_mono (-(clampI o' (-12000) 12000) * 1350 - clampI t' (-64800000) 64800000) (-(clampI o (-12000) 12000) * 1350 - clampI t (-64800000) 64800000) (by omega)
  omega
theorem cmdI_bd (o t n l : Int) : -(clampI l 0 3000) ≤ cmdI o t n l ∧ cmdI o t n l ≤ clampI l 0 3000 := by
  have b := clampI_bd l 0 3000 (by omega)
  exact clampI_bd _ _ _ (by omega)

theorem clampI_vars (o t n l : Int) : ∃ a c d m k : Int, clampI o (-12000) 12000 = a ∧ clampI t (-64800000) 64800000 = c ∧ clampI n (-3000) 3000 = d ∧ clampI l 0 3000 = m ∧ (-a * 1350 - c).tdiv 7200 = k ∧ cmdI o t n l = clampI (d + k) (-m) m ∧ -12000 ≤ a ∧ a ≤ 12000 ∧ -64800000 ≤ c ∧ c ≤ 64800000 ∧ -3000 ≤ d ∧ d ≤ 3000 ∧ 0 ≤ m ∧ m ≤ 3000 ∧ -20000 ≤ k ∧ k ≤ 20000 := by
  have h1 := clampI_bd o (-12000) 12000 (by omega)
  have h2 := clampI_bd t (-64800000) 64800000 (by omega)
  have h3 := clampI_bd n (-3000) 3000 (by omega)
  have h4 := clampI_bd l 0 3000 (by omega)
  refine ⟨_, _, _, _, _, rfl, rfl, rfl, rfl, rfl, rfl, h1.1, h1.2, h2.1, h2.2, h3.1, h3.2, h4.1, h4.2, ?_, ?_⟩ <;> rw [tdiv_eq_if] <;> split <;> omega
theorem command_w (o t n l : Int) (o_0 : -9223372036854775808 ≤ o) (o_1 : o ≤ 9223372036854775807) (t_0 : -9223372036854775808 ≤ t) (t_1 : t ≤ 9223372036854775807) (n_0 : -9223372036854775808 ≤ n) (n_1 : n ≤ 9223372036854775807) (l_0 : -9223372036854775808 ≤ l) (l_1 : l ≤ 9223372036854775807) (w : World) :
    Calls Try.prog 9 #[.int .i64 o, .int .i64 t, .int .i64 n, .int .i64 l] w fun e w' => e = .returned (.int .i64 (cmdI o t n l)) ∧ w = w' := by
  obtain ⟨a, c, d, m, k, e1, e2, e3, e4, e5, e6, h1, h2, h3, h4, h5, h6, h7, h8, h9, h10⟩ := clampI_vars o t n l
  have E := Lib.hid e6
  clear e6
  go_enter Try.func9, Try.ntmps9
  go_wp2_with (go_at_call 13; refine (clamp_w _ _ _  _).mono ?_; rintro e w' ⟨rfl, rfl⟩)
  go_ret
  refine ⟨?_, rfl⟩
  rw [E.out]; rfl
theorem ref_command_w (o t n l : Int) (o_0 : -9223372036854775808 ≤ o) (o_1 : o ≤ 9223372036854775807) (t_0 : -9223372036854775808 ≤ t) (t_1 : t ≤ 9223372036854775807) (n_0 : -9223372036854775808 ≤ n) (n_1 : n ≤ 9223372036854775807) (l_0 : -9223372036854775808 ≤ l) (l_1 : l ≤ 9223372036854775807) (w : World) :
    Calls Try.prog 10 #[.int .i64 o, .int .i64 t, .int .i64 n, .int .i64 l] w fun e w' => e = .returned (.int .i64 (cmdI o t n l)) ∧ w = w' := by
  obtain ⟨a, c, d, m, k, e1, e2, e3, e4, e5, e6, h1, h2, h3, h4, h5, h6, h7, h8, h9, h10⟩ := clampI_vars o t n l
  have E := Lib.hid e6
  clear e6
  go_enter Try.func10, Try.ntmps10
  go_wp2_with (go_at_call 14; refine (ref_clamp_w _ _ _  _).mono ?_; rintro e w' ⟨rfl, rfl⟩)
  go_ret
  refine ⟨?_, rfl⟩
  rw [E.out]; rfl
def limI (last want rate : Int) : Int := clampI want (sat (last - if rate < 0 then 0 else rate)) (sat (last + if rate < 0 then 0 else rate))
theorem sat_bd (x : Int) : -9223372036854775808 ≤ sat x ∧ sat x ≤ 9223372036854775807 := by unfold sat; split <;> (try split) <;> omega
theorem limit_w (a b r : Int) (a_0 : -9223372036854775808 ≤ a) (a_1 : a ≤ 9223372036854775807) (b_0 : -9223372036854775808 ≤ b) (b_1 : b ≤ 9223372036854775807) (r_0 : -9223372036854775808 ≤ r) (r_1 : r ≤ 9223372036854775807) (w : World) :
    Calls Try.prog 11 #[.int .i64 a, .int .i64 b, .int .i64 r] w fun e w' => e = .returned (.int .i64 (limI a b r)) ∧ w = w' := by
  have E : Hid (limI a b r = clampI b (sat (a - if r < 0 then 0 else r)) (sat (a + if r < 0 then 0 else r))) := rfl
  by_cases h : r < 0
  · rw [if_pos h] at E
    go_enter Try.func11, Try.ntmps11
    go_wp2_with (first | (go_at_call 16; refine (add_w _ _ (by omega) (by omega) (by omega) (by omega) _).mono ?_; rintro e w' ⟨rfl, rfl⟩) | (go_at_call 15; refine (sub_w _ _ (by omega) (by omega) (by omega) (by omega) _).mono ?_; rintro e w' ⟨rfl, rfl⟩) | (go_at_call 13; refine (clamp_w _ _ _  _).mono ?_; rintro e w' ⟨rfl, rfl⟩))
    go_ret
    refine ⟨?_, rfl⟩
    rw [E.out]; first | rfl | (simp only [Int.sub_zero, Int.add_zero]; rfl)
  · rw [if_neg h] at E
    go_enter Try.func11, Try.ntmps11
    go_wp2_with (first | (go_at_call 16; refine (add_w _ _ (by omega) (by omega) (by omega) (by omega) _).mono ?_; rintro e w' ⟨rfl, rfl⟩) | (go_at_call 15; refine (sub_w _ _ (by omega) (by omega) (by omega) (by omega) _).mono ?_; rintro e w' ⟨rfl, rfl⟩) | (go_at_call 13; refine (clamp_w _ _ _  _).mono ?_; rintro e w' ⟨rfl, rfl⟩))
    go_ret
    refine ⟨?_, rfl⟩
    rw [E.out]; rfl
theorem ref_limit_w (a b r : Int) (a_0 : -9223372036854775808 ≤ a) (a_1 : a ≤ 9223372036854775807) (b_0 : -9223372036854775808 ≤ b) (b_1 : b ≤ 9223372036854775807) (r_0 : -9223372036854775808 ≤ r) (r_1 : r ≤ 9223372036854775807) (w : World) :
    Calls Try.prog 12 #[.int .i64 a, .int .i64 b, .int .i64 r] w fun e w' => e = .returned (.int .i64 (limI a b r)) ∧ w = w' := by
  have E : Hid (limI a b r = clampI b (sat (a - if r < 0 then 0 else r)) (sat (a + if r < 0 then 0 else r))) := rfl
  by_cases h : r < 0
  · rw [if_pos h] at E
    go_enter Try.func12, Try.ntmps12
    go_wp2_with (first | (go_at_call 18; refine (ref_add_w _ _ (by omega) (by omega) (by omega) (by omega) _).mono ?_; rintro e w' ⟨rfl, rfl⟩) | (go_at_call 17; refine (ref_sub_w _ _ (by omega) (by omega) (by omega) (by omega) _).mono ?_; rintro e w' ⟨rfl, rfl⟩) | (go_at_call 14; refine (ref_clamp_w _ _ _  _).mono ?_; rintro e w' ⟨rfl, rfl⟩))
    go_ret
    refine ⟨?_, rfl⟩
    rw [E.out]; first | rfl | (simp only [Int.sub_zero, Int.add_zero]; rfl)
  · rw [if_neg h] at E
    go_enter Try.func12, Try.ntmps12
    go_wp2_with (first | (go_at_call 18; refine (ref_add_w _ _ (by omega) (by omega) (by omega) (by omega) _).mono ?_; rintro e w' ⟨rfl, rfl⟩) | (go_at_call 17; refine (ref_sub_w _ _ (by omega) (by omega) (by omega) (by omega) _).mono ?_; rintro e w' ⟨rfl, rfl⟩) | (go_at_call 14; refine (ref_clamp_w _ _ _  _).mono ?_; rintro e w' ⟨rfl, rfl⟩))
    go_ret
    refine ⟨?_, rfl⟩
    rw [E.out]; rfl
theorem awake_w (w : World) : Calls Try.prog 8 #[] w fun e w' => e = .returned (.bool true) ∧ w = w' := by
  have v1 : cmdI 6000 0 0 2500 = -1125 := by decide +kernel
  have v2 : cmdI 0 3600000 0 2500 = -500 := by decide +kernel
  have v3 : cmdI 0 0 1800 2500 = 1800 := by decide +kernel
  have v4 : cmdI (-60000) 0 0 2500 = 2250 := by decide +kernel
  have v5 : limI 0 1000 300 = 300 := by decide +kernel
  go_enter Try.func8, Try.ntmps8
  go_wp2_with (first | (go_at_call 9; refine (command_w _ _ _ _ (by omega) (by omega) (by omega) (by omega) (by omega) (by omega) (by omega) (by omega) _).mono ?_; rintro e w' ⟨rfl, rfl⟩) | (go_at_call 11; refine (limit_w _ _ _ (by omega) (by omega) (by omega) (by omega) (by omega) (by omega) _).mono ?_; rintro e w' ⟨rfl, rfl⟩))
  go_ret
  exact ⟨rfl, rfl⟩
theorem limI_ok (a b r : Int) (a_0 : -9223372036854775808 ≤ a) (a_1 : a ≤ 9223372036854775807) (b_0 : -9223372036854775808 ≤ b) (b_1 : b ≤ 9223372036854775807) (r_0 : -9223372036854775808 ≤ r) (r_1 : r ≤ 9223372036854775807) :
    (b ≤ a → b ≤ limI a b r ∧ limI a b r ≤ a) ∧ (a ≤ b → a ≤ limI a b r ∧ limI a b r ≤ b) ∧ (-1099511627776 ≤ a → a ≤ 1099511627776 → 0 ≤ r → r ≤ 1099511627776 → limI a b r - a ≤ r ∧ a - limI a b r ≤ r) ∧ -9223372036854775808 ≤ limI a b r ∧ limI a b r ≤ 9223372036854775807 := by
  have h1 : ∀ q, 0 ≤ q → sat (a - q) ≤ a ∧ a ≤ sat (a + q) := by
    intro q hq; constructor <;> unfold sat <;> split <;> (try split) <;> omega
  have e : ∃ q, 0 ≤ q ∧ (0 ≤ r → q = r) ∧ limI a b r = clampI b (sat (a - q)) (sat (a + q)) := by
    by_cases h : r < 0
    · exact ⟨0, by omega, by omega, by unfold limI; rw [if_pos h]⟩
    · exact ⟨r, by omega, fun _ => rfl, by unfold limI; rw [if_neg h]⟩
  obtain ⟨q, q0, q1, e⟩ := e
  have h2 := h1 q q0
  have b1 := sat_bd (a - q)
  have b2 := sat_bd (a + q)
  have b3 := clampI_bd b (sat (a - q)) (sat (a + q)) (by omega)
  rw [e]
  refine ⟨fun g => ?_, fun g => ?_, fun g0 g1 g2 g3 => ?_, by omega, by omega⟩
  · unfold clampI; split <;> (try split) <;> omega
  · unfold clampI; split <;> (try split) <;> omega
  · have q2 := q1 g2
    have s1 : sat (a - q) = a - q := by unfold sat; rw [if_neg (by omega), if_neg (by omega)]
    have s2 : sat (a + q) = a + q := by unfold sat; rw [if_neg (by omega), if_neg (by omega)]
    omega
theorem commands_w (o t n l : Int) (o_0 : -9223372036854775808 ≤ o) (o_1 : o ≤ 9223372036854775807) (t_0 : -9223372036854775808 ≤ t) (t_1 : t ≤ 9223372036854775807) (n_0 : -9223372036854775808 ≤ n) (n_1 : n ≤ 9223372036854775807) (l_0 : -9223372036854775808 ≤ l) (l_1 : l ≤ 9223372036854775807) (w : World) :
    Calls Try.prog 3 #[.int .i64 o, .int .i64 t, .agg #[.int .i64 n, .int .i64 l]] w fun e w' => e = .returned (.bool true) ∧ Kept w w' := by
  go_enter Try.func3, Try.ntmps3
  go_wp2
  go_quiet (first | (go_at_call 8; first | exact quiet_eq (awake_w   _) | exact quiet_eq_add (awake_w   _)) | (go_at_call 9; first | exact quiet_eq (command_w _ _ _ _ (by omega) (by omega) (by omega) (by omega) (by omega) (by omega) (by omega) (by omega) _) | exact quiet_eq_add (command_w _ _ _ _ (by omega) (by omega) (by omega) (by omega) (by omega) (by omega) (by omega) (by omega) _)) | (go_at_call 10; first | exact quiet_eq (ref_command_w _ _ _ _ (by omega) (by omega) (by omega) (by omega) (by omega) (by omega) (by omega) (by omega) _) | exact quiet_eq_add (ref_command_w _ _ _ _ (by omega) (by omega) (by omega) (by omega) (by omega) (by omega) (by omega) (by omega) _)))
  go_wp2
  all_goals go_ret
  all_goals refine ⟨?_, (by repeat (first | exact Kept.refl _ | assumption | refine Kept.drewN ?_ _ | refine Kept.drew ?_ | refine Kept.alloc ?_ _ | refine Kept.trans ?_ (by assumption) | refine Kept.dr ?_ (by assumption)))⟩
  all_goals first | rfl | (show Ending.returned (.bool (decide _)) = _; rw [decide_eq_true (by omega)]) | (show Ending.returned (.bool (decide _)) = _; rw [decide_eq_true (cmdI_mono _ _ _ _ _ _ (by omega) (by omega))])
theorem bounds_w (o t n l : Int) (o_0 : -9223372036854775808 ≤ o) (o_1 : o ≤ 9223372036854775807) (t_0 : -9223372036854775808 ≤ t) (t_1 : t ≤ 9223372036854775807) (n_0 : -9223372036854775808 ≤ n) (n_1 : n ≤ 9223372036854775807) (l_0 : -9223372036854775808 ≤ l) (l_1 : l ≤ 9223372036854775807) (w : World) :
    Calls Try.prog 5 #[.int .i64 o, .int .i64 t, .agg #[.int .i64 n, .int .i64 l]] w fun e w' => e = .returned (.bool true) ∧ Kept w w' := by
  have b := cmdI_bd o t n l
  have c1 : (l < 0 → clampI l 0 3000 = 0) ∧ (0 ≤ l → clampI l 0 3000 ≤ l) ∧ 0 ≤ clampI l 0 3000 ∧ clampI l 0 3000 ≤ 3000 := by
    unfold clampI; split <;> (try split) <;> omega
  obtain ⟨m, hm⟩ : ∃ m, clampI l 0 3000 = m := ⟨_, rfl⟩
  rw [hm] at b c1
  obtain ⟨c1, c2, c3, c4⟩ := c1
  obtain ⟨b1, b2⟩ := b
  clear hm
  go_enter Try.func5, Try.ntmps5
  go_wp2_with (first | (go_at_call 8; refine (awake_w _).mono ?_; rintro e w' ⟨rfl, rfl⟩) | (go_at_call 9; refine (command_w _ _ _ _ (by omega) (by omega) (by omega) (by omega) (by omega) (by omega) (by omega) (by omega) _).mono ?_; rintro e w' ⟨rfl, rfl⟩) | (go_at_call 10; refine (ref_command_w _ _ _ _ (by omega) (by omega) (by omega) (by omega) (by omega) (by omega) (by omega) (by omega) _).mono ?_; rintro e w' ⟨rfl, rfl⟩) | (go_at_call 11; refine (limit_w _ _ _ (by omega) (by omega) (by omega) (by omega) (by omega) (by omega) _).mono ?_; rintro e w' ⟨rfl, rfl⟩) | (go_at_call 12; refine (ref_limit_w _ _ _ (by omega) (by omega) (by omega) (by omega) (by omega) (by omega) _).mono ?_; rintro e w' ⟨rfl, rfl⟩))
  all_goals go_ret
  all_goals refine ⟨?_, (by repeat (first | exact Kept.refl _ | assumption | refine Kept.drewN ?_ _ | refine Kept.drew ?_ | refine Kept.alloc ?_ _ | refine Kept.trans ?_ (by assumption) | refine Kept.dr ?_ (by assumption)))⟩
  all_goals first | rfl | (show Ending.returned (.bool (decide _)) = _; rw [decide_eq_true (by omega)]) | (show Ending.returned (.bool (decide _)) = _; rw [decide_eq_true (cmdI_mono _ _ _ _ _ _ (by omega) (by omega))])
theorem mirrors_w (o t n l : Int) (o_0 : -9223372036854775808 ≤ o) (o_1 : o ≤ 9223372036854775807) (t_0 : -9223372036854775808 ≤ t) (t_1 : t ≤ 9223372036854775807) (n_0 : -9223372036854775808 ≤ n) (n_1 : n ≤ 9223372036854775807) (l_0 : -9223372036854775808 ≤ l) (l_1 : l ≤ 9223372036854775807) (w : World) :
    Calls Try.prog 6 #[.int .i64 o, .int .i64 t, .agg #[.int .i64 n, .int .i64 l]] w fun e w' => e = .returned (.bool true) ∧ Kept w w' := by
  have e := cmdI_neg o t n l
  have b := cmdI_bd o t n l
  have b3 := clampI_bd l 0 3000 (by omega)
  have b4 : -3000 ≤ cmdI o t n l ∧ cmdI o t n l ≤ 3000 := by omega
  clear b b3
  by_cases m1 : o = -9223372036854775808
  · subst m1
    go_enter Try.func6, Try.ntmps6
    go_wp2_with (first | (go_at_call 8; refine (awake_w _).mono ?_; rintro e w' ⟨rfl, rfl⟩) | (go_at_call 9; refine (command_w _ _ _ _ (by omega) (by omega) (by omega) (by omega) (by omega) (by omega) (by omega) (by omega) _).mono ?_; rintro e w' ⟨rfl, rfl⟩) | (go_at_call 10; refine (ref_command_w _ _ _ _ (by omega) (by omega) (by omega) (by omega) (by omega) (by omega) (by omega) (by omega) _).mono ?_; rintro e w' ⟨rfl, rfl⟩) | (go_at_call 11; refine (limit_w _ _ _ (by omega) (by omega) (by omega) (by omega) (by omega) (by omega) _).mono ?_; rintro e w' ⟨rfl, rfl⟩) | (go_at_call 12; refine (ref_limit_w _ _ _ (by omega) (by omega) (by omega) (by omega) (by omega) (by omega) _).mono ?_; rintro e w' ⟨rfl, rfl⟩))
    all_goals go_ret
    all_goals exact ⟨rfl, (by repeat (first | exact Kept.refl _ | assumption | refine Kept.drewN ?_ _ | refine Kept.drew ?_ | refine Kept.alloc ?_ _ | refine Kept.trans ?_ (by assumption) | refine Kept.dr ?_ (by assumption)))⟩
  by_cases m2 : t = -9223372036854775808
  · subst m2
    have g1 : (o == -9223372036854775808) = false := by rw [beq_eq_false_iff_ne]; exact m1
    go_enter Try.func6, Try.ntmps6
    go_wp2_with (first | (go_at_call 8; refine (awake_w _).mono ?_; rintro e w' ⟨rfl, rfl⟩) | (go_at_call 9; refine (command_w _ _ _ _ (by omega) (by omega) (by omega) (by omega) (by omega) (by omega) (by omega) (by omega) _).mono ?_; rintro e w' ⟨rfl, rfl⟩) | (go_at_call 10; refine (ref_command_w _ _ _ _ (by omega) (by omega) (by omega) (by omega) (by omega) (by omega) (by omega) (by omega) _).mono ?_; rintro e w' ⟨rfl, rfl⟩) | (go_at_call 11; refine (limit_w _ _ _ (by omega) (by omega) (by omega) (by omega) (by omega) (by omega) _).mono ?_; rintro e w' ⟨rfl, rfl⟩) | (go_at_call 12; refine (ref_limit_w _ _ _ (by omega) (by omega) (by omega) (by omega) (by omega) (by omega) _).mono ?_; rintro e w' ⟨rfl, rfl⟩))
    all_goals go_ret
    all_goals exact ⟨rfl, (by repeat (first | exact Kept.refl _ | assumption | refine Kept.drewN ?_ _ | refine Kept.drew ?_ | refine Kept.alloc ?_ _ | refine Kept.trans ?_ (by assumption) | refine Kept.dr ?_ (by assumption)))⟩
  by_cases m3 : n = -9223372036854775808
  · subst m3
    have g1 : (o == -9223372036854775808) = false := by rw [beq_eq_false_iff_ne]; exact m1
    have g2 : (t == -9223372036854775808) = false := by rw [beq_eq_false_iff_ne]; exact m2
    go_enter Try.func6, Try.ntmps6
    go_wp2_with (first | (go_at_call 8; refine (awake_w _).mono ?_; rintro e w' ⟨rfl, rfl⟩) | (go_at_call 9; refine (command_w _ _ _ _ (by omega) (by omega) (by omega) (by omega) (by omega) (by omega) (by omega) (by omega) _).mono ?_; rintro e w' ⟨rfl, rfl⟩) | (go_at_call 10; refine (ref_command_w _ _ _ _ (by omega) (by omega) (by omega) (by omega) (by omega) (by omega) (by omega) (by omega) _).mono ?_; rintro e w' ⟨rfl, rfl⟩) | (go_at_call 11; refine (limit_w _ _ _ (by omega) (by omega) (by omega) (by omega) (by omega) (by omega) _).mono ?_; rintro e w' ⟨rfl, rfl⟩) | (go_at_call 12; refine (ref_limit_w _ _ _ (by omega) (by omega) (by omega) (by omega) (by omega) (by omega) _).mono ?_; rintro e w' ⟨rfl, rfl⟩))
    all_goals go_ret
    all_goals exact ⟨rfl, (by repeat (first | exact Kept.refl _ | assumption | refine Kept.drewN ?_ _ | refine Kept.drew ?_ | refine Kept.alloc ?_ _ | refine Kept.trans ?_ (by assumption) | refine Kept.dr ?_ (by assumption)))⟩
  have g1 : (o == -9223372036854775808) = false := by rw [beq_eq_false_iff_ne]; exact m1
  have g2 : (t == -9223372036854775808) = false := by rw [beq_eq_false_iff_ne]; exact m2
  have g3 : (n == -9223372036854775808) = false := by rw [beq_eq_false_iff_ne]; exact m3
  have i1 : -9223372036854775807 ≤ o := by omega
  have i2 : -9223372036854775807 ≤ t := by omega
  have i3 : -9223372036854775807 ≤ n := by omega
  clear m1 m2 m3
  go_enter Try.func6, Try.ntmps6
  go_wp2_with (first | (go_at_call 8; refine (awake_w _).mono ?_; rintro e w' ⟨rfl, rfl⟩) | (go_at_call 9; refine (command_w _ _ _ _ (by omega) (by omega) (by omega) (by omega) (by omega) (by omega) (by omega) (by omega) _).mono ?_; rintro e w' ⟨rfl, rfl⟩) | (go_at_call 10; refine (ref_command_w _ _ _ _ (by omega) (by omega) (by omega) (by omega) (by omega) (by omega) (by omega) (by omega) _).mono ?_; rintro e w' ⟨rfl, rfl⟩) | (go_at_call 11; refine (limit_w _ _ _ (by omega) (by omega) (by omega) (by omega) (by omega) (by omega) _).mono ?_; rintro e w' ⟨rfl, rfl⟩) | (go_at_call 12; refine (ref_limit_w _ _ _ (by omega) (by omega) (by omega) (by omega) (by omega) (by omega) _).mono ?_; rintro e w' ⟨rfl, rfl⟩))
  go_quiet (first | (go_at_call 8; first | exact quiet_eq (awake_w   _) | exact quiet_eq_add (awake_w   _)) | (go_at_call 9; first | exact quiet_eq (command_w _ _ _ _ (by omega) (by omega) (by omega) (by omega) (by omega) (by omega) (by omega) (by omega) _) | exact quiet_eq_add (command_w _ _ _ _ (by omega) (by omega) (by omega) (by omega) (by omega) (by omega) (by omega) (by omega) _)) | (go_at_call 10; first | exact quiet_eq (ref_command_w _ _ _ _ (by omega) (by omega) (by omega) (by omega) (by omega) (by omega) (by omega) (by omega) _) | exact quiet_eq_add (ref_command_w _ _ _ _ (by omega) (by omega) (by omega) (by omega) (by omega) (by omega) (by omega) (by omega) _)))
  go_wp2
  all_goals go_ret
  all_goals refine ⟨?_, (by repeat (first | exact Kept.refl _ | assumption | refine Kept.drewN ?_ _ | refine Kept.drew ?_ | refine Kept.alloc ?_ _ | refine Kept.trans ?_ (by assumption) | refine Kept.dr ?_ (by assumption)))⟩
  all_goals first | rfl | (show Ending.returned (.bool (decide _)) = _; rw [decide_eq_true (by omega)]) | (show Ending.returned (.bool (decide _)) = _; rw [decide_eq_true (cmdI_mono _ _ _ _ _ _ (by omega) (by omega))])
theorem rises_w (a0 a1 b0 b1 n l : Int) (a0_0 : -9223372036854775808 ≤ a0) (a0_1 : a0 ≤ 9223372036854775807) (a1_0 : -9223372036854775808 ≤ a1) (a1_1 : a1 ≤ 9223372036854775807) (b0_0 : -9223372036854775808 ≤ b0) (b0_1 : b0 ≤ 9223372036854775807) (b1_0 : -9223372036854775808 ≤ b1) (b1_1 : b1 ≤ 9223372036854775807) (n_0 : -9223372036854775808 ≤ n) (n_1 : n ≤ 9223372036854775807) (l_0 : -9223372036854775808 ≤ l) (l_1 : l ≤ 9223372036854775807) (w : World) :
    Calls Try.prog 7 #[.agg #[.int .i64 a0, .int .i64 a1], .agg #[.int .i64 b0, .int .i64 b1], .agg #[.int .i64 n, .int .i64 l]] w fun e w' => e = .returned (.bool true) ∧ Kept w w' := by
  go_enter Try.func7, Try.ntmps7
  go_wp2_with (first | (go_at_call 8; refine (awake_w _).mono ?_; rintro e w' ⟨rfl, rfl⟩) | (go_at_call 9; refine (command_w _ _ _ _ (by omega) (by omega) (by omega) (by omega) (by omega) (by omega) (by omega) (by omega) _).mono ?_; rintro e w' ⟨rfl, rfl⟩) | (go_at_call 10; refine (ref_command_w _ _ _ _ (by omega) (by omega) (by omega) (by omega) (by omega) (by omega) (by omega) (by omega) _).mono ?_; rintro e w' ⟨rfl, rfl⟩) | (go_at_call 11; refine (limit_w _ _ _ (by omega) (by omega) (by omega) (by omega) (by omega) (by omega) _).mono ?_; rintro e w' ⟨rfl, rfl⟩) | (go_at_call 12; refine (ref_limit_w _ _ _ (by omega) (by omega) (by omega) (by omega) (by omega) (by omega) _).mono ?_; rintro e w' ⟨rfl, rfl⟩))
  all_goals go_ret
  all_goals refine ⟨?_, (by repeat (first | exact Kept.refl _ | assumption | refine Kept.drewN ?_ _ | refine Kept.drew ?_ | refine Kept.alloc ?_ _ | refine Kept.trans ?_ (by assumption) | refine Kept.dr ?_ (by assumption)))⟩
  all_goals first | rfl | (show Ending.returned (.bool (decide _)) = _; rw [decide_eq_true (by omega)]) | (show Ending.returned (.bool (decide _)) = _; rw [decide_eq_true (cmdI_mono _ _ _ _ _ _ (by omega) (by omega))])
theorem limits_w (a b r : Int) (a_0 : -9223372036854775808 ≤ a) (a_1 : a ≤ 9223372036854775807) (b_0 : -9223372036854775808 ≤ b) (b_1 : b ≤ 9223372036854775807) (r_0 : -9223372036854775808 ≤ r) (r_1 : r ≤ 9223372036854775807) (w : World) :
    Calls Try.prog 4 #[.int .i64 a, .int .i64 b, .int .i64 r] w fun e w' => e = .returned (.bool true) ∧ w = w' := by
  have ok := limI_ok a b r a_0 a_1 b_0 b_1 r_0 r_1
  obtain ⟨k1, k2, k3, k4, k5⟩ := ok
  obtain ⟨x, hx⟩ : ∃ x, limI a b r = x := ⟨_, rfl⟩
  rw [hx] at k1 k2 k3 k4 k5
  go_enter Try.func4, Try.ntmps4
  go_wp2_with (first | (go_at_call 8; refine (awake_w _).mono ?_; rintro e w' ⟨rfl, rfl⟩) | (go_at_call 9; refine (command_w _ _ _ _ (by omega) (by omega) (by omega) (by omega) (by omega) (by omega) (by omega) (by omega) _).mono ?_; rintro e w' ⟨rfl, rfl⟩) | (go_at_call 10; refine (ref_command_w _ _ _ _ (by omega) (by omega) (by omega) (by omega) (by omega) (by omega) (by omega) (by omega) _).mono ?_; rintro e w' ⟨rfl, rfl⟩) | (go_at_call 11; refine (limit_w _ _ _ (by omega) (by omega) (by omega) (by omega) (by omega) (by omega) _).mono ?_; rintro e w' ⟨rfl, rfl⟩) | (go_at_call 12; refine (ref_limit_w _ _ _ (by omega) (by omega) (by omega) (by omega) (by omega) (by omega) _).mono ?_; rintro e w' ⟨rfl, rfl⟩))
  
  all_goals go_ret
  all_goals refine ⟨?_, rfl⟩
  all_goals first | rfl | (show Ending.returned (.bool (decide _)) = _; rw [decide_eq_true (by omega)])
end Go.Proofs.Ytfcbncccnpoimaa
