/-
  Own contracts: package calendar: the texts of dates, times of day and cycles.
-/
import Derived.Test.YtkmpbkojdkoghaaDoorCalt
import Derived.Test.YtkmpbkojdkoghaaDoorCalr
import Derived.Test.YtkmpbkojdkoghaaDoorCalg
import Derived.WalkKit
import Derived.ProofKit
import Derived.OpenShut
import Derived.WalkLawsBesides
import Derived.WalkSpells
import Derived.Lib.Hide
import Derived.Deep.DeepCutAuto
import Derived.Deep.CutBlock
import Derived.Deep.QuietTactic
import Derived.BigQuiet
import Derived.Handy
import Derived.StillTailTactics
import Derived.IntWalk
import Derived.LoopN
import Derived.Deep.RegionHeld3
namespace Go.Proofs.YtkmpbkojdkoghaaDoor
open Go.ChangeShapes Go.WideShapes Go.ChangeAt Go.RowKit
set_option linter.unusedVariables false
set_option linter.unusedSimpArgs false
theorem d2_size (n : Int) : (d2 n).size = 2 := rfl
theorem d4_size (n : Int) : (d4 n).size = 4 := rfl
def dtS (y m d : Int) : ByteArray := d4 y ++ ⟨#[45]⟩ ++ d2 m ++ ⟨#[45]⟩ ++ d2 d
def ckS (h m : Int) : ByteArray := d2 h ++ ⟨#[58]⟩ ++ d2 m
theorem dtS_size (y m d : Int) : (dtS y m d).size = 10 := rfl
theorem ckS_size (h m : Int) : (ckS h m).size = 5 := rfl
theorem digB_d2 (n : Int) (h : 0 ≤ n) : digB (d2 n) = true := by
  have a := dgt_ok (n / 10) (by omega)
  have b := dgt_ok n h
  unfold digB d2
  simp only [List.all_cons, List.all_nil, Bool.and_true, Bool.and_eq_true, decide_eq_true_eq]
  exact ⟨a, b⟩
theorem digB_d4 (n : Int) (h : 0 ≤ n) : digB (d4 n) = true := by
  have a := dgt_ok (n / 10 / 10 / 10) (by omega)
  have b := dgt_ok (n / 10 / 10) (by omega)
  have c := dgt_ok (n / 10) (by omega)
  have d := dgt_ok n h
  unfold digB d4
  simp only [List.all_cons, List.all_nil, Bool.and_true, Bool.and_eq_true, decide_eq_true_eq]
  exact ⟨a, b, c, d⟩
theorem vN_d2 (n : Int) (h : 0 ≤ n) (h1 : n < 100) : vN (d2 n) = n := by
  unfold vN
  rw [if_pos (digB_d2 n h)]
  show numL [dgt (n / 10), dgt n] = n
  rw [numL2, dgt_val _ (by omega), dgt_val _ h]
  omega
theorem vN_d4 (n : Int) (h : 0 ≤ n) (h1 : n < 10000) : vN (d4 n) = n := by
  unfold vN
  rw [if_pos (digB_d4 n h)]
  show numL [dgt (n / 10 / 10 / 10), dgt (n / 10 / 10), dgt (n / 10), dgt n] = n
  rw [numL4, dgt_val _ (by omega), dgt_val _ (by omega), dgt_val _ (by omega), dgt_val _ h]
  omega
theorem IsDate.bd {day y m d : Int} (h : IsDate day y m d) : 2000 ≤ y ∧ y ≤ 2099 ∧ 1 ≤ m ∧ m ≤ 12 ∧ 1 ≤ d ∧ d ≤ 31 := by
  obtain ⟨a, b, c, d1, e, f, g⟩ := h
  refine ⟨a, b, c, d1, e, ?_⟩
  have l1 : lpI y ≤ 1 := by unfold lpI; first | omega | (split <;> omega)
  have : lenI (lpI y) m ≤ 31 := by
    unfold lenI
    split
    · omega
    · split <;> omega
  omega
theorem rdate_y (day y m d : Int) (h : Hid (IsDate day y m d)) : 0 ≤ day ∧ day ≤ 36524 := h.out.rng
set_option maxHeartbeats 1000000 in
set_option maxRecDepth 100000 in
theorem datetext_ok (day y m d : Int) (h : Hid (IsDate day y m d)) (w : World) (hT : Hid (Tab w)) (hP : Hid (P10 w)) : Calls Tryd.prog 23 #[.int .i64 day] w fun e w' => e = .returned (.tuple #[.string (dtS y m d), .int .i64 0]) ∧ Kept w w' := by
  obtain ⟨y0, y1, m0, m1, d0, d1⟩ := h.out.bd
  have z2 := d2_size
  have z4 := d4_size
  have zz : (⟨#[45]⟩ : ByteArray).size = 1 := rfl
  have zy : (⟨#[58]⟩ : ByteArray).size = 1 := rfl
  have hp := hP.out
  go_enter Tryd.func23, Tryd.ntmps23
  go_wp2_with (first | (go_at_call 21; with_reducible refine (date_is _ _ _ _ h _ hT).mono ?_; rintro e w' ⟨rfl, rfl⟩) | (go_at_call 48; (first | (with_reducible refine (dec2 _ (by omega) (by omega) _).mono ?_; rintro e w' ⟨rfl, rfl⟩) | (with_reducible refine (dec4 _ (by omega) (by omega) _ hP).mono ?_; rintro e w' ⟨rfl, hk⟩))))
  all_goals go_ret2
  all_goals exact ⟨rfl, (by repeat (first | with_reducible exact Kept.refl _ | with_reducible assumption | with_reducible refine Kept.drewN ?_ _ | with_reducible refine Kept.drew ?_ | with_reducible refine Kept.trans ?_ (by with_reducible assumption)))⟩
set_option maxHeartbeats 1000000 in
set_option maxRecDepth 100000 in
theorem rdatetext_ok (day y m d : Int) (h : Hid (IsDate day y m d)) (w : World) : Calls Tryd.prog 24 #[.int .i64 day] w fun e w' => e = .returned (.tuple #[.string (dtS y m d), .int .i64 0]) ∧ w = w' := by
  obtain ⟨y0, y1, m0, m1, d0, d1⟩ := h.out.bd
  have z2 := d2_size
  have z4 := d4_size
  have zz : (⟨#[45]⟩ : ByteArray).size = 1 := rfl
  have zy : (⟨#[58]⟩ : ByteArray).size = 1 := rfl
  go_enter Tryd.func24, Tryd.ntmps24
  go_wp2_with (first | (go_at_call 49; with_reducible refine (rdate_is _ _ _ _ h _).mono ?_; rintro e w' ⟨rfl, rfl⟩) | (go_at_call 50; (first | with_reducible refine (rdig2 _ (by omega) (by omega) _).mono ?_ | with_reducible refine (rdig4 _ (by omega) (by omega) _).mono ?_); rintro e w' ⟨rfl, rfl⟩))
  all_goals go_ret2
  all_goals exact ⟨rfl, rfl⟩
set_option maxHeartbeats 1000000 in
set_option maxRecDepth 100000 in
theorem datetext_no (day : Int) (day_0 : -9223372036854775808 ≤ day) (day_1 : day ≤ 9223372036854775807) (h : day < 0 ∨ 36524 < day) (w : World) : Calls Tryd.prog 23 #[.int .i64 day] w fun e w' => e = .returned (.tuple #[.string .empty, .int .i64 2]) ∧ w = w' := by
  go_enter Tryd.func23, Tryd.ntmps23
  go_wp2_with (first | (go_at_call 21; with_reducible refine (date_no _ (by omega) (by omega) (by omega) _).mono ?_; rintro e w' ⟨rfl, rfl⟩))
  all_goals go_ret2
  all_goals exact ⟨rfl, rfl⟩
set_option maxHeartbeats 1000000 in
set_option maxRecDepth 100000 in
theorem rdatetext_no (day : Int) (day_0 : -9223372036854775808 ≤ day) (day_1 : day ≤ 9223372036854775807) (h : day < 0 ∨ 36524 < day) (w : World) : Calls Tryd.prog 24 #[.int .i64 day] w fun e w' => e = .returned (.tuple #[.string .empty, .int .i64 2]) ∧ w = w' := by
  go_enter Tryd.func24, Tryd.ntmps24
  go_wp2_with (first | (go_at_call 49; with_reducible refine (rdate_no _ (by omega) (by omega) (by omega) _).mono ?_; rintro e w' ⟨rfl, rfl⟩))
  all_goals go_ret2
  all_goals exact ⟨rfl, rfl⟩
set_option maxHeartbeats 1000000 in
set_option maxRecDepth 100000 in
theorem clocktext_ok (c : Int) (c0 : 0 ≤ c) (c1 : c < 144000) (w : World) : Calls Tryd.prog 33 #[.int .i64 c] w fun e w' => e = .returned (.tuple #[.string (ckS (c / 6000) (c / 100 % 60)), .int .i64 0]) ∧ w = w' := by
  have z2 := d2_size
  have z4 := d4_size
  have zz : (⟨#[45]⟩ : ByteArray).size = 1 := rfl
  have zy : (⟨#[58]⟩ : ByteArray).size = 1 := rfl
  go_enter Tryd.func33, Tryd.ntmps33
  go_wp2_with (first | (go_at_call 48; with_reducible refine (dec2 _ (by omega) (by omega) _).mono ?_; rintro e w' ⟨rfl, rfl⟩))
  all_goals go_ret2
  all_goals exact ⟨rfl, rfl⟩
set_option maxHeartbeats 1000000 in
set_option maxRecDepth 100000 in
theorem rclocktext_ok (c : Int) (c0 : 0 ≤ c) (c1 : c < 144000) (w : World) : Calls Tryd.prog 34 #[.int .i64 c] w fun e w' => e = .returned (.tuple #[.string (ckS (c / 6000) (c / 100 % 60)), .int .i64 0]) ∧ w = w' := by
  have z2 := d2_size
  have z4 := d4_size
  have zz : (⟨#[45]⟩ : ByteArray).size = 1 := rfl
  have zy : (⟨#[58]⟩ : ByteArray).size = 1 := rfl
  have hm := Lib.hid (show c % 6000 / 100 = c / 100 % 60 by omega)
  go_enter Tryd.func34, Tryd.ntmps34
  go_wp2_with (first | (go_at_call 50; with_reducible refine (rdig2 _ (by omega) (by omega) _).mono ?_; rintro e w' ⟨rfl, rfl⟩))
  all_goals go_ret2
  all_goals exact ⟨by rw [hm.out]; rfl, rfl⟩
set_option maxHeartbeats 1000000 in
set_option maxRecDepth 100000 in
theorem clocktext_no (c : Int) (c0 : -9223372036854775808 ≤ c) (c1 : c ≤ 9223372036854775807) (h : c < 0 ∨ 144000 ≤ c) (w : World) : Calls Tryd.prog 33 #[.int .i64 c] w fun e w' => e = .returned (.tuple #[.string .empty, .int .i64 2]) ∧ w = w' := by
  go_enter Tryd.func33, Tryd.ntmps33
  go_wp2
  all_goals go_ret2
  all_goals exact ⟨rfl, rfl⟩
set_option maxHeartbeats 1000000 in
set_option maxRecDepth 100000 in
theorem rclocktext_no (c : Int) (c0 : -9223372036854775808 ≤ c) (c1 : c ≤ 9223372036854775807) (h : c < 0 ∨ 144000 ≤ c) (w : World) : Calls Tryd.prog 34 #[.int .i64 c] w fun e w' => e = .returned (.tuple #[.string .empty, .int .i64 2]) ∧ w = w' := by
  go_enter Tryd.func34, Tryd.ntmps34
  go_wp2
  all_goals go_ret2
  all_goals exact ⟨rfl, rfl⟩
set_option maxHeartbeats 1000000 in
set_option maxRecDepth 100000 in
theorem cyctext_ok (n k : Int) (h : Hid (okN n)) (hk : Hid (kOf n = k)) (w : World) (hP : Hid (P10 w)) : Calls Tryd.prog 39 #[.int .i64 n] w fun e w' => e = .returned (.tuple #[.string (d4 n), .int .i64 0]) ∧ Kept w w' := by
  obtain ⟨⟨n0, n1⟩, _, _, _⟩ := h.out
  have z2 := d2_size
  have z4 := d4_size
  have zz : (⟨#[45]⟩ : ByteArray).size = 1 := rfl
  have zy : (⟨#[58]⟩ : ByteArray).size = 1 := rfl
  go_enter Tryd.func39, Tryd.ntmps39
  go_wp2_with (first | (go_at_call 56; with_reducible refine (pos_yes _ k h hk _).mono ?_; rintro e w' ⟨rfl, rfl⟩) | (go_at_call 48; (first | (with_reducible refine (dec2 _ (by omega) (by omega) _).mono ?_; rintro e w' ⟨rfl, rfl⟩) | (with_reducible refine (dec4 _ (by omega) (by omega) _ hP).mono ?_; rintro e w' ⟨rfl, hk⟩))))
  all_goals go_ret2
  all_goals exact ⟨rfl, (by repeat (first | with_reducible exact Kept.refl _ | with_reducible assumption | with_reducible refine Kept.drewN ?_ _ | with_reducible refine Kept.drew ?_ | with_reducible refine Kept.trans ?_ (by with_reducible assumption)))⟩
set_option maxHeartbeats 1000000 in
set_option maxRecDepth 100000 in
theorem rcyctext_ok (n k : Int) (h : Hid (okN n)) (hk : Hid (kOf n = k)) (w : World) : Calls Tryd.prog 40 #[.int .i64 n] w fun e w' => e = .returned (.tuple #[.string (d4 n), .int .i64 0]) ∧ w = w' := by
  obtain ⟨⟨n0, n1⟩, _, _, _⟩ := h.out
  have z2 := d2_size
  have z4 := d4_size
  have zz : (⟨#[45]⟩ : ByteArray).size = 1 := rfl
  have zy : (⟨#[58]⟩ : ByteArray).size = 1 := rfl
  go_enter Tryd.func40, Tryd.ntmps40
  go_wp2_with (first | (go_at_call 38; with_reducible refine (rcd_yes _ k h hk _).mono ?_; rintro e w' ⟨rfl, rfl⟩) | (go_at_call 50; with_reducible refine (rdig4 _ (by omega) (by omega) _).mono ?_; rintro e w' ⟨rfl, rfl⟩))
  all_goals go_ret2
  all_goals exact ⟨rfl, rfl⟩
set_option maxHeartbeats 1000000 in
set_option maxRecDepth 100000 in
theorem cyctext_no (n : Int) (n_0 : -9223372036854775808 ≤ n) (n_1 : n ≤ 9223372036854775807) (h : Hid (¬ okN n)) (w : World) : Calls Tryd.prog 39 #[.int .i64 n] w fun e w' => e = .returned (.tuple #[.string .empty, .int .i64 (er n)]) ∧ w = w' := by
  have ne : (er n != 0) = true := by unfold er; split <;> rfl
  obtain ⟨E, hE⟩ : ∃ E, er n = E := ⟨_, rfl⟩
  rw [hE] at ne ⊢
  go_enter Tryd.func39, Tryd.ntmps39
  go_wp2_with (first | (go_at_call 56; with_reducible refine (pos_no n (by omega) (by omega) h _).mono ?_; rintro e w' ⟨rfl, rfl⟩))
  all_goals go_ret2
  all_goals exact ⟨rfl, rfl⟩
set_option maxHeartbeats 1000000 in
set_option maxRecDepth 100000 in
theorem rcyctext_no (n : Int) (n_0 : -9223372036854775808 ≤ n) (n_1 : n ≤ 9223372036854775807) (h : Hid (¬ okN n)) (w : World) : Calls Tryd.prog 40 #[.int .i64 n] w fun e w' => e = .returned (.tuple #[.string .empty, .int .i64 (er n)]) ∧ w = w' := by
  have ne : (er n != 0) = true := by unfold er; split <;> rfl
  obtain ⟨E, hE⟩ : ∃ E, er n = E := ⟨_, rfl⟩
  rw [hE] at ne ⊢
  go_enter Tryd.func40, Tryd.ntmps40
  go_wp2_with (first | (go_at_call 38; with_reducible refine (rcd_no _ (by omega) (by omega) h _).mono ?_; rintro e w' ⟨rfl, rfl⟩))
  all_goals go_ret2
  all_goals exact ⟨rfl, rfl⟩
end Go.Proofs.YtkmpbkojdkoghaaDoor
