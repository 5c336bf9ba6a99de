/-
  Own contracts: dates and times of day that are read; the law of layer 5 on strings.
-/
import Derived.Test.YtkmpbkojdkoghaaDoorCalp
import Derived.WalkKit
import Derived.ProofKit
import Derived.OpenShut
import Derived.WalkLawsBesides
import Derived.WalkSpells
import Derived.Lib.Hide
import Derived.Deep.DeepCutAuto
import Derived.Deep.CutBlock
import Derived.Deep.QuietTactic
import Derived.BigQuiet
import Derived.Handy
import Derived.StillTailTactics
import Derived.IntWalk
import Derived.LoopN
import Derived.Deep.RegionHeld3
namespace Go.Proofs.YtkmpbkojdkoghaaDoor
open Go.ChangeShapes Go.WideShapes Go.ChangeAt Go.RowKit
set_option linter.unusedVariables false
set_option linter.unusedSimpArgs false
theorem vN_bd (p : ByteArray) (h : p.size ≤ 4) : 0 ≤ vN p ∧ vN p ≤ 9999 := by
  unfold vN
  by_cases c : digB p = true
  · rw [if_pos c]
    have b := numL_bd p ((digB_iff p).1 c) p.size (Nat.le_refl _) (by omega)
    rw [take_all] at b
    have : (10 : Int) ^ p.size ≤ 10000 := by
      have : ∀ k : Fin 5, (10 : Int) ^ k.val ≤ 10000 := by decide
      exact this ⟨p.size, by omega⟩
    omega
  · rw [if_neg c]; omega
theorem rN_eq (p : ByteArray) (h : digB p = true) : rN p = vN p := by unfold rN vN; rw [if_pos h, if_pos h]
theorem rN_no (p : ByteArray) (h : digB p = false) : rN p = -1 := by unfold rN; rw [h]; rfl
set_option maxHeartbeats 2000000 in
theorem parsedate_size (s : ByteArray) (hm : s.size ≤ 9223372036854775807) (hz : s.size < 10 ∨ 10 < s.size) (w : World) : Calls Tryd.prog 25 #[.string s] w fun e w' => e = .returned (.tuple #[.int .i64 0, .int .i64 4]) ∧ w = w' := by
  have z : (s.size == 10) = false := by simpa using (show ¬ s.size = 10 by omega)
  have z' : (s.size != 10) = true := by simpa using (show ¬ s.size = 10 by omega)
  go_enter Tryd.func25, Tryd.ntmps25
  go_wp2
  all_goals go_ret2
  all_goals exact ⟨rfl, rfl⟩
  
set_option maxHeartbeats 2000000 in
theorem rparsedate_size (s : ByteArray) (hm : s.size ≤ 9223372036854775807) (hz : s.size < 10 ∨ 10 < s.size) (w : World) : Calls Tryd.prog 26 #[.string s] w fun e w' => e = .returned (.tuple #[.int .i64 0, .int .i64 4]) ∧ Dr w w' := by
  have y : ((s.size : Int) == 10) = false := by simpa using (show ¬ (s.size : Int) = 10 by omega)
  have y' : ((s.size : Int) != 10) = true := by simpa using (show ¬ (s.size : Int) = 10 by omega)
  have z : (s.size == 10) = false := by simpa using (show ¬ s.size = 10 by omega)
  have z' : (s.size != 10) = true := by simpa using (show ¬ s.size = 10 by omega)
  go_enter Tryd.func26, Tryd.ntmps26
  go_wp2
  all_goals (try (go_quiet (fail); go_wp2))
  all_goals go_ret2
  all_goals exact ⟨rfl, (by repeat (first | exact Dr.refl _ | refine Dr.drewN ?_ _ | refine Dr.drew ?_))⟩
  
set_option maxHeartbeats 2000000 in
theorem parsedate_mark4 (s : ByteArray) (z : s.size = 10) (h4 : ¬ ((s[4]'(by omega)).toNat : Int) = 45) (w : World) : Calls Tryd.prog 25 #[.string s] w fun e w' => e = .returned (.tuple #[.int .i64 0, .int .i64 4]) ∧ w = w' := by
  obtain ⟨L, hL⟩ : ∃ L : Int, ((s[4]'(by omega)).toNat : Int) = L := ⟨_, rfl⟩
  rw [hL] at h4
  have g1 : (L == 45) = false := by simpa using h4
  have g2 : (L != 45) = true := by simpa using h4
  clear h4
  go_enter Tryd.func25, Tryd.ntmps25
  go_wp2
  all_goals go_ret2
  all_goals exact ⟨rfl, rfl⟩
  
set_option maxHeartbeats 2000000 in
theorem rparsedate_mark4 (s : ByteArray) (z : s.size = 10) (h4 : ¬ ((s[4]'(by omega)).toNat : Int) = 45) (w : World) : Calls Tryd.prog 26 #[.string s] w fun e w' => e = .returned (.tuple #[.int .i64 0, .int .i64 4]) ∧ Dr w w' := by
  obtain ⟨L, hL⟩ : ∃ L : Int, ((s[4]'(by omega)).toNat : Int) = L := ⟨_, rfl⟩
  rw [hL] at h4
  have g1 : (L == 45) = false := by simpa using h4
  have g2 : (L != 45) = true := by simpa using h4
  clear h4
  go_enter Tryd.func26, Tryd.ntmps26
  go_wp2
  all_goals (try (go_quiet ((first | (go_at_call 52; first | exact quiet_eq (rnumber_b (s.extract 0 4) (by rw [ByteArray.size_extract]; omega) _) | exact quiet_eq_add (rnumber_b (s.extract 0 4) (by rw [ByteArray.size_extract]; omega) _)) | (go_at_call 52; first | exact quiet_eq (rnumber_b (s.extract 5 7) (by rw [ByteArray.size_extract]; omega) _) | exact quiet_eq_add (rnumber_b (s.extract 5 7) (by rw [ByteArray.size_extract]; omega) _)) | (go_at_call 52; first | exact quiet_eq (rnumber_b (s.extract 8 10) (by rw [ByteArray.size_extract]; omega) _) | exact quiet_eq_add (rnumber_b (s.extract 8 10) (by rw [ByteArray.size_extract]; omega) _)))); go_wp2))
  all_goals go_ret2
  all_goals exact ⟨rfl, (by repeat (first | exact Dr.refl _ | refine Dr.drewN ?_ _ | refine Dr.drew ?_))⟩
  
set_option maxHeartbeats 2000000 in
theorem parsedate_mark7 (s : ByteArray) (z : s.size = 10) (h4 : ((s[4]'(by omega)).toNat : Int) = 45) (h7 : ¬ ((s[7]'(by omega)).toNat : Int) = 45) (w : World) : Calls Tryd.prog 25 #[.string s] w fun e w' => e = .returned (.tuple #[.int .i64 0, .int .i64 4]) ∧ w = w' := by
  obtain ⟨L, hL⟩ : ∃ L : Int, ((s[7]'(by omega)).toNat : Int) = L := ⟨_, rfl⟩
  rw [hL] at h7
  have g1 : (L == 45) = false := by simpa using h7
  have g2 : (L != 45) = true := by simpa using h7
  clear h7
  go_enter Tryd.func25, Tryd.ntmps25
  go_wp2
  all_goals go_ret2
  all_goals exact ⟨rfl, rfl⟩
  
set_option maxHeartbeats 2000000 in
theorem rparsedate_mark7 (s : ByteArray) (z : s.size = 10) (h4 : ((s[4]'(by omega)).toNat : Int) = 45) (h7 : ¬ ((s[7]'(by omega)).toNat : Int) = 45) (w : World) : Calls Tryd.prog 26 #[.string s] w fun e w' => e = .returned (.tuple #[.int .i64 0, .int .i64 4]) ∧ Dr w w' := by
  obtain ⟨L, hL⟩ : ∃ L : Int, ((s[7]'(by omega)).toNat : Int) = L := ⟨_, rfl⟩
  rw [hL] at h7
  have g1 : (L == 45) = false := by simpa using h7
  have g2 : (L != 45) = true := by simpa using h7
  clear h7
  go_enter Tryd.func26, Tryd.ntmps26
  go_wp2
  all_goals (try (go_quiet ((first | (go_at_call 52; first | exact quiet_eq (rnumber_b (s.extract 0 4) (by rw [ByteArray.size_extract]; omega) _) | exact quiet_eq_add (rnumber_b (s.extract 0 4) (by rw [ByteArray.size_extract]; omega) _)) | (go_at_call 52; first | exact quiet_eq (rnumber_b (s.extract 5 7) (by rw [ByteArray.size_extract]; omega) _) | exact quiet_eq_add (rnumber_b (s.extract 5 7) (by rw [ByteArray.size_extract]; omega) _)) | (go_at_call 52; first | exact quiet_eq (rnumber_b (s.extract 8 10) (by rw [ByteArray.size_extract]; omega) _) | exact quiet_eq_add (rnumber_b (s.extract 8 10) (by rw [ByteArray.size_extract]; omega) _)))); go_wp2))
  all_goals go_ret2
  all_goals exact ⟨rfl, (by repeat (first | exact Dr.refl _ | refine Dr.drewN ?_ _ | refine Dr.drew ?_))⟩
  
set_option maxHeartbeats 2000000 in
theorem parsedate_no0 (s : ByteArray) (z : s.size = 10) (h4 : ((s[4]'(by omega)).toNat : Int) = 45) (h7 : ((s[7]'(by omega)).toNat : Int) = 45) (b0 : digB (s.extract 0 4) = false) (w : World) : Calls Tryd.prog 25 #[.string s] w fun e w' => e = .returned (.tuple #[.int .i64 0, .int .i64 4]) ∧ w = w' := by
  go_enter Tryd.func25, Tryd.ntmps25
  go_wp2_with (first | (go_at_call 51; with_reducible refine (number_b (s.extract 0 4) (by rw [ByteArray.size_extract]; omega) _).mono ?_; rintro e w' ⟨rfl, rfl⟩) | (go_at_call 51; with_reducible refine (number_b (s.extract 5 7) (by rw [ByteArray.size_extract]; omega) _).mono ?_; rintro e w' ⟨rfl, rfl⟩) | (go_at_call 51; with_reducible refine (number_b (s.extract 8 10) (by rw [ByteArray.size_extract]; omega) _).mono ?_; rintro e w' ⟨rfl, rfl⟩))
  all_goals go_ret2
  all_goals exact ⟨rfl, rfl⟩
  
set_option maxHeartbeats 2000000 in
theorem rparsedate_no0 (s : ByteArray) (z : s.size = 10) (h4 : ((s[4]'(by omega)).toNat : Int) = 45) (h7 : ((s[7]'(by omega)).toNat : Int) = 45) (b0 : digB (s.extract 0 4) = false) (w : World) : Calls Tryd.prog 26 #[.string s] w fun e w' => e = .returned (.tuple #[.int .i64 0, .int .i64 4]) ∧ Dr w w' := by
  have r0 := rN_no _ b0
  go_enter Tryd.func26, Tryd.ntmps26
  go_wp2_with (first | (go_at_call 52; with_reducible refine (rnumber_b (s.extract 0 4) (by rw [ByteArray.size_extract]; omega) _).mono ?_; rintro e w' ⟨rfl, rfl⟩) | (go_at_call 52; with_reducible refine (rnumber_b (s.extract 5 7) (by rw [ByteArray.size_extract]; omega) _).mono ?_; rintro e w' ⟨rfl, rfl⟩) | (go_at_call 52; with_reducible refine (rnumber_b (s.extract 8 10) (by rw [ByteArray.size_extract]; omega) _).mono ?_; rintro e w' ⟨rfl, rfl⟩))
  all_goals go_ret2
  all_goals exact ⟨rfl, (by repeat (first | exact Dr.refl _ | refine Dr.drewN ?_ _ | refine Dr.drew ?_))⟩
  
set_option maxHeartbeats 2000000 in
theorem parsedate_no1 (s : ByteArray) (z : s.size = 10) (h4 : ((s[4]'(by omega)).toNat : Int) = 45) (h7 : ((s[7]'(by omega)).toNat : Int) = 45) (b0 : digB (s.extract 0 4) = true) (b1 : digB (s.extract 5 7) = false) (w : World) : Calls Tryd.prog 25 #[.string s] w fun e w' => e = .returned (.tuple #[.int .i64 0, .int .i64 4]) ∧ w = w' := by
  go_enter Tryd.func25, Tryd.ntmps25
  go_wp2_with (first | (go_at_call 51; with_reducible refine (number_b (s.extract 0 4) (by rw [ByteArray.size_extract]; omega) _).mono ?_; rintro e w' ⟨rfl, rfl⟩) | (go_at_call 51; with_reducible refine (number_b (s.extract 5 7) (by rw [ByteArray.size_extract]; omega) _).mono ?_; rintro e w' ⟨rfl, rfl⟩) | (go_at_call 51; with_reducible refine (number_b (s.extract 8 10) (by rw [ByteArray.size_extract]; omega) _).mono ?_; rintro e w' ⟨rfl, rfl⟩))
  all_goals go_ret2
  all_goals exact ⟨rfl, rfl⟩
  
set_option maxHeartbeats 2000000 in
theorem rparsedate_no1 (s : ByteArray) (z : s.size = 10) (h4 : ((s[4]'(by omega)).toNat : Int) = 45) (h7 : ((s[7]'(by omega)).toNat : Int) = 45) (b0 : digB (s.extract 0 4) = true) (b1 : digB (s.extract 5 7) = false) (w : World) : Calls Tryd.prog 26 #[.string s] w fun e w' => e = .returned (.tuple #[.int .i64 0, .int .i64 4]) ∧ Dr w w' := by
  have r0 := rN_eq _ b0
  have r1 := rN_no _ b1
  obtain ⟨v0_0, v0_1⟩ := vN_bd (s.extract 0 4) (by rw [ByteArray.size_extract]; omega)
  go_enter Tryd.func26, Tryd.ntmps26
  go_wp2_with (first | (go_at_call 52; with_reducible refine (rnumber_b (s.extract 0 4) (by rw [ByteArray.size_extract]; omega) _).mono ?_; rintro e w' ⟨rfl, rfl⟩) | (go_at_call 52; with_reducible refine (rnumber_b (s.extract 5 7) (by rw [ByteArray.size_extract]; omega) _).mono ?_; rintro e w' ⟨rfl, rfl⟩) | (go_at_call 52; with_reducible refine (rnumber_b (s.extract 8 10) (by rw [ByteArray.size_extract]; omega) _).mono ?_; rintro e w' ⟨rfl, rfl⟩))
  all_goals go_ret2
  all_goals exact ⟨rfl, (by repeat (first | exact Dr.refl _ | refine Dr.drewN ?_ _ | refine Dr.drew ?_))⟩
  
set_option maxHeartbeats 2000000 in
theorem parsedate_no2 (s : ByteArray) (z : s.size = 10) (h4 : ((s[4]'(by omega)).toNat : Int) = 45) (h7 : ((s[7]'(by omega)).toNat : Int) = 45) (b0 : digB (s.extract 0 4) = true) (b1 : digB (s.extract 5 7) = true) (b2 : digB (s.extract 8 10) = false) (w : World) : Calls Tryd.prog 25 #[.string s] w fun e w' => e = .returned (.tuple #[.int .i64 0, .int .i64 4]) ∧ w = w' := by
  go_enter Tryd.func25, Tryd.ntmps25
  go_wp2_with (first | (go_at_call 51; with_reducible refine (number_b (s.extract 0 4) (by rw [ByteArray.size_extract]; omega) _).mono ?_; rintro e w' ⟨rfl, rfl⟩) | (go_at_call 51; with_reducible refine (number_b (s.extract 5 7) (by rw [ByteArray.size_extract]; omega) _).mono ?_; rintro e w' ⟨rfl, rfl⟩) | (go_at_call 51; with_reducible refine (number_b (s.extract 8 10) (by rw [ByteArray.size_extract]; omega) _).mono ?_; rintro e w' ⟨rfl, rfl⟩))
  all_goals go_ret2
  all_goals exact ⟨rfl, rfl⟩
  
set_option maxHeartbeats 2000000 in
theorem rparsedate_no2 (s : ByteArray) (z : s.size = 10) (h4 : ((s[4]'(by omega)).toNat : Int) = 45) (h7 : ((s[7]'(by omega)).toNat : Int) = 45) (b0 : digB (s.extract 0 4) = true) (b1 : digB (s.extract 5 7) = true) (b2 : digB (s.extract 8 10) = false) (w : World) : Calls Tryd.prog 26 #[.string s] w fun e w' => e = .returned (.tuple #[.int .i64 0, .int .i64 4]) ∧ Dr w w' := by
  have r0 := rN_eq _ b0
  have r1 := rN_eq _ b1
  have r2 := rN_no _ b2
  obtain ⟨v0_0, v0_1⟩ := vN_bd (s.extract 0 4) (by rw [ByteArray.size_extract]; omega)
  obtain ⟨v1_0, v1_1⟩ := vN_bd (s.extract 5 7) (by rw [ByteArray.size_extract]; omega)
  go_enter Tryd.func26, Tryd.ntmps26
  go_wp2_with (first | (go_at_call 52; with_reducible refine (rnumber_b (s.extract 0 4) (by rw [ByteArray.size_extract]; omega) _).mono ?_; rintro e w' ⟨rfl, rfl⟩) | (go_at_call 52; with_reducible refine (rnumber_b (s.extract 5 7) (by rw [ByteArray.size_extract]; omega) _).mono ?_; rintro e w' ⟨rfl, rfl⟩) | (go_at_call 52; with_reducible refine (rnumber_b (s.extract 8 10) (by rw [ByteArray.size_extract]; omega) _).mono ?_; rintro e w' ⟨rfl, rfl⟩))
  all_goals go_ret2
  all_goals exact ⟨rfl, (by repeat (first | exact Dr.refl _ | refine Dr.drewN ?_ _ | refine Dr.drew ?_))⟩
  
set_option maxHeartbeats 2000000 in
theorem parsedate_ok (s : ByteArray) (z : s.size = 10) (h4 : ((s[4]'(by omega)).toNat : Int) = 45) (h7 : ((s[7]'(by omega)).toNat : Int) = 45) (b0 : digB (s.extract 0 4) = true) (b1 : digB (s.extract 5 7) = true) (b2 : digB (s.extract 8 10) = true) (w : World) (ht : Hid (Tab w)) : Calls Tryd.prog 25 #[.string s] w fun e w' => e = .returned (.tuple #[.int .i64 (dysV (vN (s.extract 0 4)) (vN (s.extract 5 7)) (vN (s.extract 8 10))), .int .i64 (dysE (vN (s.extract 0 4)) (vN (s.extract 5 7)) (vN (s.extract 8 10)))]) ∧ w = w' := by
  obtain ⟨v0_0, v0_1⟩ := vN_bd (s.extract 0 4) (by rw [ByteArray.size_extract]; omega)
  obtain ⟨v1_0, v1_1⟩ := vN_bd (s.extract 5 7) (by rw [ByteArray.size_extract]; omega)
  obtain ⟨v2_0, v2_1⟩ := vN_bd (s.extract 8 10) (by rw [ByteArray.size_extract]; omega)
  go_enter Tryd.func25, Tryd.ntmps25
  go_wp2_with (first | (go_at_call 51; with_reducible refine (number_b (s.extract 0 4) (by rw [ByteArray.size_extract]; omega) _).mono ?_; rintro e w' ⟨rfl, rfl⟩) | (go_at_call 51; with_reducible refine (number_b (s.extract 5 7) (by rw [ByteArray.size_extract]; omega) _).mono ?_; rintro e w' ⟨rfl, rfl⟩) | (go_at_call 51; with_reducible refine (number_b (s.extract 8 10) (by rw [ByteArray.size_extract]; omega) _).mono ?_; rintro e w' ⟨rfl, rfl⟩) | (go_at_call 19; with_reducible refine (days_w (vN (s.extract 0 4)) (vN (s.extract 5 7)) (vN (s.extract 8 10)) (by omega) (by omega) (by omega) (by omega) (by omega) (by omega) _ ht).mono ?_; rintro e w' ⟨rfl, rfl⟩))
  all_goals go_ret2
  all_goals exact ⟨rfl, rfl⟩
  
set_option maxHeartbeats 2000000 in
theorem rparsedate_ok (s : ByteArray) (z : s.size = 10) (h4 : ((s[4]'(by omega)).toNat : Int) = 45) (h7 : ((s[7]'(by omega)).toNat : Int) = 45) (b0 : digB (s.extract 0 4) = true) (b1 : digB (s.extract 5 7) = true) (b2 : digB (s.extract 8 10) = true) (w : World) : Calls Tryd.prog 26 #[.string s] w fun e w' => e = .returned (.tuple #[.int .i64 (dysV (vN (s.extract 0 4)) (vN (s.extract 5 7)) (vN (s.extract 8 10))), .int .i64 (dysE (vN (s.extract 0 4)) (vN (s.extract 5 7)) (vN (s.extract 8 10)))]) ∧ Dr w w' := by
  have r0 := rN_eq _ b0
  have r1 := rN_eq _ b1
  have r2 := rN_eq _ b2
  obtain ⟨v0_0, v0_1⟩ := vN_bd (s.extract 0 4) (by rw [ByteArray.size_extract]; omega)
  obtain ⟨v1_0, v1_1⟩ := vN_bd (s.extract 5 7) (by rw [ByteArray.size_extract]; omega)
  obtain ⟨v2_0, v2_1⟩ := vN_bd (s.extract 8 10) (by rw [ByteArray.size_extract]; omega)
  go_enter Tryd.func26, Tryd.ntmps26
  go_wp2_with fail
  refine (rnumber_b (s.extract 0 4) (by rw [ByteArray.size_extract]; omega) _).mono ?_
  rintro e w' ⟨rfl, rfl⟩
  go_wp2_with fail
  refine (rnumber_b (s.extract 5 7) (by rw [ByteArray.size_extract]; omega) _).mono ?_
  rintro e w' ⟨rfl, rfl⟩
  go_wp2_with fail
  refine (rnumber_b (s.extract 8 10) (by rw [ByteArray.size_extract]; omega) _).mono ?_
  rintro e w' ⟨rfl, rfl⟩
  go_wp2_with fail
  go_region_held3 (fun _ => True) (trivial) (first | (go_at_call 52; with_reducible refine (rnumber_b (s.extract 0 4) (by rw [ByteArray.size_extract]; omega) _).mono ?_; rintro e w' ⟨rfl, rfl⟩) | (go_at_call 52; with_reducible refine (rnumber_b (s.extract 5 7) (by rw [ByteArray.size_extract]; omega) _).mono ?_; rintro e w' ⟨rfl, rfl⟩) | (go_at_call 52; with_reducible refine (rnumber_b (s.extract 8 10) (by rw [ByteArray.size_extract]; omega) _).mono ?_; rintro e w' ⟨rfl, rfl⟩) | (go_at_call 20; with_reducible refine (ref_days_w (vN (s.extract 0 4)) (vN (s.extract 5 7)) (vN (s.extract 8 10)) (by omega) (by omega) (by omega) (by omega) (by omega) (by omega) _).mono ?_; rintro e w' ⟨rfl, rfl⟩))
  all_goals go_wp2_with fail
  all_goals go_ret2
  all_goals exact ⟨rfl, (by repeat (first | exact Dr.refl _ | refine Dr.drewN ?_ _ | refine Dr.drew ?_))⟩
  
set_option maxHeartbeats 2000000 in
theorem parseclock_size (s : ByteArray) (hm : s.size ≤ 9223372036854775807) (hz : s.size < 5 ∨ 5 < s.size) (w : World) : Calls Tryd.prog 27 #[.string s] w fun e w' => e = .returned (.tuple #[.int .i64 0, .int .i64 4]) ∧ w = w' := by
  have z : (s.size == 5) = false := by simpa using (show ¬ s.size = 5 by omega)
  have z' : (s.size != 5) = true := by simpa using (show ¬ s.size = 5 by omega)
  go_enter Tryd.func27, Tryd.ntmps27
  go_wp2
  all_goals go_ret2
  all_goals exact ⟨rfl, rfl⟩
  
set_option maxHeartbeats 2000000 in
theorem rparseclock_size (s : ByteArray) (hm : s.size ≤ 9223372036854775807) (hz : s.size < 5 ∨ 5 < s.size) (w : World) : Calls Tryd.prog 28 #[.string s] w fun e w' => e = .returned (.tuple #[.int .i64 0, .int .i64 4]) ∧ Dr w w' := by
  have y : ((s.size : Int) == 5) = false := by simpa using (show ¬ (s.size : Int) = 5 by omega)
  have y' : ((s.size : Int) != 5) = true := by simpa using (show ¬ (s.size : Int) = 5 by omega)
  have z : (s.size == 5) = false := by simpa using (show ¬ s.size = 5 by omega)
  have z' : (s.size != 5) = true := by simpa using (show ¬ s.size = 5 by omega)
  go_enter Tryd.func28, Tryd.ntmps28
  go_wp2
  all_goals (try (go_quiet (fail); go_wp2))
  all_goals go_ret2
  all_goals exact ⟨rfl, (by repeat (first | exact Dr.refl _ | refine Dr.drewN ?_ _ | refine Dr.drew ?_))⟩
  
set_option maxHeartbeats 2000000 in
theorem parseclock_mark2 (s : ByteArray) (z : s.size = 5) (h2 : ¬ ((s[2]'(by omega)).toNat : Int) = 58) (w : World) : Calls Tryd.prog 27 #[.string s] w fun e w' => e = .returned (.tuple #[.int .i64 0, .int .i64 4]) ∧ w = w' := by
  obtain ⟨L, hL⟩ : ∃ L : Int, ((s[2]'(by omega)).toNat : Int) = L := ⟨_, rfl⟩
  rw [hL] at h2
  have g1 : (L == 58) = false := by simpa using h2
  have g2 : (L != 58) = true := by simpa using h2
  clear h2
  go_enter Tryd.func27, Tryd.ntmps27
  go_wp2
  all_goals go_ret2
  all_goals exact ⟨rfl, rfl⟩
  
set_option maxHeartbeats 2000000 in
theorem rparseclock_mark2 (s : ByteArray) (z : s.size = 5) (h2 : ¬ ((s[2]'(by omega)).toNat : Int) = 58) (w : World) : Calls Tryd.prog 28 #[.string s] w fun e w' => e = .returned (.tuple #[.int .i64 0, .int .i64 4]) ∧ Dr w w' := by
  obtain ⟨L, hL⟩ : ∃ L : Int, ((s[2]'(by omega)).toNat : Int) = L := ⟨_, rfl⟩
  rw [hL] at h2
  have g1 : (L == 58) = false := by simpa using h2
  have g2 : (L != 58) = true := by simpa using h2
  clear h2
  go_enter Tryd.func28, Tryd.ntmps28
  go_wp2
  all_goals (try (go_quiet ((first | (go_at_call 52; first | exact quiet_eq (rnumber_b (s.extract 0 2) (by rw [ByteArray.size_extract]; omega) _) | exact quiet_eq_add (rnumber_b (s.extract 0 2) (by rw [ByteArray.size_extract]; omega) _)) | (go_at_call 52; first | exact quiet_eq (rnumber_b (s.extract 3 5) (by rw [ByteArray.size_extract]; omega) _) | exact quiet_eq_add (rnumber_b (s.extract 3 5) (by rw [ByteArray.size_extract]; omega) _)))); go_wp2))
  all_goals go_ret2
  all_goals exact ⟨rfl, (by repeat (first | exact Dr.refl _ | refine Dr.drewN ?_ _ | refine Dr.drew ?_))⟩
  
set_option maxHeartbeats 2000000 in
theorem parseclock_no0 (s : ByteArray) (z : s.size = 5) (h2 : ((s[2]'(by omega)).toNat : Int) = 58) (b0 : digB (s.extract 0 2) = false) (w : World) : Calls Tryd.prog 27 #[.string s] w fun e w' => e = .returned (.tuple #[.int .i64 0, .int .i64 4]) ∧ w = w' := by
  go_enter Tryd.func27, Tryd.ntmps27
  go_wp2_with (first | (go_at_call 51; with_reducible refine (number_b (s.extract 0 2) (by rw [ByteArray.size_extract]; omega) _).mono ?_; rintro e w' ⟨rfl, rfl⟩) | (go_at_call 51; with_reducible refine (number_b (s.extract 3 5) (by rw [ByteArray.size_extract]; omega) _).mono ?_; rintro e w' ⟨rfl, rfl⟩))
  all_goals go_ret2
  all_goals exact ⟨rfl, rfl⟩
  
set_option maxHeartbeats 2000000 in
theorem rparseclock_no0 (s : ByteArray) (z : s.size = 5) (h2 : ((s[2]'(by omega)).toNat : Int) = 58) (b0 : digB (s.extract 0 2) = false) (w : World) : Calls Tryd.prog 28 #[.string s] w fun e w' => e = .returned (.tuple #[.int .i64 0, .int .i64 4]) ∧ Dr w w' := by
  have r0 := rN_no _ b0
  go_enter Tryd.func28, Tryd.ntmps28
  go_wp2_with (first | (go_at_call 52; with_reducible refine (rnumber_b (s.extract 0 2) (by rw [ByteArray.size_extract]; omega) _).mono ?_; rintro e w' ⟨rfl, rfl⟩) | (go_at_call 52; with_reducible refine (rnumber_b (s.extract 3 5) (by rw [ByteArray.size_extract]; omega) _).mono ?_; rintro e w' ⟨rfl, rfl⟩))
  all_goals go_ret2
  all_goals exact ⟨rfl, (by repeat (first | exact Dr.refl _ | refine Dr.drewN ?_ _ | refine Dr.drew ?_))⟩
  
set_option maxHeartbeats 2000000 in
theorem parseclock_no1 (s : ByteArray) (z : s.size = 5) (h2 : ((s[2]'(by omega)).toNat : Int) = 58) (b0 : digB (s.extract 0 2) = true) (b1 : digB (s.extract 3 5) = false) (w : World) : Calls Tryd.prog 27 #[.string s] w fun e w' => e = .returned (.tuple #[.int .i64 0, .int .i64 4]) ∧ w = w' := by
  go_enter Tryd.func27, Tryd.ntmps27
  go_wp2_with (first | (go_at_call 51; with_reducible refine (number_b (s.extract 0 2) (by rw [ByteArray.size_extract]; omega) _).mono ?_; rintro e w' ⟨rfl, rfl⟩) | (go_at_call 51; with_reducible refine (number_b (s.extract 3 5) (by rw [ByteArray.size_extract]; omega) _).mono ?_; rintro e w' ⟨rfl, rfl⟩))
  all_goals go_ret2
  all_goals exact ⟨rfl, rfl⟩
  
set_option maxHeartbeats 2000000 in
theorem rparseclock_no1 (s : ByteArray) (z : s.size = 5) (h2 : ((s[2]'(by omega)).toNat : Int) = 58) (b0 : digB (s.extract 0 2) = true) (b1 : digB (s.extract 3 5) = false) (w : World) : Calls Tryd.prog 28 #[.string s] w fun e w' => e = .returned (.tuple #[.int .i64 0, .int .i64 4]) ∧ Dr w w' := by
  have r0 := rN_eq _ b0
  have r1 := rN_no _ b1
  obtain ⟨v0_0, v0_1⟩ := vN_bd (s.extract 0 2) (by rw [ByteArray.size_extract]; omega)
  go_enter Tryd.func28, Tryd.ntmps28
  go_wp2_with (first | (go_at_call 52; with_reducible refine (rnumber_b (s.extract 0 2) (by rw [ByteArray.size_extract]; omega) _).mono ?_; rintro e w' ⟨rfl, rfl⟩) | (go_at_call 52; with_reducible refine (rnumber_b (s.extract 3 5) (by rw [ByteArray.size_extract]; omega) _).mono ?_; rintro e w' ⟨rfl, rfl⟩))
  all_goals go_ret2
  all_goals exact ⟨rfl, (by repeat (first | exact Dr.refl _ | refine Dr.drewN ?_ _ | refine Dr.drew ?_))⟩
  
set_option maxHeartbeats 2000000 in
theorem parseclock_ok (s : ByteArray) (z : s.size = 5) (h2 : ((s[2]'(by omega)).toNat : Int) = 58) (b0 : digB (s.extract 0 2) = true) (b1 : digB (s.extract 3 5) = true) (k0 : vN (s.extract 0 2) ≤ 23) (k1 : vN (s.extract 3 5) ≤ 59) (w : World) : Calls Tryd.prog 27 #[.string s] w fun e w' => e = .returned (.tuple #[.int .i64 (vN (s.extract 0 2) * 6000 + vN (s.extract 3 5) * 100), .int .i64 0]) ∧ w = w' := by
  obtain ⟨v0_0, v0_1⟩ := vN_bd (s.extract 0 2) (by rw [ByteArray.size_extract]; omega)
  obtain ⟨v1_0, v1_1⟩ := vN_bd (s.extract 3 5) (by rw [ByteArray.size_extract]; omega)
  go_enter Tryd.func27, Tryd.ntmps27
  go_wp2_with (first | (go_at_call 51; with_reducible refine (number_b (s.extract 0 2) (by rw [ByteArray.size_extract]; omega) _).mono ?_; rintro e w' ⟨rfl, rfl⟩) | (go_at_call 51; with_reducible refine (number_b (s.extract 3 5) (by rw [ByteArray.size_extract]; omega) _).mono ?_; rintro e w' ⟨rfl, rfl⟩))
  all_goals go_ret2
  all_goals exact ⟨rfl, rfl⟩
  
set_option maxHeartbeats 2000000 in
theorem rparseclock_ok (s : ByteArray) (z : s.size = 5) (h2 : ((s[2]'(by omega)).toNat : Int) = 58) (b0 : digB (s.extract 0 2) = true) (b1 : digB (s.extract 3 5) = true) (k0 : vN (s.extract 0 2) ≤ 23) (k1 : vN (s.extract 3 5) ≤ 59) (w : World) : Calls Tryd.prog 28 #[.string s] w fun e w' => e = .returned (.tuple #[.int .i64 (vN (s.extract 0 2) * 6000 + vN (s.extract 3 5) * 100), .int .i64 0]) ∧ Dr w w' := by
  have r0 := rN_eq _ b0
  have r1 := rN_eq _ b1
  obtain ⟨v0_0, v0_1⟩ := vN_bd (s.extract 0 2) (by rw [ByteArray.size_extract]; omega)
  obtain ⟨v1_0, v1_1⟩ := vN_bd (s.extract 3 5) (by rw [ByteArray.size_extract]; omega)
  go_enter Tryd.func28, Tryd.ntmps28
  go_wp2_with fail
  refine (rnumber_b (s.extract 0 2) (by rw [ByteArray.size_extract]; omega) _).mono ?_
  rintro e w' ⟨rfl, rfl⟩
  go_wp2_with fail
  refine (rnumber_b (s.extract 3 5) (by rw [ByteArray.size_extract]; omega) _).mono ?_
  rintro e w' ⟨rfl, rfl⟩
  go_wp2_with fail
  go_region_held3 (fun _ => True) (trivial) (first | (go_at_call 52; with_reducible refine (rnumber_b (s.extract 0 2) (by rw [ByteArray.size_extract]; omega) _).mono ?_; rintro e w' ⟨rfl, rfl⟩) | (go_at_call 52; with_reducible refine (rnumber_b (s.extract 3 5) (by rw [ByteArray.size_extract]; omega) _).mono ?_; rintro e w' ⟨rfl, rfl⟩))
  all_goals go_wp2_with fail
  all_goals go_ret2
  all_goals exact ⟨rfl, (by repeat (first | exact Dr.refl _ | refine Dr.drewN ?_ _ | refine Dr.drew ?_))⟩
  
set_option maxHeartbeats 2000000 in
theorem parseclock_hour (s : ByteArray) (z : s.size = 5) (h2 : ((s[2]'(by omega)).toNat : Int) = 58) (b0 : digB (s.extract 0 2) = true) (b1 : digB (s.extract 3 5) = true) (k0 : 23 < vN (s.extract 0 2)) (w : World) : Calls Tryd.prog 27 #[.string s] w fun e w' => e = .returned (.tuple #[.int .i64 0, .int .i64 2]) ∧ w = w' := by
  obtain ⟨v0_0, v0_1⟩ := vN_bd (s.extract 0 2) (by rw [ByteArray.size_extract]; omega)
  obtain ⟨v1_0, v1_1⟩ := vN_bd (s.extract 3 5) (by rw [ByteArray.size_extract]; omega)
  go_enter Tryd.func27, Tryd.ntmps27
  go_wp2_with (first | (go_at_call 51; with_reducible refine (number_b (s.extract 0 2) (by rw [ByteArray.size_extract]; omega) _).mono ?_; rintro e w' ⟨rfl, rfl⟩) | (go_at_call 51; with_reducible refine (number_b (s.extract 3 5) (by rw [ByteArray.size_extract]; omega) _).mono ?_; rintro e w' ⟨rfl, rfl⟩))
  all_goals go_ret2
  all_goals exact ⟨rfl, rfl⟩
  
set_option maxHeartbeats 2000000 in
theorem rparseclock_hour (s : ByteArray) (z : s.size = 5) (h2 : ((s[2]'(by omega)).toNat : Int) = 58) (b0 : digB (s.extract 0 2) = true) (b1 : digB (s.extract 3 5) = true) (k0 : 23 < vN (s.extract 0 2)) (w : World) : Calls Tryd.prog 28 #[.string s] w fun e w' => e = .returned (.tuple #[.int .i64 0, .int .i64 2]) ∧ Dr w w' := by
  have r0 := rN_eq _ b0
  have r1 := rN_eq _ b1
  obtain ⟨v0_0, v0_1⟩ := vN_bd (s.extract 0 2) (by rw [ByteArray.size_extract]; omega)
  obtain ⟨v1_0, v1_1⟩ := vN_bd (s.extract 3 5) (by rw [ByteArray.size_extract]; omega)
  go_enter Tryd.func28, Tryd.ntmps28
  go_wp2_with fail
  refine (rnumber_b (s.extract 0 2) (by rw [ByteArray.size_extract]; omega) _).mono ?_
  rintro e w' ⟨rfl, rfl⟩
  go_wp2_with fail
  refine (rnumber_b (s.extract 3 5) (by rw [ByteArray.size_extract]; omega) _).mono ?_
  rintro e w' ⟨rfl, rfl⟩
  go_wp2_with fail
  go_region_held3 (fun _ => True) (trivial) (first | (go_at_call 52; with_reducible refine (rnumber_b (s.extract 0 2) (by rw [ByteArray.size_extract]; omega) _).mono ?_; rintro e w' ⟨rfl, rfl⟩) | (go_at_call 52; with_reducible refine (rnumber_b (s.extract 3 5) (by rw [ByteArray.size_extract]; omega) _).mono ?_; rintro e w' ⟨rfl, rfl⟩))
  all_goals go_wp2_with fail
  all_goals go_ret2
  all_goals exact ⟨rfl, (by repeat (first | exact Dr.refl _ | refine Dr.drewN ?_ _ | refine Dr.drew ?_))⟩
  
set_option maxHeartbeats 2000000 in
theorem parseclock_minute (s : ByteArray) (z : s.size = 5) (h2 : ((s[2]'(by omega)).toNat : Int) = 58) (b0 : digB (s.extract 0 2) = true) (b1 : digB (s.extract 3 5) = true) (k0 : vN (s.extract 0 2) ≤ 23) (k1 : 59 < vN (s.extract 3 5)) (w : World) : Calls Tryd.prog 27 #[.string s] w fun e w' => e = .returned (.tuple #[.int .i64 0, .int .i64 2]) ∧ w = w' := by
  obtain ⟨v0_0, v0_1⟩ := vN_bd (s.extract 0 2) (by rw [ByteArray.size_extract]; omega)
  obtain ⟨v1_0, v1_1⟩ := vN_bd (s.extract 3 5) (by rw [ByteArray.size_extract]; omega)
  go_enter Tryd.func27, Tryd.ntmps27
  go_wp2_with (first | (go_at_call 51; with_reducible refine (number_b (s.extract 0 2) (by rw [ByteArray.size_extract]; omega) _).mono ?_; rintro e w' ⟨rfl, rfl⟩) | (go_at_call 51; with_reducible refine (number_b (s.extract 3 5) (by rw [ByteArray.size_extract]; omega) _).mono ?_; rintro e w' ⟨rfl, rfl⟩))
  all_goals go_ret2
  all_goals exact ⟨rfl, rfl⟩
  
set_option maxHeartbeats 2000000 in
theorem rparseclock_minute (s : ByteArray) (z : s.size = 5) (h2 : ((s[2]'(by omega)).toNat : Int) = 58) (b0 : digB (s.extract 0 2) = true) (b1 : digB (s.extract 3 5) = true) (k0 : vN (s.extract 0 2) ≤ 23) (k1 : 59 < vN (s.extract 3 5)) (w : World) : Calls Tryd.prog 28 #[.string s] w fun e w' => e = .returned (.tuple #[.int .i64 0, .int .i64 2]) ∧ Dr w w' := by
  have r0 := rN_eq _ b0
  have r1 := rN_eq _ b1
  obtain ⟨v0_0, v0_1⟩ := vN_bd (s.extract 0 2) (by rw [ByteArray.size_extract]; omega)
  obtain ⟨v1_0, v1_1⟩ := vN_bd (s.extract 3 5) (by rw [ByteArray.size_extract]; omega)
  go_enter Tryd.func28, Tryd.ntmps28
  go_wp2_with fail
  refine (rnumber_b (s.extract 0 2) (by rw [ByteArray.size_extract]; omega) _).mono ?_
  rintro e w' ⟨rfl, rfl⟩
  go_wp2_with fail
  refine (rnumber_b (s.extract 3 5) (by rw [ByteArray.size_extract]; omega) _).mono ?_
  rintro e w' ⟨rfl, rfl⟩
  go_wp2_with fail
  go_region_held3 (fun _ => True) (trivial) (first | (go_at_call 52; with_reducible refine (rnumber_b (s.extract 0 2) (by rw [ByteArray.size_extract]; omega) _).mono ?_; rintro e w' ⟨rfl, rfl⟩) | (go_at_call 52; with_reducible refine (rnumber_b (s.extract 3 5) (by rw [ByteArray.size_extract]; omega) _).mono ?_; rintro e w' ⟨rfl, rfl⟩))
  all_goals go_wp2_with fail
  all_goals go_ret2
  all_goals exact ⟨rfl, (by repeat (first | exact Dr.refl _ | refine Dr.drewN ?_ _ | refine Dr.drew ?_))⟩
  
end Go.Proofs.YtkmpbkojdkoghaaDoor
