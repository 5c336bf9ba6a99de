/-
  Own contracts: the law of layer 4 on the texts of courses.
-/
import Derived.Test.YtofeijgcbjhkdaaAngc
import Derived.WalkKit
import Derived.ProofKit
import Derived.OpenShut
import Derived.WalkLawsBesides
import Derived.WalkSpells
import Derived.Lib.Hide
import Derived.Deep.DeepCutAuto
import Derived.Deep.CutBlock
import Derived.Deep.QuietTactic
import Derived.BigQuiet
import Derived.Handy
import Derived.StillTailTactics
import Derived.IntWalk
import Derived.LoopN
import Derived.Deep.RegionHeld3
namespace Go.Proofs.Ytofeijgcbjhkdaa
open Go.ChangeShapes Go.WideShapes Go.ChangeAt Go.RowKit
set_option linter.unusedVariables false
set_option linter.unusedSimpArgs false
theorem dig4 (n : Int) (h : 0 ≤ n) : Dig (d4 n) := Dig.list (l := [dgt (n / 10 / 10 / 10), dgt (n / 10 / 10), dgt (n / 10), dgt n]) (by
  intro c hc
  simp only [List.mem_cons, List.not_mem_nil, or_false] at hc
  rcases hc with rfl | rfl | rfl | rfl <;> exact dgt_ok _ (by omega))
theorem digs3 (a : Int) (h : 0 ≤ a) : Dig (sx3 a) := Dig.list (l := [dgt (a / 360000 / 10 / 10), dgt (a / 360000 / 10), dgt (a / 360000), dgt (a / 6000 % 60 / 10), dgt (a / 6000 % 60), dgt (a / 100 % 60 / 10), dgt (a / 100 % 60), dgt (a % 100 / 10), dgt (a % 100)]) (by
  intro c hc
  simp only [List.mem_cons, List.not_mem_nil, or_false] at hc
  rcases hc with rfl | rfl | rfl | rfl | rfl | rfl | rfl | rfl | rfl <;> exact dgt_ok _ (by omega))
theorem digs2 (a : Int) (h : 0 ≤ a) : Dig (sx2 a) := Dig.list (l := [dgt (a / 360000 / 10), dgt (a / 360000), dgt (a / 6000 % 60 / 10), dgt (a / 6000 % 60), dgt (a / 100 % 60 / 10), dgt (a / 100 % 60), dgt (a % 100 / 10), dgt (a % 100)]) (by
  intro c hc
  simp only [List.mem_cons, List.not_mem_nil, or_false] at hc
  rcases hc with rfl | rfl | rfl | rfl | rfl | rfl | rfl | rfl <;> exact dgt_ok _ (by omega))
theorem ex3 (a : Int) : (sx3 a).extract 0 3 = d3 (a / 360000) ∧ (sx3 a).extract 3 5 = d2 (a / 6000 % 60) ∧ (sx3 a).extract 5 7 = d2 (a / 100 % 60) ∧ (sx3 a).extract 7 9 = d2 (a % 100) := ⟨rfl, rfl, rfl, rfl⟩
theorem ex2 (a : Int) : (sx2 a).extract 0 2 = d2 (a / 360000) ∧ (sx2 a).extract 2 4 = d2 (a / 6000 % 60) ∧ (sx2 a).extract 4 6 = d2 (a / 100 % 60) ∧ (sx2 a).extract 6 8 = d2 (a % 100) := ⟨rfl, rfl, rfl, rfl⟩
theorem pback2 (a : Int) (h0 : 0 ≤ a) (h1 : a ≤ 35999999) (w : World) : Calls Try.prog 53 #[.string (sx2 a), .int .i64 2] w fun e w' => e = .returned (.tuple #[.int .i64 a, .int .i64 0]) ∧ w = w' := by
  obtain ⟨e1, e2, e3, e4⟩ := ex2 a
  have h := psex2 (sx2 a) (numL (sx2 a).data.toList) (a / 360000) (a / 6000 % 60) (a / 100 % 60) (a % 100) (sx2_size a) (digs2 a h0) (Lib.hid rfl) (Lib.hid (by rw [e1]; exact num2 _ (by omega) (by omega))) (Lib.hid (by rw [e2]; exact num2 _ (by omega) (by omega))) (Lib.hid (by rw [e3]; exact num2 _ (by omega) (by omega))) (Lib.hid (by rw [e4]; exact num2 _ (by omega) (by omega))) (by omega) (by omega) (by omega) (by omega) (by omega) (by omega) (by omega) (by omega) w
  rwa [show a / 360000 * 360000 + a / 6000 % 60 * 6000 + a / 100 % 60 * 100 + a % 100 = a by omega] at h
theorem pback3 (a : Int) (h0 : 0 ≤ a) (h1 : a ≤ 359999999) (w : World) : Calls Try.prog 53 #[.string (sx3 a), .int .i64 3] w fun e w' => e = .returned (.tuple #[.int .i64 a, .int .i64 0]) ∧ w = w' := by
  obtain ⟨e1, e2, e3, e4⟩ := ex3 a
  have h := psex3 (sx3 a) (numL (sx3 a).data.toList) (a / 360000) (a / 6000 % 60) (a / 100 % 60) (a % 100) (sx3_size a) (digs3 a h0) (Lib.hid rfl) (Lib.hid (by rw [e1]; exact num3 _ (by omega) (by omega))) (Lib.hid (by rw [e2]; exact num2 _ (by omega) (by omega))) (Lib.hid (by rw [e3]; exact num2 _ (by omega) (by omega))) (Lib.hid (by rw [e4]; exact num2 _ (by omega) (by omega))) (by omega) (by omega) (by omega) (by omega) (by omega) (by omega) (by omega) (by omega) w
  rwa [show a / 360000 * 360000 + a / 6000 % 60 * 6000 + a / 100 % 60 * 100 + a % 100 = a by omega] at h
theorem pcourse (n : Int) (h0 : 0 ≤ n) (h1 : n ≤ 3599) (w : World) : Calls Try.prog 40 #[.string (d4 n)] w fun e w' => e = .returned (.tuple #[.int .i64 (n * 36000), .int .i64 0]) ∧ w = w' := by
  have z4 : ∀ n, (d4 n).size = 4 := fun _ => rfl
  go_enter Try.func40, Try.ntmps40
  go_wp2_with (first | (go_at_call 52; refine (number_v (d4 n) n (show (4 : Nat) ≤ 9 by omega) (dig4 n h0) (Lib.hid (num4 n h0 (by omega))) _).mono ?_; rintro e w' ⟨rfl, rfl⟩))
  go_ret2
  exact ⟨rfl, rfl⟩
theorem pexact (a : Int) (h0 : 0 ≤ a) (h1 : a < 129600000) (w : World) : Calls Try.prog 41 #[.string (sx3 a)] w fun e w' => e = .returned (.tuple #[.int .i64 a, .int .i64 0]) ∧ w = w' := by
  go_enter Try.func41, Try.ntmps41
  go_wp2_with (first | (go_at_call 53; refine (pback3 a (by omega) (by omega) _).mono ?_; rintro e w' ⟨rfl, rfl⟩))
  go_ret2
  exact ⟨rfl, rfl⟩
theorem course_near (a : Int) : -18000 < dif a ((nrm a + 18000) / 36000 % 3600 * 36000) ∧ dif a ((nrm a + 18000) / 36000 % 3600 * 36000) ≤ 18000 := by
  unfold dif swp nrm; split <;> omega
set_option maxHeartbeats 1000000 in
theorem law_courses (a : Int) (a_0 : -9223372036854775808 ≤ a) (a_1 : a ≤ 9223372036854775807) (w : World) : Calls Try.prog 10 #[.int .i64 a] w fun e w' => e = .returned (.bool true) ∧ Kept w w' := by
  obtain ⟨b0, b1⟩ := nrm_bd a
  obtain ⟨n0, n1⟩ := course_near a
  have c0 : 0 ≤ (nrm a + 18000) / 36000 % 3600 := by omega
  have c1 : (nrm a + 18000) / 36000 % 3600 ≤ 3599 := by omega
  obtain ⟨m, hm⟩ : ∃ m, (nrm a + 18000) / 36000 % 3600 = m := ⟨_, rfl⟩
  rw [hm] at c0 c1 n0 n1
  have HC : ∀ w, Calls Try.prog 38 #[.int .i64 a] w fun e w' => e = .returned (.string (d4 m)) ∧ Kept w w' := by
    intro w; rw [← hm]; exact course_w a a_0 a_1 w
  have HR : ∀ w, Calls Try.prog 42 #[.int .i64 a] w fun e w' => e = .returned (.string (d4 m)) ∧ Kept w w' := by
    intro w; rw [← hm]; exact rcourse_w a a_0 a_1 w
  have HCC := Lib.hid HC; have HRR := Lib.hid HR
  clear hm HC HR
  go_enter Try.func10, Try.ntmps10
  go_wp2_with (first | (go_at_call 12; with_reducible refine (awake_w _).mono ?_; rintro e w' ⟨rfl, hk⟩) | (go_at_call 38; with_reducible refine (HCC.out _).mono ?_; rintro e w' ⟨rfl, hk⟩) | (go_at_call 39; with_reducible refine (exact_w a (by omega) (by omega) _).mono ?_; rintro e w' ⟨rfl, hk⟩) | (go_at_call 40; with_reducible refine (pcourse m (by omega) (by omega) _).mono ?_; rintro e w' ⟨rfl, rfl⟩) | (go_at_call 41; with_reducible refine (pexact (nrm a) (by omega) (by omega) _).mono ?_; rintro e w' ⟨rfl, rfl⟩) | (go_at_call 42; with_reducible refine (HRR.out _).mono ?_; rintro e w' ⟨rfl, hk⟩) | (go_at_call 43; with_reducible refine (rexact_w a (by omega) (by omega) _).mono ?_; rintro e w' ⟨rfl, hk⟩) | (go_at_call 13; with_reducible refine (norm_w a (by omega) (by omega) _).mono ?_; rintro e w' ⟨rfl, rfl⟩) | (go_at_call 19; with_reducible refine (diff_w a (m * 36000) (by omega) (by omega) (by omega) (by omega) _).mono ?_; rintro e w' ⟨rfl, rfl⟩))
  all_goals first | (go_ret; refine ⟨?_, (by repeat (first | with_reducible exact Kept.refl _ | with_reducible assumption | with_reducible refine Kept.setCell ?_ (by first | (simp; done) | (simp; omega) | omega) _ | with_reducible refine Kept.alloc ?_ _ | with_reducible refine Kept.drewN ?_ _ | with_reducible refine Kept.drew ?_ | with_reducible refine Kept.trans ?_ (by with_reducible assumption) | with_reducible refine Kept.dr ?_ (by with_reducible assumption)))⟩; first | rfl | (show Ending.returned (.bool (decide _)) = _; rw [decide_eq_true (by omega)]) | (show Ending.returned (.bool (decide _)) = _; rw [decide_eq_false (by omega)]) | (refine retb ?_; simp; done) | (refine retb ?_; simp; omega)) | (exfalso; omega)
end Go.Proofs.Ytofeijgcbjhkdaa
