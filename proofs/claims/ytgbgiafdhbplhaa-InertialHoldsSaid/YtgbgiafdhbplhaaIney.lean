/-
  Own contracts: package inertial and the document's answers of layer 45: the example's velocity, merged boxes.
-/
import Derived.Test.YtgbgiafdhbplhaaInet
import Derived.Test.YtgbgiafdhbplhaaIneb
import Derived.WalkKit
import Derived.ProofKit
import Derived.OpenShut
import Derived.WalkLawsBesides
import Derived.WalkSpells
import Derived.Lib.Hide
import Derived.Deep.DeepCutAuto
import Derived.Deep.CutBlock
import Derived.Deep.QuietTactic
import Derived.BigQuiet
import Derived.Handy
import Derived.StillTailTactics
import Derived.IntWalk
import Derived.LoopN
import Derived.Deep.RegionHeld3
namespace Go.Proofs.Ytgbgiafdhbplhaa
open Go.ChangeShapes Go.WideShapes Go.ChangeAt Go.RowKit
set_option linter.unusedVariables false
set_option linter.unusedSimpArgs false
theorem round_ok (a b v : Int) (a0 : -9223372036854775808 ≤ a) (a1 : a ≤ 9223372036854775807) (b0 : -9223372036854775808 ≤ b) (b1 : b ≤ 9223372036854775807) (hv : Hid (mqv 2 a 1 b = v)) (he : Hid (mqe 2 a 1 b = 0)) (w : World) : Calls Try.prog 37 #[.int .i64 a, .int .i64 b] w fun e w' => e = .returned (.tuple #[.int .i64 v, .int .i64 0]) ∧ Kept w w' := by
  refine (round_w a b a0 a1 b0 b1 w).mono ?_
  rintro e w' ⟨rfl, hd⟩
  rw [hv.out, he.out]
  exact ⟨rfl, hd.kept⟩
set_option maxHeartbeats 1000000 in
theorem vel30 (w : World) : Calls Try.prog 24 #[.int .i64 10800000, .int .i64 500] w fun e w' => e = .returned (.tuple #[.agg #[.int .i64 250, .int .i64 433], .int .i64 0]) ∧ Kept w w' := by
  have v1 : Hid (mqv 2 268435456000 1 1073741824 = 250) := Lib.hid (by decide +kernel)
  have x1 : Hid (mqe 2 268435456000 1 1073741824 = 0) := Lib.hid (by decide +kernel)
  have v2 : Hid (mqv 2 464943848500 1 1073741824 = 433) := Lib.hid (by decide +kernel)
  have x2 : Hid (mqe 2 464943848500 1 1073741824 = 0) := Lib.hid (by decide +kernel)
  go_enter Try.func24, Try.ntmps24
  go_wp2_with (first | (go_at_call 29; (first | refine (within_yes _ _ _ (by omega) (by omega) _).mono ?_ | refine (within_lo _ _ _ (by omega) _).mono ?_ | refine (within_hi _ _ _ (by omega) _).mono ?_); rintro e w' ⟨rfl, rfl⟩) | (go_at_call 38; refine (sin30 _).mono ?_; rintro e w' ⟨rfl, hk⟩; have hz := hk.size; (try (refine kuse (b := w.heap.size) hk (by first | (simp; done) | (simp; omega) | omega) ?_; intro hq0 hg0)); (try (have hy0 : w.heap.size < w'.heap.size := by (try simp at hz); omega)); (try (refine kuse (b := w.heap.size + 1) hk (by first | (simp; done) | (simp; omega) | omega) ?_; intro hq1 hg1)); (try (have hy1 : w.heap.size + 1 < w'.heap.size := by (try simp at hz); omega))) | (go_at_call 39; refine (cos30 _).mono ?_; rintro e w' ⟨rfl, hk⟩; have hz := hk.size; (try (refine kuse (b := w.heap.size) hk (by first | (simp; done) | (simp; omega) | omega) ?_; intro hq0 hg0)); (try (have hy0 : w.heap.size < w'.heap.size := by (try simp at hz); omega)); (try (refine kuse (b := w.heap.size + 1) hk (by first | (simp; done) | (simp; omega) | omega) ?_; intro hq1 hg1)); (try (have hy1 : w.heap.size + 1 < w'.heap.size := by (try simp at hz); omega))) | (go_at_call 37; (first | (with_reducible refine (round_ok 268435456000 _ _ (by omega) (by omega) (by omega) (by omega) v1 x1 _).mono ?_) | (with_reducible refine (round_ok 464943848500 _ _ (by omega) (by omega) (by omega) (by omega) v2 x2 _).mono ?_)); rintro e w' ⟨rfl, hk⟩; have hz := hk.size; (try (refine kuse (b := w.heap.size) hk (by first | (simp; done) | (simp; omega) | omega) ?_; intro hq0 hg0)); (try (have hy0 : w.heap.size < w'.heap.size := by (try simp at hz); omega)); (try (refine kuse (b := w.heap.size + 1) hk (by first | (simp; done) | (simp; omega) | omega) ?_; intro hq1 hg1)); (try (have hy1 : w.heap.size + 1 < w'.heap.size := by (try simp at hz); omega))))
  exact bodyPost_ret (v := .tuple #[.agg #[.int .i64 250, .int .i64 433], .int .i64 0]) (by first | (simp [results, Try.results24, go_sem]; done) | (simp (maxDischargeDepth := 7) [results, Try.results24, go_sem, *]; done)) rfl ⟨rfl, (by repeat (first | with_reducible exact Kept.refl _ | with_reducible assumption | with_reducible refine Kept.setCell ?_ (by first | (simp; done) | (simp; omega) | omega) _ | with_reducible refine Kept.alloc ?_ _ | with_reducible refine Kept.drewN ?_ _ | with_reducible refine Kept.drew ?_ | with_reducible refine Kept.trans ?_ (by with_reducible assumption) | with_reducible refine Kept.dr ?_ (by with_reducible assumption)))⟩

def mC (a h b o : Int) : Int := (max (a - h) (b - o) + min (a + h) (b + o)) / 2
def mW (a h b o : Int) : Int := min (a + h) (b + o) - mC a h b o
theorem r3 {a b c d : Int} {t : Bool} (h1 : a = c) (h2 : b = d) : Ending.returned (.tuple #[.int .i64 a, .int .i64 b, .bool t]) = .returned (.tuple #[.int .i64 c, .int .i64 d, .bool t]) := by rw [h1, h2]
theorem meet_yes (a h b o : Int) (a0 : -2000000 ≤ a) (a1 : a ≤ 2000000) (h0 : 0 ≤ h) (h1 : h ≤ 2000000) (b0 : -2000000 ≤ b) (b1 : b ≤ 2000000) (o0 : 0 ≤ o) (o1 : o ≤ 2000000) (k : max (a - h) (b - o) ≤ min (a + h) (b + o)) (w : World) : Calls Try.prog 35 #[.int .i64 a, .int .i64 h, .int .i64 b, .int .i64 o] w fun e w' => e = .returned (.tuple #[.int .i64 (mC a h b o), .int .i64 (mW a h b o), .bool true]) ∧ w = w' := by
  go_enter Try.func35, Try.ntmps35
  go_wp2
  all_goals first | (go_ret3; exact ⟨r3 (by unfold mC; omega) (by unfold mW mC; omega), rfl⟩) | (exfalso; omega)
theorem meet_no (a h b o : Int) (a0 : -2000000 ≤ a) (a1 : a ≤ 2000000) (h0 : 0 ≤ h) (h1 : h ≤ 2000000) (b0 : -2000000 ≤ b) (b1 : b ≤ 2000000) (o0 : 0 ≤ o) (o1 : o ≤ 2000000) (k : min (a + h) (b + o) < max (a - h) (b - o)) (w : World) : Calls Try.prog 35 #[.int .i64 a, .int .i64 h, .int .i64 b, .int .i64 o] w fun e w' => e = .returned (.tuple #[.int .i64 0, .int .i64 0, .bool false]) ∧ w = w' := by
  go_enter Try.func35, Try.ntmps35
  go_wp2
  all_goals first | (go_ret3; exact ⟨rfl, rfl⟩) | (exfalso; omega)
theorem floor2 (x : Int) (h0 : -9223372036854775808 ≤ x) (h1 : x ≤ 9223372036854775807) (w : World) : Calls Try.prog 49 #[.int .i64 x, .int .i64 2] w fun e w' => e = .returned (.tuple #[.int .i64 (x / 2), .int .i64 0]) ∧ w = w' := by
  have hr : rnd 0 (x * 1) 2 = x / 2 := by unfold rnd; rw [if_pos rfl, Int.mul_one, Int.fdiv_eq_ediv_of_nonneg _ (by decide)]
  have hv : mqv 0 x 1 2 = x / 2 := by
    unfold mqv; rw [if_neg (by decide), hr, if_pos]; unfold fit64; rw [decide_eq_true]; omega
  have he : mqe 0 x 1 2 = 0 := by
    unfold mqe; rw [if_neg (by decide), hr, if_pos]; unfold fit64; rw [decide_eq_true]; omega
  refine (ref_floor_w x 2 h0 h1 (by omega) (by omega) w).mono ?_
  rintro e w' ⟨rfl, rfl⟩
  rw [hv, he]
  exact ⟨rfl, rfl⟩
set_option maxHeartbeats 1000000 in
theorem rmeet_yes (a h b o : Int) (a0 : -2000000 ≤ a) (a1 : a ≤ 2000000) (h0 : 0 ≤ h) (h1 : h ≤ 2000000) (b0 : -2000000 ≤ b) (b1 : b ≤ 2000000) (o0 : 0 ≤ o) (o1 : o ≤ 2000000) (k : max (a - h) (b - o) ≤ min (a + h) (b + o)) (w : World) : Calls Try.prog 36 #[.int .i64 a, .int .i64 h, .int .i64 b, .int .i64 o] w fun e w' => e = .returned (.tuple #[.int .i64 (mC a h b o), .int .i64 (mW a h b o), .bool true]) ∧ w = w' := by
  go_enter Try.func36, Try.ntmps36
  go_wp2_with (go_at_call 49; refine (floor2 _ (by omega) (by omega) _).mono ?_; rintro e w' ⟨rfl, rfl⟩)
  all_goals first | (go_ret3; refine ⟨?_, rfl⟩; first | exact r3 (by unfold mC; omega) (by unfold mW mC; omega) | (show Ending.returned (.tuple #[.int .i64 _, .int .i64 _, .bool (decide _)]) = _; rw [decide_eq_true (by omega)]; exact r3 (by unfold mC; omega) (by unfold mW mC; omega))) | (exfalso; omega)
set_option maxHeartbeats 1000000 in
theorem rmeet_no (a h b o : Int) (a0 : -2000000 ≤ a) (a1 : a ≤ 2000000) (h0 : 0 ≤ h) (h1 : h ≤ 2000000) (b0 : -2000000 ≤ b) (b1 : b ≤ 2000000) (o0 : 0 ≤ o) (o1 : o ≤ 2000000) (k : min (a + h) (b + o) < max (a - h) (b - o)) (w : World) : Calls Try.prog 36 #[.int .i64 a, .int .i64 h, .int .i64 b, .int .i64 o] w fun e w' => e = .returned (.tuple #[.int .i64 (mC a h b o), .int .i64 (mW a h b o), .bool false]) ∧ w = w' := by
  go_enter Try.func36, Try.ntmps36
  go_wp2_with (go_at_call 49; refine (floor2 _ (by omega) (by omega) _).mono ?_; rintro e w' ⟨rfl, rfl⟩)
  all_goals first | (go_ret3; refine ⟨?_, rfl⟩; first | exact r3 (by unfold mC; omega) (by unfold mW mC; omega) | (show Ending.returned (.tuple #[.int .i64 _, .int .i64 _, .bool (decide _)]) = _; rw [decide_eq_false (by omega)]; exact r3 (by unfold mC; omega) (by unfold mW mC; omega))) | (exfalso; omega)
end Go.Proofs.Ytgbgiafdhbplhaa
