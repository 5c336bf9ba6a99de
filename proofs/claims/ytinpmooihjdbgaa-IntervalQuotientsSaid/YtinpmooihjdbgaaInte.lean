/-
  Own contracts: package interval: parts (the program's and the document's).
-/
import Derived.Test.YtinpmooihjdbgaaIntd
import Derived.WalkKit
import Derived.ProofKit
import Derived.OpenShut
import Derived.WalkLawsBesides
import Derived.WalkSpells
import Derived.Lib.Hide
import Derived.Deep.DeepCutAuto
import Derived.Deep.CutBlock
import Derived.Deep.QuietTactic
import Derived.BigQuiet
import Derived.Handy
import Derived.StillTailTactics
import Derived.IntWalk
import Derived.LoopN
import Derived.Deep.RegionHeld3
namespace Go.Proofs.Ytinpmooihjdbgaa
open Go.ChangeShapes Go.WideShapes Go.ChangeAt Go.RowKit
set_option linter.unusedVariables false
set_option linter.unusedSimpArgs false

set_option maxHeartbeats 400000 in
set_option maxRecDepth 100000 in
theorem ihull_v (a b c d l g : Int) (x1 : a ≤ b) (x2 : -4611686018427387904 ≤ a) (x3 : b ≤ 4611686018427387904) (y1 : c ≤ d) (y2 : -4611686018427387904 ≤ c) (y3 : d ≤ 4611686018427387904) (e1 : min a c = l) (e2 : max b d = g) (w : World) : Calls Try.prog 32 #[.agg #[.int .i64 a, .int .i64 b], .agg #[.int .i64 c, .int .i64 d]] w fun en w' => en = .returned (.tuple #[.agg #[.int .i64 l, .int .i64 g], .int .i64 0]) ∧ Kept w w' := by
  subst e1; subst e2; exact ihull_ok _ _ _ _ x1 x2 x3 y1 y2 y3 w
set_option maxHeartbeats 1000000 in
set_option maxRecDepth 100000 in
theorem iwithin_yes (a b c d : Int) (x1 : a ≤ b) (x2 : -4611686018427387904 ≤ a) (x3 : b ≤ 4611686018427387904) (y1 : c ≤ d) (y2 : -4611686018427387904 ≤ c) (y3 : d ≤ 4611686018427387904) (k1 : c ≤ a) (k2 : b ≤ d) (w : World) : Calls Try.prog 20 #[.agg #[.int .i64 a, .int .i64 b], .agg #[.int .i64 c, .int .i64 d]] w fun en w' => en = .returned (.bool true) ∧ Kept w w' := by
  go_enter Try.func20, Try.ntmps20
  go_wp2_with fail
  refine (ihull_v a b c d c d (by omega) (by omega) (by omega) (by omega) (by omega) (by omega) (by omega) (by omega) _).mono ?_
  rintro e w1 ⟨rfl, hk1⟩
  refine kuse (b := w.heap.size) hk1 (by first | (simp; done) | (simp; omega) | omega) ?_
  intro ha1_0 hb1_0
  have hz1_0 : w.heap.size < w1.heap.size := by have := hk1.size; (try simp at this); omega
  refine kuse (b := w.heap.size + 1) hk1 (by first | (simp; done) | (simp; omega) | omega) ?_
  intro ha1_1 hb1_1
  have hz1_1 : w.heap.size + 1 < w1.heap.size := by have := hk1.size; (try simp at this); omega
  go_wp2_with fail
  all_goals (go_ret; refine ⟨?_, (by repeat (first | with_reducible exact Kept.refl _ | with_reducible assumption | with_reducible refine Kept.setCell ?_ (by first | (simp; done) | (simp; omega) | omega) _ | with_reducible refine Kept.alloc ?_ _ | with_reducible refine Kept.drewN ?_ _ | with_reducible refine Kept.drew ?_ | with_reducible refine Kept.trans ?_ (by with_reducible assumption) | with_reducible refine Kept.dr ?_ (by with_reducible assumption)))⟩)
  all_goals first | rfl | (simp; done) | (simp; omega)
set_option maxHeartbeats 1000000 in
set_option maxRecDepth 100000 in
theorem iwithin_no (a b c d l g : Int) (x1 : a ≤ b) (x2 : -4611686018427387904 ≤ a) (x3 : b ≤ 4611686018427387904) (y1 : c ≤ d) (y2 : -4611686018427387904 ≤ c) (y3 : d ≤ 4611686018427387904) (e1 : min a c = l) (e2 : max b d = g) (k : l ≠ c ∨ g ≠ d) (w : World) : Calls Try.prog 20 #[.agg #[.int .i64 a, .int .i64 b], .agg #[.int .i64 c, .int .i64 d]] w fun en w' => en = .returned (.bool false) ∧ Kept w w' := by
  go_enter Try.func20, Try.ntmps20
  go_wp2_with fail
  refine (ihull_v a b c d l g (by omega) (by omega) (by omega) (by omega) (by omega) (by omega) (by omega) (by omega) _).mono ?_
  rintro e w1 ⟨rfl, hk1⟩
  refine kuse (b := w.heap.size) hk1 (by first | (simp; done) | (simp; omega) | omega) ?_
  intro ha1_0 hb1_0
  have hz1_0 : w.heap.size < w1.heap.size := by have := hk1.size; (try simp at this); omega
  refine kuse (b := w.heap.size + 1) hk1 (by first | (simp; done) | (simp; omega) | omega) ?_
  intro ha1_1 hb1_1
  have hz1_1 : w.heap.size + 1 < w1.heap.size := by have := hk1.size; (try simp at this); omega
  go_wp2_with fail
  all_goals (go_ret; refine ⟨?_, (by repeat (first | with_reducible exact Kept.refl _ | with_reducible assumption | with_reducible refine Kept.setCell ?_ (by first | (simp; done) | (simp; omega) | omega) _ | with_reducible refine Kept.alloc ?_ _ | with_reducible refine Kept.drewN ?_ _ | with_reducible refine Kept.drew ?_ | with_reducible refine Kept.trans ?_ (by with_reducible assumption) | with_reducible refine Kept.dr ?_ (by with_reducible assumption)))⟩)
  all_goals first | rfl | (simp; done) | (simp; omega)
set_option maxHeartbeats 1000000 in
set_option maxRecDepth 100000 in
theorem iwithin_arg (a b c d : Int) (h : b < a ∨ a < -4611686018427387904 ∨ 4611686018427387904 < b ∨ d < c ∨ c < -4611686018427387904 ∨ 4611686018427387904 < d) (w : World) : Calls Try.prog 20 #[.agg #[.int .i64 a, .int .i64 b], .agg #[.int .i64 c, .int .i64 d]] w fun en w' => en = .returned (.bool false) ∧ Kept w w' := by
  go_enter Try.func20, Try.ntmps20
  go_wp2_with fail
  refine (ihull_arg a b c d h _).mono ?_
  rintro e w1 ⟨rfl, hk1⟩
  refine kuse (b := w.heap.size) hk1 (by first | (simp; done) | (simp; omega) | omega) ?_
  intro ha1_0 hb1_0
  have hz1_0 : w.heap.size < w1.heap.size := by have := hk1.size; (try simp at this); omega
  refine kuse (b := w.heap.size + 1) hk1 (by first | (simp; done) | (simp; omega) | omega) ?_
  intro ha1_1 hb1_1
  have hz1_1 : w.heap.size + 1 < w1.heap.size := by have := hk1.size; (try simp at this); omega
  go_wp2_with fail
  all_goals (go_ret; refine ⟨?_, (by repeat (first | with_reducible exact Kept.refl _ | with_reducible assumption | with_reducible refine Kept.setCell ?_ (by first | (simp; done) | (simp; omega) | omega) _ | with_reducible refine Kept.alloc ?_ _ | with_reducible refine Kept.drewN ?_ _ | with_reducible refine Kept.drew ?_ | with_reducible refine Kept.trans ?_ (by with_reducible assumption) | with_reducible refine Kept.dr ?_ (by with_reducible assumption)))⟩)
  all_goals first | rfl | (simp; done) | (simp; omega)
set_option maxHeartbeats 1000000 in
set_option maxRecDepth 100000 in
theorem ref_iwithin_yes (a b c d : Int) (x1 : a ≤ b) (x2 : -4611686018427387904 ≤ a) (x3 : b ≤ 4611686018427387904) (y1 : c ≤ d) (y2 : -4611686018427387904 ≤ c) (y3 : d ≤ 4611686018427387904) (k1 : c ≤ a) (k2 : b ≤ d) (w : World) : Calls Try.prog 21 #[.agg #[.int .i64 a, .int .i64 b], .agg #[.int .i64 c, .int .i64 d]] w fun en w' => en = .returned (.bool true) ∧ Kept w w' := by
  go_enter Try.func21, Try.ntmps21
  go_wp2_with (first | (go_at_call 17; (first | refine (ref_valid_ok _ _ (by omega) (by omega) (by omega) _).mono ?_ | refine (ref_valid_bad _ _ (by omega) _).mono ?_); rintro e w' ⟨rfl, hk⟩; have hz := hk.size; (try (refine kuse (b := w.heap.size) hk (by first | (simp; done) | (simp; omega) | omega) ?_; intro hq0 hg0)); (try (have hy0 : w.heap.size < w'.heap.size := by (try simp at hz); omega)); (try (refine kuse (b := w.heap.size + 1) hk (by first | (simp; done) | (simp; omega) | omega) ?_; intro hq1 hg1)); (try (have hy1 : w.heap.size + 1 < w'.heap.size := by (try simp at hz); omega)); (try (refine kuse (b := w.heap.size + 2) hk (by first | (simp; done) | (simp; omega) | omega) ?_; intro hq2 hg2)); (try (have hy2 : w.heap.size + 2 < w'.heap.size := by (try simp at hz); omega)); (try (refine withF (p := w'.cell? ⟨w.heap.size, 0, none⟩ = some (.int .i64 a)) (by first | (simp (maxDischargeDepth := 7) [go_sem, hq0]; done) | fail) ?_; intro ff00; refine withF (p := w'.cell? ⟨w.heap.size, 1, none⟩ = some (.int .i64 b)) (by first | (simp (maxDischargeDepth := 7) [go_sem, hq0]; done) | fail) ?_; intro ff01; refine withF (p := ∀ o, w'.frozen? ⟨w.heap.size, o, none⟩ = false) (by first | (intro o; simp (maxDischargeDepth := 7) [go_sem, hg0]; done) | fail) ?_; intro fg0; clear hq0 hg0)); (try (refine withF (p := w'.cell? ⟨w.heap.size + 1, 0, none⟩ = some (.int .i64 c)) (by first | (simp (maxDischargeDepth := 7) [go_sem, hq1]; done) | fail) ?_; intro ff10; refine withF (p := w'.cell? ⟨w.heap.size + 1, 1, none⟩ = some (.int .i64 d)) (by first | (simp (maxDischargeDepth := 7) [go_sem, hq1]; done) | fail) ?_; intro ff11; refine withF (p := ∀ o, w'.frozen? ⟨w.heap.size + 1, o, none⟩ = false) (by first | (intro o; simp (maxDischargeDepth := 7) [go_sem, hg1]; done) | fail) ?_; intro fg1; clear hq1 hg1))))
  all_goals first | (go_ret; refine ⟨?_, (by repeat (first | with_reducible exact Kept.refl _ | with_reducible assumption | with_reducible refine Kept.setCell ?_ (by first | (simp; done) | (simp; omega) | omega) _ | with_reducible refine Kept.alloc ?_ _ | with_reducible refine Kept.drewN ?_ _ | with_reducible refine Kept.drew ?_ | with_reducible refine Kept.trans ?_ (by with_reducible assumption) | with_reducible refine Kept.dr ?_ (by with_reducible assumption)))⟩; first | rfl | (show Ending.returned (.bool (decide _)) = _; rw [decide_eq_true (by omega)]) | (show Ending.returned (.bool (decide _)) = _; rw [decide_eq_false (by omega)]) | (refine retb ?_; simp; done) | (refine retb ?_; simp; omega)) | (exfalso; omega)
set_option maxHeartbeats 1000000 in
set_option maxRecDepth 100000 in
theorem ref_iwithin_no (a b c d : Int) (x1 : a ≤ b) (x2 : -4611686018427387904 ≤ a) (x3 : b ≤ 4611686018427387904) (y1 : c ≤ d) (y2 : -4611686018427387904 ≤ c) (y3 : d ≤ 4611686018427387904) (k : a < c ∨ d < b) (w : World) : Calls Try.prog 21 #[.agg #[.int .i64 a, .int .i64 b], .agg #[.int .i64 c, .int .i64 d]] w fun en w' => en = .returned (.bool false) ∧ Kept w w' := by
  go_enter Try.func21, Try.ntmps21
  go_wp2_with (first | (go_at_call 17; (first | refine (ref_valid_ok _ _ (by omega) (by omega) (by omega) _).mono ?_ | refine (ref_valid_bad _ _ (by omega) _).mono ?_); rintro e w' ⟨rfl, hk⟩; have hz := hk.size; (try (refine kuse (b := w.heap.size) hk (by first | (simp; done) | (simp; omega) | omega) ?_; intro hq0 hg0)); (try (have hy0 : w.heap.size < w'.heap.size := by (try simp at hz); omega)); (try (refine kuse (b := w.heap.size + 1) hk (by first | (simp; done) | (simp; omega) | omega) ?_; intro hq1 hg1)); (try (have hy1 : w.heap.size + 1 < w'.heap.size := by (try simp at hz); omega)); (try (refine kuse (b := w.heap.size + 2) hk (by first | (simp; done) | (simp; omega) | omega) ?_; intro hq2 hg2)); (try (have hy2 : w.heap.size + 2 < w'.heap.size := by (try simp at hz); omega)); (try (refine withF (p := w'.cell? ⟨w.heap.size, 0, none⟩ = some (.int .i64 a)) (by first | (simp (maxDischargeDepth := 7) [go_sem, hq0]; done) | fail) ?_; intro ff00; refine withF (p := w'.cell? ⟨w.heap.size, 1, none⟩ = some (.int .i64 b)) (by first | (simp (maxDischargeDepth := 7) [go_sem, hq0]; done) | fail) ?_; intro ff01; refine withF (p := ∀ o, w'.frozen? ⟨w.heap.size, o, none⟩ = false) (by first | (intro o; simp (maxDischargeDepth := 7) [go_sem, hg0]; done) | fail) ?_; intro fg0; clear hq0 hg0)); (try (refine withF (p := w'.cell? ⟨w.heap.size + 1, 0, none⟩ = some (.int .i64 c)) (by first | (simp (maxDischargeDepth := 7) [go_sem, hq1]; done) | fail) ?_; intro ff10; refine withF (p := w'.cell? ⟨w.heap.size + 1, 1, none⟩ = some (.int .i64 d)) (by first | (simp (maxDischargeDepth := 7) [go_sem, hq1]; done) | fail) ?_; intro ff11; refine withF (p := ∀ o, w'.frozen? ⟨w.heap.size + 1, o, none⟩ = false) (by first | (intro o; simp (maxDischargeDepth := 7) [go_sem, hg1]; done) | fail) ?_; intro fg1; clear hq1 hg1))))
  all_goals first | (go_ret; refine ⟨?_, (by repeat (first | with_reducible exact Kept.refl _ | with_reducible assumption | with_reducible refine Kept.setCell ?_ (by first | (simp; done) | (simp; omega) | omega) _ | with_reducible refine Kept.alloc ?_ _ | with_reducible refine Kept.drewN ?_ _ | with_reducible refine Kept.drew ?_ | with_reducible refine Kept.trans ?_ (by with_reducible assumption) | with_reducible refine Kept.dr ?_ (by with_reducible assumption)))⟩; first | rfl | (show Ending.returned (.bool (decide _)) = _; rw [decide_eq_true (by omega)]) | (show Ending.returned (.bool (decide _)) = _; rw [decide_eq_false (by omega)]) | (refine retb ?_; simp; done) | (refine retb ?_; simp; omega)) | (exfalso; omega)
set_option maxHeartbeats 1000000 in
set_option maxRecDepth 100000 in
theorem ref_iwithin_arg (a b c d : Int) (h : b < a ∨ a < -4611686018427387904 ∨ 4611686018427387904 < b ∨ d < c ∨ c < -4611686018427387904 ∨ 4611686018427387904 < d) (w : World) : Calls Try.prog 21 #[.agg #[.int .i64 a, .int .i64 b], .agg #[.int .i64 c, .int .i64 d]] w fun en w' => en = .returned (.bool false) ∧ Kept w w' := by
  by_cases hx : b < a ∨ a < -4611686018427387904 ∨ 4611686018427387904 < b
  · clear h
    go_enter Try.func21, Try.ntmps21
    go_wp2_with (first | (go_at_call 17; (first | refine (ref_valid_ok _ _ (by omega) (by omega) (by omega) _).mono ?_ | refine (ref_valid_bad _ _ (by omega) _).mono ?_); rintro e w' ⟨rfl, hk⟩; have hz := hk.size; (try (refine kuse (b := w.heap.size) hk (by first | (simp; done) | (simp; omega) | omega) ?_; intro hq0 hg0)); (try (have hy0 : w.heap.size < w'.heap.size := by (try simp at hz); omega)); (try (refine kuse (b := w.heap.size + 1) hk (by first | (simp; done) | (simp; omega) | omega) ?_; intro hq1 hg1)); (try (have hy1 : w.heap.size + 1 < w'.heap.size := by (try simp at hz); omega)); (try (refine kuse (b := w.heap.size + 2) hk (by first | (simp; done) | (simp; omega) | omega) ?_; intro hq2 hg2)); (try (have hy2 : w.heap.size + 2 < w'.heap.size := by (try simp at hz); omega)); (try (refine withF (p := w'.cell? ⟨w.heap.size, 0, none⟩ = some (.int .i64 a)) (by first | (simp (maxDischargeDepth := 7) [go_sem, hq0]; done) | fail) ?_; intro ff00; refine withF (p := w'.cell? ⟨w.heap.size, 1, none⟩ = some (.int .i64 b)) (by first | (simp (maxDischargeDepth := 7) [go_sem, hq0]; done) | fail) ?_; intro ff01; refine withF (p := ∀ o, w'.frozen? ⟨w.heap.size, o, none⟩ = false) (by first | (intro o; simp (maxDischargeDepth := 7) [go_sem, hg0]; done) | fail) ?_; intro fg0; clear hq0 hg0)); (try (refine withF (p := w'.cell? ⟨w.heap.size + 1, 0, none⟩ = some (.int .i64 c)) (by first | (simp (maxDischargeDepth := 7) [go_sem, hq1]; done) | fail) ?_; intro ff10; refine withF (p := w'.cell? ⟨w.heap.size + 1, 1, none⟩ = some (.int .i64 d)) (by first | (simp (maxDischargeDepth := 7) [go_sem, hq1]; done) | fail) ?_; intro ff11; refine withF (p := ∀ o, w'.frozen? ⟨w.heap.size + 1, o, none⟩ = false) (by first | (intro o; simp (maxDischargeDepth := 7) [go_sem, hg1]; done) | fail) ?_; intro fg1; clear hq1 hg1))))
    all_goals first | (go_ret; refine ⟨?_, (by repeat (first | with_reducible exact Kept.refl _ | with_reducible assumption | with_reducible refine Kept.setCell ?_ (by first | (simp; done) | (simp; omega) | omega) _ | with_reducible refine Kept.alloc ?_ _ | with_reducible refine Kept.drewN ?_ _ | with_reducible refine Kept.drew ?_ | with_reducible refine Kept.trans ?_ (by with_reducible assumption) | with_reducible refine Kept.dr ?_ (by with_reducible assumption)))⟩; first | rfl | (show Ending.returned (.bool (decide _)) = _; rw [decide_eq_true (by omega)]) | (show Ending.returned (.bool (decide _)) = _; rw [decide_eq_false (by omega)]) | (refine retb ?_; simp; done) | (refine retb ?_; simp; omega)) | (exfalso; omega)
  have hy : d < c ∨ c < -4611686018427387904 ∨ 4611686018427387904 < d := by omega
  clear h
  go_enter Try.func21, Try.ntmps21
  go_wp2_with (first | (go_at_call 17; (first | refine (ref_valid_ok _ _ (by omega) (by omega) (by omega) _).mono ?_ | refine (ref_valid_bad _ _ (by omega) _).mono ?_); rintro e w' ⟨rfl, hk⟩; have hz := hk.size; (try (refine kuse (b := w.heap.size) hk (by first | (simp; done) | (simp; omega) | omega) ?_; intro hq0 hg0)); (try (have hy0 : w.heap.size < w'.heap.size := by (try simp at hz); omega)); (try (refine kuse (b := w.heap.size + 1) hk (by first | (simp; done) | (simp; omega) | omega) ?_; intro hq1 hg1)); (try (have hy1 : w.heap.size + 1 < w'.heap.size := by (try simp at hz); omega)); (try (refine kuse (b := w.heap.size + 2) hk (by first | (simp; done) | (simp; omega) | omega) ?_; intro hq2 hg2)); (try (have hy2 : w.heap.size + 2 < w'.heap.size := by (try simp at hz); omega)); (try (refine withF (p := w'.cell? ⟨w.heap.size, 0, none⟩ = some (.int .i64 a)) (by first | (simp (maxDischargeDepth := 7) [go_sem, hq0]; done) | fail) ?_; intro ff00; refine withF (p := w'.cell? ⟨w.heap.size, 1, none⟩ = some (.int .i64 b)) (by first | (simp (maxDischargeDepth := 7) [go_sem, hq0]; done) | fail) ?_; intro ff01; refine withF (p := ∀ o, w'.frozen? ⟨w.heap.size, o, none⟩ = false) (by first | (intro o; simp (maxDischargeDepth := 7) [go_sem, hg0]; done) | fail) ?_; intro fg0; clear hq0 hg0)); (try (refine withF (p := w'.cell? ⟨w.heap.size + 1, 0, none⟩ = some (.int .i64 c)) (by first | (simp (maxDischargeDepth := 7) [go_sem, hq1]; done) | fail) ?_; intro ff10; refine withF (p := w'.cell? ⟨w.heap.size + 1, 1, none⟩ = some (.int .i64 d)) (by first | (simp (maxDischargeDepth := 7) [go_sem, hq1]; done) | fail) ?_; intro ff11; refine withF (p := ∀ o, w'.frozen? ⟨w.heap.size + 1, o, none⟩ = false) (by first | (intro o; simp (maxDischargeDepth := 7) [go_sem, hg1]; done) | fail) ?_; intro fg1; clear hq1 hg1))))
  all_goals first | (go_ret; refine ⟨?_, (by repeat (first | with_reducible exact Kept.refl _ | with_reducible assumption | with_reducible refine Kept.setCell ?_ (by first | (simp; done) | (simp; omega) | omega) _ | with_reducible refine Kept.alloc ?_ _ | with_reducible refine Kept.drewN ?_ _ | with_reducible refine Kept.drew ?_ | with_reducible refine Kept.trans ?_ (by with_reducible assumption) | with_reducible refine Kept.dr ?_ (by with_reducible assumption)))⟩; first | rfl | (show Ending.returned (.bool (decide _)) = _; rw [decide_eq_true (by omega)]) | (show Ending.returned (.bool (decide _)) = _; rw [decide_eq_false (by omega)]) | (refine retb ?_; simp; done) | (refine retb ?_; simp; omega)) | (exfalso; omega)
end Go.Proofs.Ytinpmooihjdbgaa
