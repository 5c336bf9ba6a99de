/-
  Own contracts: package interval: products of what is not an interval.
-/
import Derived.Test.YtfmijkbmedfcfaaIntm
import Derived.WalkKit
import Derived.ProofKit
import Derived.OpenShut
import Derived.WalkLawsBesides
import Derived.WalkSpells
import Derived.Lib.Hide
import Derived.Deep.DeepCutAuto
import Derived.Deep.CutBlock
import Derived.Deep.QuietTactic
import Derived.BigQuiet
import Derived.Handy
import Derived.StillTailTactics
import Derived.IntWalk
import Derived.LoopN
import Derived.Deep.RegionHeld3
namespace Go.Proofs.Ytfmijkbmedfcfaa
open Go.ChangeShapes Go.WideShapes Go.ChangeAt Go.RowKit
set_option linter.unusedVariables false
set_option linter.unusedSimpArgs false

set_option maxHeartbeats 1000000 in
set_option maxRecDepth 100000 in
theorem imul_arg (a b c d : Int) (h : b < a ∨ a < -4611686018427387904 ∨ 4611686018427387904 < b ∨ d < c ∨ c < -4611686018427387904 ∨ 4611686018427387904 < d) (w : World) : Calls Try.prog 6 #[.agg #[.int .i64 a, .int .i64 b], .agg #[.int .i64 c, .int .i64 d]] w fun en w' => en = .returned (.tuple #[.agg #[.int .i64 0, .int .i64 0], .int .i64 1]) ∧ Kept w w' := by
  by_cases hx : b < a ∨ a < -4611686018427387904 ∨ 4611686018427387904 < b
  · clear h
    go_enter Try.func6, Try.ntmps6
    go_wp2_with (first | (go_at_call 14; (first | refine (valid_ok _ _ (by omega) (by omega) (by omega) _).mono ?_ | refine (valid_bad _ _ (by omega) _).mono ?_); rintro e w' ⟨rfl, hk⟩; have hz := hk.size; (try (refine kuse (b := w.heap.size) hk (by first | (simp; done) | (simp; omega) | omega) ?_; intro hq0 hg0)); (try (have hy0 : w.heap.size < w'.heap.size := by (try simp at hz); omega)); (try (refine kuse (b := w.heap.size + 1) hk (by first | (simp; done) | (simp; omega) | omega) ?_; intro hq1 hg1)); (try (have hy1 : w.heap.size + 1 < w'.heap.size := by (try simp at hz); omega)); (try (refine kuse (b := w.heap.size + 2) hk (by first | (simp; done) | (simp; omega) | omega) ?_; intro hq2 hg2)); (try (have hy2 : w.heap.size + 2 < w'.heap.size := by (try simp at hz); omega)); (try (refine withF (p := w'.cell? ⟨w.heap.size, 0, none⟩ = some (.int .i64 a)) (by first | (simp (maxDischargeDepth := 7) [go_sem, hq0]; done) | fail) ?_; intro ff00; refine withF (p := w'.cell? ⟨w.heap.size, 1, none⟩ = some (.int .i64 b)) (by first | (simp (maxDischargeDepth := 7) [go_sem, hq0]; done) | fail) ?_; intro ff01; refine withF (p := ∀ o, w'.frozen? ⟨w.heap.size, o, none⟩ = false) (by first | (intro o; simp (maxDischargeDepth := 7) [go_sem, hg0]; done) | fail) ?_; intro fg0; clear hq0 hg0)); (try (refine withF (p := w'.cell? ⟨w.heap.size + 1, 0, none⟩ = some (.int .i64 c)) (by first | (simp (maxDischargeDepth := 7) [go_sem, hq1]; done) | fail) ?_; intro ff10; refine withF (p := w'.cell? ⟨w.heap.size + 1, 1, none⟩ = some (.int .i64 d)) (by first | (simp (maxDischargeDepth := 7) [go_sem, hq1]; done) | fail) ?_; intro ff11; refine withF (p := ∀ o, w'.frozen? ⟨w.heap.size + 1, o, none⟩ = false) (by first | (intro o; simp (maxDischargeDepth := 7) [go_sem, hg1]; done) | fail) ?_; intro fg1; clear hq1 hg1)); (try (refine withF (p := w'.cell? ⟨w.heap.size + 2, 0, none⟩ = some (.int .i64 0)) (by first | (simp (maxDischargeDepth := 7) [go_sem, hq2]; done) | fail) ?_; intro ff20; refine withF (p := w'.cell? ⟨w.heap.size + 2, 1, none⟩ = some (.int .i64 0)) (by first | (simp (maxDischargeDepth := 7) [go_sem, hq2]; done) | fail) ?_; intro ff21; refine withF (p := ∀ o, w'.frozen? ⟨w.heap.size + 2, o, none⟩ = false) (by first | (intro o; simp (maxDischargeDepth := 7) [go_sem, hg2]; done) | fail) ?_; intro fg2; clear hq2 hg2))))
    all_goals exact bodyPost_ret (v := .tuple #[.agg #[.int .i64 0, .int .i64 0], .int .i64 1]) (by first | (simp [results, Try.results6, go_sem]; done) | (simp (maxDischargeDepth := 7) [results, Try.results6, go_sem, *]; done)) rfl ⟨rfl, (by repeat (first | with_reducible exact Kept.refl _ | with_reducible assumption | with_reducible refine Kept.setCell ?_ (by first | (simp; done) | (simp; omega) | omega) _ | with_reducible refine Kept.alloc ?_ _ | with_reducible refine Kept.drewN ?_ _ | with_reducible refine Kept.drew ?_ | with_reducible refine Kept.trans ?_ (by with_reducible assumption) | with_reducible refine Kept.dr ?_ (by with_reducible assumption)))⟩
  have hy : d < c ∨ c < -4611686018427387904 ∨ 4611686018427387904 < d := by omega
  clear h
  go_enter Try.func6, Try.ntmps6
  go_wp2_with (first | (go_at_call 14; (first | refine (valid_ok _ _ (by omega) (by omega) (by omega) _).mono ?_ | refine (valid_bad _ _ (by omega) _).mono ?_); rintro e w' ⟨rfl, hk⟩; have hz := hk.size; (try (refine kuse (b := w.heap.size) hk (by first | (simp; done) | (simp; omega) | omega) ?_; intro hq0 hg0)); (try (have hy0 : w.heap.size < w'.heap.size := by (try simp at hz); omega)); (try (refine kuse (b := w.heap.size + 1) hk (by first | (simp; done) | (simp; omega) | omega) ?_; intro hq1 hg1)); (try (have hy1 : w.heap.size + 1 < w'.heap.size := by (try simp at hz); omega)); (try (refine kuse (b := w.heap.size + 2) hk (by first | (simp; done) | (simp; omega) | omega) ?_; intro hq2 hg2)); (try (have hy2 : w.heap.size + 2 < w'.heap.size := by (try simp at hz); omega)); (try (refine withF (p := w'.cell? ⟨w.heap.size, 0, none⟩ = some (.int .i64 a)) (by first | (simp (maxDischargeDepth := 7) [go_sem, hq0]; done) | fail) ?_; intro ff00; refine withF (p := w'.cell? ⟨w.heap.size, 1, none⟩ = some (.int .i64 b)) (by first | (simp (maxDischargeDepth := 7) [go_sem, hq0]; done) | fail) ?_; intro ff01; refine withF (p := ∀ o, w'.frozen? ⟨w.heap.size, o, none⟩ = false) (by first | (intro o; simp (maxDischargeDepth := 7) [go_sem, hg0]; done) | fail) ?_; intro fg0; clear hq0 hg0)); (try (refine withF (p := w'.cell? ⟨w.heap.size + 1, 0, none⟩ = some (.int .i64 c)) (by first | (simp (maxDischargeDepth := 7) [go_sem, hq1]; done) | fail) ?_; intro ff10; refine withF (p := w'.cell? ⟨w.heap.size + 1, 1, none⟩ = some (.int .i64 d)) (by first | (simp (maxDischargeDepth := 7) [go_sem, hq1]; done) | fail) ?_; intro ff11; refine withF (p := ∀ o, w'.frozen? ⟨w.heap.size + 1, o, none⟩ = false) (by first | (intro o; simp (maxDischargeDepth := 7) [go_sem, hg1]; done) | fail) ?_; intro fg1; clear hq1 hg1)); (try (refine withF (p := w'.cell? ⟨w.heap.size + 2, 0, none⟩ = some (.int .i64 0)) (by first | (simp (maxDischargeDepth := 7) [go_sem, hq2]; done) | fail) ?_; intro ff20; refine withF (p := w'.cell? ⟨w.heap.size + 2, 1, none⟩ = some (.int .i64 0)) (by first | (simp (maxDischargeDepth := 7) [go_sem, hq2]; done) | fail) ?_; intro ff21; refine withF (p := ∀ o, w'.frozen? ⟨w.heap.size + 2, o, none⟩ = false) (by first | (intro o; simp (maxDischargeDepth := 7) [go_sem, hg2]; done) | fail) ?_; intro fg2; clear hq2 hg2))))
  all_goals exact bodyPost_ret (v := .tuple #[.agg #[.int .i64 0, .int .i64 0], .int .i64 1]) (by first | (simp [results, Try.results6, go_sem]; done) | (simp (maxDischargeDepth := 7) [results, Try.results6, go_sem, *]; done)) rfl ⟨rfl, (by repeat (first | with_reducible exact Kept.refl _ | with_reducible assumption | with_reducible refine Kept.setCell ?_ (by first | (simp; done) | (simp; omega) | omega) _ | with_reducible refine Kept.alloc ?_ _ | with_reducible refine Kept.drewN ?_ _ | with_reducible refine Kept.drew ?_ | with_reducible refine Kept.trans ?_ (by with_reducible assumption) | with_reducible refine Kept.dr ?_ (by with_reducible assumption)))⟩
end Go.Proofs.Ytfmijkbmedfcfaa
