/-
  The laws of intervals: walks.
-/
import Derived.Test.YtinpmooihjdbgaaIntu
import Derived.WalkKit
import Derived.ProofKit
import Derived.OpenShut
import Derived.WalkLawsBesides
import Derived.WalkSpells
import Derived.Lib.Hide
import Derived.Deep.DeepCutAuto
import Derived.Deep.CutBlock
import Derived.Deep.QuietTactic
import Derived.BigQuiet
import Derived.Handy
import Derived.StillTailTactics
import Derived.IntWalk
import Derived.LoopN
import Derived.Deep.RegionHeld3
namespace Go.Proofs.Ytinpmooihjdbgaa
open Go.ChangeShapes Go.WideShapes Go.ChangeAt Go.RowKit
set_option linter.unusedVariables false
set_option linter.unusedSimpArgs false

set_option maxHeartbeats 4000000 in
set_option maxRecDepth 100000 in
theorem makes_w (a b c d v : Int) (a_0 : -9223372036854775808 ≤ a) (a_1 : a ≤ 9223372036854775807) (b_0 : -9223372036854775808 ≤ b) (b_1 : b ≤ 9223372036854775807) (c_0 : -9223372036854775808 ≤ c) (c_1 : c ≤ 9223372036854775807) (d_0 : -9223372036854775808 ≤ d) (d_1 : d ≤ 9223372036854775807) (v_0 : -9223372036854775808 ≤ v) (v_1 : v ≤ 9223372036854775807) (w : World) : Calls Try.prog 3 #[.agg #[.int .i64 a, .int .i64 b], .agg #[.int .i64 c, .int .i64 d], .int .i64 v] w fun en w' => en = .returned (.bool true) ∧ Kept w w' := by
  have nb := wd_bd a b
  have c0 := make_u a b
  have d0 := ref_make_u a b
  have c1 := valid_u a b
  have d1 := ref_valid_u a b
  have c2 := has_u a b v
  have d2 := ref_has_u a b v
  have c3 := within_u a b c d
  have d3 := ref_within_u a b c d
  have c4 := width_u a b
  have d4 := ref_width_u a b
  generalize mkl a b = l at nb c0 d0 c1 d1 c2 d2 c3 d3 c4 d4
  generalize mkg a b = g at nb c0 d0 c1 d1 c2 d2 c3 d3 c4 d4
  generalize mke a b = k at nb c0 d0 c1 d1 c2 d2 c3 d3 c4 d4
  generalize vb a b = p at nb c0 d0 c1 d1 c2 d2 c3 d3 c4 d4
  generalize hb a b v = h at nb c0 d0 c1 d1 c2 d2 c3 d3 c4 d4
  generalize wi a b c d = s at nb c0 d0 c1 d1 c2 d2 c3 d3 c4 d4
  generalize wd a b = n at nb c0 d0 c1 d1 c2 d2 c3 d3 c4 d4
  go_enter Try.func3, Try.ntmps3
  go_wp2_with fail
  refine (awake_w _).mono ?_
  rintro e w1 ⟨rfl, hk1⟩
  refine kuse (b := w.heap.size) hk1 (by first | (simp; done) | (simp; omega) | omega) ?_
  intro ha1_0 hb1_0
  have hz1_0 : w.heap.size < w1.heap.size := by have := hk1.size; (try simp at this); omega
  refine kuse (b := w.heap.size + 1) hk1 (by first | (simp; done) | (simp; omega) | omega) ?_
  intro ha1_1 hb1_1
  have hz1_1 : w.heap.size + 1 < w1.heap.size := by have := hk1.size; (try simp at this); omega
  go_wp2_with fail
  refine (c0 _).mono ?_
  rintro e w2 ⟨rfl, hk2⟩
  refine kuse (b := w.heap.size) hk2 (by first | (simp; done) | (simp; omega) | omega) ?_
  intro ha2_0 hb2_0
  have hz2_0 : w.heap.size < w2.heap.size := by have := hk2.size; (try simp at this); omega
  refine kuse (b := w.heap.size + 1) hk2 (by first | (simp; done) | (simp; omega) | omega) ?_
  intro ha2_1 hb2_1
  have hz2_1 : w.heap.size + 1 < w2.heap.size := by have := hk2.size; (try simp at this); omega
  go_wp2_with fail
  refine (d0 _).mono ?_
  rintro e w3 ⟨rfl, hk3⟩
  refine kuse (b := w.heap.size) hk3 (by first | (simp; done) | (simp; omega) | omega) ?_
  intro ha3_0 hb3_0
  have hz3_0 : w.heap.size < w3.heap.size := by have := hk3.size; (try simp at this); omega
  refine kuse (b := w.heap.size + 1) hk3 (by first | (simp; done) | (simp; omega) | omega) ?_
  intro ha3_1 hb3_1
  have hz3_1 : w.heap.size + 1 < w3.heap.size := by have := hk3.size; (try simp at this); omega
  refine kuse (b := w2.heap.size) hk3 (by first | (simp; done) | (simp; omega) | omega) ?_
  intro ha3_2 hb3_2
  have hz3_2 : w2.heap.size < w3.heap.size := by have := hk3.size; (try simp at this); omega
  go_wp2_with fail
  have ne : w2.heap.size ≠ w3.heap.size := by omega
  go_region_held3 (fun W => W.cell? ⟨w.heap.size, 0, none⟩ = some (.int .i64 a) ∧ W.cell? ⟨w.heap.size, 1, none⟩ = some (.int .i64 b) ∧ W.cell? ⟨w.heap.size + 1, 0, none⟩ = some (.int .i64 c) ∧ W.cell? ⟨w.heap.size + 1, 1, none⟩ = some (.int .i64 d) ∧ W.cell? ⟨w2.heap.size, 0, none⟩ = some (.int .i64 l) ∧ W.cell? ⟨w2.heap.size, 1, none⟩ = some (.int .i64 g) ∧ W.cell? ⟨w3.heap.size, 0, none⟩ = some (.int .i64 l) ∧ W.cell? ⟨w3.heap.size, 1, none⟩ = some (.int .i64 g)) (go_keep) (first | (go_at_call 13; refine (c0 _).mono ?_; rintro e w' ⟨rfl, hk⟩; have hz := hk.size; (try (refine kuse (b := w.heap.size) hk (by first | (simp; done) | (simp; omega) | omega) ?_; intro hq0 hg0)); (try (have hy0 : w.heap.size < w'.heap.size := by (try simp at hz); omega)); (try (refine kuse (b := w.heap.size + 1) hk (by first | (simp; done) | (simp; omega) | omega) ?_; intro hq1 hg1)); (try (have hy1 : w.heap.size + 1 < w'.heap.size := by (try simp at hz); omega)); (try (refine kuse (b := w2.heap.size) hk (by first | (simp; done) | (simp; omega) | omega) ?_; intro hq2 hg2)); (try (have hy2 : w2.heap.size < w'.heap.size := by (try simp at hz); omega)); (try (refine kuse (b := w3.heap.size) hk (by first | (simp; done) | (simp; omega) | omega) ?_; intro hq3 hg3)); (try (have hy3 : w3.heap.size < w'.heap.size := by (try simp at hz); omega))) | (go_at_call 14; refine (d0 _).mono ?_; rintro e w' ⟨rfl, hk⟩; have hz := hk.size; (try (refine kuse (b := w.heap.size) hk (by first | (simp; done) | (simp; omega) | omega) ?_; intro hq0 hg0)); (try (have hy0 : w.heap.size < w'.heap.size := by (try simp at hz); omega)); (try (refine kuse (b := w.heap.size + 1) hk (by first | (simp; done) | (simp; omega) | omega) ?_; intro hq1 hg1)); (try (have hy1 : w.heap.size + 1 < w'.heap.size := by (try simp at hz); omega)); (try (refine kuse (b := w2.heap.size) hk (by first | (simp; done) | (simp; omega) | omega) ?_; intro hq2 hg2)); (try (have hy2 : w2.heap.size < w'.heap.size := by (try simp at hz); omega)); (try (refine kuse (b := w3.heap.size) hk (by first | (simp; done) | (simp; omega) | omega) ?_; intro hq3 hg3)); (try (have hy3 : w3.heap.size < w'.heap.size := by (try simp at hz); omega))) | (go_at_call 16; refine (c1 _).mono ?_; rintro e w' ⟨rfl, hk⟩; have hz := hk.size; (try (refine kuse (b := w.heap.size) hk (by first | (simp; done) | (simp; omega) | omega) ?_; intro hq0 hg0)); (try (have hy0 : w.heap.size < w'.heap.size := by (try simp at hz); omega)); (try (refine kuse (b := w.heap.size + 1) hk (by first | (simp; done) | (simp; omega) | omega) ?_; intro hq1 hg1)); (try (have hy1 : w.heap.size + 1 < w'.heap.size := by (try simp at hz); omega)); (try (refine kuse (b := w2.heap.size) hk (by first | (simp; done) | (simp; omega) | omega) ?_; intro hq2 hg2)); (try (have hy2 : w2.heap.size < w'.heap.size := by (try simp at hz); omega)); (try (refine kuse (b := w3.heap.size) hk (by first | (simp; done) | (simp; omega) | omega) ?_; intro hq3 hg3)); (try (have hy3 : w3.heap.size < w'.heap.size := by (try simp at hz); omega))) | (go_at_call 17; refine (d1 _).mono ?_; rintro e w' ⟨rfl, hk⟩; have hz := hk.size; (try (refine kuse (b := w.heap.size) hk (by first | (simp; done) | (simp; omega) | omega) ?_; intro hq0 hg0)); (try (have hy0 : w.heap.size < w'.heap.size := by (try simp at hz); omega)); (try (refine kuse (b := w.heap.size + 1) hk (by first | (simp; done) | (simp; omega) | omega) ?_; intro hq1 hg1)); (try (have hy1 : w.heap.size + 1 < w'.heap.size := by (try simp at hz); omega)); (try (refine kuse (b := w2.heap.size) hk (by first | (simp; done) | (simp; omega) | omega) ?_; intro hq2 hg2)); (try (have hy2 : w2.heap.size < w'.heap.size := by (try simp at hz); omega)); (try (refine kuse (b := w3.heap.size) hk (by first | (simp; done) | (simp; omega) | omega) ?_; intro hq3 hg3)); (try (have hy3 : w3.heap.size < w'.heap.size := by (try simp at hz); omega))) | (go_at_call 18; refine (c2 _).mono ?_; rintro e w' ⟨rfl, hk⟩; have hz := hk.size; (try (refine kuse (b := w.heap.size) hk (by first | (simp; done) | (simp; omega) | omega) ?_; intro hq0 hg0)); (try (have hy0 : w.heap.size < w'.heap.size := by (try simp at hz); omega)); (try (refine kuse (b := w.heap.size + 1) hk (by first | (simp; done) | (simp; omega) | omega) ?_; intro hq1 hg1)); (try (have hy1 : w.heap.size + 1 < w'.heap.size := by (try simp at hz); omega)); (try (refine kuse (b := w2.heap.size) hk (by first | (simp; done) | (simp; omega) | omega) ?_; intro hq2 hg2)); (try (have hy2 : w2.heap.size < w'.heap.size := by (try simp at hz); omega)); (try (refine kuse (b := w3.heap.size) hk (by first | (simp; done) | (simp; omega) | omega) ?_; intro hq3 hg3)); (try (have hy3 : w3.heap.size < w'.heap.size := by (try simp at hz); omega))) | (go_at_call 19; refine (d2 _).mono ?_; rintro e w' ⟨rfl, hk⟩; have hz := hk.size; (try (refine kuse (b := w.heap.size) hk (by first | (simp; done) | (simp; omega) | omega) ?_; intro hq0 hg0)); (try (have hy0 : w.heap.size < w'.heap.size := by (try simp at hz); omega)); (try (refine kuse (b := w.heap.size + 1) hk (by first | (simp; done) | (simp; omega) | omega) ?_; intro hq1 hg1)); (try (have hy1 : w.heap.size + 1 < w'.heap.size := by (try simp at hz); omega)); (try (refine kuse (b := w2.heap.size) hk (by first | (simp; done) | (simp; omega) | omega) ?_; intro hq2 hg2)); (try (have hy2 : w2.heap.size < w'.heap.size := by (try simp at hz); omega)); (try (refine kuse (b := w3.heap.size) hk (by first | (simp; done) | (simp; omega) | omega) ?_; intro hq3 hg3)); (try (have hy3 : w3.heap.size < w'.heap.size := by (try simp at hz); omega))) | (go_at_call 20; refine (c3 _).mono ?_; rintro e w' ⟨rfl, hk⟩; have hz := hk.size; (try (refine kuse (b := w.heap.size) hk (by first | (simp; done) | (simp; omega) | omega) ?_; intro hq0 hg0)); (try (have hy0 : w.heap.size < w'.heap.size := by (try simp at hz); omega)); (try (refine kuse (b := w.heap.size + 1) hk (by first | (simp; done) | (simp; omega) | omega) ?_; intro hq1 hg1)); (try (have hy1 : w.heap.size + 1 < w'.heap.size := by (try simp at hz); omega)); (try (refine kuse (b := w2.heap.size) hk (by first | (simp; done) | (simp; omega) | omega) ?_; intro hq2 hg2)); (try (have hy2 : w2.heap.size < w'.heap.size := by (try simp at hz); omega)); (try (refine kuse (b := w3.heap.size) hk (by first | (simp; done) | (simp; omega) | omega) ?_; intro hq3 hg3)); (try (have hy3 : w3.heap.size < w'.heap.size := by (try simp at hz); omega))) | (go_at_call 21; refine (d3 _).mono ?_; rintro e w' ⟨rfl, hk⟩; have hz := hk.size; (try (refine kuse (b := w.heap.size) hk (by first | (simp; done) | (simp; omega) | omega) ?_; intro hq0 hg0)); (try (have hy0 : w.heap.size < w'.heap.size := by (try simp at hz); omega)); (try (refine kuse (b := w.heap.size + 1) hk (by first | (simp; done) | (simp; omega) | omega) ?_; intro hq1 hg1)); (try (have hy1 : w.heap.size + 1 < w'.heap.size := by (try simp at hz); omega)); (try (refine kuse (b := w2.heap.size) hk (by first | (simp; done) | (simp; omega) | omega) ?_; intro hq2 hg2)); (try (have hy2 : w2.heap.size < w'.heap.size := by (try simp at hz); omega)); (try (refine kuse (b := w3.heap.size) hk (by first | (simp; done) | (simp; omega) | omega) ?_; intro hq3 hg3)); (try (have hy3 : w3.heap.size < w'.heap.size := by (try simp at hz); omega))) | (go_at_call 22; refine (c4 _).mono ?_; rintro e w' ⟨rfl, hk⟩; have hz := hk.size; (try (refine kuse (b := w.heap.size) hk (by first | (simp; done) | (simp; omega) | omega) ?_; intro hq0 hg0)); (try (have hy0 : w.heap.size < w'.heap.size := by (try simp at hz); omega)); (try (refine kuse (b := w.heap.size + 1) hk (by first | (simp; done) | (simp; omega) | omega) ?_; intro hq1 hg1)); (try (have hy1 : w.heap.size + 1 < w'.heap.size := by (try simp at hz); omega)); (try (refine kuse (b := w2.heap.size) hk (by first | (simp; done) | (simp; omega) | omega) ?_; intro hq2 hg2)); (try (have hy2 : w2.heap.size < w'.heap.size := by (try simp at hz); omega)); (try (refine kuse (b := w3.heap.size) hk (by first | (simp; done) | (simp; omega) | omega) ?_; intro hq3 hg3)); (try (have hy3 : w3.heap.size < w'.heap.size := by (try simp at hz); omega))) | (go_at_call 23; refine (d4 _).mono ?_; rintro e w' ⟨rfl, hk⟩; have hz := hk.size; (try (refine kuse (b := w.heap.size) hk (by first | (simp; done) | (simp; omega) | omega) ?_; intro hq0 hg0)); (try (have hy0 : w.heap.size < w'.heap.size := by (try simp at hz); omega)); (try (refine kuse (b := w.heap.size + 1) hk (by first | (simp; done) | (simp; omega) | omega) ?_; intro hq1 hg1)); (try (have hy1 : w.heap.size + 1 < w'.heap.size := by (try simp at hz); omega)); (try (refine kuse (b := w2.heap.size) hk (by first | (simp; done) | (simp; omega) | omega) ?_; intro hq2 hg2)); (try (have hy2 : w2.heap.size < w'.heap.size := by (try simp at hz); omega)); (try (refine kuse (b := w3.heap.size) hk (by first | (simp; done) | (simp; omega) | omega) ?_; intro hq3 hg3)); (try (have hy3 : w3.heap.size < w'.heap.size := by (try simp at hz); omega))) | (go_at_call 15; refine (same_w l g k _).mono ?_; rintro e w' ⟨rfl, hk⟩; have hz := hk.size; (try (refine kuse (b := w.heap.size) hk (by first | (simp; done) | (simp; omega) | omega) ?_; intro hq0 hg0)); (try (have hy0 : w.heap.size < w'.heap.size := by (try simp at hz); omega)); (try (refine kuse (b := w.heap.size + 1) hk (by first | (simp; done) | (simp; omega) | omega) ?_; intro hq1 hg1)); (try (have hy1 : w.heap.size + 1 < w'.heap.size := by (try simp at hz); omega)); (try (refine kuse (b := w2.heap.size) hk (by first | (simp; done) | (simp; omega) | omega) ?_; intro hq2 hg2)); (try (have hy2 : w2.heap.size < w'.heap.size := by (try simp at hz); omega)); (try (refine kuse (b := w3.heap.size) hk (by first | (simp; done) | (simp; omega) | omega) ?_; intro hq3 hg3)); (try (have hy3 : w3.heap.size < w'.heap.size := by (try simp at hz); omega))))
  all_goals go_wp2
  all_goals first | (go_ret; refine ⟨?_, (by repeat (first | with_reducible exact Kept.refl _ | with_reducible assumption | with_reducible refine Kept.setCell ?_ (by first | (simp; done) | (simp; omega) | omega) _ | with_reducible refine Kept.alloc ?_ _ | with_reducible refine Kept.drewN ?_ _ | with_reducible refine Kept.drew ?_ | with_reducible refine Kept.trans ?_ (by with_reducible assumption) | with_reducible refine Kept.dr ?_ (by with_reducible assumption)))⟩; first | rfl | (show Ending.returned (.bool (decide _)) = _; rw [decide_eq_true (by omega)]) | (show Ending.returned (.bool (decide _)) = _; rw [decide_eq_false (by omega)]) | (refine retb ?_; simp; done) | (refine retb ?_; simp; omega)) | (exfalso; omega)
end Go.Proofs.Ytinpmooihjdbgaa
