/-
  Own walks: the laws of layer 2.
-/
import Derived.Test.YtgbhcbmokoolnaaDoorWidl
import Derived.WalkKit
import Derived.ProofKit
import Derived.OpenShut
import Derived.WalkLawsBesides
import Derived.WalkSpells
import Derived.Lib.Hide
import Derived.Deep.DeepCutAuto
import Derived.Deep.CutBlock
import Derived.Deep.QuietTactic
import Derived.BigQuiet
import Derived.Handy
import Derived.StillTailTactics
import Derived.IntWalk
import Derived.LoopN
import Derived.Deep.RegionHeld3
namespace Go.Proofs.YtgbhcbmokoolnaaDoor
open Go.ChangeShapes Go.WideShapes Go.ChangeAt Go.RowKit
set_option linter.unusedVariables false
set_option linter.unusedSimpArgs false

set_option maxHeartbeats 40000000 in
set_option maxRecDepth 100000 in
theorem lawi_WideSums (u v : Int) (u0 : -170141183460469231731687303715884105728 ≤ u) (u1 : u < 170141183460469231731687303715884105728) (v0 : -170141183460469231731687303715884105728 ≤ v) (v1 : v < 170141183460469231731687303715884105728) (w : World) (hT : Hid (Tb w)) : Calls Tryd.prog 3 #[.agg #[.int .i64 (wh u), .int .u64 (wl u)], .agg #[.int .i64 (wh v), .int .u64 (wl v)]] w fun e w' => e = .returned (.bool true) ∧ Kept w w' := by
  have add := wadd_w u v u0 u1 v0 v1
  have radd := refw_add_w u v u0 u1 v0 v1
  have sub := wsub_w u v u0 u1 v0 v1
  have rsub := refw_sub_w u v u0 u1 v0 v1
  have neg := neg_w u u0 u1
  have rneg := ref_neg_w u u0 u1
  have ab := wabs_w u u0 u1
  have rab := refw_abs_w u u0 u1
  have cmp := cmp_w u v
  have rcmp := ref_cmp_w u v
  have sgn := sign_w u
  have rsgn := ref_sign_w u
  generalize wcm u v = C at *
  generalize wcm u 0 = S at *
  generalize wval (u + v) = V1 at *
  generalize wfit (u + v) = O1 at *
  generalize wval (u - v) = V2 at *
  generalize wfit (u - v) = O2 at *
  generalize wval (-u) = V3 at *
  generalize wfit (-u) = O3 at *
  generalize wval (wmag u) = V4 at *
  generalize wfit (wmag u) = O4 at *
  have Hadd := Lib.hid add
  clear add
  have Hradd := Lib.hid radd
  clear radd
  have Hsub := Lib.hid sub
  clear sub
  have Hrsub := Lib.hid rsub
  clear rsub
  have Hneg := Lib.hid neg
  clear neg
  have Hrneg := Lib.hid rneg
  clear rneg
  have Hab := Lib.hid ab
  clear ab
  have Hrab := Lib.hid rab
  clear rab
  have Hcmp := Lib.hid cmp
  clear cmp
  have Hrcmp := Lib.hid rcmp
  clear rcmp
  have Hsgn := Lib.hid sgn
  clear sgn
  have Hrsgn := Lib.hid rsgn
  clear rsgn
  generalize wh u = uh at *; generalize wl u = ul at *
  clear u0 u1
  generalize wh v = vh at *; generalize wl v = vl at *
  clear v0 v1
  generalize wh V1 = X1 at *; generalize wl V1 = x1 at *
  generalize wh V2 = X2 at *; generalize wl V2 = x2 at *
  generalize wh V3 = X3 at *; generalize wl V3 = x3 at *
  generalize wh V4 = X4 at *; generalize wl V4 = x4 at *
  go_enter Tryd.func3, Tryd.ntmps3
  go_wp2_with fail
  refine (awake_w _ (tab_kept hT.out (by repeat (first | with_reducible exact Kept.refl _ | with_reducible assumption | with_reducible refine Kept.setCell ?_ (by first | (simp; done) | (simp; omega) | omega) _ | with_reducible refine Kept.alloc ?_ _ | with_reducible refine Kept.drewN ?_ _ | with_reducible refine Kept.drew ?_ | with_reducible refine Kept.trans ?_ (by with_reducible assumption) | with_reducible refine Kept.dr ?_ (by with_reducible assumption))))).mono ?_
  rintro e w1 ⟨rfl, hk1⟩
  refine kuse (b := w.heap.size) hk1 (by first | (simp; done) | (simp; omega) | omega) ?_
  intro ha hb
  have hz1_0 : w.heap.size < w1.heap.size := by have := hk1.size; (try simp at this); omega
  have hn1_0 : ¬ w.heap.size = w1.heap.size := by omega
  have hm1_0 : ¬ w1.heap.size = w.heap.size := by omega
  have hf1_0_0 : w1.cell? ⟨w.heap.size, 0, none⟩ = some (.int .i64 uh) := by first | (rw [ha]; with_reducible assumption) | (simp (maxDischargeDepth := 7) [go_sem, ha]; done) | (rw [ha]; assumption) | (simp (maxDischargeDepth := 7) [go_sem, ha, *]; done)
  have hf1_0_1 : w1.cell? ⟨w.heap.size, 1, none⟩ = some (.int .u64 ul) := by first | (rw [ha]; with_reducible assumption) | (simp (maxDischargeDepth := 7) [go_sem, ha]; done) | (rw [ha]; assumption) | (simp (maxDischargeDepth := 7) [go_sem, ha, *]; done)
  try have hg1_0 : ∀ o, w1.frozen? ⟨w.heap.size, o, none⟩ = false := by intro o; first | (simp (maxDischargeDepth := 7) [go_sem, hb]; done) | (rw [hb]; simp (maxDischargeDepth := 7) [go_sem, *]; done)
  clear ha hb
  refine kuse (b := w.heap.size + 1) hk1 (by first | (simp; done) | (simp; omega) | omega) ?_
  intro ha hb
  have hz1_1 : w.heap.size + 1 < w1.heap.size := by have := hk1.size; (try simp at this); omega
  have hn1_1 : ¬ w.heap.size + 1 = w1.heap.size := by omega
  have hm1_1 : ¬ w1.heap.size = w.heap.size + 1 := by omega
  have hf1_1_0 : w1.cell? ⟨w.heap.size + 1, 0, none⟩ = some (.int .i64 vh) := by first | (rw [ha]; with_reducible assumption) | (simp (maxDischargeDepth := 7) [go_sem, ha]; done) | (rw [ha]; assumption) | (simp (maxDischargeDepth := 7) [go_sem, ha, *]; done)
  have hf1_1_1 : w1.cell? ⟨w.heap.size + 1, 1, none⟩ = some (.int .u64 vl) := by first | (rw [ha]; with_reducible assumption) | (simp (maxDischargeDepth := 7) [go_sem, ha]; done) | (rw [ha]; assumption) | (simp (maxDischargeDepth := 7) [go_sem, ha, *]; done)
  try have hg1_1 : ∀ o, w1.frozen? ⟨w.heap.size + 1, o, none⟩ = false := by intro o; first | (simp (maxDischargeDepth := 7) [go_sem, hb]; done) | (rw [hb]; simp (maxDischargeDepth := 7) [go_sem, *]; done)
  clear ha hb
  go_wp2_with fail
  with_reducible refine (Hadd.out _).mono ?_
  rintro e w2 ⟨rfl, hk2⟩
  refine kuse (b := w.heap.size) hk2 (by first | (simp; done) | (simp; omega) | omega) ?_
  intro ha hb
  have hz2_0 : w.heap.size < w2.heap.size := by have := hk2.size; (try simp at this); omega
  have hn2_0 : ¬ w.heap.size = w2.heap.size := by omega
  have hm2_0 : ¬ w2.heap.size = w.heap.size := by omega
  have hf2_0_0 : w2.cell? ⟨w.heap.size, 0, none⟩ = some (.int .i64 uh) := by first | (rw [ha]; with_reducible assumption) | (simp (maxDischargeDepth := 7) [go_sem, ha]; done) | (rw [ha]; assumption) | (simp (maxDischargeDepth := 7) [go_sem, ha, *]; done)
  have hf2_0_1 : w2.cell? ⟨w.heap.size, 1, none⟩ = some (.int .u64 ul) := by first | (rw [ha]; with_reducible assumption) | (simp (maxDischargeDepth := 7) [go_sem, ha]; done) | (rw [ha]; assumption) | (simp (maxDischargeDepth := 7) [go_sem, ha, *]; done)
  try have hg2_0 : ∀ o, w2.frozen? ⟨w.heap.size, o, none⟩ = false := by intro o; first | (simp (maxDischargeDepth := 7) [go_sem, hb]; done) | (rw [hb]; simp (maxDischargeDepth := 7) [go_sem, *]; done)
  clear ha hb
  refine kuse (b := w.heap.size + 1) hk2 (by first | (simp; done) | (simp; omega) | omega) ?_
  intro ha hb
  have hz2_1 : w.heap.size + 1 < w2.heap.size := by have := hk2.size; (try simp at this); omega
  have hn2_1 : ¬ w.heap.size + 1 = w2.heap.size := by omega
  have hm2_1 : ¬ w2.heap.size = w.heap.size + 1 := by omega
  have hf2_1_0 : w2.cell? ⟨w.heap.size + 1, 0, none⟩ = some (.int .i64 vh) := by first | (rw [ha]; with_reducible assumption) | (simp (maxDischargeDepth := 7) [go_sem, ha]; done) | (rw [ha]; assumption) | (simp (maxDischargeDepth := 7) [go_sem, ha, *]; done)
  have hf2_1_1 : w2.cell? ⟨w.heap.size + 1, 1, none⟩ = some (.int .u64 vl) := by first | (rw [ha]; with_reducible assumption) | (simp (maxDischargeDepth := 7) [go_sem, ha]; done) | (rw [ha]; assumption) | (simp (maxDischargeDepth := 7) [go_sem, ha, *]; done)
  try have hg2_1 : ∀ o, w2.frozen? ⟨w.heap.size + 1, o, none⟩ = false := by intro o; first | (simp (maxDischargeDepth := 7) [go_sem, hb]; done) | (rw [hb]; simp (maxDischargeDepth := 7) [go_sem, *]; done)
  clear ha hb
  try clear hf1_0_0
  try clear hf1_0_1
  try clear hf1_1_0
  try clear hf1_1_1
  try clear hg1_0
  try clear hg1_1
  try clear hz1_1
  go_wp2_with fail
  with_reducible refine (Hradd.out _).mono ?_
  rintro e w3 ⟨rfl, hk3⟩
  refine kuse (b := w.heap.size) hk3 (by first | (simp; done) | (simp; omega) | omega) ?_
  intro ha hb
  have hz3_0 : w.heap.size < w3.heap.size := by have := hk3.size; (try simp at this); omega
  have hn3_0 : ¬ w.heap.size = w3.heap.size := by omega
  have hm3_0 : ¬ w3.heap.size = w.heap.size := by omega
  have hf3_0_0 : w3.cell? ⟨w.heap.size, 0, none⟩ = some (.int .i64 uh) := by first | (rw [ha]; with_reducible assumption) | (simp (maxDischargeDepth := 7) [go_sem, ha]; done) | (rw [ha]; assumption) | (simp (maxDischargeDepth := 7) [go_sem, ha, *]; done)
  have hf3_0_1 : w3.cell? ⟨w.heap.size, 1, none⟩ = some (.int .u64 ul) := by first | (rw [ha]; with_reducible assumption) | (simp (maxDischargeDepth := 7) [go_sem, ha]; done) | (rw [ha]; assumption) | (simp (maxDischargeDepth := 7) [go_sem, ha, *]; done)
  try have hg3_0 : ∀ o, w3.frozen? ⟨w.heap.size, o, none⟩ = false := by intro o; first | (simp (maxDischargeDepth := 7) [go_sem, hb]; done) | (rw [hb]; simp (maxDischargeDepth := 7) [go_sem, *]; done)
  clear ha hb
  refine kuse (b := w.heap.size + 1) hk3 (by first | (simp; done) | (simp; omega) | omega) ?_
  intro ha hb
  have hz3_1 : w.heap.size + 1 < w3.heap.size := by have := hk3.size; (try simp at this); omega
  have hn3_1 : ¬ w.heap.size + 1 = w3.heap.size := by omega
  have hm3_1 : ¬ w3.heap.size = w.heap.size + 1 := by omega
  have hf3_1_0 : w3.cell? ⟨w.heap.size + 1, 0, none⟩ = some (.int .i64 vh) := by first | (rw [ha]; with_reducible assumption) | (simp (maxDischargeDepth := 7) [go_sem, ha]; done) | (rw [ha]; assumption) | (simp (maxDischargeDepth := 7) [go_sem, ha, *]; done)
  have hf3_1_1 : w3.cell? ⟨w.heap.size + 1, 1, none⟩ = some (.int .u64 vl) := by first | (rw [ha]; with_reducible assumption) | (simp (maxDischargeDepth := 7) [go_sem, ha]; done) | (rw [ha]; assumption) | (simp (maxDischargeDepth := 7) [go_sem, ha, *]; done)
  try have hg3_1 : ∀ o, w3.frozen? ⟨w.heap.size + 1, o, none⟩ = false := by intro o; first | (simp (maxDischargeDepth := 7) [go_sem, hb]; done) | (rw [hb]; simp (maxDischargeDepth := 7) [go_sem, *]; done)
  clear ha hb
  refine kuse (b := w2.heap.size) hk3 (by first | (simp; done) | (simp; omega) | omega) ?_
  intro ha hb
  have hz3_2 : w2.heap.size < w3.heap.size := by have := hk3.size; (try simp at this); omega
  have hn3_2 : ¬ w2.heap.size = w3.heap.size := by omega
  have hm3_2 : ¬ w3.heap.size = w2.heap.size := by omega
  have hf3_2_0 : w3.cell? ⟨w2.heap.size, 0, none⟩ = some (.int .i64 X1) := by first | (rw [ha]; with_reducible assumption) | (simp (maxDischargeDepth := 7) [go_sem, ha]; done) | (rw [ha]; assumption) | (simp (maxDischargeDepth := 7) [go_sem, ha, *]; done)
  have hf3_2_1 : w3.cell? ⟨w2.heap.size, 1, none⟩ = some (.int .u64 x1) := by first | (rw [ha]; with_reducible assumption) | (simp (maxDischargeDepth := 7) [go_sem, ha]; done) | (rw [ha]; assumption) | (simp (maxDischargeDepth := 7) [go_sem, ha, *]; done)
  try have hg3_2 : ∀ o, w3.frozen? ⟨w2.heap.size, o, none⟩ = false := by intro o; first | (simp (maxDischargeDepth := 7) [go_sem, hb]; done) | (rw [hb]; simp (maxDischargeDepth := 7) [go_sem, *]; done)
  clear ha hb
  try clear hf2_0_0
  try clear hf2_0_1
  try clear hf2_1_0
  try clear hf2_1_1
  try clear hg2_0
  try clear hg2_1
  try clear hz2_1
  go_wp2_with fail
  with_reducible refine (same_t _ _ _ _).mono ?_
  rintro e w4 ⟨rfl, hk4⟩
  refine kuse (b := w.heap.size) hk4 (by first | (simp; done) | (simp; omega) | omega) ?_
  intro ha hb
  have hz4_0 : w.heap.size < w4.heap.size := by have := hk4.size; (try simp at this); omega
  have hn4_0 : ¬ w.heap.size = w4.heap.size := by omega
  have hm4_0 : ¬ w4.heap.size = w.heap.size := by omega
  have hf4_0_0 : w4.cell? ⟨w.heap.size, 0, none⟩ = some (.int .i64 uh) := by first | (rw [ha]; with_reducible assumption) | (simp (maxDischargeDepth := 7) [go_sem, ha]; done) | (rw [ha]; assumption) | (simp (maxDischargeDepth := 7) [go_sem, ha, *]; done)
  have hf4_0_1 : w4.cell? ⟨w.heap.size, 1, none⟩ = some (.int .u64 ul) := by first | (rw [ha]; with_reducible assumption) | (simp (maxDischargeDepth := 7) [go_sem, ha]; done) | (rw [ha]; assumption) | (simp (maxDischargeDepth := 7) [go_sem, ha, *]; done)
  try have hg4_0 : ∀ o, w4.frozen? ⟨w.heap.size, o, none⟩ = false := by intro o; first | (simp (maxDischargeDepth := 7) [go_sem, hb]; done) | (rw [hb]; simp (maxDischargeDepth := 7) [go_sem, *]; done)
  clear ha hb
  refine kuse (b := w.heap.size + 1) hk4 (by first | (simp; done) | (simp; omega) | omega) ?_
  intro ha hb
  have hz4_1 : w.heap.size + 1 < w4.heap.size := by have := hk4.size; (try simp at this); omega
  have hn4_1 : ¬ w.heap.size + 1 = w4.heap.size := by omega
  have hm4_1 : ¬ w4.heap.size = w.heap.size + 1 := by omega
  have hf4_1_0 : w4.cell? ⟨w.heap.size + 1, 0, none⟩ = some (.int .i64 vh) := by first | (rw [ha]; with_reducible assumption) | (simp (maxDischargeDepth := 7) [go_sem, ha]; done) | (rw [ha]; assumption) | (simp (maxDischargeDepth := 7) [go_sem, ha, *]; done)
  have hf4_1_1 : w4.cell? ⟨w.heap.size + 1, 1, none⟩ = some (.int .u64 vl) := by first | (rw [ha]; with_reducible assumption) | (simp (maxDischargeDepth := 7) [go_sem, ha]; done) | (rw [ha]; assumption) | (simp (maxDischargeDepth := 7) [go_sem, ha, *]; done)
  try have hg4_1 : ∀ o, w4.frozen? ⟨w.heap.size + 1, o, none⟩ = false := by intro o; first | (simp (maxDischargeDepth := 7) [go_sem, hb]; done) | (rw [hb]; simp (maxDischargeDepth := 7) [go_sem, *]; done)
  clear ha hb
  refine kuse (b := w2.heap.size) hk4 (by first | (simp; done) | (simp; omega) | omega) ?_
  intro ha hb
  have hz4_2 : w2.heap.size < w4.heap.size := by have := hk4.size; (try simp at this); omega
  have hn4_2 : ¬ w2.heap.size = w4.heap.size := by omega
  have hm4_2 : ¬ w4.heap.size = w2.heap.size := by omega
  have hf4_2_0 : w4.cell? ⟨w2.heap.size, 0, none⟩ = some (.int .i64 X1) := by first | (rw [ha]; with_reducible assumption) | (simp (maxDischargeDepth := 7) [go_sem, ha]; done) | (rw [ha]; assumption) | (simp (maxDischargeDepth := 7) [go_sem, ha, *]; done)
  have hf4_2_1 : w4.cell? ⟨w2.heap.size, 1, none⟩ = some (.int .u64 x1) := by first | (rw [ha]; with_reducible assumption) | (simp (maxDischargeDepth := 7) [go_sem, ha]; done) | (rw [ha]; assumption) | (simp (maxDischargeDepth := 7) [go_sem, ha, *]; done)
  try have hg4_2 : ∀ o, w4.frozen? ⟨w2.heap.size, o, none⟩ = false := by intro o; first | (simp (maxDischargeDepth := 7) [go_sem, hb]; done) | (rw [hb]; simp (maxDischargeDepth := 7) [go_sem, *]; done)
  clear ha hb
  refine kuse (b := w3.heap.size) hk4 (by first | (simp; done) | (simp; omega) | omega) ?_
  intro ha hb
  have hz4_3 : w3.heap.size < w4.heap.size := by have := hk4.size; (try simp at this); omega
  have hn4_3 : ¬ w3.heap.size = w4.heap.size := by omega
  have hm4_3 : ¬ w4.heap.size = w3.heap.size := by omega
  have hf4_3_0 : w4.cell? ⟨w3.heap.size, 0, none⟩ = some (.int .i64 X1) := by first | (rw [ha]; with_reducible assumption) | (simp (maxDischargeDepth := 7) [go_sem, ha]; done) | (rw [ha]; assumption) | (simp (maxDischargeDepth := 7) [go_sem, ha, *]; done)
  have hf4_3_1 : w4.cell? ⟨w3.heap.size, 1, none⟩ = some (.int .u64 x1) := by first | (rw [ha]; with_reducible assumption) | (simp (maxDischargeDepth := 7) [go_sem, ha]; done) | (rw [ha]; assumption) | (simp (maxDischargeDepth := 7) [go_sem, ha, *]; done)
  try have hg4_3 : ∀ o, w4.frozen? ⟨w3.heap.size, o, none⟩ = false := by intro o; first | (simp (maxDischargeDepth := 7) [go_sem, hb]; done) | (rw [hb]; simp (maxDischargeDepth := 7) [go_sem, *]; done)
  clear ha hb
  try clear hf3_0_0
  try clear hf3_0_1
  try clear hf3_1_0
  try clear hf3_1_1
  try clear hf3_2_0
  try clear hf3_2_1
  try clear hg3_0
  try clear hg3_1
  try clear hg3_2
  try clear hz3_1
  try clear hz3_2
  go_wp2_with fail
  with_reducible refine (Hsub.out _).mono ?_
  rintro e w5 ⟨rfl, hk5⟩
  refine kuse (b := w.heap.size) hk5 (by first | (simp; done) | (simp; omega) | omega) ?_
  intro ha hb
  have hz5_0 : w.heap.size < w5.heap.size := by have := hk5.size; (try simp at this); omega
  have hn5_0 : ¬ w.heap.size = w5.heap.size := by omega
  have hm5_0 : ¬ w5.heap.size = w.heap.size := by omega
  have hf5_0_0 : w5.cell? ⟨w.heap.size, 0, none⟩ = some (.int .i64 uh) := by first | (rw [ha]; with_reducible assumption) | (simp (maxDischargeDepth := 7) [go_sem, ha]; done) | (rw [ha]; assumption) | (simp (maxDischargeDepth := 7) [go_sem, ha, *]; done)
  have hf5_0_1 : w5.cell? ⟨w.heap.size, 1, none⟩ = some (.int .u64 ul) := by first | (rw [ha]; with_reducible assumption) | (simp (maxDischargeDepth := 7) [go_sem, ha]; done) | (rw [ha]; assumption) | (simp (maxDischargeDepth := 7) [go_sem, ha, *]; done)
  try have hg5_0 : ∀ o, w5.frozen? ⟨w.heap.size, o, none⟩ = false := by intro o; first | (simp (maxDischargeDepth := 7) [go_sem, hb]; done) | (rw [hb]; simp (maxDischargeDepth := 7) [go_sem, *]; done)
  clear ha hb
  refine kuse (b := w.heap.size + 1) hk5 (by first | (simp; done) | (simp; omega) | omega) ?_
  intro ha hb
  have hz5_1 : w.heap.size + 1 < w5.heap.size := by have := hk5.size; (try simp at this); omega
  have hn5_1 : ¬ w.heap.size + 1 = w5.heap.size := by omega
  have hm5_1 : ¬ w5.heap.size = w.heap.size + 1 := by omega
  have hf5_1_0 : w5.cell? ⟨w.heap.size + 1, 0, none⟩ = some (.int .i64 vh) := by first | (rw [ha]; with_reducible assumption) | (simp (maxDischargeDepth := 7) [go_sem, ha]; done) | (rw [ha]; assumption) | (simp (maxDischargeDepth := 7) [go_sem, ha, *]; done)
  have hf5_1_1 : w5.cell? ⟨w.heap.size + 1, 1, none⟩ = some (.int .u64 vl) := by first | (rw [ha]; with_reducible assumption) | (simp (maxDischargeDepth := 7) [go_sem, ha]; done) | (rw [ha]; assumption) | (simp (maxDischargeDepth := 7) [go_sem, ha, *]; done)
  try have hg5_1 : ∀ o, w5.frozen? ⟨w.heap.size + 1, o, none⟩ = false := by intro o; first | (simp (maxDischargeDepth := 7) [go_sem, hb]; done) | (rw [hb]; simp (maxDischargeDepth := 7) [go_sem, *]; done)
  clear ha hb
  refine kuse (b := w2.heap.size) hk5 (by first | (simp; done) | (simp; omega) | omega) ?_
  intro ha hb
  have hz5_2 : w2.heap.size < w5.heap.size := by have := hk5.size; (try simp at this); omega
  have hn5_2 : ¬ w2.heap.size = w5.heap.size := by omega
  have hm5_2 : ¬ w5.heap.size = w2.heap.size := by omega
  have hf5_2_0 : w5.cell? ⟨w2.heap.size, 0, none⟩ = some (.int .i64 X1) := by first | (rw [ha]; with_reducible assumption) | (simp (maxDischargeDepth := 7) [go_sem, ha]; done) | (rw [ha]; assumption) | (simp (maxDischargeDepth := 7) [go_sem, ha, *]; done)
  have hf5_2_1 : w5.cell? ⟨w2.heap.size, 1, none⟩ = some (.int .u64 x1) := by first | (rw [ha]; with_reducible assumption) | (simp (maxDischargeDepth := 7) [go_sem, ha]; done) | (rw [ha]; assumption) | (simp (maxDischargeDepth := 7) [go_sem, ha, *]; done)
  try have hg5_2 : ∀ o, w5.frozen? ⟨w2.heap.size, o, none⟩ = false := by intro o; first | (simp (maxDischargeDepth := 7) [go_sem, hb]; done) | (rw [hb]; simp (maxDischargeDepth := 7) [go_sem, *]; done)
  clear ha hb
  refine kuse (b := w3.heap.size) hk5 (by first | (simp; done) | (simp; omega) | omega) ?_
  intro ha hb
  have hz5_3 : w3.heap.size < w5.heap.size := by have := hk5.size; (try simp at this); omega
  have hn5_3 : ¬ w3.heap.size = w5.heap.size := by omega
  have hm5_3 : ¬ w5.heap.size = w3.heap.size := by omega
  have hf5_3_0 : w5.cell? ⟨w3.heap.size, 0, none⟩ = some (.int .i64 X1) := by first | (rw [ha]; with_reducible assumption) | (simp (maxDischargeDepth := 7) [go_sem, ha]; done) | (rw [ha]; assumption) | (simp (maxDischargeDepth := 7) [go_sem, ha, *]; done)
  have hf5_3_1 : w5.cell? ⟨w3.heap.size, 1, none⟩ = some (.int .u64 x1) := by first | (rw [ha]; with_reducible assumption) | (simp (maxDischargeDepth := 7) [go_sem, ha]; done) | (rw [ha]; assumption) | (simp (maxDischargeDepth := 7) [go_sem, ha, *]; done)
  try have hg5_3 : ∀ o, w5.frozen? ⟨w3.heap.size, o, none⟩ = false := by intro o; first | (simp (maxDischargeDepth := 7) [go_sem, hb]; done) | (rw [hb]; simp (maxDischargeDepth := 7) [go_sem, *]; done)
  clear ha hb
  try clear hf4_0_0
  try clear hf4_0_1
  try clear hf4_1_0
  try clear hf4_1_1
  try clear hf4_2_0
  try clear hf4_2_1
  try clear hf4_3_0
  try clear hf4_3_1
  try clear hg4_0
  try clear hg4_1
  try clear hg4_2
  try clear hg4_3
  try clear hz4_1
  try clear hz4_2
  try clear hz4_3
  go_wp2_with fail
  with_reducible refine (Hrsub.out _).mono ?_
  rintro e w6 ⟨rfl, hk6⟩
  refine kuse (b := w.heap.size) hk6 (by first | (simp; done) | (simp; omega) | omega) ?_
  intro ha hb
  have hz6_0 : w.heap.size < w6.heap.size := by have := hk6.size; (try simp at this); omega
  have hn6_0 : ¬ w.heap.size = w6.heap.size := by omega
  have hm6_0 : ¬ w6.heap.size = w.heap.size := by omega
  have hf6_0_0 : w6.cell? ⟨w.heap.size, 0, none⟩ = some (.int .i64 uh) := by first | (rw [ha]; with_reducible assumption) | (simp (maxDischargeDepth := 7) [go_sem, ha]; done) | (rw [ha]; assumption) | (simp (maxDischargeDepth := 7) [go_sem, ha, *]; done)
  have hf6_0_1 : w6.cell? ⟨w.heap.size, 1, none⟩ = some (.int .u64 ul) := by first | (rw [ha]; with_reducible assumption) | (simp (maxDischargeDepth := 7) [go_sem, ha]; done) | (rw [ha]; assumption) | (simp (maxDischargeDepth := 7) [go_sem, ha, *]; done)
  try have hg6_0 : ∀ o, w6.frozen? ⟨w.heap.size, o, none⟩ = false := by intro o; first | (simp (maxDischargeDepth := 7) [go_sem, hb]; done) | (rw [hb]; simp (maxDischargeDepth := 7) [go_sem, *]; done)
  clear ha hb
  refine kuse (b := w.heap.size + 1) hk6 (by first | (simp; done) | (simp; omega) | omega) ?_
  intro ha hb
  have hz6_1 : w.heap.size + 1 < w6.heap.size := by have := hk6.size; (try simp at this); omega
  have hn6_1 : ¬ w.heap.size + 1 = w6.heap.size := by omega
  have hm6_1 : ¬ w6.heap.size = w.heap.size + 1 := by omega
  have hf6_1_0 : w6.cell? ⟨w.heap.size + 1, 0, none⟩ = some (.int .i64 vh) := by first | (rw [ha]; with_reducible assumption) | (simp (maxDischargeDepth := 7) [go_sem, ha]; done) | (rw [ha]; assumption) | (simp (maxDischargeDepth := 7) [go_sem, ha, *]; done)
  have hf6_1_1 : w6.cell? ⟨w.heap.size + 1, 1, none⟩ = some (.int .u64 vl) := by first | (rw [ha]; with_reducible assumption) | (simp (maxDischargeDepth := 7) [go_sem, ha]; done) | (rw [ha]; assumption) | (simp (maxDischargeDepth := 7) [go_sem, ha, *]; done)
  try have hg6_1 : ∀ o, w6.frozen? ⟨w.heap.size + 1, o, none⟩ = false := by intro o; first | (simp (maxDischargeDepth := 7) [go_sem, hb]; done) | (rw [hb]; simp (maxDischargeDepth := 7) [go_sem, *]; done)
  clear ha hb
  refine kuse (b := w2.heap.size) hk6 (by first | (simp; done) | (simp; omega) | omega) ?_
  intro ha hb
  have hz6_2 : w2.heap.size < w6.heap.size := by have := hk6.size; (try simp at this); omega
  have hn6_2 : ¬ w2.heap.size = w6.heap.size := by omega
  have hm6_2 : ¬ w6.heap.size = w2.heap.size := by omega
  have hf6_2_0 : w6.cell? ⟨w2.heap.size, 0, none⟩ = some (.int .i64 X2) := by first | (rw [ha]; with_reducible assumption) | (simp (maxDischargeDepth := 7) [go_sem, ha]; done) | (rw [ha]; assumption) | (simp (maxDischargeDepth := 7) [go_sem, ha, *]; done)
  have hf6_2_1 : w6.cell? ⟨w2.heap.size, 1, none⟩ = some (.int .u64 x2) := by first | (rw [ha]; with_reducible assumption) | (simp (maxDischargeDepth := 7) [go_sem, ha]; done) | (rw [ha]; assumption) | (simp (maxDischargeDepth := 7) [go_sem, ha, *]; done)
  try have hg6_2 : ∀ o, w6.frozen? ⟨w2.heap.size, o, none⟩ = false := by intro o; first | (simp (maxDischargeDepth := 7) [go_sem, hb]; done) | (rw [hb]; simp (maxDischargeDepth := 7) [go_sem, *]; done)
  clear ha hb
  refine kuse (b := w3.heap.size) hk6 (by first | (simp; done) | (simp; omega) | omega) ?_
  intro ha hb
  have hz6_3 : w3.heap.size < w6.heap.size := by have := hk6.size; (try simp at this); omega
  have hn6_3 : ¬ w3.heap.size = w6.heap.size := by omega
  have hm6_3 : ¬ w6.heap.size = w3.heap.size := by omega
  have hf6_3_0 : w6.cell? ⟨w3.heap.size, 0, none⟩ = some (.int .i64 X1) := by first | (rw [ha]; with_reducible assumption) | (simp (maxDischargeDepth := 7) [go_sem, ha]; done) | (rw [ha]; assumption) | (simp (maxDischargeDepth := 7) [go_sem, ha, *]; done)
  have hf6_3_1 : w6.cell? ⟨w3.heap.size, 1, none⟩ = some (.int .u64 x1) := by first | (rw [ha]; with_reducible assumption) | (simp (maxDischargeDepth := 7) [go_sem, ha]; done) | (rw [ha]; assumption) | (simp (maxDischargeDepth := 7) [go_sem, ha, *]; done)
  try have hg6_3 : ∀ o, w6.frozen? ⟨w3.heap.size, o, none⟩ = false := by intro o; first | (simp (maxDischargeDepth := 7) [go_sem, hb]; done) | (rw [hb]; simp (maxDischargeDepth := 7) [go_sem, *]; done)
  clear ha hb
  try clear hf5_0_0
  try clear hf5_0_1
  try clear hf5_1_0
  try clear hf5_1_1
  try clear hf5_2_0
  try clear hf5_2_1
  try clear hf5_3_0
  try clear hf5_3_1
  try clear hg5_0
  try clear hg5_1
  try clear hg5_2
  try clear hg5_3
  try clear hz5_1
  try clear hz5_2
  try clear hz5_3
  go_wp2_with fail
  with_reducible refine (same_t _ _ _ _).mono ?_
  rintro e w7 ⟨rfl, hk7⟩
  refine kuse (b := w.heap.size) hk7 (by first | (simp; done) | (simp; omega) | omega) ?_
  intro ha hb
  have hz7_0 : w.heap.size < w7.heap.size := by have := hk7.size; (try simp at this); omega
  have hn7_0 : ¬ w.heap.size = w7.heap.size := by omega
  have hm7_0 : ¬ w7.heap.size = w.heap.size := by omega
  have hf7_0_0 : w7.cell? ⟨w.heap.size, 0, none⟩ = some (.int .i64 uh) := by first | (rw [ha]; with_reducible assumption) | (simp (maxDischargeDepth := 7) [go_sem, ha]; done) | (rw [ha]; assumption) | (simp (maxDischargeDepth := 7) [go_sem, ha, *]; done)
  have hf7_0_1 : w7.cell? ⟨w.heap.size, 1, none⟩ = some (.int .u64 ul) := by first | (rw [ha]; with_reducible assumption) | (simp (maxDischargeDepth := 7) [go_sem, ha]; done) | (rw [ha]; assumption) | (simp (maxDischargeDepth := 7) [go_sem, ha, *]; done)
  try have hg7_0 : ∀ o, w7.frozen? ⟨w.heap.size, o, none⟩ = false := by intro o; first | (simp (maxDischargeDepth := 7) [go_sem, hb]; done) | (rw [hb]; simp (maxDischargeDepth := 7) [go_sem, *]; done)
  clear ha hb
  refine kuse (b := w.heap.size + 1) hk7 (by first | (simp; done) | (simp; omega) | omega) ?_
  intro ha hb
  have hz7_1 : w.heap.size + 1 < w7.heap.size := by have := hk7.size; (try simp at this); omega
  have hn7_1 : ¬ w.heap.size + 1 = w7.heap.size := by omega
  have hm7_1 : ¬ w7.heap.size = w.heap.size + 1 := by omega
  have hf7_1_0 : w7.cell? ⟨w.heap.size + 1, 0, none⟩ = some (.int .i64 vh) := by first | (rw [ha]; with_reducible assumption) | (simp (maxDischargeDepth := 7) [go_sem, ha]; done) | (rw [ha]; assumption) | (simp (maxDischargeDepth := 7) [go_sem, ha, *]; done)
  have hf7_1_1 : w7.cell? ⟨w.heap.size + 1, 1, none⟩ = some (.int .u64 vl) := by first | (rw [ha]; with_reducible assumption) | (simp (maxDischargeDepth := 7) [go_sem, ha]; done) | (rw [ha]; assumption) | (simp (maxDischargeDepth := 7) [go_sem, ha, *]; done)
  try have hg7_1 : ∀ o, w7.frozen? ⟨w.heap.size + 1, o, none⟩ = false := by intro o; first | (simp (maxDischargeDepth := 7) [go_sem, hb]; done) | (rw [hb]; simp (maxDischargeDepth := 7) [go_sem, *]; done)
  clear ha hb
  refine kuse (b := w2.heap.size) hk7 (by first | (simp; done) | (simp; omega) | omega) ?_
  intro ha hb
  have hz7_2 : w2.heap.size < w7.heap.size := by have := hk7.size; (try simp at this); omega
  have hn7_2 : ¬ w2.heap.size = w7.heap.size := by omega
  have hm7_2 : ¬ w7.heap.size = w2.heap.size := by omega
  have hf7_2_0 : w7.cell? ⟨w2.heap.size, 0, none⟩ = some (.int .i64 X2) := by first | (rw [ha]; with_reducible assumption) | (simp (maxDischargeDepth := 7) [go_sem, ha]; done) | (rw [ha]; assumption) | (simp (maxDischargeDepth := 7) [go_sem, ha, *]; done)
  have hf7_2_1 : w7.cell? ⟨w2.heap.size, 1, none⟩ = some (.int .u64 x2) := by first | (rw [ha]; with_reducible assumption) | (simp (maxDischargeDepth := 7) [go_sem, ha]; done) | (rw [ha]; assumption) | (simp (maxDischargeDepth := 7) [go_sem, ha, *]; done)
  try have hg7_2 : ∀ o, w7.frozen? ⟨w2.heap.size, o, none⟩ = false := by intro o; first | (simp (maxDischargeDepth := 7) [go_sem, hb]; done) | (rw [hb]; simp (maxDischargeDepth := 7) [go_sem, *]; done)
  clear ha hb
  refine kuse (b := w3.heap.size) hk7 (by first | (simp; done) | (simp; omega) | omega) ?_
  intro ha hb
  have hz7_3 : w3.heap.size < w7.heap.size := by have := hk7.size; (try simp at this); omega
  have hn7_3 : ¬ w3.heap.size = w7.heap.size := by omega
  have hm7_3 : ¬ w7.heap.size = w3.heap.size := by omega
  have hf7_3_0 : w7.cell? ⟨w3.heap.size, 0, none⟩ = some (.int .i64 X2) := by first | (rw [ha]; with_reducible assumption) | (simp (maxDischargeDepth := 7) [go_sem, ha]; done) | (rw [ha]; assumption) | (simp (maxDischargeDepth := 7) [go_sem, ha, *]; done)
  have hf7_3_1 : w7.cell? ⟨w3.heap.size, 1, none⟩ = some (.int .u64 x2) := by first | (rw [ha]; with_reducible assumption) | (simp (maxDischargeDepth := 7) [go_sem, ha]; done) | (rw [ha]; assumption) | (simp (maxDischargeDepth := 7) [go_sem, ha, *]; done)
  try have hg7_3 : ∀ o, w7.frozen? ⟨w3.heap.size, o, none⟩ = false := by intro o; first | (simp (maxDischargeDepth := 7) [go_sem, hb]; done) | (rw [hb]; simp (maxDischargeDepth := 7) [go_sem, *]; done)
  clear ha hb
  try clear hf6_0_0
  try clear hf6_0_1
  try clear hf6_1_0
  try clear hf6_1_1
  try clear hf6_2_0
  try clear hf6_2_1
  try clear hf6_3_0
  try clear hf6_3_1
  try clear hg6_0
  try clear hg6_1
  try clear hg6_2
  try clear hg6_3
  try clear hz6_1
  try clear hz6_2
  try clear hz6_3
  go_wp2_with fail
  with_reducible refine (Hneg.out _).mono ?_
  rintro e w8 ⟨rfl, hk8⟩
  refine kuse (b := w.heap.size) hk8 (by first | (simp; done) | (simp; omega) | omega) ?_
  intro ha hb
  have hz8_0 : w.heap.size < w8.heap.size := by have := hk8.size; (try simp at this); omega
  have hn8_0 : ¬ w.heap.size = w8.heap.size := by omega
  have hm8_0 : ¬ w8.heap.size = w.heap.size := by omega
  have hf8_0_0 : w8.cell? ⟨w.heap.size, 0, none⟩ = some (.int .i64 uh) := by first | (rw [ha]; with_reducible assumption) | (simp (maxDischargeDepth := 7) [go_sem, ha]; done) | (rw [ha]; assumption) | (simp (maxDischargeDepth := 7) [go_sem, ha, *]; done)
  have hf8_0_1 : w8.cell? ⟨w.heap.size, 1, none⟩ = some (.int .u64 ul) := by first | (rw [ha]; with_reducible assumption) | (simp (maxDischargeDepth := 7) [go_sem, ha]; done) | (rw [ha]; assumption) | (simp (maxDischargeDepth := 7) [go_sem, ha, *]; done)
  try have hg8_0 : ∀ o, w8.frozen? ⟨w.heap.size, o, none⟩ = false := by intro o; first | (simp (maxDischargeDepth := 7) [go_sem, hb]; done) | (rw [hb]; simp (maxDischargeDepth := 7) [go_sem, *]; done)
  clear ha hb
  refine kuse (b := w.heap.size + 1) hk8 (by first | (simp; done) | (simp; omega) | omega) ?_
  intro ha hb
  have hz8_1 : w.heap.size + 1 < w8.heap.size := by have := hk8.size; (try simp at this); omega
  have hn8_1 : ¬ w.heap.size + 1 = w8.heap.size := by omega
  have hm8_1 : ¬ w8.heap.size = w.heap.size + 1 := by omega
  have hf8_1_0 : w8.cell? ⟨w.heap.size + 1, 0, none⟩ = some (.int .i64 vh) := by first | (rw [ha]; with_reducible assumption) | (simp (maxDischargeDepth := 7) [go_sem, ha]; done) | (rw [ha]; assumption) | (simp (maxDischargeDepth := 7) [go_sem, ha, *]; done)
  have hf8_1_1 : w8.cell? ⟨w.heap.size + 1, 1, none⟩ = some (.int .u64 vl) := by first | (rw [ha]; with_reducible assumption) | (simp (maxDischargeDepth := 7) [go_sem, ha]; done) | (rw [ha]; assumption) | (simp (maxDischargeDepth := 7) [go_sem, ha, *]; done)
  try have hg8_1 : ∀ o, w8.frozen? ⟨w.heap.size + 1, o, none⟩ = false := by intro o; first | (simp (maxDischargeDepth := 7) [go_sem, hb]; done) | (rw [hb]; simp (maxDischargeDepth := 7) [go_sem, *]; done)
  clear ha hb
  refine kuse (b := w2.heap.size) hk8 (by first | (simp; done) | (simp; omega) | omega) ?_
  intro ha hb
  have hz8_2 : w2.heap.size < w8.heap.size := by have := hk8.size; (try simp at this); omega
  have hn8_2 : ¬ w2.heap.size = w8.heap.size := by omega
  have hm8_2 : ¬ w8.heap.size = w2.heap.size := by omega
  have hf8_2_0 : w8.cell? ⟨w2.heap.size, 0, none⟩ = some (.int .i64 X2) := by first | (rw [ha]; with_reducible assumption) | (simp (maxDischargeDepth := 7) [go_sem, ha]; done) | (rw [ha]; assumption) | (simp (maxDischargeDepth := 7) [go_sem, ha, *]; done)
  have hf8_2_1 : w8.cell? ⟨w2.heap.size, 1, none⟩ = some (.int .u64 x2) := by first | (rw [ha]; with_reducible assumption) | (simp (maxDischargeDepth := 7) [go_sem, ha]; done) | (rw [ha]; assumption) | (simp (maxDischargeDepth := 7) [go_sem, ha, *]; done)
  try have hg8_2 : ∀ o, w8.frozen? ⟨w2.heap.size, o, none⟩ = false := by intro o; first | (simp (maxDischargeDepth := 7) [go_sem, hb]; done) | (rw [hb]; simp (maxDischargeDepth := 7) [go_sem, *]; done)
  clear ha hb
  refine kuse (b := w3.heap.size) hk8 (by first | (simp; done) | (simp; omega) | omega) ?_
  intro ha hb
  have hz8_3 : w3.heap.size < w8.heap.size := by have := hk8.size; (try simp at this); omega
  have hn8_3 : ¬ w3.heap.size = w8.heap.size := by omega
  have hm8_3 : ¬ w8.heap.size = w3.heap.size := by omega
  have hf8_3_0 : w8.cell? ⟨w3.heap.size, 0, none⟩ = some (.int .i64 X2) := by first | (rw [ha]; with_reducible assumption) | (simp (maxDischargeDepth := 7) [go_sem, ha]; done) | (rw [ha]; assumption) | (simp (maxDischargeDepth := 7) [go_sem, ha, *]; done)
  have hf8_3_1 : w8.cell? ⟨w3.heap.size, 1, none⟩ = some (.int .u64 x2) := by first | (rw [ha]; with_reducible assumption) | (simp (maxDischargeDepth := 7) [go_sem, ha]; done) | (rw [ha]; assumption) | (simp (maxDischargeDepth := 7) [go_sem, ha, *]; done)
  try have hg8_3 : ∀ o, w8.frozen? ⟨w3.heap.size, o, none⟩ = false := by intro o; first | (simp (maxDischargeDepth := 7) [go_sem, hb]; done) | (rw [hb]; simp (maxDischargeDepth := 7) [go_sem, *]; done)
  clear ha hb
  try clear hf7_0_0
  try clear hf7_0_1
  try clear hf7_1_0
  try clear hf7_1_1
  try clear hf7_2_0
  try clear hf7_2_1
  try clear hf7_3_0
  try clear hf7_3_1
  try clear hg7_0
  try clear hg7_1
  try clear hg7_2
  try clear hg7_3
  try clear hz7_1
  try clear hz7_2
  try clear hz7_3
  go_wp2_with fail
  with_reducible refine (Hrneg.out _).mono ?_
  rintro e w9 ⟨rfl, hk9⟩
  refine kuse (b := w.heap.size) hk9 (by first | (simp; done) | (simp; omega) | omega) ?_
  intro ha hb
  have hz9_0 : w.heap.size < w9.heap.size := by have := hk9.size; (try simp at this); omega
  have hn9_0 : ¬ w.heap.size = w9.heap.size := by omega
  have hm9_0 : ¬ w9.heap.size = w.heap.size := by omega
  have hf9_0_0 : w9.cell? ⟨w.heap.size, 0, none⟩ = some (.int .i64 uh) := by first | (rw [ha]; with_reducible assumption) | (simp (maxDischargeDepth := 7) [go_sem, ha]; done) | (rw [ha]; assumption) | (simp (maxDischargeDepth := 7) [go_sem, ha, *]; done)
  have hf9_0_1 : w9.cell? ⟨w.heap.size, 1, none⟩ = some (.int .u64 ul) := by first | (rw [ha]; with_reducible assumption) | (simp (maxDischargeDepth := 7) [go_sem, ha]; done) | (rw [ha]; assumption) | (simp (maxDischargeDepth := 7) [go_sem, ha, *]; done)
  try have hg9_0 : ∀ o, w9.frozen? ⟨w.heap.size, o, none⟩ = false := by intro o; first | (simp (maxDischargeDepth := 7) [go_sem, hb]; done) | (rw [hb]; simp (maxDischargeDepth := 7) [go_sem, *]; done)
  clear ha hb
  refine kuse (b := w.heap.size + 1) hk9 (by first | (simp; done) | (simp; omega) | omega) ?_
  intro ha hb
  have hz9_1 : w.heap.size + 1 < w9.heap.size := by have := hk9.size; (try simp at this); omega
  have hn9_1 : ¬ w.heap.size + 1 = w9.heap.size := by omega
  have hm9_1 : ¬ w9.heap.size = w.heap.size + 1 := by omega
  have hf9_1_0 : w9.cell? ⟨w.heap.size + 1, 0, none⟩ = some (.int .i64 vh) := by first | (rw [ha]; with_reducible assumption) | (simp (maxDischargeDepth := 7) [go_sem, ha]; done) | (rw [ha]; assumption) | (simp (maxDischargeDepth := 7) [go_sem, ha, *]; done)
  have hf9_1_1 : w9.cell? ⟨w.heap.size + 1, 1, none⟩ = some (.int .u64 vl) := by first | (rw [ha]; with_reducible assumption) | (simp (maxDischargeDepth := 7) [go_sem, ha]; done) | (rw [ha]; assumption) | (simp (maxDischargeDepth := 7) [go_sem, ha, *]; done)
  try have hg9_1 : ∀ o, w9.frozen? ⟨w.heap.size + 1, o, none⟩ = false := by intro o; first | (simp (maxDischargeDepth := 7) [go_sem, hb]; done) | (rw [hb]; simp (maxDischargeDepth := 7) [go_sem, *]; done)
  clear ha hb
  refine kuse (b := w2.heap.size) hk9 (by first | (simp; done) | (simp; omega) | omega) ?_
  intro ha hb
  have hz9_2 : w2.heap.size < w9.heap.size := by have := hk9.size; (try simp at this); omega
  have hn9_2 : ¬ w2.heap.size = w9.heap.size := by omega
  have hm9_2 : ¬ w9.heap.size = w2.heap.size := by omega
  have hf9_2_0 : w9.cell? ⟨w2.heap.size, 0, none⟩ = some (.int .i64 X3) := by first | (rw [ha]; with_reducible assumption) | (simp (maxDischargeDepth := 7) [go_sem, ha]; done) | (rw [ha]; assumption) | (simp (maxDischargeDepth := 7) [go_sem, ha, *]; done)
  have hf9_2_1 : w9.cell? ⟨w2.heap.size, 1, none⟩ = some (.int .u64 x3) := by first | (rw [ha]; with_reducible assumption) | (simp (maxDischargeDepth := 7) [go_sem, ha]; done) | (rw [ha]; assumption) | (simp (maxDischargeDepth := 7) [go_sem, ha, *]; done)
  try have hg9_2 : ∀ o, w9.frozen? ⟨w2.heap.size, o, none⟩ = false := by intro o; first | (simp (maxDischargeDepth := 7) [go_sem, hb]; done) | (rw [hb]; simp (maxDischargeDepth := 7) [go_sem, *]; done)
  clear ha hb
  refine kuse (b := w3.heap.size) hk9 (by first | (simp; done) | (simp; omega) | omega) ?_
  intro ha hb
  have hz9_3 : w3.heap.size < w9.heap.size := by have := hk9.size; (try simp at this); omega
  have hn9_3 : ¬ w3.heap.size = w9.heap.size := by omega
  have hm9_3 : ¬ w9.heap.size = w3.heap.size := by omega
  have hf9_3_0 : w9.cell? ⟨w3.heap.size, 0, none⟩ = some (.int .i64 X2) := by first | (rw [ha]; with_reducible assumption) | (simp (maxDischargeDepth := 7) [go_sem, ha]; done) | (rw [ha]; assumption) | (simp (maxDischargeDepth := 7) [go_sem, ha, *]; done)
  have hf9_3_1 : w9.cell? ⟨w3.heap.size, 1, none⟩ = some (.int .u64 x2) := by first | (rw [ha]; with_reducible assumption) | (simp (maxDischargeDepth := 7) [go_sem, ha]; done) | (rw [ha]; assumption) | (simp (maxDischargeDepth := 7) [go_sem, ha, *]; done)
  try have hg9_3 : ∀ o, w9.frozen? ⟨w3.heap.size, o, none⟩ = false := by intro o; first | (simp (maxDischargeDepth := 7) [go_sem, hb]; done) | (rw [hb]; simp (maxDischargeDepth := 7) [go_sem, *]; done)
  clear ha hb
  try clear hf8_0_0
  try clear hf8_0_1
  try clear hf8_1_0
  try clear hf8_1_1
  try clear hf8_2_0
  try clear hf8_2_1
  try clear hf8_3_0
  try clear hf8_3_1
  try clear hg8_0
  try clear hg8_1
  try clear hg8_2
  try clear hg8_3
  try clear hz8_1
  try clear hz8_2
  try clear hz8_3
  go_wp2_with fail
  with_reducible refine (same_t _ _ _ _).mono ?_
  rintro e w10 ⟨rfl, hk10⟩
  refine kuse (b := w.heap.size) hk10 (by first | (simp; done) | (simp; omega) | omega) ?_
  intro ha hb
  have hz10_0 : w.heap.size < w10.heap.size := by have := hk10.size; (try simp at this); omega
  have hn10_0 : ¬ w.heap.size = w10.heap.size := by omega
  have hm10_0 : ¬ w10.heap.size = w.heap.size := by omega
  have hf10_0_0 : w10.cell? ⟨w.heap.size, 0, none⟩ = some (.int .i64 uh) := by first | (rw [ha]; with_reducible assumption) | (simp (maxDischargeDepth := 7) [go_sem, ha]; done) | (rw [ha]; assumption) | (simp (maxDischargeDepth := 7) [go_sem, ha, *]; done)
  have hf10_0_1 : w10.cell? ⟨w.heap.size, 1, none⟩ = some (.int .u64 ul) := by first | (rw [ha]; with_reducible assumption) | (simp (maxDischargeDepth := 7) [go_sem, ha]; done) | (rw [ha]; assumption) | (simp (maxDischargeDepth := 7) [go_sem, ha, *]; done)
  try have hg10_0 : ∀ o, w10.frozen? ⟨w.heap.size, o, none⟩ = false := by intro o; first | (simp (maxDischargeDepth := 7) [go_sem, hb]; done) | (rw [hb]; simp (maxDischargeDepth := 7) [go_sem, *]; done)
  clear ha hb
  refine kuse (b := w.heap.size + 1) hk10 (by first | (simp; done) | (simp; omega) | omega) ?_
  intro ha hb
  have hz10_1 : w.heap.size + 1 < w10.heap.size := by have := hk10.size; (try simp at this); omega
  have hn10_1 : ¬ w.heap.size + 1 = w10.heap.size := by omega
  have hm10_1 : ¬ w10.heap.size = w.heap.size + 1 := by omega
  have hf10_1_0 : w10.cell? ⟨w.heap.size + 1, 0, none⟩ = some (.int .i64 vh) := by first | (rw [ha]; with_reducible assumption) | (simp (maxDischargeDepth := 7) [go_sem, ha]; done) | (rw [ha]; assumption) | (simp (maxDischargeDepth := 7) [go_sem, ha, *]; done)
  have hf10_1_1 : w10.cell? ⟨w.heap.size + 1, 1, none⟩ = some (.int .u64 vl) := by first | (rw [ha]; with_reducible assumption) | (simp (maxDischargeDepth := 7) [go_sem, ha]; done) | (rw [ha]; assumption) | (simp (maxDischargeDepth := 7) [go_sem, ha, *]; done)
  try have hg10_1 : ∀ o, w10.frozen? ⟨w.heap.size + 1, o, none⟩ = false := by intro o; first | (simp (maxDischargeDepth := 7) [go_sem, hb]; done) | (rw [hb]; simp (maxDischargeDepth := 7) [go_sem, *]; done)
  clear ha hb
  refine kuse (b := w2.heap.size) hk10 (by first | (simp; done) | (simp; omega) | omega) ?_
  intro ha hb
  have hz10_2 : w2.heap.size < w10.heap.size := by have := hk10.size; (try simp at this); omega
  have hn10_2 : ¬ w2.heap.size = w10.heap.size := by omega
  have hm10_2 : ¬ w10.heap.size = w2.heap.size := by omega
  have hf10_2_0 : w10.cell? ⟨w2.heap.size, 0, none⟩ = some (.int .i64 X3) := by first | (rw [ha]; with_reducible assumption) | (simp (maxDischargeDepth := 7) [go_sem, ha]; done) | (rw [ha]; assumption) | (simp (maxDischargeDepth := 7) [go_sem, ha, *]; done)
  have hf10_2_1 : w10.cell? ⟨w2.heap.size, 1, none⟩ = some (.int .u64 x3) := by first | (rw [ha]; with_reducible assumption) | (simp (maxDischargeDepth := 7) [go_sem, ha]; done) | (rw [ha]; assumption) | (simp (maxDischargeDepth := 7) [go_sem, ha, *]; done)
  try have hg10_2 : ∀ o, w10.frozen? ⟨w2.heap.size, o, none⟩ = false := by intro o; first | (simp (maxDischargeDepth := 7) [go_sem, hb]; done) | (rw [hb]; simp (maxDischargeDepth := 7) [go_sem, *]; done)
  clear ha hb
  refine kuse (b := w3.heap.size) hk10 (by first | (simp; done) | (simp; omega) | omega) ?_
  intro ha hb
  have hz10_3 : w3.heap.size < w10.heap.size := by have := hk10.size; (try simp at this); omega
  have hn10_3 : ¬ w3.heap.size = w10.heap.size := by omega
  have hm10_3 : ¬ w10.heap.size = w3.heap.size := by omega
  have hf10_3_0 : w10.cell? ⟨w3.heap.size, 0, none⟩ = some (.int .i64 X3) := by first | (rw [ha]; with_reducible assumption) | (simp (maxDischargeDepth := 7) [go_sem, ha]; done) | (rw [ha]; assumption) | (simp (maxDischargeDepth := 7) [go_sem, ha, *]; done)
  have hf10_3_1 : w10.cell? ⟨w3.heap.size, 1, none⟩ = some (.int .u64 x3) := by first | (rw [ha]; with_reducible assumption) | (simp (maxDischargeDepth := 7) [go_sem, ha]; done) | (rw [ha]; assumption) | (simp (maxDischargeDepth := 7) [go_sem, ha, *]; done)
  try have hg10_3 : ∀ o, w10.frozen? ⟨w3.heap.size, o, none⟩ = false := by intro o; first | (simp (maxDischargeDepth := 7) [go_sem, hb]; done) | (rw [hb]; simp (maxDischargeDepth := 7) [go_sem, *]; done)
  clear ha hb
  try clear hf9_0_0
  try clear hf9_0_1
  try clear hf9_1_0
  try clear hf9_1_1
  try clear hf9_2_0
  try clear hf9_2_1
  try clear hf9_3_0
  try clear hf9_3_1
  try clear hg9_0
  try clear hg9_1
  try clear hg9_2
  try clear hg9_3
  try clear hz9_1
  try clear hz9_2
  try clear hz9_3
  go_wp2_with fail
  with_reducible refine (Hab.out _).mono ?_
  rintro e w11 ⟨rfl, hk11⟩
  refine kuse (b := w.heap.size) hk11 (by first | (simp; done) | (simp; omega) | omega) ?_
  intro ha hb
  have hz11_0 : w.heap.size < w11.heap.size := by have := hk11.size; (try simp at this); omega
  have hn11_0 : ¬ w.heap.size = w11.heap.size := by omega
  have hm11_0 : ¬ w11.heap.size = w.heap.size := by omega
  have hf11_0_0 : w11.cell? ⟨w.heap.size, 0, none⟩ = some (.int .i64 uh) := by first | (rw [ha]; with_reducible assumption) | (simp (maxDischargeDepth := 7) [go_sem, ha]; done) | (rw [ha]; assumption) | (simp (maxDischargeDepth := 7) [go_sem, ha, *]; done)
  have hf11_0_1 : w11.cell? ⟨w.heap.size, 1, none⟩ = some (.int .u64 ul) := by first | (rw [ha]; with_reducible assumption) | (simp (maxDischargeDepth := 7) [go_sem, ha]; done) | (rw [ha]; assumption) | (simp (maxDischargeDepth := 7) [go_sem, ha, *]; done)
  try have hg11_0 : ∀ o, w11.frozen? ⟨w.heap.size, o, none⟩ = false := by intro o; first | (simp (maxDischargeDepth := 7) [go_sem, hb]; done) | (rw [hb]; simp (maxDischargeDepth := 7) [go_sem, *]; done)
  clear ha hb
  refine kuse (b := w.heap.size + 1) hk11 (by first | (simp; done) | (simp; omega) | omega) ?_
  intro ha hb
  have hz11_1 : w.heap.size + 1 < w11.heap.size := by have := hk11.size; (try simp at this); omega
  have hn11_1 : ¬ w.heap.size + 1 = w11.heap.size := by omega
  have hm11_1 : ¬ w11.heap.size = w.heap.size + 1 := by omega
  have hf11_1_0 : w11.cell? ⟨w.heap.size + 1, 0, none⟩ = some (.int .i64 vh) := by first | (rw [ha]; with_reducible assumption) | (simp (maxDischargeDepth := 7) [go_sem, ha]; done) | (rw [ha]; assumption) | (simp (maxDischargeDepth := 7) [go_sem, ha, *]; done)
  have hf11_1_1 : w11.cell? ⟨w.heap.size + 1, 1, none⟩ = some (.int .u64 vl) := by first | (rw [ha]; with_reducible assumption) | (simp (maxDischargeDepth := 7) [go_sem, ha]; done) | (rw [ha]; assumption) | (simp (maxDischargeDepth := 7) [go_sem, ha, *]; done)
  try have hg11_1 : ∀ o, w11.frozen? ⟨w.heap.size + 1, o, none⟩ = false := by intro o; first | (simp (maxDischargeDepth := 7) [go_sem, hb]; done) | (rw [hb]; simp (maxDischargeDepth := 7) [go_sem, *]; done)
  clear ha hb
  refine kuse (b := w2.heap.size) hk11 (by first | (simp; done) | (simp; omega) | omega) ?_
  intro ha hb
  have hz11_2 : w2.heap.size < w11.heap.size := by have := hk11.size; (try simp at this); omega
  have hn11_2 : ¬ w2.heap.size = w11.heap.size := by omega
  have hm11_2 : ¬ w11.heap.size = w2.heap.size := by omega
  have hf11_2_0 : w11.cell? ⟨w2.heap.size, 0, none⟩ = some (.int .i64 X3) := by first | (rw [ha]; with_reducible assumption) | (simp (maxDischargeDepth := 7) [go_sem, ha]; done) | (rw [ha]; assumption) | (simp (maxDischargeDepth := 7) [go_sem, ha, *]; done)
  have hf11_2_1 : w11.cell? ⟨w2.heap.size, 1, none⟩ = some (.int .u64 x3) := by first | (rw [ha]; with_reducible assumption) | (simp (maxDischargeDepth := 7) [go_sem, ha]; done) | (rw [ha]; assumption) | (simp (maxDischargeDepth := 7) [go_sem, ha, *]; done)
  try have hg11_2 : ∀ o, w11.frozen? ⟨w2.heap.size, o, none⟩ = false := by intro o; first | (simp (maxDischargeDepth := 7) [go_sem, hb]; done) | (rw [hb]; simp (maxDischargeDepth := 7) [go_sem, *]; done)
  clear ha hb
  refine kuse (b := w3.heap.size) hk11 (by first | (simp; done) | (simp; omega) | omega) ?_
  intro ha hb
  have hz11_3 : w3.heap.size < w11.heap.size := by have := hk11.size; (try simp at this); omega
  have hn11_3 : ¬ w3.heap.size = w11.heap.size := by omega
  have hm11_3 : ¬ w11.heap.size = w3.heap.size := by omega
  have hf11_3_0 : w11.cell? ⟨w3.heap.size, 0, none⟩ = some (.int .i64 X3) := by first | (rw [ha]; with_reducible assumption) | (simp (maxDischargeDepth := 7) [go_sem, ha]; done) | (rw [ha]; assumption) | (simp (maxDischargeDepth := 7) [go_sem, ha, *]; done)
  have hf11_3_1 : w11.cell? ⟨w3.heap.size, 1, none⟩ = some (.int .u64 x3) := by first | (rw [ha]; with_reducible assumption) | (simp (maxDischargeDepth := 7) [go_sem, ha]; done) | (rw [ha]; assumption) | (simp (maxDischargeDepth := 7) [go_sem, ha, *]; done)
  try have hg11_3 : ∀ o, w11.frozen? ⟨w3.heap.size, o, none⟩ = false := by intro o; first | (simp (maxDischargeDepth := 7) [go_sem, hb]; done) | (rw [hb]; simp (maxDischargeDepth := 7) [go_sem, *]; done)
  clear ha hb
  try clear hf10_0_0
  try clear hf10_0_1
  try clear hf10_1_0
  try clear hf10_1_1
  try clear hf10_2_0
  try clear hf10_2_1
  try clear hf10_3_0
  try clear hf10_3_1
  try clear hg10_0
  try clear hg10_1
  try clear hg10_2
  try clear hg10_3
  try clear hz10_1
  try clear hz10_2
  try clear hz10_3
  go_wp2_with fail
  with_reducible refine (Hrab.out _).mono ?_
  rintro e w12 ⟨rfl, hk12⟩
  refine kuse (b := w.heap.size) hk12 (by first | (simp; done) | (simp; omega) | omega) ?_
  intro ha hb
  have hz12_0 : w.heap.size < w12.heap.size := by have := hk12.size; (try simp at this); omega
  have hn12_0 : ¬ w.heap.size = w12.heap.size := by omega
  have hm12_0 : ¬ w12.heap.size = w.heap.size := by omega
  have hf12_0_0 : w12.cell? ⟨w.heap.size, 0, none⟩ = some (.int .i64 uh) := by first | (rw [ha]; with_reducible assumption) | (simp (maxDischargeDepth := 7) [go_sem, ha]; done) | (rw [ha]; assumption) | (simp (maxDischargeDepth := 7) [go_sem, ha, *]; done)
  have hf12_0_1 : w12.cell? ⟨w.heap.size, 1, none⟩ = some (.int .u64 ul) := by first | (rw [ha]; with_reducible assumption) | (simp (maxDischargeDepth := 7) [go_sem, ha]; done) | (rw [ha]; assumption) | (simp (maxDischargeDepth := 7) [go_sem, ha, *]; done)
  try have hg12_0 : ∀ o, w12.frozen? ⟨w.heap.size, o, none⟩ = false := by intro o; first | (simp (maxDischargeDepth := 7) [go_sem, hb]; done) | (rw [hb]; simp (maxDischargeDepth := 7) [go_sem, *]; done)
  clear ha hb
  refine kuse (b := w.heap.size + 1) hk12 (by first | (simp; done) | (simp; omega) | omega) ?_
  intro ha hb
  have hz12_1 : w.heap.size + 1 < w12.heap.size := by have := hk12.size; (try simp at this); omega
  have hn12_1 : ¬ w.heap.size + 1 = w12.heap.size := by omega
  have hm12_1 : ¬ w12.heap.size = w.heap.size + 1 := by omega
  have hf12_1_0 : w12.cell? ⟨w.heap.size + 1, 0, none⟩ = some (.int .i64 vh) := by first | (rw [ha]; with_reducible assumption) | (simp (maxDischargeDepth := 7) [go_sem, ha]; done) | (rw [ha]; assumption) | (simp (maxDischargeDepth := 7) [go_sem, ha, *]; done)
  have hf12_1_1 : w12.cell? ⟨w.heap.size + 1, 1, none⟩ = some (.int .u64 vl) := by first | (rw [ha]; with_reducible assumption) | (simp (maxDischargeDepth := 7) [go_sem, ha]; done) | (rw [ha]; assumption) | (simp (maxDischargeDepth := 7) [go_sem, ha, *]; done)
  try have hg12_1 : ∀ o, w12.frozen? ⟨w.heap.size + 1, o, none⟩ = false := by intro o; first | (simp (maxDischargeDepth := 7) [go_sem, hb]; done) | (rw [hb]; simp (maxDischargeDepth := 7) [go_sem, *]; done)
  clear ha hb
  refine kuse (b := w2.heap.size) hk12 (by first | (simp; done) | (simp; omega) | omega) ?_
  intro ha hb
  have hz12_2 : w2.heap.size < w12.heap.size := by have := hk12.size; (try simp at this); omega
  have hn12_2 : ¬ w2.heap.size = w12.heap.size := by omega
  have hm12_2 : ¬ w12.heap.size = w2.heap.size := by omega
  have hf12_2_0 : w12.cell? ⟨w2.heap.size, 0, none⟩ = some (.int .i64 X4) := by first | (rw [ha]; with_reducible assumption) | (simp (maxDischargeDepth := 7) [go_sem, ha]; done) | (rw [ha]; assumption) | (simp (maxDischargeDepth := 7) [go_sem, ha, *]; done)
  have hf12_2_1 : w12.cell? ⟨w2.heap.size, 1, none⟩ = some (.int .u64 x4) := by first | (rw [ha]; with_reducible assumption) | (simp (maxDischargeDepth := 7) [go_sem, ha]; done) | (rw [ha]; assumption) | (simp (maxDischargeDepth := 7) [go_sem, ha, *]; done)
  try have hg12_2 : ∀ o, w12.frozen? ⟨w2.heap.size, o, none⟩ = false := by intro o; first | (simp (maxDischargeDepth := 7) [go_sem, hb]; done) | (rw [hb]; simp (maxDischargeDepth := 7) [go_sem, *]; done)
  clear ha hb
  refine kuse (b := w3.heap.size) hk12 (by first | (simp; done) | (simp; omega) | omega) ?_
  intro ha hb
  have hz12_3 : w3.heap.size < w12.heap.size := by have := hk12.size; (try simp at this); omega
  have hn12_3 : ¬ w3.heap.size = w12.heap.size := by omega
  have hm12_3 : ¬ w12.heap.size = w3.heap.size := by omega
  have hf12_3_0 : w12.cell? ⟨w3.heap.size, 0, none⟩ = some (.int .i64 X3) := by first | (rw [ha]; with_reducible assumption) | (simp (maxDischargeDepth := 7) [go_sem, ha]; done) | (rw [ha]; assumption) | (simp (maxDischargeDepth := 7) [go_sem, ha, *]; done)
  have hf12_3_1 : w12.cell? ⟨w3.heap.size, 1, none⟩ = some (.int .u64 x3) := by first | (rw [ha]; with_reducible assumption) | (simp (maxDischargeDepth := 7) [go_sem, ha]; done) | (rw [ha]; assumption) | (simp (maxDischargeDepth := 7) [go_sem, ha, *]; done)
  try have hg12_3 : ∀ o, w12.frozen? ⟨w3.heap.size, o, none⟩ = false := by intro o; first | (simp (maxDischargeDepth := 7) [go_sem, hb]; done) | (rw [hb]; simp (maxDischargeDepth := 7) [go_sem, *]; done)
  clear ha hb
  try clear hf11_0_0
  try clear hf11_0_1
  try clear hf11_1_0
  try clear hf11_1_1
  try clear hf11_2_0
  try clear hf11_2_1
  try clear hf11_3_0
  try clear hf11_3_1
  try clear hg11_0
  try clear hg11_1
  try clear hg11_2
  try clear hg11_3
  try clear hz11_1
  try clear hz11_2
  try clear hz11_3
  go_wp2_with fail
  go_region_held3 (fun W => W.cell? ⟨w.heap.size, 0, none⟩ = some (.int .i64 uh) ∧ W.cell? ⟨w.heap.size, 1, none⟩ = some (.int .u64 ul) ∧ W.cell? ⟨w.heap.size + 1, 0, none⟩ = some (.int .i64 vh) ∧ W.cell? ⟨w.heap.size + 1, 1, none⟩ = some (.int .u64 vl) ∧ W.cell? ⟨w2.heap.size, 0, none⟩ = some (.int .i64 X4) ∧ W.cell? ⟨w2.heap.size, 1, none⟩ = some (.int .u64 x4) ∧ W.cell? ⟨w3.heap.size, 0, none⟩ = some (.int .i64 X4) ∧ W.cell? ⟨w3.heap.size, 1, none⟩ = some (.int .u64 x4)) (first | (go_keep; done) | (simp (maxDischargeDepth := 9) [*, World.cell?_alloc_some, World.cell?_setCell_far]; done) | (simp (maxDischargeDepth := 9) [go_sem, *]; done)) (first | (go_at_call 16; (first | with_reducible refine (same_t X4 x4 O4 _).mono ?_); rintro e w' ⟨rfl, hk⟩; have hz := hk.size; (try (refine kuse (b := w.heap.size) hk (by first | (simp; done) | (simp; omega) | omega) ?_; intro hq0 hg0; have hy0 : w.heap.size < w'.heap.size := (by (try simp at hz); omega); have hn0 : ¬ w.heap.size = w'.heap.size := (by omega); have hm0 : ¬ w.heap.size = w'.heap.size + 1 := (by omega); refine withF (p := w'.cell? ⟨w.heap.size, 0, none⟩ = some (.int .i64 uh)) (by first | (rw [hq0]; with_reducible assumption) | (simp (maxDischargeDepth := 7) [go_sem, hq0]; done) | (simp (maxDischargeDepth := 7) [go_sem, hq0, *]; done) | fail) ?_; intro ff00; refine withF (p := w'.cell? ⟨w.heap.size, 1, none⟩ = some (.int .u64 ul)) (by first | (rw [hq0]; with_reducible assumption) | (simp (maxDischargeDepth := 7) [go_sem, hq0]; done) | (simp (maxDischargeDepth := 7) [go_sem, hq0, *]; done) | fail) ?_; intro ff01)); (try (refine kuse (b := w.heap.size + 1) hk (by first | (simp; done) | (simp; omega) | omega) ?_; intro hq1 hg1; have hy1 : w.heap.size + 1 < w'.heap.size := (by (try simp at hz); omega); have hn1 : ¬ w.heap.size + 1 = w'.heap.size := (by omega); have hm1 : ¬ w.heap.size + 1 = w'.heap.size + 1 := (by omega); refine withF (p := w'.cell? ⟨w.heap.size + 1, 0, none⟩ = some (.int .i64 vh)) (by first | (rw [hq1]; with_reducible assumption) | (simp (maxDischargeDepth := 7) [go_sem, hq1]; done) | (simp (maxDischargeDepth := 7) [go_sem, hq1, *]; done) | fail) ?_; intro ff10; refine withF (p := w'.cell? ⟨w.heap.size + 1, 1, none⟩ = some (.int .u64 vl)) (by first | (rw [hq1]; with_reducible assumption) | (simp (maxDischargeDepth := 7) [go_sem, hq1]; done) | (simp (maxDischargeDepth := 7) [go_sem, hq1, *]; done) | fail) ?_; intro ff11)); (try (refine kuse (b := w2.heap.size) hk (by first | (simp; done) | (simp; omega) | omega) ?_; intro hq2 hg2; have hy2 : w2.heap.size < w'.heap.size := (by (try simp at hz); omega); have hn2 : ¬ w2.heap.size = w'.heap.size := (by omega); have hm2 : ¬ w2.heap.size = w'.heap.size + 1 := (by omega); refine withF (p := w'.cell? ⟨w2.heap.size, 0, none⟩ = some (.int .i64 X4)) (by first | (rw [hq2]; with_reducible assumption) | (simp (maxDischargeDepth := 7) [go_sem, hq2]; done) | (simp (maxDischargeDepth := 7) [go_sem, hq2, *]; done) | fail) ?_; intro ff20; refine withF (p := w'.cell? ⟨w2.heap.size, 1, none⟩ = some (.int .u64 x4)) (by first | (rw [hq2]; with_reducible assumption) | (simp (maxDischargeDepth := 7) [go_sem, hq2]; done) | (simp (maxDischargeDepth := 7) [go_sem, hq2, *]; done) | fail) ?_; intro ff21)); (try (refine kuse (b := w3.heap.size) hk (by first | (simp; done) | (simp; omega) | omega) ?_; intro hq3 hg3; have hy3 : w3.heap.size < w'.heap.size := (by (try simp at hz); omega); have hn3 : ¬ w3.heap.size = w'.heap.size := (by omega); have hm3 : ¬ w3.heap.size = w'.heap.size + 1 := (by omega); refine withF (p := w'.cell? ⟨w3.heap.size, 0, none⟩ = some (.int .i64 X4)) (by first | (rw [hq3]; with_reducible assumption) | (simp (maxDischargeDepth := 7) [go_sem, hq3]; done) | (simp (maxDischargeDepth := 7) [go_sem, hq3, *]; done) | fail) ?_; intro ff30; refine withF (p := w'.cell? ⟨w3.heap.size, 1, none⟩ = some (.int .u64 x4)) (by first | (rw [hq3]; with_reducible assumption) | (simp (maxDischargeDepth := 7) [go_sem, hq3]; done) | (simp (maxDischargeDepth := 7) [go_sem, hq3, *]; done) | fail) ?_; intro ff31))) | (go_at_call 23; (first | with_reducible refine (Hcmp.out _).mono ?_); rintro e w' ⟨rfl, hk⟩; have hz := hk.size; (try (refine kuse (b := w.heap.size) hk (by first | (simp; done) | (simp; omega) | omega) ?_; intro hq0 hg0; have hy0 : w.heap.size < w'.heap.size := (by (try simp at hz); omega); have hn0 : ¬ w.heap.size = w'.heap.size := (by omega); have hm0 : ¬ w.heap.size = w'.heap.size + 1 := (by omega); refine withF (p := w'.cell? ⟨w.heap.size, 0, none⟩ = some (.int .i64 uh)) (by first | (rw [hq0]; with_reducible assumption) | (simp (maxDischargeDepth := 7) [go_sem, hq0]; done) | (simp (maxDischargeDepth := 7) [go_sem, hq0, *]; done) | fail) ?_; intro ff00; refine withF (p := w'.cell? ⟨w.heap.size, 1, none⟩ = some (.int .u64 ul)) (by first | (rw [hq0]; with_reducible assumption) | (simp (maxDischargeDepth := 7) [go_sem, hq0]; done) | (simp (maxDischargeDepth := 7) [go_sem, hq0, *]; done) | fail) ?_; intro ff01)); (try (refine kuse (b := w.heap.size + 1) hk (by first | (simp; done) | (simp; omega) | omega) ?_; intro hq1 hg1; have hy1 : w.heap.size + 1 < w'.heap.size := (by (try simp at hz); omega); have hn1 : ¬ w.heap.size + 1 = w'.heap.size := (by omega); have hm1 : ¬ w.heap.size + 1 = w'.heap.size + 1 := (by omega); refine withF (p := w'.cell? ⟨w.heap.size + 1, 0, none⟩ = some (.int .i64 vh)) (by first | (rw [hq1]; with_reducible assumption) | (simp (maxDischargeDepth := 7) [go_sem, hq1]; done) | (simp (maxDischargeDepth := 7) [go_sem, hq1, *]; done) | fail) ?_; intro ff10; refine withF (p := w'.cell? ⟨w.heap.size + 1, 1, none⟩ = some (.int .u64 vl)) (by first | (rw [hq1]; with_reducible assumption) | (simp (maxDischargeDepth := 7) [go_sem, hq1]; done) | (simp (maxDischargeDepth := 7) [go_sem, hq1, *]; done) | fail) ?_; intro ff11)); (try (refine kuse (b := w2.heap.size) hk (by first | (simp; done) | (simp; omega) | omega) ?_; intro hq2 hg2; have hy2 : w2.heap.size < w'.heap.size := (by (try simp at hz); omega); have hn2 : ¬ w2.heap.size = w'.heap.size := (by omega); have hm2 : ¬ w2.heap.size = w'.heap.size + 1 := (by omega); refine withF (p := w'.cell? ⟨w2.heap.size, 0, none⟩ = some (.int .i64 X4)) (by first | (rw [hq2]; with_reducible assumption) | (simp (maxDischargeDepth := 7) [go_sem, hq2]; done) | (simp (maxDischargeDepth := 7) [go_sem, hq2, *]; done) | fail) ?_; intro ff20; refine withF (p := w'.cell? ⟨w2.heap.size, 1, none⟩ = some (.int .u64 x4)) (by first | (rw [hq2]; with_reducible assumption) | (simp (maxDischargeDepth := 7) [go_sem, hq2]; done) | (simp (maxDischargeDepth := 7) [go_sem, hq2, *]; done) | fail) ?_; intro ff21)); (try (refine kuse (b := w3.heap.size) hk (by first | (simp; done) | (simp; omega) | omega) ?_; intro hq3 hg3; have hy3 : w3.heap.size < w'.heap.size := (by (try simp at hz); omega); have hn3 : ¬ w3.heap.size = w'.heap.size := (by omega); have hm3 : ¬ w3.heap.size = w'.heap.size + 1 := (by omega); refine withF (p := w'.cell? ⟨w3.heap.size, 0, none⟩ = some (.int .i64 X4)) (by first | (rw [hq3]; with_reducible assumption) | (simp (maxDischargeDepth := 7) [go_sem, hq3]; done) | (simp (maxDischargeDepth := 7) [go_sem, hq3, *]; done) | fail) ?_; intro ff30; refine withF (p := w'.cell? ⟨w3.heap.size, 1, none⟩ = some (.int .u64 x4)) (by first | (rw [hq3]; with_reducible assumption) | (simp (maxDischargeDepth := 7) [go_sem, hq3]; done) | (simp (maxDischargeDepth := 7) [go_sem, hq3, *]; done) | fail) ?_; intro ff31))) | (go_at_call 24; (first | with_reducible refine (Hrcmp.out _).mono ?_); rintro e w' ⟨rfl, hk⟩; have hz := hk.size; (try (refine kuse (b := w.heap.size) hk (by first | (simp; done) | (simp; omega) | omega) ?_; intro hq0 hg0; have hy0 : w.heap.size < w'.heap.size := (by (try simp at hz); omega); have hn0 : ¬ w.heap.size = w'.heap.size := (by omega); have hm0 : ¬ w.heap.size = w'.heap.size + 1 := (by omega); refine withF (p := w'.cell? ⟨w.heap.size, 0, none⟩ = some (.int .i64 uh)) (by first | (rw [hq0]; with_reducible assumption) | (simp (maxDischargeDepth := 7) [go_sem, hq0]; done) | (simp (maxDischargeDepth := 7) [go_sem, hq0, *]; done) | fail) ?_; intro ff00; refine withF (p := w'.cell? ⟨w.heap.size, 1, none⟩ = some (.int .u64 ul)) (by first | (rw [hq0]; with_reducible assumption) | (simp (maxDischargeDepth := 7) [go_sem, hq0]; done) | (simp (maxDischargeDepth := 7) [go_sem, hq0, *]; done) | fail) ?_; intro ff01)); (try (refine kuse (b := w.heap.size + 1) hk (by first | (simp; done) | (simp; omega) | omega) ?_; intro hq1 hg1; have hy1 : w.heap.size + 1 < w'.heap.size := (by (try simp at hz); omega); have hn1 : ¬ w.heap.size + 1 = w'.heap.size := (by omega); have hm1 : ¬ w.heap.size + 1 = w'.heap.size + 1 := (by omega); refine withF (p := w'.cell? ⟨w.heap.size + 1, 0, none⟩ = some (.int .i64 vh)) (by first | (rw [hq1]; with_reducible assumption) | (simp (maxDischargeDepth := 7) [go_sem, hq1]; done) | (simp (maxDischargeDepth := 7) [go_sem, hq1, *]; done) | fail) ?_; intro ff10; refine withF (p := w'.cell? ⟨w.heap.size + 1, 1, none⟩ = some (.int .u64 vl)) (by first | (rw [hq1]; with_reducible assumption) | (simp (maxDischargeDepth := 7) [go_sem, hq1]; done) | (simp (maxDischargeDepth := 7) [go_sem, hq1, *]; done) | fail) ?_; intro ff11)); (try (refine kuse (b := w2.heap.size) hk (by first | (simp; done) | (simp; omega) | omega) ?_; intro hq2 hg2; have hy2 : w2.heap.size < w'.heap.size := (by (try simp at hz); omega); have hn2 : ¬ w2.heap.size = w'.heap.size := (by omega); have hm2 : ¬ w2.heap.size = w'.heap.size + 1 := (by omega); refine withF (p := w'.cell? ⟨w2.heap.size, 0, none⟩ = some (.int .i64 X4)) (by first | (rw [hq2]; with_reducible assumption) | (simp (maxDischargeDepth := 7) [go_sem, hq2]; done) | (simp (maxDischargeDepth := 7) [go_sem, hq2, *]; done) | fail) ?_; intro ff20; refine withF (p := w'.cell? ⟨w2.heap.size, 1, none⟩ = some (.int .u64 x4)) (by first | (rw [hq2]; with_reducible assumption) | (simp (maxDischargeDepth := 7) [go_sem, hq2]; done) | (simp (maxDischargeDepth := 7) [go_sem, hq2, *]; done) | fail) ?_; intro ff21)); (try (refine kuse (b := w3.heap.size) hk (by first | (simp; done) | (simp; omega) | omega) ?_; intro hq3 hg3; have hy3 : w3.heap.size < w'.heap.size := (by (try simp at hz); omega); have hn3 : ¬ w3.heap.size = w'.heap.size := (by omega); have hm3 : ¬ w3.heap.size = w'.heap.size + 1 := (by omega); refine withF (p := w'.cell? ⟨w3.heap.size, 0, none⟩ = some (.int .i64 X4)) (by first | (rw [hq3]; with_reducible assumption) | (simp (maxDischargeDepth := 7) [go_sem, hq3]; done) | (simp (maxDischargeDepth := 7) [go_sem, hq3, *]; done) | fail) ?_; intro ff30; refine withF (p := w'.cell? ⟨w3.heap.size, 1, none⟩ = some (.int .u64 x4)) (by first | (rw [hq3]; with_reducible assumption) | (simp (maxDischargeDepth := 7) [go_sem, hq3]; done) | (simp (maxDischargeDepth := 7) [go_sem, hq3, *]; done) | fail) ?_; intro ff31))) | (go_at_call 25; (first | with_reducible refine (Hsgn.out _).mono ?_); rintro e w' ⟨rfl, hk⟩; have hz := hk.size; (try (refine kuse (b := w.heap.size) hk (by first | (simp; done) | (simp; omega) | omega) ?_; intro hq0 hg0; have hy0 : w.heap.size < w'.heap.size := (by (try simp at hz); omega); have hn0 : ¬ w.heap.size = w'.heap.size := (by omega); have hm0 : ¬ w.heap.size = w'.heap.size + 1 := (by omega); refine withF (p := w'.cell? ⟨w.heap.size, 0, none⟩ = some (.int .i64 uh)) (by first | (rw [hq0]; with_reducible assumption) | (simp (maxDischargeDepth := 7) [go_sem, hq0]; done) | (simp (maxDischargeDepth := 7) [go_sem, hq0, *]; done) | fail) ?_; intro ff00; refine withF (p := w'.cell? ⟨w.heap.size, 1, none⟩ = some (.int .u64 ul)) (by first | (rw [hq0]; with_reducible assumption) | (simp (maxDischargeDepth := 7) [go_sem, hq0]; done) | (simp (maxDischargeDepth := 7) [go_sem, hq0, *]; done) | fail) ?_; intro ff01)); (try (refine kuse (b := w.heap.size + 1) hk (by first | (simp; done) | (simp; omega) | omega) ?_; intro hq1 hg1; have hy1 : w.heap.size + 1 < w'.heap.size := (by (try simp at hz); omega); have hn1 : ¬ w.heap.size + 1 = w'.heap.size := (by omega); have hm1 : ¬ w.heap.size + 1 = w'.heap.size + 1 := (by omega); refine withF (p := w'.cell? ⟨w.heap.size + 1, 0, none⟩ = some (.int .i64 vh)) (by first | (rw [hq1]; with_reducible assumption) | (simp (maxDischargeDepth := 7) [go_sem, hq1]; done) | (simp (maxDischargeDepth := 7) [go_sem, hq1, *]; done) | fail) ?_; intro ff10; refine withF (p := w'.cell? ⟨w.heap.size + 1, 1, none⟩ = some (.int .u64 vl)) (by first | (rw [hq1]; with_reducible assumption) | (simp (maxDischargeDepth := 7) [go_sem, hq1]; done) | (simp (maxDischargeDepth := 7) [go_sem, hq1, *]; done) | fail) ?_; intro ff11)); (try (refine kuse (b := w2.heap.size) hk (by first | (simp; done) | (simp; omega) | omega) ?_; intro hq2 hg2; have hy2 : w2.heap.size < w'.heap.size := (by (try simp at hz); omega); have hn2 : ¬ w2.heap.size = w'.heap.size := (by omega); have hm2 : ¬ w2.heap.size = w'.heap.size + 1 := (by omega); refine withF (p := w'.cell? ⟨w2.heap.size, 0, none⟩ = some (.int .i64 X4)) (by first | (rw [hq2]; with_reducible assumption) | (simp (maxDischargeDepth := 7) [go_sem, hq2]; done) | (simp (maxDischargeDepth := 7) [go_sem, hq2, *]; done) | fail) ?_; intro ff20; refine withF (p := w'.cell? ⟨w2.heap.size, 1, none⟩ = some (.int .u64 x4)) (by first | (rw [hq2]; with_reducible assumption) | (simp (maxDischargeDepth := 7) [go_sem, hq2]; done) | (simp (maxDischargeDepth := 7) [go_sem, hq2, *]; done) | fail) ?_; intro ff21)); (try (refine kuse (b := w3.heap.size) hk (by first | (simp; done) | (simp; omega) | omega) ?_; intro hq3 hg3; have hy3 : w3.heap.size < w'.heap.size := (by (try simp at hz); omega); have hn3 : ¬ w3.heap.size = w'.heap.size := (by omega); have hm3 : ¬ w3.heap.size = w'.heap.size + 1 := (by omega); refine withF (p := w'.cell? ⟨w3.heap.size, 0, none⟩ = some (.int .i64 X4)) (by first | (rw [hq3]; with_reducible assumption) | (simp (maxDischargeDepth := 7) [go_sem, hq3]; done) | (simp (maxDischargeDepth := 7) [go_sem, hq3, *]; done) | fail) ?_; intro ff30; refine withF (p := w'.cell? ⟨w3.heap.size, 1, none⟩ = some (.int .u64 x4)) (by first | (rw [hq3]; with_reducible assumption) | (simp (maxDischargeDepth := 7) [go_sem, hq3]; done) | (simp (maxDischargeDepth := 7) [go_sem, hq3, *]; done) | fail) ?_; intro ff31))) | (go_at_call 26; (first | with_reducible refine (Hrsgn.out _).mono ?_); rintro e w' ⟨rfl, hk⟩; have hz := hk.size; (try (refine kuse (b := w.heap.size) hk (by first | (simp; done) | (simp; omega) | omega) ?_; intro hq0 hg0; have hy0 : w.heap.size < w'.heap.size := (by (try simp at hz); omega); have hn0 : ¬ w.heap.size = w'.heap.size := (by omega); have hm0 : ¬ w.heap.size = w'.heap.size + 1 := (by omega); refine withF (p := w'.cell? ⟨w.heap.size, 0, none⟩ = some (.int .i64 uh)) (by first | (rw [hq0]; with_reducible assumption) | (simp (maxDischargeDepth := 7) [go_sem, hq0]; done) | (simp (maxDischargeDepth := 7) [go_sem, hq0, *]; done) | fail) ?_; intro ff00; refine withF (p := w'.cell? ⟨w.heap.size, 1, none⟩ = some (.int .u64 ul)) (by first | (rw [hq0]; with_reducible assumption) | (simp (maxDischargeDepth := 7) [go_sem, hq0]; done) | (simp (maxDischargeDepth := 7) [go_sem, hq0, *]; done) | fail) ?_; intro ff01)); (try (refine kuse (b := w.heap.size + 1) hk (by first | (simp; done) | (simp; omega) | omega) ?_; intro hq1 hg1; have hy1 : w.heap.size + 1 < w'.heap.size := (by (try simp at hz); omega); have hn1 : ¬ w.heap.size + 1 = w'.heap.size := (by omega); have hm1 : ¬ w.heap.size + 1 = w'.heap.size + 1 := (by omega); refine withF (p := w'.cell? ⟨w.heap.size + 1, 0, none⟩ = some (.int .i64 vh)) (by first | (rw [hq1]; with_reducible assumption) | (simp (maxDischargeDepth := 7) [go_sem, hq1]; done) | (simp (maxDischargeDepth := 7) [go_sem, hq1, *]; done) | fail) ?_; intro ff10; refine withF (p := w'.cell? ⟨w.heap.size + 1, 1, none⟩ = some (.int .u64 vl)) (by first | (rw [hq1]; with_reducible assumption) | (simp (maxDischargeDepth := 7) [go_sem, hq1]; done) | (simp (maxDischargeDepth := 7) [go_sem, hq1, *]; done) | fail) ?_; intro ff11)); (try (refine kuse (b := w2.heap.size) hk (by first | (simp; done) | (simp; omega) | omega) ?_; intro hq2 hg2; have hy2 : w2.heap.size < w'.heap.size := (by (try simp at hz); omega); have hn2 : ¬ w2.heap.size = w'.heap.size := (by omega); have hm2 : ¬ w2.heap.size = w'.heap.size + 1 := (by omega); refine withF (p := w'.cell? ⟨w2.heap.size, 0, none⟩ = some (.int .i64 X4)) (by first | (rw [hq2]; with_reducible assumption) | (simp (maxDischargeDepth := 7) [go_sem, hq2]; done) | (simp (maxDischargeDepth := 7) [go_sem, hq2, *]; done) | fail) ?_; intro ff20; refine withF (p := w'.cell? ⟨w2.heap.size, 1, none⟩ = some (.int .u64 x4)) (by first | (rw [hq2]; with_reducible assumption) | (simp (maxDischargeDepth := 7) [go_sem, hq2]; done) | (simp (maxDischargeDepth := 7) [go_sem, hq2, *]; done) | fail) ?_; intro ff21)); (try (refine kuse (b := w3.heap.size) hk (by first | (simp; done) | (simp; omega) | omega) ?_; intro hq3 hg3; have hy3 : w3.heap.size < w'.heap.size := (by (try simp at hz); omega); have hn3 : ¬ w3.heap.size = w'.heap.size := (by omega); have hm3 : ¬ w3.heap.size = w'.heap.size + 1 := (by omega); refine withF (p := w'.cell? ⟨w3.heap.size, 0, none⟩ = some (.int .i64 X4)) (by first | (rw [hq3]; with_reducible assumption) | (simp (maxDischargeDepth := 7) [go_sem, hq3]; done) | (simp (maxDischargeDepth := 7) [go_sem, hq3, *]; done) | fail) ?_; intro ff30; refine withF (p := w'.cell? ⟨w3.heap.size, 1, none⟩ = some (.int .u64 x4)) (by first | (rw [hq3]; with_reducible assumption) | (simp (maxDischargeDepth := 7) [go_sem, hq3]; done) | (simp (maxDischargeDepth := 7) [go_sem, hq3, *]; done) | fail) ?_; intro ff31))))
  all_goals go_wp2_with fail
  all_goals go_ret
  all_goals exact ⟨rfl, (by repeat (first | with_reducible exact Kept.refl _ | with_reducible assumption | with_reducible refine Kept.setCell ?_ (by first | (simp; done) | (simp; omega) | omega) _ | with_reducible refine Kept.alloc ?_ _ | with_reducible refine Kept.drewN ?_ _ | with_reducible refine Kept.drew ?_ | with_reducible refine Kept.trans ?_ (by with_reducible assumption) | with_reducible refine Kept.dr ?_ (by with_reducible assumption)))⟩
theorem law_WideSums (uh ul vh vl : Int) (uh0 : -9223372036854775808 ≤ uh) (uh1 : uh ≤ 9223372036854775807) (ul0 : 0 ≤ ul) (ul1 : ul ≤ 18446744073709551615) (vh0 : -9223372036854775808 ≤ vh) (vh1 : vh ≤ 9223372036854775807) (vl0 : 0 ≤ vl) (vl1 : vl ≤ 18446744073709551615) (w : World) (hT : Hid (Tb w)) : Calls Tryd.prog 3 #[.agg #[.int .i64 uh, .int .u64 ul], .agg #[.int .i64 vh, .int .u64 vl]] w fun e w' => e = .returned (.bool true) ∧ Kept w w' := by
  have h := lawi_WideSums (uh * 18446744073709551616 + ul) (vh * 18446744073709551616 + vl) (by omega) (by omega) (by omega) (by omega) w hT
  rw [wh_of uh ul ul0 ul1, wl_of uh ul ul0 ul1, wh_of vh vl vl0 vl1, wl_of vh vl vl0 vl1] at h
  exact h
end Go.Proofs.YtgbhcbmokoolnaaDoor
