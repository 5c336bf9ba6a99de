/-
  Own walks: the laws of layer 2.
-/
import Derived.Test.YtgbhcbmokoolnaaDoorWidw
import Derived.Test.YtgbhcbmokoolnaaDoorWidp
import Derived.WalkKit
import Derived.ProofKit
import Derived.OpenShut
import Derived.WalkLawsBesides
import Derived.WalkSpells
import Derived.Lib.Hide
import Derived.Deep.DeepCutAuto
import Derived.Deep.CutBlock
import Derived.Deep.QuietTactic
import Derived.BigQuiet
import Derived.Handy
import Derived.StillTailTactics
import Derived.IntWalk
import Derived.LoopN
import Derived.Deep.RegionHeld3
namespace Go.Proofs.YtgbhcbmokoolnaaDoor
open Go.ChangeShapes Go.WideShapes Go.ChangeAt Go.RowKit
set_option linter.unusedVariables false
set_option linter.unusedSimpArgs false

set_option maxHeartbeats 2000000 in
set_option maxRecDepth 100000 in
theorem same_t (A a : Int) (e : Bool) (w : World) : Calls Tryd.prog 16 #[.agg #[.int .i64 A, .int .u64 a], .bool e, .agg #[.int .i64 A, .int .u64 a], .bool e] w fun e w' => e = .returned (.bool true) ∧ Kept w w' := by
  have eqs : ∀ w, (Op.equalIn 10000 24 (.agg #[.int .i64 (A), .int .u64 (a)]) (.agg #[.int .i64 (A), .int .u64 (a)])).run Tryd.prog w = .ok true w := fun w => by rw [eqW]; simp
  cases e
  · go_enter Tryd.func16, Tryd.ntmps16
    go_wp2_with fail
    all_goals go_ret
    all_goals exact ⟨rfl, (by repeat (first | with_reducible exact Kept.refl _ | with_reducible assumption | with_reducible refine Kept.setCell ?_ (by first | (simp; done) | (simp; omega) | omega) _ | with_reducible refine Kept.alloc ?_ _ | with_reducible refine Kept.drewN ?_ _ | with_reducible refine Kept.drew ?_ | with_reducible refine Kept.trans ?_ (by with_reducible assumption) | with_reducible refine Kept.dr ?_ (by with_reducible assumption)))⟩
  · go_enter Tryd.func16, Tryd.ntmps16
    go_wp2_with fail
    all_goals go_ret
    all_goals exact ⟨rfl, (by repeat (first | with_reducible exact Kept.refl _ | with_reducible assumption | with_reducible refine Kept.setCell ?_ (by first | (simp; done) | (simp; omega) | omega) _ | with_reducible refine Kept.alloc ?_ _ | with_reducible refine Kept.drewN ?_ _ | with_reducible refine Kept.drew ?_ | with_reducible refine Kept.trans ?_ (by with_reducible assumption) | with_reducible refine Kept.dr ?_ (by with_reducible assumption)))⟩
set_option maxHeartbeats 2000000 in
set_option maxRecDepth 100000 in
theorem lawi_WideProducts (u a b : Int) (u0 : -170141183460469231731687303715884105728 ≤ u) (u1 : u < 170141183460469231731687303715884105728) (a_0 : -9223372036854775808 ≤ a) (a_1 : a ≤ 9223372036854775807) (b_0 : -9223372036854775808 ≤ b) (b_1 : b ≤ 9223372036854775807) (w : World) (hT : Hid (Tb w)) : Calls Tryd.prog 4 #[.agg #[.int .i64 (wh u), .int .u64 (wl u)], .int .i64 a, .int .i64 b] w fun e w' => e = .returned (.bool true) ∧ Kept w w' := by
  have tm := times_w u a u0 u1 a_0 a_1
  have rtm := ref_times_w u a u0 u1 a_0 a_1
  have ml := wmul_w a b a_0 a_1 b_0 b_1
  have rml := refw_mul_w a b a_0 a_1 b_0 b_1
  have of := of_w a a_0 a_1
  have rof := ref_of_w a a_0 a_1
  generalize wval (u * a) = V1 at *
  generalize wfit (u * a) = O1 at *
  generalize a * b = P at *
  have Htm := Lib.hid tm
  clear tm
  have Hrtm := Lib.hid rtm
  clear rtm
  have Hml := Lib.hid ml
  clear ml
  have Hrml := Lib.hid rml
  clear rml
  have Hof := Lib.hid of
  clear of
  have Hrof := Lib.hid rof
  clear rof
  generalize wh u = uh at *; generalize wl u = ul at *
  clear u0 u1
  generalize wh V1 = X1 at *; generalize wl V1 = x1 at *
  generalize wh P = X2 at *; generalize wl P = x2 at *
  generalize wh a = X3 at *; generalize wl a = x3 at *
  have eqs2 : ∀ w, (Op.equalIn 10000 24 (.agg #[.int .i64 (X2), .int .u64 (x2)]) (.agg #[.int .i64 (X2), .int .u64 (x2)])).run Tryd.prog w = .ok true w := fun w => by rw [eqW]; simp
  have eqs3 : ∀ w, (Op.equalIn 10000 24 (.agg #[.int .i64 (X3), .int .u64 (x3)]) (.agg #[.int .i64 (X3), .int .u64 (x3)])).run Tryd.prog w = .ok true w := fun w => by rw [eqW]; simp
  go_enter Tryd.func4, Tryd.ntmps4
  go_wp2_with fail
  refine (awake_w _ (tab_kept hT.out (by repeat (first | with_reducible exact Kept.refl _ | with_reducible assumption | with_reducible refine Kept.setCell ?_ (by first | (simp; done) | (simp; omega) | omega) _ | with_reducible refine Kept.alloc ?_ _ | with_reducible refine Kept.drewN ?_ _ | with_reducible refine Kept.drew ?_ | with_reducible refine Kept.trans ?_ (by with_reducible assumption) | with_reducible refine Kept.dr ?_ (by with_reducible assumption))))).mono ?_
  rintro e w1 ⟨rfl, hk1⟩
  refine kuse (b := w.heap.size) hk1 (by first | (simp; done) | (simp; omega) | omega) ?_
  intro ha hb
  have hz1_0 : w.heap.size < w1.heap.size := by have := hk1.size; (try simp at this); omega
  have hn1_0 : ¬ w.heap.size = w1.heap.size := by omega
  have hm1_0 : ¬ w1.heap.size = w.heap.size := by omega
  have hf1_0_0 : w1.cell? ⟨w.heap.size, 0, none⟩ = some (.int .i64 uh) := by first | (rw [ha]; with_reducible assumption) | (simp (maxDischargeDepth := 7) [go_sem, ha]; done) | (rw [ha]; assumption) | (simp (maxDischargeDepth := 7) [go_sem, ha, *]; done)
  have hf1_0_1 : w1.cell? ⟨w.heap.size, 1, none⟩ = some (.int .u64 ul) := by first | (rw [ha]; with_reducible assumption) | (simp (maxDischargeDepth := 7) [go_sem, ha]; done) | (rw [ha]; assumption) | (simp (maxDischargeDepth := 7) [go_sem, ha, *]; done)
  try have hg1_0 : ∀ o, w1.frozen? ⟨w.heap.size, o, none⟩ = false := by intro o; first | (simp (maxDischargeDepth := 7) [go_sem, hb]; done) | (rw [hb]; simp (maxDischargeDepth := 7) [go_sem, *]; done)
  clear ha hb
  go_wp2_with fail
  with_reducible refine (Htm.out _).mono ?_
  rintro e w2 ⟨rfl, hk2⟩
  refine kuse (b := w.heap.size) hk2 (by first | (simp; done) | (simp; omega) | omega) ?_
  intro ha hb
  have hz2_0 : w.heap.size < w2.heap.size := by have := hk2.size; (try simp at this); omega
  have hn2_0 : ¬ w.heap.size = w2.heap.size := by omega
  have hm2_0 : ¬ w2.heap.size = w.heap.size := by omega
  have hf2_0_0 : w2.cell? ⟨w.heap.size, 0, none⟩ = some (.int .i64 uh) := by first | (rw [ha]; with_reducible assumption) | (simp (maxDischargeDepth := 7) [go_sem, ha]; done) | (rw [ha]; assumption) | (simp (maxDischargeDepth := 7) [go_sem, ha, *]; done)
  have hf2_0_1 : w2.cell? ⟨w.heap.size, 1, none⟩ = some (.int .u64 ul) := by first | (rw [ha]; with_reducible assumption) | (simp (maxDischargeDepth := 7) [go_sem, ha]; done) | (rw [ha]; assumption) | (simp (maxDischargeDepth := 7) [go_sem, ha, *]; done)
  try have hg2_0 : ∀ o, w2.frozen? ⟨w.heap.size, o, none⟩ = false := by intro o; first | (simp (maxDischargeDepth := 7) [go_sem, hb]; done) | (rw [hb]; simp (maxDischargeDepth := 7) [go_sem, *]; done)
  clear ha hb
  try clear hf1_0_0
  try clear hf1_0_1
  try clear hg1_0
  go_wp2_with fail
  with_reducible refine (Hrtm.out _).mono ?_
  rintro e w3 ⟨rfl, hk3⟩
  refine kuse (b := w.heap.size) hk3 (by first | (simp; done) | (simp; omega) | omega) ?_
  intro ha hb
  have hz3_0 : w.heap.size < w3.heap.size := by have := hk3.size; (try simp at this); omega
  have hn3_0 : ¬ w.heap.size = w3.heap.size := by omega
  have hm3_0 : ¬ w3.heap.size = w.heap.size := by omega
  have hf3_0_0 : w3.cell? ⟨w.heap.size, 0, none⟩ = some (.int .i64 uh) := by first | (rw [ha]; with_reducible assumption) | (simp (maxDischargeDepth := 7) [go_sem, ha]; done) | (rw [ha]; assumption) | (simp (maxDischargeDepth := 7) [go_sem, ha, *]; done)
  have hf3_0_1 : w3.cell? ⟨w.heap.size, 1, none⟩ = some (.int .u64 ul) := by first | (rw [ha]; with_reducible assumption) | (simp (maxDischargeDepth := 7) [go_sem, ha]; done) | (rw [ha]; assumption) | (simp (maxDischargeDepth := 7) [go_sem, ha, *]; done)
  try have hg3_0 : ∀ o, w3.frozen? ⟨w.heap.size, o, none⟩ = false := by intro o; first | (simp (maxDischargeDepth := 7) [go_sem, hb]; done) | (rw [hb]; simp (maxDischargeDepth := 7) [go_sem, *]; done)
  clear ha hb
  refine kuse (b := w2.heap.size) hk3 (by first | (simp; done) | (simp; omega) | omega) ?_
  intro ha hb
  have hz3_1 : w2.heap.size < w3.heap.size := by have := hk3.size; (try simp at this); omega
  have hn3_1 : ¬ w2.heap.size = w3.heap.size := by omega
  have hm3_1 : ¬ w3.heap.size = w2.heap.size := by omega
  have hf3_1_0 : w3.cell? ⟨w2.heap.size, 0, none⟩ = some (.int .i64 X1) := by first | (rw [ha]; with_reducible assumption) | (simp (maxDischargeDepth := 7) [go_sem, ha]; done) | (rw [ha]; assumption) | (simp (maxDischargeDepth := 7) [go_sem, ha, *]; done)
  have hf3_1_1 : w3.cell? ⟨w2.heap.size, 1, none⟩ = some (.int .u64 x1) := by first | (rw [ha]; with_reducible assumption) | (simp (maxDischargeDepth := 7) [go_sem, ha]; done) | (rw [ha]; assumption) | (simp (maxDischargeDepth := 7) [go_sem, ha, *]; done)
  try have hg3_1 : ∀ o, w3.frozen? ⟨w2.heap.size, o, none⟩ = false := by intro o; first | (simp (maxDischargeDepth := 7) [go_sem, hb]; done) | (rw [hb]; simp (maxDischargeDepth := 7) [go_sem, *]; done)
  clear ha hb
  try clear hf2_0_0
  try clear hf2_0_1
  try clear hg2_0
  go_wp2_with fail
  with_reducible refine (same_t _ _ _ _).mono ?_
  rintro e w4 ⟨rfl, hk4⟩
  refine kuse (b := w.heap.size) hk4 (by first | (simp; done) | (simp; omega) | omega) ?_
  intro ha hb
  have hz4_0 : w.heap.size < w4.heap.size := by have := hk4.size; (try simp at this); omega
  have hn4_0 : ¬ w.heap.size = w4.heap.size := by omega
  have hm4_0 : ¬ w4.heap.size = w.heap.size := by omega
  have hf4_0_0 : w4.cell? ⟨w.heap.size, 0, none⟩ = some (.int .i64 uh) := by first | (rw [ha]; with_reducible assumption) | (simp (maxDischargeDepth := 7) [go_sem, ha]; done) | (rw [ha]; assumption) | (simp (maxDischargeDepth := 7) [go_sem, ha, *]; done)
  have hf4_0_1 : w4.cell? ⟨w.heap.size, 1, none⟩ = some (.int .u64 ul) := by first | (rw [ha]; with_reducible assumption) | (simp (maxDischargeDepth := 7) [go_sem, ha]; done) | (rw [ha]; assumption) | (simp (maxDischargeDepth := 7) [go_sem, ha, *]; done)
  try have hg4_0 : ∀ o, w4.frozen? ⟨w.heap.size, o, none⟩ = false := by intro o; first | (simp (maxDischargeDepth := 7) [go_sem, hb]; done) | (rw [hb]; simp (maxDischargeDepth := 7) [go_sem, *]; done)
  clear ha hb
  refine kuse (b := w2.heap.size) hk4 (by first | (simp; done) | (simp; omega) | omega) ?_
  intro ha hb
  have hz4_1 : w2.heap.size < w4.heap.size := by have := hk4.size; (try simp at this); omega
  have hn4_1 : ¬ w2.heap.size = w4.heap.size := by omega
  have hm4_1 : ¬ w4.heap.size = w2.heap.size := by omega
  have hf4_1_0 : w4.cell? ⟨w2.heap.size, 0, none⟩ = some (.int .i64 X1) := by first | (rw [ha]; with_reducible assumption) | (simp (maxDischargeDepth := 7) [go_sem, ha]; done) | (rw [ha]; assumption) | (simp (maxDischargeDepth := 7) [go_sem, ha, *]; done)
  have hf4_1_1 : w4.cell? ⟨w2.heap.size, 1, none⟩ = some (.int .u64 x1) := by first | (rw [ha]; with_reducible assumption) | (simp (maxDischargeDepth := 7) [go_sem, ha]; done) | (rw [ha]; assumption) | (simp (maxDischargeDepth := 7) [go_sem, ha, *]; done)
  try have hg4_1 : ∀ o, w4.frozen? ⟨w2.heap.size, o, none⟩ = false := by intro o; first | (simp (maxDischargeDepth := 7) [go_sem, hb]; done) | (rw [hb]; simp (maxDischargeDepth := 7) [go_sem, *]; done)
  clear ha hb
  refine kuse (b := w3.heap.size) hk4 (by first | (simp; done) | (simp; omega) | omega) ?_
  intro ha hb
  have hz4_2 : w3.heap.size < w4.heap.size := by have := hk4.size; (try simp at this); omega
  have hn4_2 : ¬ w3.heap.size = w4.heap.size := by omega
  have hm4_2 : ¬ w4.heap.size = w3.heap.size := by omega
  have hf4_2_0 : w4.cell? ⟨w3.heap.size, 0, none⟩ = some (.int .i64 X1) := by first | (rw [ha]; with_reducible assumption) | (simp (maxDischargeDepth := 7) [go_sem, ha]; done) | (rw [ha]; assumption) | (simp (maxDischargeDepth := 7) [go_sem, ha, *]; done)
  have hf4_2_1 : w4.cell? ⟨w3.heap.size, 1, none⟩ = some (.int .u64 x1) := by first | (rw [ha]; with_reducible assumption) | (simp (maxDischargeDepth := 7) [go_sem, ha]; done) | (rw [ha]; assumption) | (simp (maxDischargeDepth := 7) [go_sem, ha, *]; done)
  try have hg4_2 : ∀ o, w4.frozen? ⟨w3.heap.size, o, none⟩ = false := by intro o; first | (simp (maxDischargeDepth := 7) [go_sem, hb]; done) | (rw [hb]; simp (maxDischargeDepth := 7) [go_sem, *]; done)
  clear ha hb
  try clear hf3_0_0
  try clear hf3_0_1
  try clear hf3_1_0
  try clear hf3_1_1
  try clear hg3_0
  try clear hg3_1
  try clear hz3_1
  go_wp2_with fail
  with_reducible refine (Hml.out _).mono ?_
  rintro e w5 ⟨rfl, hk5⟩
  refine kuse (b := w.heap.size) hk5 (by first | (simp; done) | (simp; omega) | omega) ?_
  intro ha hb
  have hz5_0 : w.heap.size < w5.heap.size := by have := hk5.size; (try simp at this); omega
  have hn5_0 : ¬ w.heap.size = w5.heap.size := by omega
  have hm5_0 : ¬ w5.heap.size = w.heap.size := by omega
  have hf5_0_0 : w5.cell? ⟨w.heap.size, 0, none⟩ = some (.int .i64 uh) := by first | (rw [ha]; with_reducible assumption) | (simp (maxDischargeDepth := 7) [go_sem, ha]; done) | (rw [ha]; assumption) | (simp (maxDischargeDepth := 7) [go_sem, ha, *]; done)
  have hf5_0_1 : w5.cell? ⟨w.heap.size, 1, none⟩ = some (.int .u64 ul) := by first | (rw [ha]; with_reducible assumption) | (simp (maxDischargeDepth := 7) [go_sem, ha]; done) | (rw [ha]; assumption) | (simp (maxDischargeDepth := 7) [go_sem, ha, *]; done)
  try have hg5_0 : ∀ o, w5.frozen? ⟨w.heap.size, o, none⟩ = false := by intro o; first | (simp (maxDischargeDepth := 7) [go_sem, hb]; done) | (rw [hb]; simp (maxDischargeDepth := 7) [go_sem, *]; done)
  clear ha hb
  refine kuse (b := w2.heap.size) hk5 (by first | (simp; done) | (simp; omega) | omega) ?_
  intro ha hb
  have hz5_1 : w2.heap.size < w5.heap.size := by have := hk5.size; (try simp at this); omega
  have hn5_1 : ¬ w2.heap.size = w5.heap.size := by omega
  have hm5_1 : ¬ w5.heap.size = w2.heap.size := by omega
  have hf5_1_0 : w5.cell? ⟨w2.heap.size, 0, none⟩ = some (.int .i64 X1) := by first | (rw [ha]; with_reducible assumption) | (simp (maxDischargeDepth := 7) [go_sem, ha]; done) | (rw [ha]; assumption) | (simp (maxDischargeDepth := 7) [go_sem, ha, *]; done)
  have hf5_1_1 : w5.cell? ⟨w2.heap.size, 1, none⟩ = some (.int .u64 x1) := by first | (rw [ha]; with_reducible assumption) | (simp (maxDischargeDepth := 7) [go_sem, ha]; done) | (rw [ha]; assumption) | (simp (maxDischargeDepth := 7) [go_sem, ha, *]; done)
  try have hg5_1 : ∀ o, w5.frozen? ⟨w2.heap.size, o, none⟩ = false := by intro o; first | (simp (maxDischargeDepth := 7) [go_sem, hb]; done) | (rw [hb]; simp (maxDischargeDepth := 7) [go_sem, *]; done)
  clear ha hb
  refine kuse (b := w3.heap.size) hk5 (by first | (simp; done) | (simp; omega) | omega) ?_
  intro ha hb
  have hz5_2 : w3.heap.size < w5.heap.size := by have := hk5.size; (try simp at this); omega
  have hn5_2 : ¬ w3.heap.size = w5.heap.size := by omega
  have hm5_2 : ¬ w5.heap.size = w3.heap.size := by omega
  have hf5_2_0 : w5.cell? ⟨w3.heap.size, 0, none⟩ = some (.int .i64 X1) := by first | (rw [ha]; with_reducible assumption) | (simp (maxDischargeDepth := 7) [go_sem, ha]; done) | (rw [ha]; assumption) | (simp (maxDischargeDepth := 7) [go_sem, ha, *]; done)
  have hf5_2_1 : w5.cell? ⟨w3.heap.size, 1, none⟩ = some (.int .u64 x1) := by first | (rw [ha]; with_reducible assumption) | (simp (maxDischargeDepth := 7) [go_sem, ha]; done) | (rw [ha]; assumption) | (simp (maxDischargeDepth := 7) [go_sem, ha, *]; done)
  try have hg5_2 : ∀ o, w5.frozen? ⟨w3.heap.size, o, none⟩ = false := by intro o; first | (simp (maxDischargeDepth := 7) [go_sem, hb]; done) | (rw [hb]; simp (maxDischargeDepth := 7) [go_sem, *]; done)
  clear ha hb
  try clear hf4_0_0
  try clear hf4_0_1
  try clear hf4_1_0
  try clear hf4_1_1
  try clear hf4_2_0
  try clear hf4_2_1
  try clear hg4_0
  try clear hg4_1
  try clear hg4_2
  try clear hz4_1
  try clear hz4_2
  go_wp2_with fail
  with_reducible refine (Hrml.out _).mono ?_
  rintro e w6 ⟨rfl, hk6⟩
  refine kuse (b := w.heap.size) hk6 (by first | (simp; done) | (simp; omega) | omega) ?_
  intro ha hb
  have hz6_0 : w.heap.size < w6.heap.size := by have := hk6.size; (try simp at this); omega
  have hn6_0 : ¬ w.heap.size = w6.heap.size := by omega
  have hm6_0 : ¬ w6.heap.size = w.heap.size := by omega
  have hf6_0_0 : w6.cell? ⟨w.heap.size, 0, none⟩ = some (.int .i64 uh) := by first | (rw [ha]; with_reducible assumption) | (simp (maxDischargeDepth := 7) [go_sem, ha]; done) | (rw [ha]; assumption) | (simp (maxDischargeDepth := 7) [go_sem, ha, *]; done)
  have hf6_0_1 : w6.cell? ⟨w.heap.size, 1, none⟩ = some (.int .u64 ul) := by first | (rw [ha]; with_reducible assumption) | (simp (maxDischargeDepth := 7) [go_sem, ha]; done) | (rw [ha]; assumption) | (simp (maxDischargeDepth := 7) [go_sem, ha, *]; done)
  try have hg6_0 : ∀ o, w6.frozen? ⟨w.heap.size, o, none⟩ = false := by intro o; first | (simp (maxDischargeDepth := 7) [go_sem, hb]; done) | (rw [hb]; simp (maxDischargeDepth := 7) [go_sem, *]; done)
  clear ha hb
  refine kuse (b := w2.heap.size) hk6 (by first | (simp; done) | (simp; omega) | omega) ?_
  intro ha hb
  have hz6_1 : w2.heap.size < w6.heap.size := by have := hk6.size; (try simp at this); omega
  have hn6_1 : ¬ w2.heap.size = w6.heap.size := by omega
  have hm6_1 : ¬ w6.heap.size = w2.heap.size := by omega
  have hf6_1_0 : w6.cell? ⟨w2.heap.size, 0, none⟩ = some (.int .i64 X1) := by first | (rw [ha]; with_reducible assumption) | (simp (maxDischargeDepth := 7) [go_sem, ha]; done) | (rw [ha]; assumption) | (simp (maxDischargeDepth := 7) [go_sem, ha, *]; done)
  have hf6_1_1 : w6.cell? ⟨w2.heap.size, 1, none⟩ = some (.int .u64 x1) := by first | (rw [ha]; with_reducible assumption) | (simp (maxDischargeDepth := 7) [go_sem, ha]; done) | (rw [ha]; assumption) | (simp (maxDischargeDepth := 7) [go_sem, ha, *]; done)
  try have hg6_1 : ∀ o, w6.frozen? ⟨w2.heap.size, o, none⟩ = false := by intro o; first | (simp (maxDischargeDepth := 7) [go_sem, hb]; done) | (rw [hb]; simp (maxDischargeDepth := 7) [go_sem, *]; done)
  clear ha hb
  refine kuse (b := w3.heap.size) hk6 (by first | (simp; done) | (simp; omega) | omega) ?_
  intro ha hb
  have hz6_2 : w3.heap.size < w6.heap.size := by have := hk6.size; (try simp at this); omega
  have hn6_2 : ¬ w3.heap.size = w6.heap.size := by omega
  have hm6_2 : ¬ w6.heap.size = w3.heap.size := by omega
  have hf6_2_0 : w6.cell? ⟨w3.heap.size, 0, none⟩ = some (.int .i64 X1) := by first | (rw [ha]; with_reducible assumption) | (simp (maxDischargeDepth := 7) [go_sem, ha]; done) | (rw [ha]; assumption) | (simp (maxDischargeDepth := 7) [go_sem, ha, *]; done)
  have hf6_2_1 : w6.cell? ⟨w3.heap.size, 1, none⟩ = some (.int .u64 x1) := by first | (rw [ha]; with_reducible assumption) | (simp (maxDischargeDepth := 7) [go_sem, ha]; done) | (rw [ha]; assumption) | (simp (maxDischargeDepth := 7) [go_sem, ha, *]; done)
  try have hg6_2 : ∀ o, w6.frozen? ⟨w3.heap.size, o, none⟩ = false := by intro o; first | (simp (maxDischargeDepth := 7) [go_sem, hb]; done) | (rw [hb]; simp (maxDischargeDepth := 7) [go_sem, *]; done)
  clear ha hb
  try clear hf5_0_0
  try clear hf5_0_1
  try clear hf5_1_0
  try clear hf5_1_1
  try clear hf5_2_0
  try clear hf5_2_1
  try clear hg5_0
  try clear hg5_1
  try clear hg5_2
  try clear hz5_1
  try clear hz5_2
  go_wp2_with fail
  with_reducible refine (Hof.out _).mono ?_
  rintro e w7 ⟨rfl, hk7⟩
  refine kuse (b := w.heap.size) hk7 (by first | (simp; done) | (simp; omega) | omega) ?_
  intro ha hb
  have hz7_0 : w.heap.size < w7.heap.size := by have := hk7.size; (try simp at this); omega
  have hn7_0 : ¬ w.heap.size = w7.heap.size := by omega
  have hm7_0 : ¬ w7.heap.size = w.heap.size := by omega
  have hf7_0_0 : w7.cell? ⟨w.heap.size, 0, none⟩ = some (.int .i64 uh) := by first | (rw [ha]; with_reducible assumption) | (simp (maxDischargeDepth := 7) [go_sem, ha]; done) | (rw [ha]; assumption) | (simp (maxDischargeDepth := 7) [go_sem, ha, *]; done)
  have hf7_0_1 : w7.cell? ⟨w.heap.size, 1, none⟩ = some (.int .u64 ul) := by first | (rw [ha]; with_reducible assumption) | (simp (maxDischargeDepth := 7) [go_sem, ha]; done) | (rw [ha]; assumption) | (simp (maxDischargeDepth := 7) [go_sem, ha, *]; done)
  try have hg7_0 : ∀ o, w7.frozen? ⟨w.heap.size, o, none⟩ = false := by intro o; first | (simp (maxDischargeDepth := 7) [go_sem, hb]; done) | (rw [hb]; simp (maxDischargeDepth := 7) [go_sem, *]; done)
  clear ha hb
  refine kuse (b := w2.heap.size) hk7 (by first | (simp; done) | (simp; omega) | omega) ?_
  intro ha hb
  have hz7_1 : w2.heap.size < w7.heap.size := by have := hk7.size; (try simp at this); omega
  have hn7_1 : ¬ w2.heap.size = w7.heap.size := by omega
  have hm7_1 : ¬ w7.heap.size = w2.heap.size := by omega
  have hf7_1_0 : w7.cell? ⟨w2.heap.size, 0, none⟩ = some (.int .i64 X1) := by first | (rw [ha]; with_reducible assumption) | (simp (maxDischargeDepth := 7) [go_sem, ha]; done) | (rw [ha]; assumption) | (simp (maxDischargeDepth := 7) [go_sem, ha, *]; done)
  have hf7_1_1 : w7.cell? ⟨w2.heap.size, 1, none⟩ = some (.int .u64 x1) := by first | (rw [ha]; with_reducible assumption) | (simp (maxDischargeDepth := 7) [go_sem, ha]; done) | (rw [ha]; assumption) | (simp (maxDischargeDepth := 7) [go_sem, ha, *]; done)
  try have hg7_1 : ∀ o, w7.frozen? ⟨w2.heap.size, o, none⟩ = false := by intro o; first | (simp (maxDischargeDepth := 7) [go_sem, hb]; done) | (rw [hb]; simp (maxDischargeDepth := 7) [go_sem, *]; done)
  clear ha hb
  refine kuse (b := w3.heap.size) hk7 (by first | (simp; done) | (simp; omega) | omega) ?_
  intro ha hb
  have hz7_2 : w3.heap.size < w7.heap.size := by have := hk7.size; (try simp at this); omega
  have hn7_2 : ¬ w3.heap.size = w7.heap.size := by omega
  have hm7_2 : ¬ w7.heap.size = w3.heap.size := by omega
  have hf7_2_0 : w7.cell? ⟨w3.heap.size, 0, none⟩ = some (.int .i64 X1) := by first | (rw [ha]; with_reducible assumption) | (simp (maxDischargeDepth := 7) [go_sem, ha]; done) | (rw [ha]; assumption) | (simp (maxDischargeDepth := 7) [go_sem, ha, *]; done)
  have hf7_2_1 : w7.cell? ⟨w3.heap.size, 1, none⟩ = some (.int .u64 x1) := by first | (rw [ha]; with_reducible assumption) | (simp (maxDischargeDepth := 7) [go_sem, ha]; done) | (rw [ha]; assumption) | (simp (maxDischargeDepth := 7) [go_sem, ha, *]; done)
  try have hg7_2 : ∀ o, w7.frozen? ⟨w3.heap.size, o, none⟩ = false := by intro o; first | (simp (maxDischargeDepth := 7) [go_sem, hb]; done) | (rw [hb]; simp (maxDischargeDepth := 7) [go_sem, *]; done)
  clear ha hb
  try clear hf6_0_0
  try clear hf6_0_1
  try clear hf6_1_0
  try clear hf6_1_1
  try clear hf6_2_0
  try clear hf6_2_1
  try clear hg6_0
  try clear hg6_1
  try clear hg6_2
  try clear hz6_1
  try clear hz6_2
  go_wp2_with fail
  with_reducible refine (Hrof.out _).mono ?_
  rintro e w8 ⟨rfl, hk8⟩
  refine kuse (b := w.heap.size) hk8 (by first | (simp; done) | (simp; omega) | omega) ?_
  intro ha hb
  have hz8_0 : w.heap.size < w8.heap.size := by have := hk8.size; (try simp at this); omega
  have hn8_0 : ¬ w.heap.size = w8.heap.size := by omega
  have hm8_0 : ¬ w8.heap.size = w.heap.size := by omega
  have hf8_0_0 : w8.cell? ⟨w.heap.size, 0, none⟩ = some (.int .i64 uh) := by first | (rw [ha]; with_reducible assumption) | (simp (maxDischargeDepth := 7) [go_sem, ha]; done) | (rw [ha]; assumption) | (simp (maxDischargeDepth := 7) [go_sem, ha, *]; done)
  have hf8_0_1 : w8.cell? ⟨w.heap.size, 1, none⟩ = some (.int .u64 ul) := by first | (rw [ha]; with_reducible assumption) | (simp (maxDischargeDepth := 7) [go_sem, ha]; done) | (rw [ha]; assumption) | (simp (maxDischargeDepth := 7) [go_sem, ha, *]; done)
  try have hg8_0 : ∀ o, w8.frozen? ⟨w.heap.size, o, none⟩ = false := by intro o; first | (simp (maxDischargeDepth := 7) [go_sem, hb]; done) | (rw [hb]; simp (maxDischargeDepth := 7) [go_sem, *]; done)
  clear ha hb
  refine kuse (b := w2.heap.size) hk8 (by first | (simp; done) | (simp; omega) | omega) ?_
  intro ha hb
  have hz8_1 : w2.heap.size < w8.heap.size := by have := hk8.size; (try simp at this); omega
  have hn8_1 : ¬ w2.heap.size = w8.heap.size := by omega
  have hm8_1 : ¬ w8.heap.size = w2.heap.size := by omega
  have hf8_1_0 : w8.cell? ⟨w2.heap.size, 0, none⟩ = some (.int .i64 X1) := by first | (rw [ha]; with_reducible assumption) | (simp (maxDischargeDepth := 7) [go_sem, ha]; done) | (rw [ha]; assumption) | (simp (maxDischargeDepth := 7) [go_sem, ha, *]; done)
  have hf8_1_1 : w8.cell? ⟨w2.heap.size, 1, none⟩ = some (.int .u64 x1) := by first | (rw [ha]; with_reducible assumption) | (simp (maxDischargeDepth := 7) [go_sem, ha]; done) | (rw [ha]; assumption) | (simp (maxDischargeDepth := 7) [go_sem, ha, *]; done)
  try have hg8_1 : ∀ o, w8.frozen? ⟨w2.heap.size, o, none⟩ = false := by intro o; first | (simp (maxDischargeDepth := 7) [go_sem, hb]; done) | (rw [hb]; simp (maxDischargeDepth := 7) [go_sem, *]; done)
  clear ha hb
  refine kuse (b := w3.heap.size) hk8 (by first | (simp; done) | (simp; omega) | omega) ?_
  intro ha hb
  have hz8_2 : w3.heap.size < w8.heap.size := by have := hk8.size; (try simp at this); omega
  have hn8_2 : ¬ w3.heap.size = w8.heap.size := by omega
  have hm8_2 : ¬ w8.heap.size = w3.heap.size := by omega
  have hf8_2_0 : w8.cell? ⟨w3.heap.size, 0, none⟩ = some (.int .i64 X1) := by first | (rw [ha]; with_reducible assumption) | (simp (maxDischargeDepth := 7) [go_sem, ha]; done) | (rw [ha]; assumption) | (simp (maxDischargeDepth := 7) [go_sem, ha, *]; done)
  have hf8_2_1 : w8.cell? ⟨w3.heap.size, 1, none⟩ = some (.int .u64 x1) := by first | (rw [ha]; with_reducible assumption) | (simp (maxDischargeDepth := 7) [go_sem, ha]; done) | (rw [ha]; assumption) | (simp (maxDischargeDepth := 7) [go_sem, ha, *]; done)
  try have hg8_2 : ∀ o, w8.frozen? ⟨w3.heap.size, o, none⟩ = false := by intro o; first | (simp (maxDischargeDepth := 7) [go_sem, hb]; done) | (rw [hb]; simp (maxDischargeDepth := 7) [go_sem, *]; done)
  clear ha hb
  try clear hf7_0_0
  try clear hf7_0_1
  try clear hf7_1_0
  try clear hf7_1_1
  try clear hf7_2_0
  try clear hf7_2_1
  try clear hg7_0
  try clear hg7_1
  try clear hg7_2
  try clear hz7_1
  try clear hz7_2
  go_wp2_with fail
  all_goals go_ret
  all_goals exact ⟨rfl, (by repeat (first | with_reducible exact Kept.refl _ | with_reducible assumption | with_reducible refine Kept.setCell ?_ (by first | (simp; done) | (simp; omega) | omega) _ | with_reducible refine Kept.alloc ?_ _ | with_reducible refine Kept.drewN ?_ _ | with_reducible refine Kept.drew ?_ | with_reducible refine Kept.trans ?_ (by with_reducible assumption) | with_reducible refine Kept.dr ?_ (by with_reducible assumption)))⟩
theorem law_WideProducts (uh ul a b : Int) (uh0 : -9223372036854775808 ≤ uh) (uh1 : uh ≤ 9223372036854775807) (ul0 : 0 ≤ ul) (ul1 : ul ≤ 18446744073709551615) (a_0 : -9223372036854775808 ≤ a) (a_1 : a ≤ 9223372036854775807) (b_0 : -9223372036854775808 ≤ b) (b_1 : b ≤ 9223372036854775807) (w : World) (hT : Hid (Tb w)) : Calls Tryd.prog 4 #[.agg #[.int .i64 uh, .int .u64 ul], .int .i64 a, .int .i64 b] w fun e w' => e = .returned (.bool true) ∧ Kept w w' := by
  have h := lawi_WideProducts (uh * 18446744073709551616 + ul) a b (by omega) (by omega) a_0 a_1 b_0 b_1 w hT
  rw [wh_of uh ul ul0 ul1, wl_of uh ul ul0 ul1] at h
  exact h
set_option maxHeartbeats 2000000 in
set_option maxRecDepth 100000 in
theorem lawi_WideRoots (u a : Int) (u0 : -170141183460469231731687303715884105728 ≤ u) (u1 : u < 170141183460469231731687303715884105728) (a_0 : -9223372036854775808 ≤ a) (a_1 : a ≤ 9223372036854775807) (w : World) (hT : Hid (Tb w)) : Calls Tryd.prog 6 #[.agg #[.int .i64 (wh u), .int .u64 (wl u)], .int .i64 a] w fun e w' => e = .returned (.bool true) ∧ Kept w w' := by
  have sq := wsqrt_w u u0 u1
  have rsq := ref_wsqrt_w u u0 u1
  have ml := wmul_w a a a_0 a_1 a_0 a_1
  have bb := sgn_bd a a a_0 a_1 a_0 a_1
  have sq2 := wsqrt_w (a * a) (by omega) (by omega)
  have na : 0 ≤ wmag a ∧ wmag a ≤ 9223372036854775808 := by unfold wmag; split <;> omega
  have em : a * a = wmag a * wmag a := by unfold wmag; split <;> first | rfl | (simp; done) | (rw [Int.neg_mul_neg])
  have e1 : wsq (a * a) = wmag a := by rw [em]; exact wsq_sq _ na.1 (by omega)
  have e2 : wsqE (a * a) = true := by unfold wsqE; rw [decide_eq_false (by have := Int.mul_nonneg na.1 na.1; omega)]; rfl
  rw [e1, e2] at sq2
  clear e1 e2 em bb
  generalize wsq u = R at *
  generalize wsqE u = E at *
  generalize a * a = P at *
  have Hsq := Lib.hid sq
  clear sq
  have Hrsq := Lib.hid rsq
  clear rsq
  have Hml := Lib.hid ml
  clear ml
  have Hsq2 := Lib.hid sq2
  clear sq2
  generalize wh u = uh at *; generalize wl u = ul at *
  clear u0 u1
  generalize wh P = X2 at *; generalize wl P = x2 at *
  by_cases ha : a < 0
  · have ea : wmag a = -a := by unfold wmag; rw [if_pos ha]
    have Hna := Lib.hid ea
    rw [ea] at Hsq2
    clear ea na
    have eu : IntKind.u64.wrap (-IntKind.u64.wrap a) = -a := by simp only [IntKind.wrap_u64]; omega
    go_enter Tryd.func6, Tryd.ntmps6
    go_wp2_with fail
    refine (awake_w _ (tab_kept hT.out (by repeat (first | with_reducible exact Kept.refl _ | with_reducible assumption | with_reducible refine Kept.setCell ?_ (by first | (simp; done) | (simp; omega) | omega) _ | with_reducible refine Kept.alloc ?_ _ | with_reducible refine Kept.drewN ?_ _ | with_reducible refine Kept.drew ?_ | with_reducible refine Kept.trans ?_ (by with_reducible assumption) | with_reducible refine Kept.dr ?_ (by with_reducible assumption))))).mono ?_
    rintro e w1 ⟨rfl, hk1⟩
    refine kuse (b := w.heap.size) hk1 (by first | (simp; done) | (simp; omega) | omega) ?_
    intro ha hb
    have hz1_0 : w.heap.size < w1.heap.size := by have := hk1.size; (try simp at this); omega
    have hn1_0 : ¬ w.heap.size = w1.heap.size := by omega
    have hm1_0 : ¬ w1.heap.size = w.heap.size := by omega
    have hf1_0_0 : w1.cell? ⟨w.heap.size, 0, none⟩ = some (.int .i64 uh) := by first | (rw [ha]; with_reducible assumption) | (simp (maxDischargeDepth := 7) [go_sem, ha]; done) | (rw [ha]; assumption) | (simp (maxDischargeDepth := 7) [go_sem, ha, *]; done)
    have hf1_0_1 : w1.cell? ⟨w.heap.size, 1, none⟩ = some (.int .u64 ul) := by first | (rw [ha]; with_reducible assumption) | (simp (maxDischargeDepth := 7) [go_sem, ha]; done) | (rw [ha]; assumption) | (simp (maxDischargeDepth := 7) [go_sem, ha, *]; done)
    try have hg1_0 : ∀ o, w1.frozen? ⟨w.heap.size, o, none⟩ = false := by intro o; first | (simp (maxDischargeDepth := 7) [go_sem, hb]; done) | (rw [hb]; simp (maxDischargeDepth := 7) [go_sem, *]; done)
    clear ha hb
    go_wp2_with fail
    with_reducible refine (Hsq.out _).mono ?_
    rintro e w2 ⟨rfl, hk2⟩
    refine kuse (b := w.heap.size) hk2 (by first | (simp; done) | (simp; omega) | omega) ?_
    intro ha hb
    have hz2_0 : w.heap.size < w2.heap.size := by have := hk2.size; (try simp at this); omega
    have hn2_0 : ¬ w.heap.size = w2.heap.size := by omega
    have hm2_0 : ¬ w2.heap.size = w.heap.size := by omega
    have hf2_0_0 : w2.cell? ⟨w.heap.size, 0, none⟩ = some (.int .i64 uh) := by first | (rw [ha]; with_reducible assumption) | (simp (maxDischargeDepth := 7) [go_sem, ha]; done) | (rw [ha]; assumption) | (simp (maxDischargeDepth := 7) [go_sem, ha, *]; done)
    have hf2_0_1 : w2.cell? ⟨w.heap.size, 1, none⟩ = some (.int .u64 ul) := by first | (rw [ha]; with_reducible assumption) | (simp (maxDischargeDepth := 7) [go_sem, ha]; done) | (rw [ha]; assumption) | (simp (maxDischargeDepth := 7) [go_sem, ha, *]; done)
    try have hg2_0 : ∀ o, w2.frozen? ⟨w.heap.size, o, none⟩ = false := by intro o; first | (simp (maxDischargeDepth := 7) [go_sem, hb]; done) | (rw [hb]; simp (maxDischargeDepth := 7) [go_sem, *]; done)
    clear ha hb
    try clear hf1_0_0
    try clear hf1_0_1
    try clear hg1_0
    go_wp2_with fail
    with_reducible refine (Hrsq.out _).mono ?_
    rintro e w3 ⟨rfl, hk3⟩
    refine kuse (b := w.heap.size) hk3 (by first | (simp; done) | (simp; omega) | omega) ?_
    intro ha hb
    have hz3_0 : w.heap.size < w3.heap.size := by have := hk3.size; (try simp at this); omega
    have hn3_0 : ¬ w.heap.size = w3.heap.size := by omega
    have hm3_0 : ¬ w3.heap.size = w.heap.size := by omega
    have hf3_0_0 : w3.cell? ⟨w.heap.size, 0, none⟩ = some (.int .i64 uh) := by first | (rw [ha]; with_reducible assumption) | (simp (maxDischargeDepth := 7) [go_sem, ha]; done) | (rw [ha]; assumption) | (simp (maxDischargeDepth := 7) [go_sem, ha, *]; done)
    have hf3_0_1 : w3.cell? ⟨w.heap.size, 1, none⟩ = some (.int .u64 ul) := by first | (rw [ha]; with_reducible assumption) | (simp (maxDischargeDepth := 7) [go_sem, ha]; done) | (rw [ha]; assumption) | (simp (maxDischargeDepth := 7) [go_sem, ha, *]; done)
    try have hg3_0 : ∀ o, w3.frozen? ⟨w.heap.size, o, none⟩ = false := by intro o; first | (simp (maxDischargeDepth := 7) [go_sem, hb]; done) | (rw [hb]; simp (maxDischargeDepth := 7) [go_sem, *]; done)
    clear ha hb
    try clear hf2_0_0
    try clear hf2_0_1
    try clear hg2_0
    go_wp2_with fail
    with_reducible refine (Hml.out _).mono ?_
    rintro e w4 ⟨rfl, hk4⟩
    refine kuse (b := w.heap.size) hk4 (by first | (simp; done) | (simp; omega) | omega) ?_
    intro ha hb
    have hz4_0 : w.heap.size < w4.heap.size := by have := hk4.size; (try simp at this); omega
    have hn4_0 : ¬ w.heap.size = w4.heap.size := by omega
    have hm4_0 : ¬ w4.heap.size = w.heap.size := by omega
    have hf4_0_0 : w4.cell? ⟨w.heap.size, 0, none⟩ = some (.int .i64 uh) := by first | (rw [ha]; with_reducible assumption) | (simp (maxDischargeDepth := 7) [go_sem, ha]; done) | (rw [ha]; assumption) | (simp (maxDischargeDepth := 7) [go_sem, ha, *]; done)
    have hf4_0_1 : w4.cell? ⟨w.heap.size, 1, none⟩ = some (.int .u64 ul) := by first | (rw [ha]; with_reducible assumption) | (simp (maxDischargeDepth := 7) [go_sem, ha]; done) | (rw [ha]; assumption) | (simp (maxDischargeDepth := 7) [go_sem, ha, *]; done)
    try have hg4_0 : ∀ o, w4.frozen? ⟨w.heap.size, o, none⟩ = false := by intro o; first | (simp (maxDischargeDepth := 7) [go_sem, hb]; done) | (rw [hb]; simp (maxDischargeDepth := 7) [go_sem, *]; done)
    clear ha hb
    try clear hf3_0_0
    try clear hf3_0_1
    try clear hg3_0
    go_wp2_with fail
    with_reducible refine (Hsq2.out _).mono ?_
    rintro e w5 ⟨rfl, hk5⟩
    refine kuse (b := w.heap.size) hk5 (by first | (simp; done) | (simp; omega) | omega) ?_
    intro ha hb
    have hz5_0 : w.heap.size < w5.heap.size := by have := hk5.size; (try simp at this); omega
    have hn5_0 : ¬ w.heap.size = w5.heap.size := by omega
    have hm5_0 : ¬ w5.heap.size = w.heap.size := by omega
    have hf5_0_0 : w5.cell? ⟨w.heap.size, 0, none⟩ = some (.int .i64 uh) := by first | (rw [ha]; with_reducible assumption) | (simp (maxDischargeDepth := 7) [go_sem, ha]; done) | (rw [ha]; assumption) | (simp (maxDischargeDepth := 7) [go_sem, ha, *]; done)
    have hf5_0_1 : w5.cell? ⟨w.heap.size, 1, none⟩ = some (.int .u64 ul) := by first | (rw [ha]; with_reducible assumption) | (simp (maxDischargeDepth := 7) [go_sem, ha]; done) | (rw [ha]; assumption) | (simp (maxDischargeDepth := 7) [go_sem, ha, *]; done)
    try have hg5_0 : ∀ o, w5.frozen? ⟨w.heap.size, o, none⟩ = false := by intro o; first | (simp (maxDischargeDepth := 7) [go_sem, hb]; done) | (rw [hb]; simp (maxDischargeDepth := 7) [go_sem, *]; done)
    clear ha hb
    try clear hf4_0_0
    try clear hf4_0_1
    try clear hg4_0
    all_goals go_wp2_with fail
    all_goals go_ret
    all_goals exact ⟨rfl, (by repeat (first | with_reducible exact Kept.refl _ | with_reducible assumption | with_reducible refine Kept.setCell ?_ (by first | (simp; done) | (simp; omega) | omega) _ | with_reducible refine Kept.alloc ?_ _ | with_reducible refine Kept.drewN ?_ _ | with_reducible refine Kept.drew ?_ | with_reducible refine Kept.trans ?_ (by with_reducible assumption) | with_reducible refine Kept.dr ?_ (by with_reducible assumption)))⟩
  · have ea : wmag a = a := by unfold wmag; rw [if_neg ha]
    have Hna := Lib.hid ea
    rw [ea] at Hsq2
    clear ea na
    have eu : IntKind.u64.wrap a = a := by rw [IntKind.wrap_u64]; omega
    go_enter Tryd.func6, Tryd.ntmps6
    go_wp2_with fail
    refine (awake_w _ (tab_kept hT.out (by repeat (first | with_reducible exact Kept.refl _ | with_reducible assumption | with_reducible refine Kept.setCell ?_ (by first | (simp; done) | (simp; omega) | omega) _ | with_reducible refine Kept.alloc ?_ _ | with_reducible refine Kept.drewN ?_ _ | with_reducible refine Kept.drew ?_ | with_reducible refine Kept.trans ?_ (by with_reducible assumption) | with_reducible refine Kept.dr ?_ (by with_reducible assumption))))).mono ?_
    rintro e w1 ⟨rfl, hk1⟩
    refine kuse (b := w.heap.size) hk1 (by first | (simp; done) | (simp; omega) | omega) ?_
    intro ha hb
    have hz1_0 : w.heap.size < w1.heap.size := by have := hk1.size; (try simp at this); omega
    have hn1_0 : ¬ w.heap.size = w1.heap.size := by omega
    have hm1_0 : ¬ w1.heap.size = w.heap.size := by omega
    have hf1_0_0 : w1.cell? ⟨w.heap.size, 0, none⟩ = some (.int .i64 uh) := by first | (rw [ha]; with_reducible assumption) | (simp (maxDischargeDepth := 7) [go_sem, ha]; done) | (rw [ha]; assumption) | (simp (maxDischargeDepth := 7) [go_sem, ha, *]; done)
    have hf1_0_1 : w1.cell? ⟨w.heap.size, 1, none⟩ = some (.int .u64 ul) := by first | (rw [ha]; with_reducible assumption) | (simp (maxDischargeDepth := 7) [go_sem, ha]; done) | (rw [ha]; assumption) | (simp (maxDischargeDepth := 7) [go_sem, ha, *]; done)
    try have hg1_0 : ∀ o, w1.frozen? ⟨w.heap.size, o, none⟩ = false := by intro o; first | (simp (maxDischargeDepth := 7) [go_sem, hb]; done) | (rw [hb]; simp (maxDischargeDepth := 7) [go_sem, *]; done)
    clear ha hb
    go_wp2_with fail
    with_reducible refine (Hsq.out _).mono ?_
    rintro e w2 ⟨rfl, hk2⟩
    refine kuse (b := w.heap.size) hk2 (by first | (simp; done) | (simp; omega) | omega) ?_
    intro ha hb
    have hz2_0 : w.heap.size < w2.heap.size := by have := hk2.size; (try simp at this); omega
    have hn2_0 : ¬ w.heap.size = w2.heap.size := by omega
    have hm2_0 : ¬ w2.heap.size = w.heap.size := by omega
    have hf2_0_0 : w2.cell? ⟨w.heap.size, 0, none⟩ = some (.int .i64 uh) := by first | (rw [ha]; with_reducible assumption) | (simp (maxDischargeDepth := 7) [go_sem, ha]; done) | (rw [ha]; assumption) | (simp (maxDischargeDepth := 7) [go_sem, ha, *]; done)
    have hf2_0_1 : w2.cell? ⟨w.heap.size, 1, none⟩ = some (.int .u64 ul) := by first | (rw [ha]; with_reducible assumption) | (simp (maxDischargeDepth := 7) [go_sem, ha]; done) | (rw [ha]; assumption) | (simp (maxDischargeDepth := 7) [go_sem, ha, *]; done)
    try have hg2_0 : ∀ o, w2.frozen? ⟨w.heap.size, o, none⟩ = false := by intro o; first | (simp (maxDischargeDepth := 7) [go_sem, hb]; done) | (rw [hb]; simp (maxDischargeDepth := 7) [go_sem, *]; done)
    clear ha hb
    try clear hf1_0_0
    try clear hf1_0_1
    try clear hg1_0
    go_wp2_with fail
    with_reducible refine (Hrsq.out _).mono ?_
    rintro e w3 ⟨rfl, hk3⟩
    refine kuse (b := w.heap.size) hk3 (by first | (simp; done) | (simp; omega) | omega) ?_
    intro ha hb
    have hz3_0 : w.heap.size < w3.heap.size := by have := hk3.size; (try simp at this); omega
    have hn3_0 : ¬ w.heap.size = w3.heap.size := by omega
    have hm3_0 : ¬ w3.heap.size = w.heap.size := by omega
    have hf3_0_0 : w3.cell? ⟨w.heap.size, 0, none⟩ = some (.int .i64 uh) := by first | (rw [ha]; with_reducible assumption) | (simp (maxDischargeDepth := 7) [go_sem, ha]; done) | (rw [ha]; assumption) | (simp (maxDischargeDepth := 7) [go_sem, ha, *]; done)
    have hf3_0_1 : w3.cell? ⟨w.heap.size, 1, none⟩ = some (.int .u64 ul) := by first | (rw [ha]; with_reducible assumption) | (simp (maxDischargeDepth := 7) [go_sem, ha]; done) | (rw [ha]; assumption) | (simp (maxDischargeDepth := 7) [go_sem, ha, *]; done)
    try have hg3_0 : ∀ o, w3.frozen? ⟨w.heap.size, o, none⟩ = false := by intro o; first | (simp (maxDischargeDepth := 7) [go_sem, hb]; done) | (rw [hb]; simp (maxDischargeDepth := 7) [go_sem, *]; done)
    clear ha hb
    try clear hf2_0_0
    try clear hf2_0_1
    try clear hg2_0
    go_wp2_with fail
    with_reducible refine (Hml.out _).mono ?_
    rintro e w4 ⟨rfl, hk4⟩
    refine kuse (b := w.heap.size) hk4 (by first | (simp; done) | (simp; omega) | omega) ?_
    intro ha hb
    have hz4_0 : w.heap.size < w4.heap.size := by have := hk4.size; (try simp at this); omega
    have hn4_0 : ¬ w.heap.size = w4.heap.size := by omega
    have hm4_0 : ¬ w4.heap.size = w.heap.size := by omega
    have hf4_0_0 : w4.cell? ⟨w.heap.size, 0, none⟩ = some (.int .i64 uh) := by first | (rw [ha]; with_reducible assumption) | (simp (maxDischargeDepth := 7) [go_sem, ha]; done) | (rw [ha]; assumption) | (simp (maxDischargeDepth := 7) [go_sem, ha, *]; done)
    have hf4_0_1 : w4.cell? ⟨w.heap.size, 1, none⟩ = some (.int .u64 ul) := by first | (rw [ha]; with_reducible assumption) | (simp (maxDischargeDepth := 7) [go_sem, ha]; done) | (rw [ha]; assumption) | (simp (maxDischargeDepth := 7) [go_sem, ha, *]; done)
    try have hg4_0 : ∀ o, w4.frozen? ⟨w.heap.size, o, none⟩ = false := by intro o; first | (simp (maxDischargeDepth := 7) [go_sem, hb]; done) | (rw [hb]; simp (maxDischargeDepth := 7) [go_sem, *]; done)
    clear ha hb
    try clear hf3_0_0
    try clear hf3_0_1
    try clear hg3_0
    go_wp2_with fail
    with_reducible refine (Hsq2.out _).mono ?_
    rintro e w5 ⟨rfl, hk5⟩
    refine kuse (b := w.heap.size) hk5 (by first | (simp; done) | (simp; omega) | omega) ?_
    intro ha hb
    have hz5_0 : w.heap.size < w5.heap.size := by have := hk5.size; (try simp at this); omega
    have hn5_0 : ¬ w.heap.size = w5.heap.size := by omega
    have hm5_0 : ¬ w5.heap.size = w.heap.size := by omega
    have hf5_0_0 : w5.cell? ⟨w.heap.size, 0, none⟩ = some (.int .i64 uh) := by first | (rw [ha]; with_reducible assumption) | (simp (maxDischargeDepth := 7) [go_sem, ha]; done) | (rw [ha]; assumption) | (simp (maxDischargeDepth := 7) [go_sem, ha, *]; done)
    have hf5_0_1 : w5.cell? ⟨w.heap.size, 1, none⟩ = some (.int .u64 ul) := by first | (rw [ha]; with_reducible assumption) | (simp (maxDischargeDepth := 7) [go_sem, ha]; done) | (rw [ha]; assumption) | (simp (maxDischargeDepth := 7) [go_sem, ha, *]; done)
    try have hg5_0 : ∀ o, w5.frozen? ⟨w.heap.size, o, none⟩ = false := by intro o; first | (simp (maxDischargeDepth := 7) [go_sem, hb]; done) | (rw [hb]; simp (maxDischargeDepth := 7) [go_sem, *]; done)
    clear ha hb
    try clear hf4_0_0
    try clear hf4_0_1
    try clear hg4_0
    all_goals go_wp2_with fail
    all_goals go_ret
    all_goals exact ⟨rfl, (by repeat (first | with_reducible exact Kept.refl _ | with_reducible assumption | with_reducible refine Kept.setCell ?_ (by first | (simp; done) | (simp; omega) | omega) _ | with_reducible refine Kept.alloc ?_ _ | with_reducible refine Kept.drewN ?_ _ | with_reducible refine Kept.drew ?_ | with_reducible refine Kept.trans ?_ (by with_reducible assumption) | with_reducible refine Kept.dr ?_ (by with_reducible assumption)))⟩
theorem law_WideRoots (uh ul a : Int) (uh0 : -9223372036854775808 ≤ uh) (uh1 : uh ≤ 9223372036854775807) (ul0 : 0 ≤ ul) (ul1 : ul ≤ 18446744073709551615) (a_0 : -9223372036854775808 ≤ a) (a_1 : a ≤ 9223372036854775807) (w : World) (hT : Hid (Tb w)) : Calls Tryd.prog 6 #[.agg #[.int .i64 uh, .int .u64 ul], .int .i64 a] w fun e w' => e = .returned (.bool true) ∧ Kept w w' := by
  have h := lawi_WideRoots (uh * 18446744073709551616 + ul) a (by omega) (by omega) a_0 a_1 w hT
  rw [wh_of uh ul ul0 ul1, wl_of uh ul ul0 ul1] at h
  exact h
set_option maxHeartbeats 2000000 in
set_option maxRecDepth 100000 in
theorem lawi_WideRing (a b c : Int) (a_0 : -9223372036854775808 ≤ a) (a_1 : a ≤ 9223372036854775807) (b_0 : -9223372036854775808 ≤ b) (b_1 : b ≤ 9223372036854775807) (c_0 : -9223372036854775808 ≤ c) (c_1 : c ≤ 9223372036854775807) (w : World) (hT : Hid (Tb w)) : Calls Tryd.prog 9 #[.int .i64 a, .int .i64 b, .int .i64 c] w fun e w' => e = .returned (.bool true) ∧ Kept w w' := by
  have hTT := hT
  have oa := of_w a a_0 a_1
  have ob := of_w b b_0 b_1
  have ad := wadd_w a b (by omega) (by omega) (by omega) (by omega)
  have f1 := wfit_yes (u := a + b) (by omega) (by omega)
  rw [f1.1, f1.2] at ad
  have tm := times_w (a + b) c (by omega) (by omega) c_0 c_1
  have m1 := wmul_w a c a_0 a_1 c_0 c_1
  have m2 := wmul_w b c b_0 b_1 c_0 c_1
  have p1 := sgn_bd a c a_0 a_1 c_0 c_1
  have p2 := sgn_bd b c b_0 b_1 c_0 c_1
  have ad2 := wadd_w (a * c) (b * c) (by omega) (by omega) (by omega) (by omega)
  rw [← Int.add_mul] at ad2
  clear p1 p2 f1
  generalize wval ((a + b) * c) = V1 at *
  generalize wfit ((a + b) * c) = O1 at *
  generalize a * c = P1 at *
  generalize b * c = P2 at *
  obtain ⟨S, hS⟩ : ∃ S, a + b = S := ⟨_, rfl⟩
  rw [hS] at ad tm
  clear hS
  have Hoa := Lib.hid oa
  clear oa
  have Hob := Lib.hid ob
  clear ob
  have Had := Lib.hid ad
  clear ad
  have Htm := Lib.hid tm
  clear tm
  have Hm1 := Lib.hid m1
  clear m1
  have Hm2 := Lib.hid m2
  clear m2
  have Had2 := Lib.hid ad2
  clear ad2
  generalize wh V1 = X1 at *; generalize wl V1 = x1 at *
  have eqs : ∀ w, (Op.equalIn 10000 24 (.agg #[.int .i64 (X1), .int .u64 (x1)]) (.agg #[.int .i64 (X1), .int .u64 (x1)])).run Tryd.prog w = .ok true w := fun w => by rw [eqW]; simp
  go_enter Tryd.func9, Tryd.ntmps9
  go_wp2_with fail
  refine (awake_w _ (tab_kept hT.out (by repeat (first | with_reducible exact Kept.refl _ | with_reducible assumption | with_reducible refine Kept.setCell ?_ (by first | (simp; done) | (simp; omega) | omega) _ | with_reducible refine Kept.alloc ?_ _ | with_reducible refine Kept.drewN ?_ _ | with_reducible refine Kept.drew ?_ | with_reducible refine Kept.trans ?_ (by with_reducible assumption) | with_reducible refine Kept.dr ?_ (by with_reducible assumption))))).mono ?_
  rintro e w1 ⟨rfl, hk1⟩
  go_wp2_with fail
  with_reducible refine (Hoa.out _).mono ?_
  rintro e w2 ⟨rfl, hk2⟩
  go_wp2_with fail
  with_reducible refine (Hob.out _).mono ?_
  rintro e w3 ⟨rfl, hk3⟩
  go_wp2_with fail
  with_reducible refine (Had.out _).mono ?_
  rintro e w4 ⟨rfl, hk4⟩
  go_wp2_with fail
  with_reducible refine (Htm.out _).mono ?_
  rintro e w5 ⟨rfl, hk5⟩
  refine kuse (b := w4.heap.size) hk5 (by first | (simp; done) | (simp; omega) | omega) ?_
  intro ha hb
  have hz5_0 : w4.heap.size < w5.heap.size := by have := hk5.size; (try simp at this); omega
  have hn5_0 : ¬ w4.heap.size = w5.heap.size := by omega
  have hm5_0 : ¬ w5.heap.size = w4.heap.size := by omega
  have hf5_0_0 : w5.cell? ⟨w4.heap.size, 0, none⟩ = some (.int .i64 (wh S)) := by first | (rw [ha]; with_reducible assumption) | (simp (maxDischargeDepth := 7) [go_sem, ha]; done) | (rw [ha]; assumption) | (simp (maxDischargeDepth := 7) [go_sem, ha, *]; done)
  have hf5_0_1 : w5.cell? ⟨w4.heap.size, 1, none⟩ = some (.int .u64 (wl S)) := by first | (rw [ha]; with_reducible assumption) | (simp (maxDischargeDepth := 7) [go_sem, ha]; done) | (rw [ha]; assumption) | (simp (maxDischargeDepth := 7) [go_sem, ha, *]; done)
  try have hg5_0 : ∀ o, w5.frozen? ⟨w4.heap.size, o, none⟩ = false := by intro o; first | (simp (maxDischargeDepth := 7) [go_sem, hb]; done) | (rw [hb]; simp (maxDischargeDepth := 7) [go_sem, *]; done)
  clear ha hb
  go_wp2_with fail
  with_reducible refine (Hm1.out _).mono ?_
  rintro e w6 ⟨rfl, hk6⟩
  refine kuse (b := w4.heap.size) hk6 (by first | (simp; done) | (simp; omega) | omega) ?_
  intro ha hb
  have hz6_0 : w4.heap.size < w6.heap.size := by have := hk6.size; (try simp at this); omega
  have hn6_0 : ¬ w4.heap.size = w6.heap.size := by omega
  have hm6_0 : ¬ w6.heap.size = w4.heap.size := by omega
  have hf6_0_0 : w6.cell? ⟨w4.heap.size, 0, none⟩ = some (.int .i64 (wh S)) := by first | (rw [ha]; with_reducible assumption) | (simp (maxDischargeDepth := 7) [go_sem, ha]; done) | (rw [ha]; assumption) | (simp (maxDischargeDepth := 7) [go_sem, ha, *]; done)
  have hf6_0_1 : w6.cell? ⟨w4.heap.size, 1, none⟩ = some (.int .u64 (wl S)) := by first | (rw [ha]; with_reducible assumption) | (simp (maxDischargeDepth := 7) [go_sem, ha]; done) | (rw [ha]; assumption) | (simp (maxDischargeDepth := 7) [go_sem, ha, *]; done)
  try have hg6_0 : ∀ o, w6.frozen? ⟨w4.heap.size, o, none⟩ = false := by intro o; first | (simp (maxDischargeDepth := 7) [go_sem, hb]; done) | (rw [hb]; simp (maxDischargeDepth := 7) [go_sem, *]; done)
  clear ha hb
  refine kuse (b := w5.heap.size) hk6 (by first | (simp; done) | (simp; omega) | omega) ?_
  intro ha hb
  have hz6_1 : w5.heap.size < w6.heap.size := by have := hk6.size; (try simp at this); omega
  have hn6_1 : ¬ w5.heap.size = w6.heap.size := by omega
  have hm6_1 : ¬ w6.heap.size = w5.heap.size := by omega
  have hf6_1_0 : w6.cell? ⟨w5.heap.size, 0, none⟩ = some (.int .i64 X1) := by first | (rw [ha]; with_reducible assumption) | (simp (maxDischargeDepth := 7) [go_sem, ha]; done) | (rw [ha]; assumption) | (simp (maxDischargeDepth := 7) [go_sem, ha, *]; done)
  have hf6_1_1 : w6.cell? ⟨w5.heap.size, 1, none⟩ = some (.int .u64 x1) := by first | (rw [ha]; with_reducible assumption) | (simp (maxDischargeDepth := 7) [go_sem, ha]; done) | (rw [ha]; assumption) | (simp (maxDischargeDepth := 7) [go_sem, ha, *]; done)
  try have hg6_1 : ∀ o, w6.frozen? ⟨w5.heap.size, o, none⟩ = false := by intro o; first | (simp (maxDischargeDepth := 7) [go_sem, hb]; done) | (rw [hb]; simp (maxDischargeDepth := 7) [go_sem, *]; done)
  clear ha hb
  try clear hf5_0_0
  try clear hf5_0_1
  try clear hg5_0
  go_wp2_with fail
  with_reducible refine (Hm2.out _).mono ?_
  rintro e w7 ⟨rfl, hk7⟩
  refine kuse (b := w4.heap.size) hk7 (by first | (simp; done) | (simp; omega) | omega) ?_
  intro ha hb
  have hz7_0 : w4.heap.size < w7.heap.size := by have := hk7.size; (try simp at this); omega
  have hn7_0 : ¬ w4.heap.size = w7.heap.size := by omega
  have hm7_0 : ¬ w7.heap.size = w4.heap.size := by omega
  have hf7_0_0 : w7.cell? ⟨w4.heap.size, 0, none⟩ = some (.int .i64 (wh S)) := by first | (rw [ha]; with_reducible assumption) | (simp (maxDischargeDepth := 7) [go_sem, ha]; done) | (rw [ha]; assumption) | (simp (maxDischargeDepth := 7) [go_sem, ha, *]; done)
  have hf7_0_1 : w7.cell? ⟨w4.heap.size, 1, none⟩ = some (.int .u64 (wl S)) := by first | (rw [ha]; with_reducible assumption) | (simp (maxDischargeDepth := 7) [go_sem, ha]; done) | (rw [ha]; assumption) | (simp (maxDischargeDepth := 7) [go_sem, ha, *]; done)
  try have hg7_0 : ∀ o, w7.frozen? ⟨w4.heap.size, o, none⟩ = false := by intro o; first | (simp (maxDischargeDepth := 7) [go_sem, hb]; done) | (rw [hb]; simp (maxDischargeDepth := 7) [go_sem, *]; done)
  clear ha hb
  refine kuse (b := w5.heap.size) hk7 (by first | (simp; done) | (simp; omega) | omega) ?_
  intro ha hb
  have hz7_1 : w5.heap.size < w7.heap.size := by have := hk7.size; (try simp at this); omega
  have hn7_1 : ¬ w5.heap.size = w7.heap.size := by omega
  have hm7_1 : ¬ w7.heap.size = w5.heap.size := by omega
  have hf7_1_0 : w7.cell? ⟨w5.heap.size, 0, none⟩ = some (.int .i64 X1) := by first | (rw [ha]; with_reducible assumption) | (simp (maxDischargeDepth := 7) [go_sem, ha]; done) | (rw [ha]; assumption) | (simp (maxDischargeDepth := 7) [go_sem, ha, *]; done)
  have hf7_1_1 : w7.cell? ⟨w5.heap.size, 1, none⟩ = some (.int .u64 x1) := by first | (rw [ha]; with_reducible assumption) | (simp (maxDischargeDepth := 7) [go_sem, ha]; done) | (rw [ha]; assumption) | (simp (maxDischargeDepth := 7) [go_sem, ha, *]; done)
  try have hg7_1 : ∀ o, w7.frozen? ⟨w5.heap.size, o, none⟩ = false := by intro o; first | (simp (maxDischargeDepth := 7) [go_sem, hb]; done) | (rw [hb]; simp (maxDischargeDepth := 7) [go_sem, *]; done)
  clear ha hb
  try clear hf6_0_0
  try clear hf6_0_1
  try clear hf6_1_0
  try clear hf6_1_1
  try clear hg6_0
  try clear hg6_1
  try clear hz6_1
  go_wp2_with fail
  with_reducible refine (Had2.out _).mono ?_
  rintro e w8 ⟨rfl, hk8⟩
  refine kuse (b := w4.heap.size) hk8 (by first | (simp; done) | (simp; omega) | omega) ?_
  intro ha hb
  have hz8_0 : w4.heap.size < w8.heap.size := by have := hk8.size; (try simp at this); omega
  have hn8_0 : ¬ w4.heap.size = w8.heap.size := by omega
  have hm8_0 : ¬ w8.heap.size = w4.heap.size := by omega
  have hf8_0_0 : w8.cell? ⟨w4.heap.size, 0, none⟩ = some (.int .i64 (wh S)) := by first | (rw [ha]; with_reducible assumption) | (simp (maxDischargeDepth := 7) [go_sem, ha]; done) | (rw [ha]; assumption) | (simp (maxDischargeDepth := 7) [go_sem, ha, *]; done)
  have hf8_0_1 : w8.cell? ⟨w4.heap.size, 1, none⟩ = some (.int .u64 (wl S)) := by first | (rw [ha]; with_reducible assumption) | (simp (maxDischargeDepth := 7) [go_sem, ha]; done) | (rw [ha]; assumption) | (simp (maxDischargeDepth := 7) [go_sem, ha, *]; done)
  try have hg8_0 : ∀ o, w8.frozen? ⟨w4.heap.size, o, none⟩ = false := by intro o; first | (simp (maxDischargeDepth := 7) [go_sem, hb]; done) | (rw [hb]; simp (maxDischargeDepth := 7) [go_sem, *]; done)
  clear ha hb
  refine kuse (b := w5.heap.size) hk8 (by first | (simp; done) | (simp; omega) | omega) ?_
  intro ha hb
  have hz8_1 : w5.heap.size < w8.heap.size := by have := hk8.size; (try simp at this); omega
  have hn8_1 : ¬ w5.heap.size = w8.heap.size := by omega
  have hm8_1 : ¬ w8.heap.size = w5.heap.size := by omega
  have hf8_1_0 : w8.cell? ⟨w5.heap.size, 0, none⟩ = some (.int .i64 X1) := by first | (rw [ha]; with_reducible assumption) | (simp (maxDischargeDepth := 7) [go_sem, ha]; done) | (rw [ha]; assumption) | (simp (maxDischargeDepth := 7) [go_sem, ha, *]; done)
  have hf8_1_1 : w8.cell? ⟨w5.heap.size, 1, none⟩ = some (.int .u64 x1) := by first | (rw [ha]; with_reducible assumption) | (simp (maxDischargeDepth := 7) [go_sem, ha]; done) | (rw [ha]; assumption) | (simp (maxDischargeDepth := 7) [go_sem, ha, *]; done)
  try have hg8_1 : ∀ o, w8.frozen? ⟨w5.heap.size, o, none⟩ = false := by intro o; first | (simp (maxDischargeDepth := 7) [go_sem, hb]; done) | (rw [hb]; simp (maxDischargeDepth := 7) [go_sem, *]; done)
  clear ha hb
  try clear hf7_0_0
  try clear hf7_0_1
  try clear hf7_1_0
  try clear hf7_1_1
  try clear hg7_0
  try clear hg7_1
  try clear hz7_1
  go_wp2_with fail
  all_goals go_ret
  all_goals exact ⟨rfl, (by repeat (first | with_reducible exact Kept.refl _ | with_reducible assumption | with_reducible refine Kept.setCell ?_ (by first | (simp; done) | (simp; omega) | omega) _ | with_reducible refine Kept.alloc ?_ _ | with_reducible refine Kept.drewN ?_ _ | with_reducible refine Kept.drew ?_ | with_reducible refine Kept.trans ?_ (by with_reducible assumption) | with_reducible refine Kept.dr ?_ (by with_reducible assumption)))⟩
theorem law_WideRing (a b c : Int) (a_0 : -9223372036854775808 ≤ a) (a_1 : a ≤ 9223372036854775807) (b_0 : -9223372036854775808 ≤ b) (b_1 : b ≤ 9223372036854775807) (c_0 : -9223372036854775808 ≤ c) (c_1 : c ≤ 9223372036854775807) (w : World) (hT : Hid (Tb w)) : Calls Tryd.prog 9 #[.int .i64 a, .int .i64 b, .int .i64 c] w fun e w' => e = .returned (.bool true) ∧ Kept w w' := by
  have h := lawi_WideRing a b c a_0 a_1 b_0 b_1 c_0 c_1 w hT
  skip
  exact h
end Go.Proofs.YtgbhcbmokoolnaaDoor
