/-
  Own contracts: package line and the document's answers of layer 11: awake.
-/
import Derived.Test.YtokgmhicindibaaLinv
import Derived.Test.YtokgmhicindibaaLinbf
import Derived.Test.YtokgmhicindibaaLinbt
import Derived.WalkKit
import Derived.ProofKit
import Derived.OpenShut
import Derived.WalkLawsBesides
import Derived.WalkSpells
import Derived.Lib.Hide
import Derived.Deep.DeepCutAuto
import Derived.Deep.CutBlock
import Derived.Deep.QuietTactic
import Derived.BigQuiet
import Derived.Handy
import Derived.StillTailTactics
import Derived.IntWalk
import Derived.LoopN
import Derived.Deep.RegionHeld3
namespace Go.Proofs.Ytokgmhicindibaa
open Go.ChangeShapes Go.WideShapes Go.ChangeAt Go.RowKit
set_option linter.unusedVariables false
set_option linter.unusedSimpArgs false
theorem ahead_t (aX aY bX bY pX pY : Int) (w : World) : Calls Try.prog 16 #[.agg #[.int .i64 aX, .int .i64 aY], .agg #[.int .i64 bX, .int .i64 bY], .agg #[.int .i64 pX, .int .i64 pY]] w fun e w' => e = .returned (.int .i64 (ahT aX aY bX bY pX pY)) ∧ Kept w w' := by
  unfold ahT
  by_cases h : pokB aX aY = true ∧ pokB bX bY = true ∧ pokB pX pY = true
  · rw [if_pos h]; exact ahead_ok aX aY bX bY pX pY h.1 h.2.1 h.2.2 w
  · rw [if_neg h]; exact ahead_bad aX aY bX bY pX pY (by cases h1 : pokB aX aY <;> cases h2 : pokB bX bY <;> cases h3 : pokB pX pY <;> simp_all) w
theorem dist_t (aX aY bX bY : Int) (w : World) : Calls Try.prog 21 #[.agg #[.int .i64 aX, .int .i64 aY], .agg #[.int .i64 bX, .int .i64 bY]] w fun e w' => e = .returned (.int .i64 (dsT aX aY bX bY)) ∧ Kept w w' := by
  unfold dsT
  by_cases h : pokB aX aY = true ∧ pokB bX bY = true
  · rw [if_pos h]; exact dist_ok aX aY bX bY h.1 h.2 w
  · rw [if_neg h]; exact dist_bad aX aY bX bY (by cases h1 : pokB aX aY <;> cases h2 : pokB bX bY <;> simp_all) w
set_option maxHeartbeats 4000000 in
set_option maxRecDepth 100000 in
theorem awake_w  (w : World) : Calls Try.prog 13 #[] w fun e w' => e = .returned (.bool true) ∧ Kept w w' := by
  have c1 := fun w => offset_ok 0 0 0 10 3 4 rfl rfl rfl (by decide) w
  rw [la1, la2] at c1
  have c2 := fun w => course_w 0 0 10 0 w
  rw [la4, la3] at c2
  have c3 := fun w => meet_ok 0 0 10 10 0 10 10 0 rfl rfl rfl rfl la5 w
  rw [la6.1, la6.2.1, la6.2.2] at c3
  have c4 := fun w => foot_ok 0 0 10 0 3 4 rfl rfl rfl (by decide) w
  rw [la7.1, la7.2.1, la7.2.2] at c4
  have c5 := fun w => ray_ok 0 0 10800000 1000 rfl (by decide) (by decide) (by decide) (by decide) w
  rw [la8.1, la8.2.1, la8.2.2] at c5
  have c6 := fun w => dist_ok 0 0 3 4 rfl rfl w
  rw [la9] at c6
  have c7 := fun w => side_ok 0 0 0 10 3 4 rfl rfl rfl w
  rw [la10] at c7
  have c8 := fun w => side_ok 0 0 0 10 (-3) 4 rfl rfl rfl w
  rw [la11] at c8
  have c9 := fun w => ahead_ok 0 0 0 10 5 11 rfl rfl rfl w
  rw [la12] at c9
  have c10 := fun w => ahead_ok 0 0 0 10 5 9 rfl rfl rfl w
  rw [la13] at c10
  have c11 := fun w => past_ok 0 0 0 10 10 10 1 10 rfl la14.1 la14.2 rfl w
  rw [la17] at c11
  have c12 := fun w => past_ok 0 0 0 10 10 10 0 9 rfl la14.1 la14.2 rfl w
  rw [la18] at c12
  have Hc1 := Lib.hid c1
  have Hc2 := Lib.hid c2
  have Hc3 := Lib.hid c3
  have Hc4 := Lib.hid c4
  have Hc5 := Lib.hid c5
  have Hc6 := Lib.hid c6
  have Hc7 := Lib.hid c7
  have Hc8 := Lib.hid c8
  have Hc9 := Lib.hid c9
  have Hc10 := Lib.hid c10
  have Hc11 := Lib.hid c11
  have Hc12 := Lib.hid c12
  clear c1 c2 c3 c4 c5 c6 c7 c8 c9 c10 c11 c12
  have EQ1 := fun w => eqP_yes 5 5 w
  have EQ2 := fun w => eqP_yes 3 0 w
  have EQ3 := fun w => eqP_yes 500 866 w
  go_enter Try.func13, Try.ntmps13
  go_wp2_with fail
  with_reducible refine (Hc1.out _).mono ?_
  rintro e w1 ⟨rfl, hk1⟩
  refine kuz (b := w.heap.size) hk1 (by first | (simp; done) | (simp; omega) | omega) ?_
  intro ha hb hz1_0 hn1_0 hm1_0
  have hf1_0_0 : w1.cell? ⟨w.heap.size, 0, none⟩ = some (.int .i64 0) := (ha _).trans (by first | with_reducible assumption | (simp (maxDischargeDepth := 7) [go_sem]; done) | (simp (maxDischargeDepth := 7) [go_sem, *]; done))
  have hf1_0_1 : w1.cell? ⟨w.heap.size, 1, none⟩ = some (.int .i64 0) := (ha _).trans (by first | with_reducible assumption | (simp (maxDischargeDepth := 7) [go_sem]; done) | (simp (maxDischargeDepth := 7) [go_sem, *]; done))
  try have hg1_0 : ∀ o, w1.frozen? ⟨w.heap.size, o, none⟩ = false := by intro o; rw [hb]; first | (simp (maxDischargeDepth := 7) [go_sem]; done) | (simp (maxDischargeDepth := 7) [go_sem, *]; done)
  clear ha hb
  refine kuz (b := w.heap.size + 1) hk1 (by first | (simp; done) | (simp; omega) | omega) ?_
  intro ha hb hz1_1 hn1_1 hm1_1
  have hf1_1_0 : w1.cell? ⟨w.heap.size + 1, 0, none⟩ = some (.int .i64 0) := (ha _).trans (by first | with_reducible assumption | (simp (maxDischargeDepth := 7) [go_sem]; done) | (simp (maxDischargeDepth := 7) [go_sem, *]; done))
  have hf1_1_1 : w1.cell? ⟨w.heap.size + 1, 1, none⟩ = some (.int .i64 10) := (ha _).trans (by first | with_reducible assumption | (simp (maxDischargeDepth := 7) [go_sem]; done) | (simp (maxDischargeDepth := 7) [go_sem, *]; done))
  try have hg1_1 : ∀ o, w1.frozen? ⟨w.heap.size + 1, o, none⟩ = false := by intro o; rw [hb]; first | (simp (maxDischargeDepth := 7) [go_sem]; done) | (simp (maxDischargeDepth := 7) [go_sem, *]; done)
  clear ha hb
  refine kuz (b := w.heap.size + 2) hk1 (by first | (simp; done) | (simp; omega) | omega) ?_
  intro ha hb hz1_2 hn1_2 hm1_2
  have hf1_2_0 : w1.cell? ⟨w.heap.size + 2, 0, none⟩ = some (.int .i64 3) := (ha _).trans (by first | with_reducible assumption | (simp (maxDischargeDepth := 7) [go_sem]; done) | (simp (maxDischargeDepth := 7) [go_sem, *]; done))
  have hf1_2_1 : w1.cell? ⟨w.heap.size + 2, 1, none⟩ = some (.int .i64 4) := (ha _).trans (by first | with_reducible assumption | (simp (maxDischargeDepth := 7) [go_sem]; done) | (simp (maxDischargeDepth := 7) [go_sem, *]; done))
  try have hg1_2 : ∀ o, w1.frozen? ⟨w.heap.size + 2, o, none⟩ = false := by intro o; rw [hb]; first | (simp (maxDischargeDepth := 7) [go_sem]; done) | (simp (maxDischargeDepth := 7) [go_sem, *]; done)
  clear ha hb
  go_wp2_with fail
  with_reducible refine (Hc2.out _).mono ?_
  rintro e w2 ⟨rfl, hk2⟩
  refine kuz (b := w.heap.size) hk2 (by first | (simp; done) | (simp; omega) | omega) ?_
  intro ha hb hz2_0 hn2_0 hm2_0
  have hf2_0_0 : w2.cell? ⟨w.heap.size, 0, none⟩ = some (.int .i64 0) := (ha _).trans (by first | with_reducible assumption | (simp (maxDischargeDepth := 7) [go_sem]; done) | (simp (maxDischargeDepth := 7) [go_sem, *]; done))
  have hf2_0_1 : w2.cell? ⟨w.heap.size, 1, none⟩ = some (.int .i64 0) := (ha _).trans (by first | with_reducible assumption | (simp (maxDischargeDepth := 7) [go_sem]; done) | (simp (maxDischargeDepth := 7) [go_sem, *]; done))
  try have hg2_0 : ∀ o, w2.frozen? ⟨w.heap.size, o, none⟩ = false := by intro o; rw [hb]; first | (simp (maxDischargeDepth := 7) [go_sem]; done) | (simp (maxDischargeDepth := 7) [go_sem, *]; done)
  clear ha hb
  refine kuz (b := w.heap.size + 1) hk2 (by first | (simp; done) | (simp; omega) | omega) ?_
  intro ha hb hz2_1 hn2_1 hm2_1
  have hf2_1_0 : w2.cell? ⟨w.heap.size + 1, 0, none⟩ = some (.int .i64 0) := (ha _).trans (by first | with_reducible assumption | (simp (maxDischargeDepth := 7) [go_sem]; done) | (simp (maxDischargeDepth := 7) [go_sem, *]; done))
  have hf2_1_1 : w2.cell? ⟨w.heap.size + 1, 1, none⟩ = some (.int .i64 10) := (ha _).trans (by first | with_reducible assumption | (simp (maxDischargeDepth := 7) [go_sem]; done) | (simp (maxDischargeDepth := 7) [go_sem, *]; done))
  try have hg2_1 : ∀ o, w2.frozen? ⟨w.heap.size + 1, o, none⟩ = false := by intro o; rw [hb]; first | (simp (maxDischargeDepth := 7) [go_sem]; done) | (simp (maxDischargeDepth := 7) [go_sem, *]; done)
  clear ha hb
  refine kuz (b := w.heap.size + 2) hk2 (by first | (simp; done) | (simp; omega) | omega) ?_
  intro ha hb hz2_2 hn2_2 hm2_2
  have hf2_2_0 : w2.cell? ⟨w.heap.size + 2, 0, none⟩ = some (.int .i64 3) := (ha _).trans (by first | with_reducible assumption | (simp (maxDischargeDepth := 7) [go_sem]; done) | (simp (maxDischargeDepth := 7) [go_sem, *]; done))
  have hf2_2_1 : w2.cell? ⟨w.heap.size + 2, 1, none⟩ = some (.int .i64 4) := (ha _).trans (by first | with_reducible assumption | (simp (maxDischargeDepth := 7) [go_sem]; done) | (simp (maxDischargeDepth := 7) [go_sem, *]; done))
  try have hg2_2 : ∀ o, w2.frozen? ⟨w.heap.size + 2, o, none⟩ = false := by intro o; rw [hb]; first | (simp (maxDischargeDepth := 7) [go_sem]; done) | (simp (maxDischargeDepth := 7) [go_sem, *]; done)
  clear ha hb
  (try clear hf1_0_0); (try clear hf1_0_1); (try clear hf1_1_0); (try clear hf1_1_1); (try clear hf1_2_0); (try clear hf1_2_1); (try clear hg1_0); (try clear hg1_1); (try clear hg1_2); (try clear hz1_1); (try clear hz1_2)
  go_wp2_with fail
  with_reducible refine (Hc3.out _).mono ?_
  rintro e w3 ⟨rfl, hk3⟩
  refine kuz (b := w.heap.size) hk3 (by first | (simp; done) | (simp; omega) | omega) ?_
  intro ha hb hz3_0 hn3_0 hm3_0
  have hf3_0_0 : w3.cell? ⟨w.heap.size, 0, none⟩ = some (.int .i64 0) := (ha _).trans (by first | with_reducible assumption | (simp (maxDischargeDepth := 7) [go_sem]; done) | (simp (maxDischargeDepth := 7) [go_sem, *]; done))
  have hf3_0_1 : w3.cell? ⟨w.heap.size, 1, none⟩ = some (.int .i64 0) := (ha _).trans (by first | with_reducible assumption | (simp (maxDischargeDepth := 7) [go_sem]; done) | (simp (maxDischargeDepth := 7) [go_sem, *]; done))
  try have hg3_0 : ∀ o, w3.frozen? ⟨w.heap.size, o, none⟩ = false := by intro o; rw [hb]; first | (simp (maxDischargeDepth := 7) [go_sem]; done) | (simp (maxDischargeDepth := 7) [go_sem, *]; done)
  clear ha hb
  refine kuz (b := w.heap.size + 1) hk3 (by first | (simp; done) | (simp; omega) | omega) ?_
  intro ha hb hz3_1 hn3_1 hm3_1
  have hf3_1_0 : w3.cell? ⟨w.heap.size + 1, 0, none⟩ = some (.int .i64 0) := (ha _).trans (by first | with_reducible assumption | (simp (maxDischargeDepth := 7) [go_sem]; done) | (simp (maxDischargeDepth := 7) [go_sem, *]; done))
  have hf3_1_1 : w3.cell? ⟨w.heap.size + 1, 1, none⟩ = some (.int .i64 10) := (ha _).trans (by first | with_reducible assumption | (simp (maxDischargeDepth := 7) [go_sem]; done) | (simp (maxDischargeDepth := 7) [go_sem, *]; done))
  try have hg3_1 : ∀ o, w3.frozen? ⟨w.heap.size + 1, o, none⟩ = false := by intro o; rw [hb]; first | (simp (maxDischargeDepth := 7) [go_sem]; done) | (simp (maxDischargeDepth := 7) [go_sem, *]; done)
  clear ha hb
  refine kuz (b := w.heap.size + 2) hk3 (by first | (simp; done) | (simp; omega) | omega) ?_
  intro ha hb hz3_2 hn3_2 hm3_2
  have hf3_2_0 : w3.cell? ⟨w.heap.size + 2, 0, none⟩ = some (.int .i64 3) := (ha _).trans (by first | with_reducible assumption | (simp (maxDischargeDepth := 7) [go_sem]; done) | (simp (maxDischargeDepth := 7) [go_sem, *]; done))
  have hf3_2_1 : w3.cell? ⟨w.heap.size + 2, 1, none⟩ = some (.int .i64 4) := (ha _).trans (by first | with_reducible assumption | (simp (maxDischargeDepth := 7) [go_sem]; done) | (simp (maxDischargeDepth := 7) [go_sem, *]; done))
  try have hg3_2 : ∀ o, w3.frozen? ⟨w.heap.size + 2, o, none⟩ = false := by intro o; rw [hb]; first | (simp (maxDischargeDepth := 7) [go_sem]; done) | (simp (maxDischargeDepth := 7) [go_sem, *]; done)
  clear ha hb
  (try clear hf2_0_0); (try clear hf2_0_1); (try clear hf2_1_0); (try clear hf2_1_1); (try clear hf2_2_0); (try clear hf2_2_1); (try clear hg2_0); (try clear hg2_1); (try clear hg2_2); (try clear hz2_1); (try clear hz2_2)
  go_wp2_with fail
  with_reducible refine (Hc4.out _).mono ?_
  rintro e w4 ⟨rfl, hk4⟩
  refine kuz (b := w.heap.size) hk4 (by first | (simp; done) | (simp; omega) | omega) ?_
  intro ha hb hz4_0 hn4_0 hm4_0
  have hf4_0_0 : w4.cell? ⟨w.heap.size, 0, none⟩ = some (.int .i64 0) := (ha _).trans (by first | with_reducible assumption | (simp (maxDischargeDepth := 7) [go_sem]; done) | (simp (maxDischargeDepth := 7) [go_sem, *]; done))
  have hf4_0_1 : w4.cell? ⟨w.heap.size, 1, none⟩ = some (.int .i64 0) := (ha _).trans (by first | with_reducible assumption | (simp (maxDischargeDepth := 7) [go_sem]; done) | (simp (maxDischargeDepth := 7) [go_sem, *]; done))
  try have hg4_0 : ∀ o, w4.frozen? ⟨w.heap.size, o, none⟩ = false := by intro o; rw [hb]; first | (simp (maxDischargeDepth := 7) [go_sem]; done) | (simp (maxDischargeDepth := 7) [go_sem, *]; done)
  clear ha hb
  refine kuz (b := w.heap.size + 1) hk4 (by first | (simp; done) | (simp; omega) | omega) ?_
  intro ha hb hz4_1 hn4_1 hm4_1
  have hf4_1_0 : w4.cell? ⟨w.heap.size + 1, 0, none⟩ = some (.int .i64 0) := (ha _).trans (by first | with_reducible assumption | (simp (maxDischargeDepth := 7) [go_sem]; done) | (simp (maxDischargeDepth := 7) [go_sem, *]; done))
  have hf4_1_1 : w4.cell? ⟨w.heap.size + 1, 1, none⟩ = some (.int .i64 10) := (ha _).trans (by first | with_reducible assumption | (simp (maxDischargeDepth := 7) [go_sem]; done) | (simp (maxDischargeDepth := 7) [go_sem, *]; done))
  try have hg4_1 : ∀ o, w4.frozen? ⟨w.heap.size + 1, o, none⟩ = false := by intro o; rw [hb]; first | (simp (maxDischargeDepth := 7) [go_sem]; done) | (simp (maxDischargeDepth := 7) [go_sem, *]; done)
  clear ha hb
  refine kuz (b := w.heap.size + 2) hk4 (by first | (simp; done) | (simp; omega) | omega) ?_
  intro ha hb hz4_2 hn4_2 hm4_2
  have hf4_2_0 : w4.cell? ⟨w.heap.size + 2, 0, none⟩ = some (.int .i64 3) := (ha _).trans (by first | with_reducible assumption | (simp (maxDischargeDepth := 7) [go_sem]; done) | (simp (maxDischargeDepth := 7) [go_sem, *]; done))
  have hf4_2_1 : w4.cell? ⟨w.heap.size + 2, 1, none⟩ = some (.int .i64 4) := (ha _).trans (by first | with_reducible assumption | (simp (maxDischargeDepth := 7) [go_sem]; done) | (simp (maxDischargeDepth := 7) [go_sem, *]; done))
  try have hg4_2 : ∀ o, w4.frozen? ⟨w.heap.size + 2, o, none⟩ = false := by intro o; rw [hb]; first | (simp (maxDischargeDepth := 7) [go_sem]; done) | (simp (maxDischargeDepth := 7) [go_sem, *]; done)
  clear ha hb
  refine kuz (b := w3.heap.size) hk4 (by first | (simp; done) | (simp; omega) | omega) ?_
  intro ha hb hz4_3 hn4_3 hm4_3
  have hf4_3_0 : w4.cell? ⟨w3.heap.size, 0, none⟩ = some (.int .i64 5) := (ha _).trans (by first | with_reducible assumption | (simp (maxDischargeDepth := 7) [go_sem]; done) | (simp (maxDischargeDepth := 7) [go_sem, *]; done))
  have hf4_3_1 : w4.cell? ⟨w3.heap.size, 1, none⟩ = some (.int .i64 5) := (ha _).trans (by first | with_reducible assumption | (simp (maxDischargeDepth := 7) [go_sem]; done) | (simp (maxDischargeDepth := 7) [go_sem, *]; done))
  try have hg4_3 : ∀ o, w4.frozen? ⟨w3.heap.size, o, none⟩ = false := by intro o; rw [hb]; first | (simp (maxDischargeDepth := 7) [go_sem]; done) | (simp (maxDischargeDepth := 7) [go_sem, *]; done)
  clear ha hb
  (try clear hf3_0_0); (try clear hf3_0_1); (try clear hf3_1_0); (try clear hf3_1_1); (try clear hf3_2_0); (try clear hf3_2_1); (try clear hg3_0); (try clear hg3_1); (try clear hg3_2); (try clear hz3_1); (try clear hz3_2)
  go_wp2_with fail
  with_reducible refine (Hc5.out _).mono ?_
  rintro e w5 ⟨rfl, hk5⟩
  refine kuz (b := w.heap.size) hk5 (by first | (simp; done) | (simp; omega) | omega) ?_
  intro ha hb hz5_0 hn5_0 hm5_0
  have hf5_0_0 : w5.cell? ⟨w.heap.size, 0, none⟩ = some (.int .i64 0) := (ha _).trans (by first | with_reducible assumption | (simp (maxDischargeDepth := 7) [go_sem]; done) | (simp (maxDischargeDepth := 7) [go_sem, *]; done))
  have hf5_0_1 : w5.cell? ⟨w.heap.size, 1, none⟩ = some (.int .i64 0) := (ha _).trans (by first | with_reducible assumption | (simp (maxDischargeDepth := 7) [go_sem]; done) | (simp (maxDischargeDepth := 7) [go_sem, *]; done))
  try have hg5_0 : ∀ o, w5.frozen? ⟨w.heap.size, o, none⟩ = false := by intro o; rw [hb]; first | (simp (maxDischargeDepth := 7) [go_sem]; done) | (simp (maxDischargeDepth := 7) [go_sem, *]; done)
  clear ha hb
  refine kuz (b := w.heap.size + 1) hk5 (by first | (simp; done) | (simp; omega) | omega) ?_
  intro ha hb hz5_1 hn5_1 hm5_1
  have hf5_1_0 : w5.cell? ⟨w.heap.size + 1, 0, none⟩ = some (.int .i64 0) := (ha _).trans (by first | with_reducible assumption | (simp (maxDischargeDepth := 7) [go_sem]; done) | (simp (maxDischargeDepth := 7) [go_sem, *]; done))
  have hf5_1_1 : w5.cell? ⟨w.heap.size + 1, 1, none⟩ = some (.int .i64 10) := (ha _).trans (by first | with_reducible assumption | (simp (maxDischargeDepth := 7) [go_sem]; done) | (simp (maxDischargeDepth := 7) [go_sem, *]; done))
  try have hg5_1 : ∀ o, w5.frozen? ⟨w.heap.size + 1, o, none⟩ = false := by intro o; rw [hb]; first | (simp (maxDischargeDepth := 7) [go_sem]; done) | (simp (maxDischargeDepth := 7) [go_sem, *]; done)
  clear ha hb
  refine kuz (b := w.heap.size + 2) hk5 (by first | (simp; done) | (simp; omega) | omega) ?_
  intro ha hb hz5_2 hn5_2 hm5_2
  have hf5_2_0 : w5.cell? ⟨w.heap.size + 2, 0, none⟩ = some (.int .i64 3) := (ha _).trans (by first | with_reducible assumption | (simp (maxDischargeDepth := 7) [go_sem]; done) | (simp (maxDischargeDepth := 7) [go_sem, *]; done))
  have hf5_2_1 : w5.cell? ⟨w.heap.size + 2, 1, none⟩ = some (.int .i64 4) := (ha _).trans (by first | with_reducible assumption | (simp (maxDischargeDepth := 7) [go_sem]; done) | (simp (maxDischargeDepth := 7) [go_sem, *]; done))
  try have hg5_2 : ∀ o, w5.frozen? ⟨w.heap.size + 2, o, none⟩ = false := by intro o; rw [hb]; first | (simp (maxDischargeDepth := 7) [go_sem]; done) | (simp (maxDischargeDepth := 7) [go_sem, *]; done)
  clear ha hb
  refine kuz (b := w3.heap.size) hk5 (by first | (simp; done) | (simp; omega) | omega) ?_
  intro ha hb hz5_3 hn5_3 hm5_3
  have hf5_3_0 : w5.cell? ⟨w3.heap.size, 0, none⟩ = some (.int .i64 5) := (ha _).trans (by first | with_reducible assumption | (simp (maxDischargeDepth := 7) [go_sem]; done) | (simp (maxDischargeDepth := 7) [go_sem, *]; done))
  have hf5_3_1 : w5.cell? ⟨w3.heap.size, 1, none⟩ = some (.int .i64 5) := (ha _).trans (by first | with_reducible assumption | (simp (maxDischargeDepth := 7) [go_sem]; done) | (simp (maxDischargeDepth := 7) [go_sem, *]; done))
  try have hg5_3 : ∀ o, w5.frozen? ⟨w3.heap.size, o, none⟩ = false := by intro o; rw [hb]; first | (simp (maxDischargeDepth := 7) [go_sem]; done) | (simp (maxDischargeDepth := 7) [go_sem, *]; done)
  clear ha hb
  refine kuz (b := w4.heap.size) hk5 (by first | (simp; done) | (simp; omega) | omega) ?_
  intro ha hb hz5_4 hn5_4 hm5_4
  have hf5_4_0 : w5.cell? ⟨w4.heap.size, 0, none⟩ = some (.int .i64 3) := (ha _).trans (by first | with_reducible assumption | (simp (maxDischargeDepth := 7) [go_sem]; done) | (simp (maxDischargeDepth := 7) [go_sem, *]; done))
  have hf5_4_1 : w5.cell? ⟨w4.heap.size, 1, none⟩ = some (.int .i64 0) := (ha _).trans (by first | with_reducible assumption | (simp (maxDischargeDepth := 7) [go_sem]; done) | (simp (maxDischargeDepth := 7) [go_sem, *]; done))
  try have hg5_4 : ∀ o, w5.frozen? ⟨w4.heap.size, o, none⟩ = false := by intro o; rw [hb]; first | (simp (maxDischargeDepth := 7) [go_sem]; done) | (simp (maxDischargeDepth := 7) [go_sem, *]; done)
  clear ha hb
  (try clear hf4_0_0); (try clear hf4_0_1); (try clear hf4_1_0); (try clear hf4_1_1); (try clear hf4_2_0); (try clear hf4_2_1); (try clear hf4_3_0); (try clear hf4_3_1); (try clear hg4_0); (try clear hg4_1); (try clear hg4_2); (try clear hg4_3); (try clear hz4_1); (try clear hz4_2); (try clear hz4_3)
  go_wp2_with fail
  with_reducible refine (Hc6.out _).mono ?_
  rintro e w6 ⟨rfl, hk6⟩
  refine kuz (b := w.heap.size) hk6 (by first | (simp; done) | (simp; omega) | omega) ?_
  intro ha hb hz6_0 hn6_0 hm6_0
  have hf6_0_0 : w6.cell? ⟨w.heap.size, 0, none⟩ = some (.int .i64 0) := (ha _).trans (by first | with_reducible assumption | (simp (maxDischargeDepth := 7) [go_sem]; done) | (simp (maxDischargeDepth := 7) [go_sem, *]; done))
  have hf6_0_1 : w6.cell? ⟨w.heap.size, 1, none⟩ = some (.int .i64 0) := (ha _).trans (by first | with_reducible assumption | (simp (maxDischargeDepth := 7) [go_sem]; done) | (simp (maxDischargeDepth := 7) [go_sem, *]; done))
  try have hg6_0 : ∀ o, w6.frozen? ⟨w.heap.size, o, none⟩ = false := by intro o; rw [hb]; first | (simp (maxDischargeDepth := 7) [go_sem]; done) | (simp (maxDischargeDepth := 7) [go_sem, *]; done)
  clear ha hb
  refine kuz (b := w.heap.size + 1) hk6 (by first | (simp; done) | (simp; omega) | omega) ?_
  intro ha hb hz6_1 hn6_1 hm6_1
  have hf6_1_0 : w6.cell? ⟨w.heap.size + 1, 0, none⟩ = some (.int .i64 0) := (ha _).trans (by first | with_reducible assumption | (simp (maxDischargeDepth := 7) [go_sem]; done) | (simp (maxDischargeDepth := 7) [go_sem, *]; done))
  have hf6_1_1 : w6.cell? ⟨w.heap.size + 1, 1, none⟩ = some (.int .i64 10) := (ha _).trans (by first | with_reducible assumption | (simp (maxDischargeDepth := 7) [go_sem]; done) | (simp (maxDischargeDepth := 7) [go_sem, *]; done))
  try have hg6_1 : ∀ o, w6.frozen? ⟨w.heap.size + 1, o, none⟩ = false := by intro o; rw [hb]; first | (simp (maxDischargeDepth := 7) [go_sem]; done) | (simp (maxDischargeDepth := 7) [go_sem, *]; done)
  clear ha hb
  refine kuz (b := w.heap.size + 2) hk6 (by first | (simp; done) | (simp; omega) | omega) ?_
  intro ha hb hz6_2 hn6_2 hm6_2
  have hf6_2_0 : w6.cell? ⟨w.heap.size + 2, 0, none⟩ = some (.int .i64 3) := (ha _).trans (by first | with_reducible assumption | (simp (maxDischargeDepth := 7) [go_sem]; done) | (simp (maxDischargeDepth := 7) [go_sem, *]; done))
  have hf6_2_1 : w6.cell? ⟨w.heap.size + 2, 1, none⟩ = some (.int .i64 4) := (ha _).trans (by first | with_reducible assumption | (simp (maxDischargeDepth := 7) [go_sem]; done) | (simp (maxDischargeDepth := 7) [go_sem, *]; done))
  try have hg6_2 : ∀ o, w6.frozen? ⟨w.heap.size + 2, o, none⟩ = false := by intro o; rw [hb]; first | (simp (maxDischargeDepth := 7) [go_sem]; done) | (simp (maxDischargeDepth := 7) [go_sem, *]; done)
  clear ha hb
  refine kuz (b := w3.heap.size) hk6 (by first | (simp; done) | (simp; omega) | omega) ?_
  intro ha hb hz6_3 hn6_3 hm6_3
  have hf6_3_0 : w6.cell? ⟨w3.heap.size, 0, none⟩ = some (.int .i64 5) := (ha _).trans (by first | with_reducible assumption | (simp (maxDischargeDepth := 7) [go_sem]; done) | (simp (maxDischargeDepth := 7) [go_sem, *]; done))
  have hf6_3_1 : w6.cell? ⟨w3.heap.size, 1, none⟩ = some (.int .i64 5) := (ha _).trans (by first | with_reducible assumption | (simp (maxDischargeDepth := 7) [go_sem]; done) | (simp (maxDischargeDepth := 7) [go_sem, *]; done))
  try have hg6_3 : ∀ o, w6.frozen? ⟨w3.heap.size, o, none⟩ = false := by intro o; rw [hb]; first | (simp (maxDischargeDepth := 7) [go_sem]; done) | (simp (maxDischargeDepth := 7) [go_sem, *]; done)
  clear ha hb
  refine kuz (b := w4.heap.size) hk6 (by first | (simp; done) | (simp; omega) | omega) ?_
  intro ha hb hz6_4 hn6_4 hm6_4
  have hf6_4_0 : w6.cell? ⟨w4.heap.size, 0, none⟩ = some (.int .i64 3) := (ha _).trans (by first | with_reducible assumption | (simp (maxDischargeDepth := 7) [go_sem]; done) | (simp (maxDischargeDepth := 7) [go_sem, *]; done))
  have hf6_4_1 : w6.cell? ⟨w4.heap.size, 1, none⟩ = some (.int .i64 0) := (ha _).trans (by first | with_reducible assumption | (simp (maxDischargeDepth := 7) [go_sem]; done) | (simp (maxDischargeDepth := 7) [go_sem, *]; done))
  try have hg6_4 : ∀ o, w6.frozen? ⟨w4.heap.size, o, none⟩ = false := by intro o; rw [hb]; first | (simp (maxDischargeDepth := 7) [go_sem]; done) | (simp (maxDischargeDepth := 7) [go_sem, *]; done)
  clear ha hb
  refine kuz (b := w5.heap.size) hk6 (by first | (simp; done) | (simp; omega) | omega) ?_
  intro ha hb hz6_5 hn6_5 hm6_5
  have hf6_5_0 : w6.cell? ⟨w5.heap.size, 0, none⟩ = some (.int .i64 500) := (ha _).trans (by first | with_reducible assumption | (simp (maxDischargeDepth := 7) [go_sem]; done) | (simp (maxDischargeDepth := 7) [go_sem, *]; done))
  have hf6_5_1 : w6.cell? ⟨w5.heap.size, 1, none⟩ = some (.int .i64 866) := (ha _).trans (by first | with_reducible assumption | (simp (maxDischargeDepth := 7) [go_sem]; done) | (simp (maxDischargeDepth := 7) [go_sem, *]; done))
  try have hg6_5 : ∀ o, w6.frozen? ⟨w5.heap.size, o, none⟩ = false := by intro o; rw [hb]; first | (simp (maxDischargeDepth := 7) [go_sem]; done) | (simp (maxDischargeDepth := 7) [go_sem, *]; done)
  clear ha hb
  (try clear hf5_0_0); (try clear hf5_0_1); (try clear hf5_1_0); (try clear hf5_1_1); (try clear hf5_2_0); (try clear hf5_2_1); (try clear hf5_3_0); (try clear hf5_3_1); (try clear hf5_4_0); (try clear hf5_4_1); (try clear hg5_0); (try clear hg5_1); (try clear hg5_2); (try clear hg5_3); (try clear hg5_4); (try clear hz5_1); (try clear hz5_2); (try clear hz5_3); (try clear hz5_4)
  go_wp2_with fail
  with_reducible refine (Hc7.out _).mono ?_
  rintro e w7 ⟨rfl, hk7⟩
  refine kuz (b := w.heap.size) hk7 (by first | (simp; done) | (simp; omega) | omega) ?_
  intro ha hb hz7_0 hn7_0 hm7_0
  have hf7_0_0 : w7.cell? ⟨w.heap.size, 0, none⟩ = some (.int .i64 0) := (ha _).trans (by first | with_reducible assumption | (simp (maxDischargeDepth := 7) [go_sem]; done) | (simp (maxDischargeDepth := 7) [go_sem, *]; done))
  have hf7_0_1 : w7.cell? ⟨w.heap.size, 1, none⟩ = some (.int .i64 0) := (ha _).trans (by first | with_reducible assumption | (simp (maxDischargeDepth := 7) [go_sem]; done) | (simp (maxDischargeDepth := 7) [go_sem, *]; done))
  try have hg7_0 : ∀ o, w7.frozen? ⟨w.heap.size, o, none⟩ = false := by intro o; rw [hb]; first | (simp (maxDischargeDepth := 7) [go_sem]; done) | (simp (maxDischargeDepth := 7) [go_sem, *]; done)
  clear ha hb
  refine kuz (b := w.heap.size + 1) hk7 (by first | (simp; done) | (simp; omega) | omega) ?_
  intro ha hb hz7_1 hn7_1 hm7_1
  have hf7_1_0 : w7.cell? ⟨w.heap.size + 1, 0, none⟩ = some (.int .i64 0) := (ha _).trans (by first | with_reducible assumption | (simp (maxDischargeDepth := 7) [go_sem]; done) | (simp (maxDischargeDepth := 7) [go_sem, *]; done))
  have hf7_1_1 : w7.cell? ⟨w.heap.size + 1, 1, none⟩ = some (.int .i64 10) := (ha _).trans (by first | with_reducible assumption | (simp (maxDischargeDepth := 7) [go_sem]; done) | (simp (maxDischargeDepth := 7) [go_sem, *]; done))
  try have hg7_1 : ∀ o, w7.frozen? ⟨w.heap.size + 1, o, none⟩ = false := by intro o; rw [hb]; first | (simp (maxDischargeDepth := 7) [go_sem]; done) | (simp (maxDischargeDepth := 7) [go_sem, *]; done)
  clear ha hb
  refine kuz (b := w.heap.size + 2) hk7 (by first | (simp; done) | (simp; omega) | omega) ?_
  intro ha hb hz7_2 hn7_2 hm7_2
  have hf7_2_0 : w7.cell? ⟨w.heap.size + 2, 0, none⟩ = some (.int .i64 3) := (ha _).trans (by first | with_reducible assumption | (simp (maxDischargeDepth := 7) [go_sem]; done) | (simp (maxDischargeDepth := 7) [go_sem, *]; done))
  have hf7_2_1 : w7.cell? ⟨w.heap.size + 2, 1, none⟩ = some (.int .i64 4) := (ha _).trans (by first | with_reducible assumption | (simp (maxDischargeDepth := 7) [go_sem]; done) | (simp (maxDischargeDepth := 7) [go_sem, *]; done))
  try have hg7_2 : ∀ o, w7.frozen? ⟨w.heap.size + 2, o, none⟩ = false := by intro o; rw [hb]; first | (simp (maxDischargeDepth := 7) [go_sem]; done) | (simp (maxDischargeDepth := 7) [go_sem, *]; done)
  clear ha hb
  refine kuz (b := w3.heap.size) hk7 (by first | (simp; done) | (simp; omega) | omega) ?_
  intro ha hb hz7_3 hn7_3 hm7_3
  have hf7_3_0 : w7.cell? ⟨w3.heap.size, 0, none⟩ = some (.int .i64 5) := (ha _).trans (by first | with_reducible assumption | (simp (maxDischargeDepth := 7) [go_sem]; done) | (simp (maxDischargeDepth := 7) [go_sem, *]; done))
  have hf7_3_1 : w7.cell? ⟨w3.heap.size, 1, none⟩ = some (.int .i64 5) := (ha _).trans (by first | with_reducible assumption | (simp (maxDischargeDepth := 7) [go_sem]; done) | (simp (maxDischargeDepth := 7) [go_sem, *]; done))
  try have hg7_3 : ∀ o, w7.frozen? ⟨w3.heap.size, o, none⟩ = false := by intro o; rw [hb]; first | (simp (maxDischargeDepth := 7) [go_sem]; done) | (simp (maxDischargeDepth := 7) [go_sem, *]; done)
  clear ha hb
  refine kuz (b := w4.heap.size) hk7 (by first | (simp; done) | (simp; omega) | omega) ?_
  intro ha hb hz7_4 hn7_4 hm7_4
  have hf7_4_0 : w7.cell? ⟨w4.heap.size, 0, none⟩ = some (.int .i64 3) := (ha _).trans (by first | with_reducible assumption | (simp (maxDischargeDepth := 7) [go_sem]; done) | (simp (maxDischargeDepth := 7) [go_sem, *]; done))
  have hf7_4_1 : w7.cell? ⟨w4.heap.size, 1, none⟩ = some (.int .i64 0) := (ha _).trans (by first | with_reducible assumption | (simp (maxDischargeDepth := 7) [go_sem]; done) | (simp (maxDischargeDepth := 7) [go_sem, *]; done))
  try have hg7_4 : ∀ o, w7.frozen? ⟨w4.heap.size, o, none⟩ = false := by intro o; rw [hb]; first | (simp (maxDischargeDepth := 7) [go_sem]; done) | (simp (maxDischargeDepth := 7) [go_sem, *]; done)
  clear ha hb
  refine kuz (b := w5.heap.size) hk7 (by first | (simp; done) | (simp; omega) | omega) ?_
  intro ha hb hz7_5 hn7_5 hm7_5
  have hf7_5_0 : w7.cell? ⟨w5.heap.size, 0, none⟩ = some (.int .i64 500) := (ha _).trans (by first | with_reducible assumption | (simp (maxDischargeDepth := 7) [go_sem]; done) | (simp (maxDischargeDepth := 7) [go_sem, *]; done))
  have hf7_5_1 : w7.cell? ⟨w5.heap.size, 1, none⟩ = some (.int .i64 866) := (ha _).trans (by first | with_reducible assumption | (simp (maxDischargeDepth := 7) [go_sem]; done) | (simp (maxDischargeDepth := 7) [go_sem, *]; done))
  try have hg7_5 : ∀ o, w7.frozen? ⟨w5.heap.size, o, none⟩ = false := by intro o; rw [hb]; first | (simp (maxDischargeDepth := 7) [go_sem]; done) | (simp (maxDischargeDepth := 7) [go_sem, *]; done)
  clear ha hb
  refine kuz (b := w6.heap.size) hk7 (by first | (simp; done) | (simp; omega) | omega) ?_
  intro ha hb hz7_6 hn7_6 hm7_6
  have hf7_6_0 : w7.cell? ⟨w6.heap.size, 0, none⟩ = some (.int .i64 10) := (ha _).trans (by first | with_reducible assumption | (simp (maxDischargeDepth := 7) [go_sem]; done) | (simp (maxDischargeDepth := 7) [go_sem, *]; done))
  have hf7_6_1 : w7.cell? ⟨w6.heap.size, 1, none⟩ = some (.int .i64 10) := (ha _).trans (by first | with_reducible assumption | (simp (maxDischargeDepth := 7) [go_sem]; done) | (simp (maxDischargeDepth := 7) [go_sem, *]; done))
  try have hg7_6 : ∀ o, w7.frozen? ⟨w6.heap.size, o, none⟩ = false := by intro o; rw [hb]; first | (simp (maxDischargeDepth := 7) [go_sem]; done) | (simp (maxDischargeDepth := 7) [go_sem, *]; done)
  clear ha hb
  (try clear hf6_0_0); (try clear hf6_0_1); (try clear hf6_1_0); (try clear hf6_1_1); (try clear hf6_2_0); (try clear hf6_2_1); (try clear hf6_3_0); (try clear hf6_3_1); (try clear hf6_4_0); (try clear hf6_4_1); (try clear hf6_5_0); (try clear hf6_5_1); (try clear hg6_0); (try clear hg6_1); (try clear hg6_2); (try clear hg6_3); (try clear hg6_4); (try clear hg6_5); (try clear hz6_1); (try clear hz6_2); (try clear hz6_3); (try clear hz6_4); (try clear hz6_5)
  go_wp2_with fail
  with_reducible refine (Hc8.out _).mono ?_
  rintro e w8 ⟨rfl, hk8⟩
  refine kuz (b := w.heap.size) hk8 (by first | (simp; done) | (simp; omega) | omega) ?_
  intro ha hb hz8_0 hn8_0 hm8_0
  have hf8_0_0 : w8.cell? ⟨w.heap.size, 0, none⟩ = some (.int .i64 0) := (ha _).trans (by first | with_reducible assumption | (simp (maxDischargeDepth := 7) [go_sem]; done) | (simp (maxDischargeDepth := 7) [go_sem, *]; done))
  have hf8_0_1 : w8.cell? ⟨w.heap.size, 1, none⟩ = some (.int .i64 0) := (ha _).trans (by first | with_reducible assumption | (simp (maxDischargeDepth := 7) [go_sem]; done) | (simp (maxDischargeDepth := 7) [go_sem, *]; done))
  try have hg8_0 : ∀ o, w8.frozen? ⟨w.heap.size, o, none⟩ = false := by intro o; rw [hb]; first | (simp (maxDischargeDepth := 7) [go_sem]; done) | (simp (maxDischargeDepth := 7) [go_sem, *]; done)
  clear ha hb
  refine kuz (b := w.heap.size + 1) hk8 (by first | (simp; done) | (simp; omega) | omega) ?_
  intro ha hb hz8_1 hn8_1 hm8_1
  have hf8_1_0 : w8.cell? ⟨w.heap.size + 1, 0, none⟩ = some (.int .i64 0) := (ha _).trans (by first | with_reducible assumption | (simp (maxDischargeDepth := 7) [go_sem]; done) | (simp (maxDischargeDepth := 7) [go_sem, *]; done))
  have hf8_1_1 : w8.cell? ⟨w.heap.size + 1, 1, none⟩ = some (.int .i64 10) := (ha _).trans (by first | with_reducible assumption | (simp (maxDischargeDepth := 7) [go_sem]; done) | (simp (maxDischargeDepth := 7) [go_sem, *]; done))
  try have hg8_1 : ∀ o, w8.frozen? ⟨w.heap.size + 1, o, none⟩ = false := by intro o; rw [hb]; first | (simp (maxDischargeDepth := 7) [go_sem]; done) | (simp (maxDischargeDepth := 7) [go_sem, *]; done)
  clear ha hb
  refine kuz (b := w.heap.size + 2) hk8 (by first | (simp; done) | (simp; omega) | omega) ?_
  intro ha hb hz8_2 hn8_2 hm8_2
  have hf8_2_0 : w8.cell? ⟨w.heap.size + 2, 0, none⟩ = some (.int .i64 3) := (ha _).trans (by first | with_reducible assumption | (simp (maxDischargeDepth := 7) [go_sem]; done) | (simp (maxDischargeDepth := 7) [go_sem, *]; done))
  have hf8_2_1 : w8.cell? ⟨w.heap.size + 2, 1, none⟩ = some (.int .i64 4) := (ha _).trans (by first | with_reducible assumption | (simp (maxDischargeDepth := 7) [go_sem]; done) | (simp (maxDischargeDepth := 7) [go_sem, *]; done))
  try have hg8_2 : ∀ o, w8.frozen? ⟨w.heap.size + 2, o, none⟩ = false := by intro o; rw [hb]; first | (simp (maxDischargeDepth := 7) [go_sem]; done) | (simp (maxDischargeDepth := 7) [go_sem, *]; done)
  clear ha hb
  refine kuz (b := w3.heap.size) hk8 (by first | (simp; done) | (simp; omega) | omega) ?_
  intro ha hb hz8_3 hn8_3 hm8_3
  have hf8_3_0 : w8.cell? ⟨w3.heap.size, 0, none⟩ = some (.int .i64 5) := (ha _).trans (by first | with_reducible assumption | (simp (maxDischargeDepth := 7) [go_sem]; done) | (simp (maxDischargeDepth := 7) [go_sem, *]; done))
  have hf8_3_1 : w8.cell? ⟨w3.heap.size, 1, none⟩ = some (.int .i64 5) := (ha _).trans (by first | with_reducible assumption | (simp (maxDischargeDepth := 7) [go_sem]; done) | (simp (maxDischargeDepth := 7) [go_sem, *]; done))
  try have hg8_3 : ∀ o, w8.frozen? ⟨w3.heap.size, o, none⟩ = false := by intro o; rw [hb]; first | (simp (maxDischargeDepth := 7) [go_sem]; done) | (simp (maxDischargeDepth := 7) [go_sem, *]; done)
  clear ha hb
  refine kuz (b := w4.heap.size) hk8 (by first | (simp; done) | (simp; omega) | omega) ?_
  intro ha hb hz8_4 hn8_4 hm8_4
  have hf8_4_0 : w8.cell? ⟨w4.heap.size, 0, none⟩ = some (.int .i64 3) := (ha _).trans (by first | with_reducible assumption | (simp (maxDischargeDepth := 7) [go_sem]; done) | (simp (maxDischargeDepth := 7) [go_sem, *]; done))
  have hf8_4_1 : w8.cell? ⟨w4.heap.size, 1, none⟩ = some (.int .i64 0) := (ha _).trans (by first | with_reducible assumption | (simp (maxDischargeDepth := 7) [go_sem]; done) | (simp (maxDischargeDepth := 7) [go_sem, *]; done))
  try have hg8_4 : ∀ o, w8.frozen? ⟨w4.heap.size, o, none⟩ = false := by intro o; rw [hb]; first | (simp (maxDischargeDepth := 7) [go_sem]; done) | (simp (maxDischargeDepth := 7) [go_sem, *]; done)
  clear ha hb
  refine kuz (b := w5.heap.size) hk8 (by first | (simp; done) | (simp; omega) | omega) ?_
  intro ha hb hz8_5 hn8_5 hm8_5
  have hf8_5_0 : w8.cell? ⟨w5.heap.size, 0, none⟩ = some (.int .i64 500) := (ha _).trans (by first | with_reducible assumption | (simp (maxDischargeDepth := 7) [go_sem]; done) | (simp (maxDischargeDepth := 7) [go_sem, *]; done))
  have hf8_5_1 : w8.cell? ⟨w5.heap.size, 1, none⟩ = some (.int .i64 866) := (ha _).trans (by first | with_reducible assumption | (simp (maxDischargeDepth := 7) [go_sem]; done) | (simp (maxDischargeDepth := 7) [go_sem, *]; done))
  try have hg8_5 : ∀ o, w8.frozen? ⟨w5.heap.size, o, none⟩ = false := by intro o; rw [hb]; first | (simp (maxDischargeDepth := 7) [go_sem]; done) | (simp (maxDischargeDepth := 7) [go_sem, *]; done)
  clear ha hb
  refine kuz (b := w6.heap.size) hk8 (by first | (simp; done) | (simp; omega) | omega) ?_
  intro ha hb hz8_6 hn8_6 hm8_6
  have hf8_6_0 : w8.cell? ⟨w6.heap.size, 0, none⟩ = some (.int .i64 10) := (ha _).trans (by first | with_reducible assumption | (simp (maxDischargeDepth := 7) [go_sem]; done) | (simp (maxDischargeDepth := 7) [go_sem, *]; done))
  have hf8_6_1 : w8.cell? ⟨w6.heap.size, 1, none⟩ = some (.int .i64 10) := (ha _).trans (by first | with_reducible assumption | (simp (maxDischargeDepth := 7) [go_sem]; done) | (simp (maxDischargeDepth := 7) [go_sem, *]; done))
  try have hg8_6 : ∀ o, w8.frozen? ⟨w6.heap.size, o, none⟩ = false := by intro o; rw [hb]; first | (simp (maxDischargeDepth := 7) [go_sem]; done) | (simp (maxDischargeDepth := 7) [go_sem, *]; done)
  clear ha hb
  (try clear hf7_0_0); (try clear hf7_0_1); (try clear hf7_1_0); (try clear hf7_1_1); (try clear hf7_2_0); (try clear hf7_2_1); (try clear hf7_3_0); (try clear hf7_3_1); (try clear hf7_4_0); (try clear hf7_4_1); (try clear hf7_5_0); (try clear hf7_5_1); (try clear hf7_6_0); (try clear hf7_6_1); (try clear hg7_0); (try clear hg7_1); (try clear hg7_2); (try clear hg7_3); (try clear hg7_4); (try clear hg7_5); (try clear hg7_6); (try clear hz7_1); (try clear hz7_2); (try clear hz7_3); (try clear hz7_4); (try clear hz7_5); (try clear hz7_6)
  go_wp2_with fail
  with_reducible refine (Hc9.out _).mono ?_
  rintro e w9 ⟨rfl, hk9⟩
  refine kuz (b := w.heap.size) hk9 (by first | (simp; done) | (simp; omega) | omega) ?_
  intro ha hb hz9_0 hn9_0 hm9_0
  have hf9_0_0 : w9.cell? ⟨w.heap.size, 0, none⟩ = some (.int .i64 0) := (ha _).trans (by first | with_reducible assumption | (simp (maxDischargeDepth := 7) [go_sem]; done) | (simp (maxDischargeDepth := 7) [go_sem, *]; done))
  have hf9_0_1 : w9.cell? ⟨w.heap.size, 1, none⟩ = some (.int .i64 0) := (ha _).trans (by first | with_reducible assumption | (simp (maxDischargeDepth := 7) [go_sem]; done) | (simp (maxDischargeDepth := 7) [go_sem, *]; done))
  try have hg9_0 : ∀ o, w9.frozen? ⟨w.heap.size, o, none⟩ = false := by intro o; rw [hb]; first | (simp (maxDischargeDepth := 7) [go_sem]; done) | (simp (maxDischargeDepth := 7) [go_sem, *]; done)
  clear ha hb
  refine kuz (b := w.heap.size + 1) hk9 (by first | (simp; done) | (simp; omega) | omega) ?_
  intro ha hb hz9_1 hn9_1 hm9_1
  have hf9_1_0 : w9.cell? ⟨w.heap.size + 1, 0, none⟩ = some (.int .i64 0) := (ha _).trans (by first | with_reducible assumption | (simp (maxDischargeDepth := 7) [go_sem]; done) | (simp (maxDischargeDepth := 7) [go_sem, *]; done))
  have hf9_1_1 : w9.cell? ⟨w.heap.size + 1, 1, none⟩ = some (.int .i64 10) := (ha _).trans (by first | with_reducible assumption | (simp (maxDischargeDepth := 7) [go_sem]; done) | (simp (maxDischargeDepth := 7) [go_sem, *]; done))
  try have hg9_1 : ∀ o, w9.frozen? ⟨w.heap.size + 1, o, none⟩ = false := by intro o; rw [hb]; first | (simp (maxDischargeDepth := 7) [go_sem]; done) | (simp (maxDischargeDepth := 7) [go_sem, *]; done)
  clear ha hb
  refine kuz (b := w.heap.size + 2) hk9 (by first | (simp; done) | (simp; omega) | omega) ?_
  intro ha hb hz9_2 hn9_2 hm9_2
  have hf9_2_0 : w9.cell? ⟨w.heap.size + 2, 0, none⟩ = some (.int .i64 3) := (ha _).trans (by first | with_reducible assumption | (simp (maxDischargeDepth := 7) [go_sem]; done) | (simp (maxDischargeDepth := 7) [go_sem, *]; done))
  have hf9_2_1 : w9.cell? ⟨w.heap.size + 2, 1, none⟩ = some (.int .i64 4) := (ha _).trans (by first | with_reducible assumption | (simp (maxDischargeDepth := 7) [go_sem]; done) | (simp (maxDischargeDepth := 7) [go_sem, *]; done))
  try have hg9_2 : ∀ o, w9.frozen? ⟨w.heap.size + 2, o, none⟩ = false := by intro o; rw [hb]; first | (simp (maxDischargeDepth := 7) [go_sem]; done) | (simp (maxDischargeDepth := 7) [go_sem, *]; done)
  clear ha hb
  refine kuz (b := w3.heap.size) hk9 (by first | (simp; done) | (simp; omega) | omega) ?_
  intro ha hb hz9_3 hn9_3 hm9_3
  have hf9_3_0 : w9.cell? ⟨w3.heap.size, 0, none⟩ = some (.int .i64 5) := (ha _).trans (by first | with_reducible assumption | (simp (maxDischargeDepth := 7) [go_sem]; done) | (simp (maxDischargeDepth := 7) [go_sem, *]; done))
  have hf9_3_1 : w9.cell? ⟨w3.heap.size, 1, none⟩ = some (.int .i64 5) := (ha _).trans (by first | with_reducible assumption | (simp (maxDischargeDepth := 7) [go_sem]; done) | (simp (maxDischargeDepth := 7) [go_sem, *]; done))
  try have hg9_3 : ∀ o, w9.frozen? ⟨w3.heap.size, o, none⟩ = false := by intro o; rw [hb]; first | (simp (maxDischargeDepth := 7) [go_sem]; done) | (simp (maxDischargeDepth := 7) [go_sem, *]; done)
  clear ha hb
  refine kuz (b := w4.heap.size) hk9 (by first | (simp; done) | (simp; omega) | omega) ?_
  intro ha hb hz9_4 hn9_4 hm9_4
  have hf9_4_0 : w9.cell? ⟨w4.heap.size, 0, none⟩ = some (.int .i64 3) := (ha _).trans (by first | with_reducible assumption | (simp (maxDischargeDepth := 7) [go_sem]; done) | (simp (maxDischargeDepth := 7) [go_sem, *]; done))
  have hf9_4_1 : w9.cell? ⟨w4.heap.size, 1, none⟩ = some (.int .i64 0) := (ha _).trans (by first | with_reducible assumption | (simp (maxDischargeDepth := 7) [go_sem]; done) | (simp (maxDischargeDepth := 7) [go_sem, *]; done))
  try have hg9_4 : ∀ o, w9.frozen? ⟨w4.heap.size, o, none⟩ = false := by intro o; rw [hb]; first | (simp (maxDischargeDepth := 7) [go_sem]; done) | (simp (maxDischargeDepth := 7) [go_sem, *]; done)
  clear ha hb
  refine kuz (b := w5.heap.size) hk9 (by first | (simp; done) | (simp; omega) | omega) ?_
  intro ha hb hz9_5 hn9_5 hm9_5
  have hf9_5_0 : w9.cell? ⟨w5.heap.size, 0, none⟩ = some (.int .i64 500) := (ha _).trans (by first | with_reducible assumption | (simp (maxDischargeDepth := 7) [go_sem]; done) | (simp (maxDischargeDepth := 7) [go_sem, *]; done))
  have hf9_5_1 : w9.cell? ⟨w5.heap.size, 1, none⟩ = some (.int .i64 866) := (ha _).trans (by first | with_reducible assumption | (simp (maxDischargeDepth := 7) [go_sem]; done) | (simp (maxDischargeDepth := 7) [go_sem, *]; done))
  try have hg9_5 : ∀ o, w9.frozen? ⟨w5.heap.size, o, none⟩ = false := by intro o; rw [hb]; first | (simp (maxDischargeDepth := 7) [go_sem]; done) | (simp (maxDischargeDepth := 7) [go_sem, *]; done)
  clear ha hb
  refine kuz (b := w6.heap.size) hk9 (by first | (simp; done) | (simp; omega) | omega) ?_
  intro ha hb hz9_6 hn9_6 hm9_6
  have hf9_6_0 : w9.cell? ⟨w6.heap.size, 0, none⟩ = some (.int .i64 10) := (ha _).trans (by first | with_reducible assumption | (simp (maxDischargeDepth := 7) [go_sem]; done) | (simp (maxDischargeDepth := 7) [go_sem, *]; done))
  have hf9_6_1 : w9.cell? ⟨w6.heap.size, 1, none⟩ = some (.int .i64 10) := (ha _).trans (by first | with_reducible assumption | (simp (maxDischargeDepth := 7) [go_sem]; done) | (simp (maxDischargeDepth := 7) [go_sem, *]; done))
  try have hg9_6 : ∀ o, w9.frozen? ⟨w6.heap.size, o, none⟩ = false := by intro o; rw [hb]; first | (simp (maxDischargeDepth := 7) [go_sem]; done) | (simp (maxDischargeDepth := 7) [go_sem, *]; done)
  clear ha hb
  (try clear hf8_0_0); (try clear hf8_0_1); (try clear hf8_1_0); (try clear hf8_1_1); (try clear hf8_2_0); (try clear hf8_2_1); (try clear hf8_3_0); (try clear hf8_3_1); (try clear hf8_4_0); (try clear hf8_4_1); (try clear hf8_5_0); (try clear hf8_5_1); (try clear hf8_6_0); (try clear hf8_6_1); (try clear hg8_0); (try clear hg8_1); (try clear hg8_2); (try clear hg8_3); (try clear hg8_4); (try clear hg8_5); (try clear hg8_6); (try clear hz8_1); (try clear hz8_2); (try clear hz8_3); (try clear hz8_4); (try clear hz8_5); (try clear hz8_6)
  go_wp2_with fail
  with_reducible refine (Hc10.out _).mono ?_
  rintro e w10 ⟨rfl, hk10⟩
  refine kuz (b := w.heap.size) hk10 (by first | (simp; done) | (simp; omega) | omega) ?_
  intro ha hb hz10_0 hn10_0 hm10_0
  have hf10_0_0 : w10.cell? ⟨w.heap.size, 0, none⟩ = some (.int .i64 0) := (ha _).trans (by first | with_reducible assumption | (simp (maxDischargeDepth := 7) [go_sem]; done) | (simp (maxDischargeDepth := 7) [go_sem, *]; done))
  have hf10_0_1 : w10.cell? ⟨w.heap.size, 1, none⟩ = some (.int .i64 0) := (ha _).trans (by first | with_reducible assumption | (simp (maxDischargeDepth := 7) [go_sem]; done) | (simp (maxDischargeDepth := 7) [go_sem, *]; done))
  try have hg10_0 : ∀ o, w10.frozen? ⟨w.heap.size, o, none⟩ = false := by intro o; rw [hb]; first | (simp (maxDischargeDepth := 7) [go_sem]; done) | (simp (maxDischargeDepth := 7) [go_sem, *]; done)
  clear ha hb
  refine kuz (b := w.heap.size + 1) hk10 (by first | (simp; done) | (simp; omega) | omega) ?_
  intro ha hb hz10_1 hn10_1 hm10_1
  have hf10_1_0 : w10.cell? ⟨w.heap.size + 1, 0, none⟩ = some (.int .i64 0) := (ha _).trans (by first | with_reducible assumption | (simp (maxDischargeDepth := 7) [go_sem]; done) | (simp (maxDischargeDepth := 7) [go_sem, *]; done))
  have hf10_1_1 : w10.cell? ⟨w.heap.size + 1, 1, none⟩ = some (.int .i64 10) := (ha _).trans (by first | with_reducible assumption | (simp (maxDischargeDepth := 7) [go_sem]; done) | (simp (maxDischargeDepth := 7) [go_sem, *]; done))
  try have hg10_1 : ∀ o, w10.frozen? ⟨w.heap.size + 1, o, none⟩ = false := by intro o; rw [hb]; first | (simp (maxDischargeDepth := 7) [go_sem]; done) | (simp (maxDischargeDepth := 7) [go_sem, *]; done)
  clear ha hb
  refine kuz (b := w.heap.size + 2) hk10 (by first | (simp; done) | (simp; omega) | omega) ?_
  intro ha hb hz10_2 hn10_2 hm10_2
  have hf10_2_0 : w10.cell? ⟨w.heap.size + 2, 0, none⟩ = some (.int .i64 3) := (ha _).trans (by first | with_reducible assumption | (simp (maxDischargeDepth := 7) [go_sem]; done) | (simp (maxDischargeDepth := 7) [go_sem, *]; done))
  have hf10_2_1 : w10.cell? ⟨w.heap.size + 2, 1, none⟩ = some (.int .i64 4) := (ha _).trans (by first | with_reducible assumption | (simp (maxDischargeDepth := 7) [go_sem]; done) | (simp (maxDischargeDepth := 7) [go_sem, *]; done))
  try have hg10_2 : ∀ o, w10.frozen? ⟨w.heap.size + 2, o, none⟩ = false := by intro o; rw [hb]; first | (simp (maxDischargeDepth := 7) [go_sem]; done) | (simp (maxDischargeDepth := 7) [go_sem, *]; done)
  clear ha hb
  refine kuz (b := w3.heap.size) hk10 (by first | (simp; done) | (simp; omega) | omega) ?_
  intro ha hb hz10_3 hn10_3 hm10_3
  have hf10_3_0 : w10.cell? ⟨w3.heap.size, 0, none⟩ = some (.int .i64 5) := (ha _).trans (by first | with_reducible assumption | (simp (maxDischargeDepth := 7) [go_sem]; done) | (simp (maxDischargeDepth := 7) [go_sem, *]; done))
  have hf10_3_1 : w10.cell? ⟨w3.heap.size, 1, none⟩ = some (.int .i64 5) := (ha _).trans (by first | with_reducible assumption | (simp (maxDischargeDepth := 7) [go_sem]; done) | (simp (maxDischargeDepth := 7) [go_sem, *]; done))
  try have hg10_3 : ∀ o, w10.frozen? ⟨w3.heap.size, o, none⟩ = false := by intro o; rw [hb]; first | (simp (maxDischargeDepth := 7) [go_sem]; done) | (simp (maxDischargeDepth := 7) [go_sem, *]; done)
  clear ha hb
  refine kuz (b := w4.heap.size) hk10 (by first | (simp; done) | (simp; omega) | omega) ?_
  intro ha hb hz10_4 hn10_4 hm10_4
  have hf10_4_0 : w10.cell? ⟨w4.heap.size, 0, none⟩ = some (.int .i64 3) := (ha _).trans (by first | with_reducible assumption | (simp (maxDischargeDepth := 7) [go_sem]; done) | (simp (maxDischargeDepth := 7) [go_sem, *]; done))
  have hf10_4_1 : w10.cell? ⟨w4.heap.size, 1, none⟩ = some (.int .i64 0) := (ha _).trans (by first | with_reducible assumption | (simp (maxDischargeDepth := 7) [go_sem]; done) | (simp (maxDischargeDepth := 7) [go_sem, *]; done))
  try have hg10_4 : ∀ o, w10.frozen? ⟨w4.heap.size, o, none⟩ = false := by intro o; rw [hb]; first | (simp (maxDischargeDepth := 7) [go_sem]; done) | (simp (maxDischargeDepth := 7) [go_sem, *]; done)
  clear ha hb
  refine kuz (b := w5.heap.size) hk10 (by first | (simp; done) | (simp; omega) | omega) ?_
  intro ha hb hz10_5 hn10_5 hm10_5
  have hf10_5_0 : w10.cell? ⟨w5.heap.size, 0, none⟩ = some (.int .i64 500) := (ha _).trans (by first | with_reducible assumption | (simp (maxDischargeDepth := 7) [go_sem]; done) | (simp (maxDischargeDepth := 7) [go_sem, *]; done))
  have hf10_5_1 : w10.cell? ⟨w5.heap.size, 1, none⟩ = some (.int .i64 866) := (ha _).trans (by first | with_reducible assumption | (simp (maxDischargeDepth := 7) [go_sem]; done) | (simp (maxDischargeDepth := 7) [go_sem, *]; done))
  try have hg10_5 : ∀ o, w10.frozen? ⟨w5.heap.size, o, none⟩ = false := by intro o; rw [hb]; first | (simp (maxDischargeDepth := 7) [go_sem]; done) | (simp (maxDischargeDepth := 7) [go_sem, *]; done)
  clear ha hb
  refine kuz (b := w6.heap.size) hk10 (by first | (simp; done) | (simp; omega) | omega) ?_
  intro ha hb hz10_6 hn10_6 hm10_6
  have hf10_6_0 : w10.cell? ⟨w6.heap.size, 0, none⟩ = some (.int .i64 10) := (ha _).trans (by first | with_reducible assumption | (simp (maxDischargeDepth := 7) [go_sem]; done) | (simp (maxDischargeDepth := 7) [go_sem, *]; done))
  have hf10_6_1 : w10.cell? ⟨w6.heap.size, 1, none⟩ = some (.int .i64 10) := (ha _).trans (by first | with_reducible assumption | (simp (maxDischargeDepth := 7) [go_sem]; done) | (simp (maxDischargeDepth := 7) [go_sem, *]; done))
  try have hg10_6 : ∀ o, w10.frozen? ⟨w6.heap.size, o, none⟩ = false := by intro o; rw [hb]; first | (simp (maxDischargeDepth := 7) [go_sem]; done) | (simp (maxDischargeDepth := 7) [go_sem, *]; done)
  clear ha hb
  (try clear hf9_0_0); (try clear hf9_0_1); (try clear hf9_1_0); (try clear hf9_1_1); (try clear hf9_2_0); (try clear hf9_2_1); (try clear hf9_3_0); (try clear hf9_3_1); (try clear hf9_4_0); (try clear hf9_4_1); (try clear hf9_5_0); (try clear hf9_5_1); (try clear hf9_6_0); (try clear hf9_6_1); (try clear hg9_0); (try clear hg9_1); (try clear hg9_2); (try clear hg9_3); (try clear hg9_4); (try clear hg9_5); (try clear hg9_6); (try clear hz9_1); (try clear hz9_2); (try clear hz9_3); (try clear hz9_4); (try clear hz9_5); (try clear hz9_6)
  go_wp2_with fail
  with_reducible refine (Hc11.out _).mono ?_
  rintro e w11 ⟨rfl, hk11⟩
  refine kuz (b := w.heap.size) hk11 (by first | (simp; done) | (simp; omega) | omega) ?_
  intro ha hb hz11_0 hn11_0 hm11_0
  have hf11_0_0 : w11.cell? ⟨w.heap.size, 0, none⟩ = some (.int .i64 0) := (ha _).trans (by first | with_reducible assumption | (simp (maxDischargeDepth := 7) [go_sem]; done) | (simp (maxDischargeDepth := 7) [go_sem, *]; done))
  have hf11_0_1 : w11.cell? ⟨w.heap.size, 1, none⟩ = some (.int .i64 0) := (ha _).trans (by first | with_reducible assumption | (simp (maxDischargeDepth := 7) [go_sem]; done) | (simp (maxDischargeDepth := 7) [go_sem, *]; done))
  try have hg11_0 : ∀ o, w11.frozen? ⟨w.heap.size, o, none⟩ = false := by intro o; rw [hb]; first | (simp (maxDischargeDepth := 7) [go_sem]; done) | (simp (maxDischargeDepth := 7) [go_sem, *]; done)
  clear ha hb
  refine kuz (b := w.heap.size + 1) hk11 (by first | (simp; done) | (simp; omega) | omega) ?_
  intro ha hb hz11_1 hn11_1 hm11_1
  have hf11_1_0 : w11.cell? ⟨w.heap.size + 1, 0, none⟩ = some (.int .i64 0) := (ha _).trans (by first | with_reducible assumption | (simp (maxDischargeDepth := 7) [go_sem]; done) | (simp (maxDischargeDepth := 7) [go_sem, *]; done))
  have hf11_1_1 : w11.cell? ⟨w.heap.size + 1, 1, none⟩ = some (.int .i64 10) := (ha _).trans (by first | with_reducible assumption | (simp (maxDischargeDepth := 7) [go_sem]; done) | (simp (maxDischargeDepth := 7) [go_sem, *]; done))
  try have hg11_1 : ∀ o, w11.frozen? ⟨w.heap.size + 1, o, none⟩ = false := by intro o; rw [hb]; first | (simp (maxDischargeDepth := 7) [go_sem]; done) | (simp (maxDischargeDepth := 7) [go_sem, *]; done)
  clear ha hb
  refine kuz (b := w.heap.size + 2) hk11 (by first | (simp; done) | (simp; omega) | omega) ?_
  intro ha hb hz11_2 hn11_2 hm11_2
  have hf11_2_0 : w11.cell? ⟨w.heap.size + 2, 0, none⟩ = some (.int .i64 3) := (ha _).trans (by first | with_reducible assumption | (simp (maxDischargeDepth := 7) [go_sem]; done) | (simp (maxDischargeDepth := 7) [go_sem, *]; done))
  have hf11_2_1 : w11.cell? ⟨w.heap.size + 2, 1, none⟩ = some (.int .i64 4) := (ha _).trans (by first | with_reducible assumption | (simp (maxDischargeDepth := 7) [go_sem]; done) | (simp (maxDischargeDepth := 7) [go_sem, *]; done))
  try have hg11_2 : ∀ o, w11.frozen? ⟨w.heap.size + 2, o, none⟩ = false := by intro o; rw [hb]; first | (simp (maxDischargeDepth := 7) [go_sem]; done) | (simp (maxDischargeDepth := 7) [go_sem, *]; done)
  clear ha hb
  refine kuz (b := w3.heap.size) hk11 (by first | (simp; done) | (simp; omega) | omega) ?_
  intro ha hb hz11_3 hn11_3 hm11_3
  have hf11_3_0 : w11.cell? ⟨w3.heap.size, 0, none⟩ = some (.int .i64 5) := (ha _).trans (by first | with_reducible assumption | (simp (maxDischargeDepth := 7) [go_sem]; done) | (simp (maxDischargeDepth := 7) [go_sem, *]; done))
  have hf11_3_1 : w11.cell? ⟨w3.heap.size, 1, none⟩ = some (.int .i64 5) := (ha _).trans (by first | with_reducible assumption | (simp (maxDischargeDepth := 7) [go_sem]; done) | (simp (maxDischargeDepth := 7) [go_sem, *]; done))
  try have hg11_3 : ∀ o, w11.frozen? ⟨w3.heap.size, o, none⟩ = false := by intro o; rw [hb]; first | (simp (maxDischargeDepth := 7) [go_sem]; done) | (simp (maxDischargeDepth := 7) [go_sem, *]; done)
  clear ha hb
  refine kuz (b := w4.heap.size) hk11 (by first | (simp; done) | (simp; omega) | omega) ?_
  intro ha hb hz11_4 hn11_4 hm11_4
  have hf11_4_0 : w11.cell? ⟨w4.heap.size, 0, none⟩ = some (.int .i64 3) := (ha _).trans (by first | with_reducible assumption | (simp (maxDischargeDepth := 7) [go_sem]; done) | (simp (maxDischargeDepth := 7) [go_sem, *]; done))
  have hf11_4_1 : w11.cell? ⟨w4.heap.size, 1, none⟩ = some (.int .i64 0) := (ha _).trans (by first | with_reducible assumption | (simp (maxDischargeDepth := 7) [go_sem]; done) | (simp (maxDischargeDepth := 7) [go_sem, *]; done))
  try have hg11_4 : ∀ o, w11.frozen? ⟨w4.heap.size, o, none⟩ = false := by intro o; rw [hb]; first | (simp (maxDischargeDepth := 7) [go_sem]; done) | (simp (maxDischargeDepth := 7) [go_sem, *]; done)
  clear ha hb
  refine kuz (b := w5.heap.size) hk11 (by first | (simp; done) | (simp; omega) | omega) ?_
  intro ha hb hz11_5 hn11_5 hm11_5
  have hf11_5_0 : w11.cell? ⟨w5.heap.size, 0, none⟩ = some (.int .i64 500) := (ha _).trans (by first | with_reducible assumption | (simp (maxDischargeDepth := 7) [go_sem]; done) | (simp (maxDischargeDepth := 7) [go_sem, *]; done))
  have hf11_5_1 : w11.cell? ⟨w5.heap.size, 1, none⟩ = some (.int .i64 866) := (ha _).trans (by first | with_reducible assumption | (simp (maxDischargeDepth := 7) [go_sem]; done) | (simp (maxDischargeDepth := 7) [go_sem, *]; done))
  try have hg11_5 : ∀ o, w11.frozen? ⟨w5.heap.size, o, none⟩ = false := by intro o; rw [hb]; first | (simp (maxDischargeDepth := 7) [go_sem]; done) | (simp (maxDischargeDepth := 7) [go_sem, *]; done)
  clear ha hb
  refine kuz (b := w6.heap.size) hk11 (by first | (simp; done) | (simp; omega) | omega) ?_
  intro ha hb hz11_6 hn11_6 hm11_6
  have hf11_6_0 : w11.cell? ⟨w6.heap.size, 0, none⟩ = some (.int .i64 10) := (ha _).trans (by first | with_reducible assumption | (simp (maxDischargeDepth := 7) [go_sem]; done) | (simp (maxDischargeDepth := 7) [go_sem, *]; done))
  have hf11_6_1 : w11.cell? ⟨w6.heap.size, 1, none⟩ = some (.int .i64 10) := (ha _).trans (by first | with_reducible assumption | (simp (maxDischargeDepth := 7) [go_sem]; done) | (simp (maxDischargeDepth := 7) [go_sem, *]; done))
  try have hg11_6 : ∀ o, w11.frozen? ⟨w6.heap.size, o, none⟩ = false := by intro o; rw [hb]; first | (simp (maxDischargeDepth := 7) [go_sem]; done) | (simp (maxDischargeDepth := 7) [go_sem, *]; done)
  clear ha hb
  (try clear hf10_0_0); (try clear hf10_0_1); (try clear hf10_1_0); (try clear hf10_1_1); (try clear hf10_2_0); (try clear hf10_2_1); (try clear hf10_3_0); (try clear hf10_3_1); (try clear hf10_4_0); (try clear hf10_4_1); (try clear hf10_5_0); (try clear hf10_5_1); (try clear hf10_6_0); (try clear hf10_6_1); (try clear hg10_0); (try clear hg10_1); (try clear hg10_2); (try clear hg10_3); (try clear hg10_4); (try clear hg10_5); (try clear hg10_6); (try clear hz10_1); (try clear hz10_2); (try clear hz10_3); (try clear hz10_4); (try clear hz10_5); (try clear hz10_6)
  go_wp2_with fail
  with_reducible refine (Hc12.out _).mono ?_
  rintro e w12 ⟨rfl, hk12⟩
  refine kuz (b := w.heap.size) hk12 (by first | (simp; done) | (simp; omega) | omega) ?_
  intro ha hb hz12_0 hn12_0 hm12_0
  have hf12_0_0 : w12.cell? ⟨w.heap.size, 0, none⟩ = some (.int .i64 0) := (ha _).trans (by first | with_reducible assumption | (simp (maxDischargeDepth := 7) [go_sem]; done) | (simp (maxDischargeDepth := 7) [go_sem, *]; done))
  have hf12_0_1 : w12.cell? ⟨w.heap.size, 1, none⟩ = some (.int .i64 0) := (ha _).trans (by first | with_reducible assumption | (simp (maxDischargeDepth := 7) [go_sem]; done) | (simp (maxDischargeDepth := 7) [go_sem, *]; done))
  try have hg12_0 : ∀ o, w12.frozen? ⟨w.heap.size, o, none⟩ = false := by intro o; rw [hb]; first | (simp (maxDischargeDepth := 7) [go_sem]; done) | (simp (maxDischargeDepth := 7) [go_sem, *]; done)
  clear ha hb
  refine kuz (b := w.heap.size + 1) hk12 (by first | (simp; done) | (simp; omega) | omega) ?_
  intro ha hb hz12_1 hn12_1 hm12_1
  have hf12_1_0 : w12.cell? ⟨w.heap.size + 1, 0, none⟩ = some (.int .i64 0) := (ha _).trans (by first | with_reducible assumption | (simp (maxDischargeDepth := 7) [go_sem]; done) | (simp (maxDischargeDepth := 7) [go_sem, *]; done))
  have hf12_1_1 : w12.cell? ⟨w.heap.size + 1, 1, none⟩ = some (.int .i64 10) := (ha _).trans (by first | with_reducible assumption | (simp (maxDischargeDepth := 7) [go_sem]; done) | (simp (maxDischargeDepth := 7) [go_sem, *]; done))
  try have hg12_1 : ∀ o, w12.frozen? ⟨w.heap.size + 1, o, none⟩ = false := by intro o; rw [hb]; first | (simp (maxDischargeDepth := 7) [go_sem]; done) | (simp (maxDischargeDepth := 7) [go_sem, *]; done)
  clear ha hb
  refine kuz (b := w.heap.size + 2) hk12 (by first | (simp; done) | (simp; omega) | omega) ?_
  intro ha hb hz12_2 hn12_2 hm12_2
  have hf12_2_0 : w12.cell? ⟨w.heap.size + 2, 0, none⟩ = some (.int .i64 3) := (ha _).trans (by first | with_reducible assumption | (simp (maxDischargeDepth := 7) [go_sem]; done) | (simp (maxDischargeDepth := 7) [go_sem, *]; done))
  have hf12_2_1 : w12.cell? ⟨w.heap.size + 2, 1, none⟩ = some (.int .i64 4) := (ha _).trans (by first | with_reducible assumption | (simp (maxDischargeDepth := 7) [go_sem]; done) | (simp (maxDischargeDepth := 7) [go_sem, *]; done))
  try have hg12_2 : ∀ o, w12.frozen? ⟨w.heap.size + 2, o, none⟩ = false := by intro o; rw [hb]; first | (simp (maxDischargeDepth := 7) [go_sem]; done) | (simp (maxDischargeDepth := 7) [go_sem, *]; done)
  clear ha hb
  refine kuz (b := w3.heap.size) hk12 (by first | (simp; done) | (simp; omega) | omega) ?_
  intro ha hb hz12_3 hn12_3 hm12_3
  have hf12_3_0 : w12.cell? ⟨w3.heap.size, 0, none⟩ = some (.int .i64 5) := (ha _).trans (by first | with_reducible assumption | (simp (maxDischargeDepth := 7) [go_sem]; done) | (simp (maxDischargeDepth := 7) [go_sem, *]; done))
  have hf12_3_1 : w12.cell? ⟨w3.heap.size, 1, none⟩ = some (.int .i64 5) := (ha _).trans (by first | with_reducible assumption | (simp (maxDischargeDepth := 7) [go_sem]; done) | (simp (maxDischargeDepth := 7) [go_sem, *]; done))
  try have hg12_3 : ∀ o, w12.frozen? ⟨w3.heap.size, o, none⟩ = false := by intro o; rw [hb]; first | (simp (maxDischargeDepth := 7) [go_sem]; done) | (simp (maxDischargeDepth := 7) [go_sem, *]; done)
  clear ha hb
  refine kuz (b := w4.heap.size) hk12 (by first | (simp; done) | (simp; omega) | omega) ?_
  intro ha hb hz12_4 hn12_4 hm12_4
  have hf12_4_0 : w12.cell? ⟨w4.heap.size, 0, none⟩ = some (.int .i64 3) := (ha _).trans (by first | with_reducible assumption | (simp (maxDischargeDepth := 7) [go_sem]; done) | (simp (maxDischargeDepth := 7) [go_sem, *]; done))
  have hf12_4_1 : w12.cell? ⟨w4.heap.size, 1, none⟩ = some (.int .i64 0) := (ha _).trans (by first | with_reducible assumption | (simp (maxDischargeDepth := 7) [go_sem]; done) | (simp (maxDischargeDepth := 7) [go_sem, *]; done))
  try have hg12_4 : ∀ o, w12.frozen? ⟨w4.heap.size, o, none⟩ = false := by intro o; rw [hb]; first | (simp (maxDischargeDepth := 7) [go_sem]; done) | (simp (maxDischargeDepth := 7) [go_sem, *]; done)
  clear ha hb
  refine kuz (b := w5.heap.size) hk12 (by first | (simp; done) | (simp; omega) | omega) ?_
  intro ha hb hz12_5 hn12_5 hm12_5
  have hf12_5_0 : w12.cell? ⟨w5.heap.size, 0, none⟩ = some (.int .i64 500) := (ha _).trans (by first | with_reducible assumption | (simp (maxDischargeDepth := 7) [go_sem]; done) | (simp (maxDischargeDepth := 7) [go_sem, *]; done))
  have hf12_5_1 : w12.cell? ⟨w5.heap.size, 1, none⟩ = some (.int .i64 866) := (ha _).trans (by first | with_reducible assumption | (simp (maxDischargeDepth := 7) [go_sem]; done) | (simp (maxDischargeDepth := 7) [go_sem, *]; done))
  try have hg12_5 : ∀ o, w12.frozen? ⟨w5.heap.size, o, none⟩ = false := by intro o; rw [hb]; first | (simp (maxDischargeDepth := 7) [go_sem]; done) | (simp (maxDischargeDepth := 7) [go_sem, *]; done)
  clear ha hb
  refine kuz (b := w6.heap.size) hk12 (by first | (simp; done) | (simp; omega) | omega) ?_
  intro ha hb hz12_6 hn12_6 hm12_6
  have hf12_6_0 : w12.cell? ⟨w6.heap.size, 0, none⟩ = some (.int .i64 10) := (ha _).trans (by first | with_reducible assumption | (simp (maxDischargeDepth := 7) [go_sem]; done) | (simp (maxDischargeDepth := 7) [go_sem, *]; done))
  have hf12_6_1 : w12.cell? ⟨w6.heap.size, 1, none⟩ = some (.int .i64 10) := (ha _).trans (by first | with_reducible assumption | (simp (maxDischargeDepth := 7) [go_sem]; done) | (simp (maxDischargeDepth := 7) [go_sem, *]; done))
  try have hg12_6 : ∀ o, w12.frozen? ⟨w6.heap.size, o, none⟩ = false := by intro o; rw [hb]; first | (simp (maxDischargeDepth := 7) [go_sem]; done) | (simp (maxDischargeDepth := 7) [go_sem, *]; done)
  clear ha hb
  (try clear hf11_0_0); (try clear hf11_0_1); (try clear hf11_1_0); (try clear hf11_1_1); (try clear hf11_2_0); (try clear hf11_2_1); (try clear hf11_3_0); (try clear hf11_3_1); (try clear hf11_4_0); (try clear hf11_4_1); (try clear hf11_5_0); (try clear hf11_5_1); (try clear hf11_6_0); (try clear hf11_6_1); (try clear hg11_0); (try clear hg11_1); (try clear hg11_2); (try clear hg11_3); (try clear hg11_4); (try clear hg11_5); (try clear hg11_6); (try clear hz11_1); (try clear hz11_2); (try clear hz11_3); (try clear hz11_4); (try clear hz11_5); (try clear hz11_6)
  go_wp2_with fail
  all_goals first | (go_ret; refine ⟨?_, (by repeat (first | with_reducible exact Kept.refl _ | with_reducible assumption | with_reducible refine Kept.setCell ?_ (by first | (simp; done) | (simp; omega) | omega) _ | with_reducible refine Kept.alloc ?_ _ | with_reducible refine Kept.drewN ?_ _ | with_reducible refine Kept.drew ?_ | with_reducible refine Kept.trans ?_ (by with_reducible assumption) | with_reducible refine Kept.dr ?_ (by with_reducible assumption)))⟩; first | rfl | (refine retb ?_; simp; done) | (refine retb ?_; simp; omega)) | (exfalso; omega)

end Go.Proofs.Ytokgmhicindibaa
