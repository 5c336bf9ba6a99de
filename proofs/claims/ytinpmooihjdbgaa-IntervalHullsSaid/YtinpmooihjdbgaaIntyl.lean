/-
  Own contracts: the laws of sums and hulls.
-/
import Derived.Test.YtinpmooihjdbgaaIntya
import Derived.Test.YtinpmooihjdbgaaIntwd
import Derived.Test.YtinpmooihjdbgaaIntu
import Derived.WalkKit
import Derived.ProofKit
import Derived.OpenShut
import Derived.WalkLawsBesides
import Derived.WalkSpells
import Derived.Lib.Hide
import Derived.Deep.DeepCutAuto
import Derived.Deep.CutBlock
import Derived.Deep.QuietTactic
import Derived.BigQuiet
import Derived.Handy
import Derived.StillTailTactics
import Derived.IntWalk
import Derived.LoopN
import Derived.Deep.RegionHeld3
namespace Go.Proofs.Ytinpmooihjdbgaa
open Go.ChangeShapes Go.WideShapes Go.ChangeAt Go.RowKit
set_option linter.unusedVariables false
set_option linter.unusedSimpArgs false
theorem add_both (a b c d : Int) : ∃ l g e : Int, (∀ w, Calls Try.prog 24 #[.agg #[.int .i64 a, .int .i64 b], .agg #[.int .i64 c, .int .i64 d]] w fun en w' => en = .returned (.tuple #[.agg #[.int .i64 l, .int .i64 g], .int .i64 e]) ∧ Kept w w') ∧ (∀ w, Calls Try.prog 25 #[.agg #[.int .i64 a, .int .i64 b], .agg #[.int .i64 c, .int .i64 d]] w fun en w' => en = .returned (.tuple #[.agg #[.int .i64 l, .int .i64 g], .int .i64 e]) ∧ Kept w w') := by
  by_cases h0 : b < a ∨ a < -4611686018427387904 ∨ 4611686018427387904 < b ∨ d < c ∨ c < -4611686018427387904 ∨ 4611686018427387904 < d
  · exact ⟨_, _, _, fun w => iadd_arg a b c d (by omega) w, fun w => ref_iadd_arg a b c d (by omega) w⟩
  · by_cases h1 : a + c < -4611686018427387904 ∨ 4611686018427387904 < b + d
    · exact ⟨_, _, _, fun w => iadd_bad a b c d (by omega) (by omega) (by omega) (by omega) (by omega) (by omega) (by omega) w, fun w => ref_iadd_bad a b c d (by omega) (by omega) (by omega) (by omega) (by omega) (by omega) (by omega) w⟩
    · exact ⟨_, _, _, fun w => iadd_ok a b c d (by omega) (by omega) (by omega) (by omega) (by omega) (by omega) (by omega) (by omega) w, fun w => ref_iadd_ok a b c d (by omega) (by omega) (by omega) (by omega) (by omega) (by omega) (by omega) (by omega) w⟩
theorem sub_both (a b c d : Int) : ∃ l g e : Int, (∀ w, Calls Try.prog 26 #[.agg #[.int .i64 a, .int .i64 b], .agg #[.int .i64 c, .int .i64 d]] w fun en w' => en = .returned (.tuple #[.agg #[.int .i64 l, .int .i64 g], .int .i64 e]) ∧ Kept w w') ∧ (∀ w, Calls Try.prog 27 #[.agg #[.int .i64 a, .int .i64 b], .agg #[.int .i64 c, .int .i64 d]] w fun en w' => en = .returned (.tuple #[.agg #[.int .i64 l, .int .i64 g], .int .i64 e]) ∧ Kept w w') := by
  by_cases h0 : d < c ∨ c < -4611686018427387904 ∨ 4611686018427387904 < d
  · exact ⟨_, _, _, fun w => isub_arg a b c d (by omega) w, fun w => ref_isub_argy a b c d (by omega) w⟩
  · by_cases h1 : b < a ∨ a < -4611686018427387904 ∨ 4611686018427387904 < b
    · exact ⟨_, _, _, fun w => isub_arg a b c d (by omega) w, fun w => ref_isub_arg a b c d (by omega) (by omega) (by omega) (by omega) w⟩
    · by_cases h2 : a - d < -4611686018427387904 ∨ 4611686018427387904 < b - c
      · exact ⟨_, _, _, fun w => isub_bad a b c d (by omega) (by omega) (by omega) (by omega) (by omega) (by omega) (by omega) w, fun w => ref_isub_bad a b c d (by omega) (by omega) (by omega) (by omega) (by omega) (by omega) (by omega) w⟩
      · exact ⟨_, _, _, fun w => isub_ok a b c d (by omega) (by omega) (by omega) (by omega) (by omega) (by omega) (by omega) (by omega) w, fun w => ref_isub_ok a b c d (by omega) (by omega) (by omega) (by omega) (by omega) (by omega) (by omega) (by omega) w⟩
theorem neg_both (a b : Int) : ∃ l g e : Int, (∀ w, Calls Try.prog 28 #[.agg #[.int .i64 a, .int .i64 b]] w fun en w' => en = .returned (.tuple #[.agg #[.int .i64 l, .int .i64 g], .int .i64 e]) ∧ Kept w w') ∧ (∀ w, Calls Try.prog 29 #[.agg #[.int .i64 a, .int .i64 b]] w fun en w' => en = .returned (.tuple #[.agg #[.int .i64 l, .int .i64 g], .int .i64 e]) ∧ Kept w w') := by
  by_cases h0 : b < a ∨ a < -4611686018427387904 ∨ 4611686018427387904 < b
  · exact ⟨_, _, _, fun w => ineg_arg a b (by omega) w, fun w => ref_ineg_arg a b (by omega) w⟩
  · exact ⟨_, _, _, fun w => ineg_ok a b (by omega) (by omega) (by omega) w, fun w => ref_ineg_ok a b (by omega) (by omega) (by omega) w⟩
theorem abs_both (a b : Int) : ∃ l g e : Int, (∀ w, Calls Try.prog 30 #[.agg #[.int .i64 a, .int .i64 b]] w fun en w' => en = .returned (.tuple #[.agg #[.int .i64 l, .int .i64 g], .int .i64 e]) ∧ Kept w w') ∧ (∀ w, Calls Try.prog 31 #[.agg #[.int .i64 a, .int .i64 b]] w fun en w' => en = .returned (.tuple #[.agg #[.int .i64 l, .int .i64 g], .int .i64 e]) ∧ Kept w w') := by
  by_cases h0 : b < a ∨ a < -4611686018427387904 ∨ 4611686018427387904 < b
  · exact ⟨_, _, _, fun w => iabs_arg a b (by omega) w, fun w => ref_iabs_arg a b (by omega) w⟩
  · by_cases h1 : 0 ≤ a
    · exact ⟨_, _, _, fun w => iabs_pos a b (by omega) (by omega) (by omega) (by omega) w, fun w => ref_iabs_pos a b (by omega) (by omega) (by omega) (by omega) w⟩
    · by_cases h2 : b ≤ 0
      · exact ⟨_, _, _, fun w => iabs_neg a b (by omega) (by omega) (by omega) (by omega) (by omega) w, fun w => ref_iabs_neg a b (by omega) (by omega) (by omega) (by omega) (by omega) w⟩
      · exact ⟨_, _, _, fun w => iabs_mid a b (by omega) (by omega) (by omega) (by omega) (by omega) w, fun w => ref_iabs_mid a b (by omega) (by omega) (by omega) (by omega) (by omega) w⟩
theorem hull_both (a b c d : Int) : ∃ l g e : Int, (∀ w, Calls Try.prog 32 #[.agg #[.int .i64 a, .int .i64 b], .agg #[.int .i64 c, .int .i64 d]] w fun en w' => en = .returned (.tuple #[.agg #[.int .i64 l, .int .i64 g], .int .i64 e]) ∧ Kept w w') ∧ (∀ w, Calls Try.prog 33 #[.agg #[.int .i64 a, .int .i64 b], .agg #[.int .i64 c, .int .i64 d]] w fun en w' => en = .returned (.tuple #[.agg #[.int .i64 l, .int .i64 g], .int .i64 e]) ∧ Kept w w') := by
  by_cases h0 : b < a ∨ a < -4611686018427387904 ∨ 4611686018427387904 < b ∨ d < c ∨ c < -4611686018427387904 ∨ 4611686018427387904 < d
  · exact ⟨_, _, _, fun w => ihull_arg a b c d (by omega) w, fun w => ref_ihull_arg a b c d (by omega) w⟩
  · exact ⟨_, _, _, fun w => ihull_ok a b c d (by omega) (by omega) (by omega) (by omega) (by omega) (by omega) w, fun w => ref_ihull_ok a b c d (by omega) (by omega) (by omega) (by omega) (by omega) (by omega) w⟩
theorem meet_both (a b c d : Int) : ∃ l g e : Int, (∀ w, Calls Try.prog 34 #[.agg #[.int .i64 a, .int .i64 b], .agg #[.int .i64 c, .int .i64 d]] w fun en w' => en = .returned (.tuple #[.agg #[.int .i64 l, .int .i64 g], .int .i64 e]) ∧ Kept w w') ∧ (∀ w, Calls Try.prog 35 #[.agg #[.int .i64 a, .int .i64 b], .agg #[.int .i64 c, .int .i64 d]] w fun en w' => en = .returned (.tuple #[.agg #[.int .i64 l, .int .i64 g], .int .i64 e]) ∧ Kept w w') := by
  by_cases h0 : b < a ∨ a < -4611686018427387904 ∨ 4611686018427387904 < b ∨ d < c ∨ c < -4611686018427387904 ∨ 4611686018427387904 < d
  · exact ⟨_, _, _, fun w => imeet_arg a b c d (by omega) w, fun w => ref_imeet_arg a b c d (by omega) w⟩
  · by_cases h1 : d < a ∨ b < c
    · exact ⟨_, _, _, fun w => imeet_none a b c d (by omega) (by omega) (by omega) (by omega) (by omega) (by omega) (by omega) w, fun w => ref_imeet_none a b c d (by omega) (by omega) (by omega) (by omega) (by omega) (by omega) (by omega) w⟩
    · exact ⟨_, _, _, fun w => imeet_ok a b c d (by omega) (by omega) (by omega) (by omega) (by omega) (by omega) (by omega) (by omega) w, fun w => ref_imeet_ok a b c d (by omega) (by omega) (by omega) (by omega) (by omega) (by omega) (by omega) (by omega) w⟩
theorem widen_both (a b k : Int) (k_1 : k ≤ 9223372036854775807) : ∃ l g e : Int, (∀ w, Calls Try.prog 36 #[.agg #[.int .i64 a, .int .i64 b], .int .i64 k] w fun en w' => en = .returned (.tuple #[.agg #[.int .i64 l, .int .i64 g], .int .i64 e]) ∧ Kept w w') ∧ (∀ w, Calls Try.prog 37 #[.agg #[.int .i64 a, .int .i64 b], .int .i64 k] w fun en w' => en = .returned (.tuple #[.agg #[.int .i64 l, .int .i64 g], .int .i64 e]) ∧ Kept w w') := by
  by_cases h0 : b < a ∨ a < -4611686018427387904 ∨ 4611686018427387904 < b
  · exact ⟨_, _, _, fun w => iwiden_arg a b k (by omega) w, fun w => ref_iwiden_arg a b k (by omega) w⟩
  · by_cases h1 : k < 0
    · exact ⟨_, _, _, fun w => iwiden_neg a b k (by omega) (by omega) (by omega) (by omega) w, fun w => ref_iwiden_neg a b k (by omega) (by omega) (by omega) (by omega) w⟩
    · by_cases h2 : a - k < -4611686018427387904 ∨ 4611686018427387904 < b + k
      · exact ⟨_, _, _, fun w => iwiden_bad a b k (by omega) (by omega) (by omega) (by omega) (by omega) (by omega) w, fun w => ref_iwiden_bad a b k (by omega) (by omega) (by omega) (by omega) (by omega) (by omega) w⟩
      · exact ⟨_, _, _, fun w => iwiden_ok a b k (by omega) (by omega) (by omega) (by omega) (by omega) (by omega) (by omega) w, fun w => ref_iwiden_ok a b k (by omega) (by omega) (by omega) (by omega) (by omega) (by omega) (by omega) w⟩
set_option maxHeartbeats 2000000 in
set_option maxRecDepth 100000 in
theorem law_sums (a b c d : Int) (a_0 : -9223372036854775808 ≤ a) (a_1 : a ≤ 9223372036854775807) (b_0 : -9223372036854775808 ≤ b) (b_1 : b ≤ 9223372036854775807) (c_0 : -9223372036854775808 ≤ c) (c_1 : c ≤ 9223372036854775807) (d_0 : -9223372036854775808 ≤ d) (d_1 : d ≤ 9223372036854775807) (w : World) : Calls Try.prog 4 #[.agg #[.int .i64 a, .int .i64 b], .agg #[.int .i64 c, .int .i64 d]] w fun e w' => e = .returned (.bool true) ∧ Kept w w' := by
  obtain ⟨l0, g0, e0, p0, r0⟩ := add_both a b c d
  have P0 := Lib.hid p0
  have R0 := Lib.hid r0
  clear p0 r0
  obtain ⟨l1, g1, e1, p1, r1⟩ := sub_both a b c d
  have P1 := Lib.hid p1
  have R1 := Lib.hid r1
  clear p1 r1
  obtain ⟨l2, g2, e2, p2, r2⟩ := neg_both a b
  have P2 := Lib.hid p2
  have R2 := Lib.hid r2
  clear p2 r2
  obtain ⟨l3, g3, e3, p3, r3⟩ := abs_both a b
  have P3 := Lib.hid p3
  have R3 := Lib.hid r3
  clear p3 r3
  go_enter Try.func4, Try.ntmps4
  go_wp2_with fail
  with_reducible refine (awake_w _).mono ?_
  rintro e w1 ⟨rfl, hk1⟩
  refine kuz (b := w.heap.size) hk1 (by first | (simp; done) | (simp; omega) | omega) ?_
  intro ha hb hz1_0 hn1_0 hm1_0
  have hf1_0_0 : w1.cell? ⟨w.heap.size, 0, none⟩ = some (.int .i64 a) := (ha _).trans (by first | with_reducible assumption | (simp (maxDischargeDepth := 7) [go_sem]; done) | (simp (maxDischargeDepth := 7) [go_sem, *]; done))
  have hf1_0_1 : w1.cell? ⟨w.heap.size, 1, none⟩ = some (.int .i64 b) := (ha _).trans (by first | with_reducible assumption | (simp (maxDischargeDepth := 7) [go_sem]; done) | (simp (maxDischargeDepth := 7) [go_sem, *]; done))
  try have hg1_0 : ∀ o, w1.frozen? ⟨w.heap.size, o, none⟩ = false := by intro o; rw [hb]; first | (simp (maxDischargeDepth := 7) [go_sem]; done) | (simp (maxDischargeDepth := 7) [go_sem, *]; done)
  clear ha hb
  refine kuz (b := w.heap.size + 1) hk1 (by first | (simp; done) | (simp; omega) | omega) ?_
  intro ha hb hz1_1 hn1_1 hm1_1
  have hf1_1_0 : w1.cell? ⟨w.heap.size + 1, 0, none⟩ = some (.int .i64 c) := (ha _).trans (by first | with_reducible assumption | (simp (maxDischargeDepth := 7) [go_sem]; done) | (simp (maxDischargeDepth := 7) [go_sem, *]; done))
  have hf1_1_1 : w1.cell? ⟨w.heap.size + 1, 1, none⟩ = some (.int .i64 d) := (ha _).trans (by first | with_reducible assumption | (simp (maxDischargeDepth := 7) [go_sem]; done) | (simp (maxDischargeDepth := 7) [go_sem, *]; done))
  try have hg1_1 : ∀ o, w1.frozen? ⟨w.heap.size + 1, o, none⟩ = false := by intro o; rw [hb]; first | (simp (maxDischargeDepth := 7) [go_sem]; done) | (simp (maxDischargeDepth := 7) [go_sem, *]; done)
  clear ha hb
  go_wp2_with fail
  with_reducible refine (P0.out _).mono ?_
  rintro e w2 ⟨rfl, hk2⟩
  refine kuz (b := w.heap.size) hk2 (by first | (simp; done) | (simp; omega) | omega) ?_
  intro ha hb hz2_0 hn2_0 hm2_0
  have hf2_0_0 : w2.cell? ⟨w.heap.size, 0, none⟩ = some (.int .i64 a) := (ha _).trans (by first | with_reducible assumption | (simp (maxDischargeDepth := 7) [go_sem]; done) | (simp (maxDischargeDepth := 7) [go_sem, *]; done))
  have hf2_0_1 : w2.cell? ⟨w.heap.size, 1, none⟩ = some (.int .i64 b) := (ha _).trans (by first | with_reducible assumption | (simp (maxDischargeDepth := 7) [go_sem]; done) | (simp (maxDischargeDepth := 7) [go_sem, *]; done))
  try have hg2_0 : ∀ o, w2.frozen? ⟨w.heap.size, o, none⟩ = false := by intro o; rw [hb]; first | (simp (maxDischargeDepth := 7) [go_sem]; done) | (simp (maxDischargeDepth := 7) [go_sem, *]; done)
  clear ha hb
  refine kuz (b := w.heap.size + 1) hk2 (by first | (simp; done) | (simp; omega) | omega) ?_
  intro ha hb hz2_1 hn2_1 hm2_1
  have hf2_1_0 : w2.cell? ⟨w.heap.size + 1, 0, none⟩ = some (.int .i64 c) := (ha _).trans (by first | with_reducible assumption | (simp (maxDischargeDepth := 7) [go_sem]; done) | (simp (maxDischargeDepth := 7) [go_sem, *]; done))
  have hf2_1_1 : w2.cell? ⟨w.heap.size + 1, 1, none⟩ = some (.int .i64 d) := (ha _).trans (by first | with_reducible assumption | (simp (maxDischargeDepth := 7) [go_sem]; done) | (simp (maxDischargeDepth := 7) [go_sem, *]; done))
  try have hg2_1 : ∀ o, w2.frozen? ⟨w.heap.size + 1, o, none⟩ = false := by intro o; rw [hb]; first | (simp (maxDischargeDepth := 7) [go_sem]; done) | (simp (maxDischargeDepth := 7) [go_sem, *]; done)
  clear ha hb
  try clear hf1_0_0
  try clear hf1_0_1
  try clear hf1_1_0
  try clear hf1_1_1
  try clear hg1_0
  try clear hg1_1
  try clear hz1_1
  go_wp2_with fail
  with_reducible refine (R0.out _).mono ?_
  rintro e w3 ⟨rfl, hk3⟩
  refine kuz (b := w.heap.size) hk3 (by first | (simp; done) | (simp; omega) | omega) ?_
  intro ha hb hz3_0 hn3_0 hm3_0
  have hf3_0_0 : w3.cell? ⟨w.heap.size, 0, none⟩ = some (.int .i64 a) := (ha _).trans (by first | with_reducible assumption | (simp (maxDischargeDepth := 7) [go_sem]; done) | (simp (maxDischargeDepth := 7) [go_sem, *]; done))
  have hf3_0_1 : w3.cell? ⟨w.heap.size, 1, none⟩ = some (.int .i64 b) := (ha _).trans (by first | with_reducible assumption | (simp (maxDischargeDepth := 7) [go_sem]; done) | (simp (maxDischargeDepth := 7) [go_sem, *]; done))
  try have hg3_0 : ∀ o, w3.frozen? ⟨w.heap.size, o, none⟩ = false := by intro o; rw [hb]; first | (simp (maxDischargeDepth := 7) [go_sem]; done) | (simp (maxDischargeDepth := 7) [go_sem, *]; done)
  clear ha hb
  refine kuz (b := w.heap.size + 1) hk3 (by first | (simp; done) | (simp; omega) | omega) ?_
  intro ha hb hz3_1 hn3_1 hm3_1
  have hf3_1_0 : w3.cell? ⟨w.heap.size + 1, 0, none⟩ = some (.int .i64 c) := (ha _).trans (by first | with_reducible assumption | (simp (maxDischargeDepth := 7) [go_sem]; done) | (simp (maxDischargeDepth := 7) [go_sem, *]; done))
  have hf3_1_1 : w3.cell? ⟨w.heap.size + 1, 1, none⟩ = some (.int .i64 d) := (ha _).trans (by first | with_reducible assumption | (simp (maxDischargeDepth := 7) [go_sem]; done) | (simp (maxDischargeDepth := 7) [go_sem, *]; done))
  try have hg3_1 : ∀ o, w3.frozen? ⟨w.heap.size + 1, o, none⟩ = false := by intro o; rw [hb]; first | (simp (maxDischargeDepth := 7) [go_sem]; done) | (simp (maxDischargeDepth := 7) [go_sem, *]; done)
  clear ha hb
  refine kuz (b := w2.heap.size) hk3 (by first | (simp; done) | (simp; omega) | omega) ?_
  intro ha hb hz3_2 hn3_2 hm3_2
  have hf3_2_0 : w3.cell? ⟨w2.heap.size, 0, none⟩ = some (.int .i64 l0) := (ha _).trans (by first | with_reducible assumption | (simp (maxDischargeDepth := 7) [go_sem]; done) | (simp (maxDischargeDepth := 7) [go_sem, *]; done))
  have hf3_2_1 : w3.cell? ⟨w2.heap.size, 1, none⟩ = some (.int .i64 g0) := (ha _).trans (by first | with_reducible assumption | (simp (maxDischargeDepth := 7) [go_sem]; done) | (simp (maxDischargeDepth := 7) [go_sem, *]; done))
  try have hg3_2 : ∀ o, w3.frozen? ⟨w2.heap.size, o, none⟩ = false := by intro o; rw [hb]; first | (simp (maxDischargeDepth := 7) [go_sem]; done) | (simp (maxDischargeDepth := 7) [go_sem, *]; done)
  clear ha hb
  try clear hf2_0_0
  try clear hf2_0_1
  try clear hf2_1_0
  try clear hf2_1_1
  try clear hg2_0
  try clear hg2_1
  try clear hz2_1
  go_wp2_with fail
  with_reducible refine (same_w l0 g0 e0 _).mono ?_
  rintro e w4 ⟨rfl, hk4⟩
  refine kuz (b := w.heap.size) hk4 (by first | (simp; done) | (simp; omega) | omega) ?_
  intro ha hb hz4_0 hn4_0 hm4_0
  have hf4_0_0 : w4.cell? ⟨w.heap.size, 0, none⟩ = some (.int .i64 a) := (ha _).trans (by first | with_reducible assumption | (simp (maxDischargeDepth := 7) [go_sem]; done) | (simp (maxDischargeDepth := 7) [go_sem, *]; done))
  have hf4_0_1 : w4.cell? ⟨w.heap.size, 1, none⟩ = some (.int .i64 b) := (ha _).trans (by first | with_reducible assumption | (simp (maxDischargeDepth := 7) [go_sem]; done) | (simp (maxDischargeDepth := 7) [go_sem, *]; done))
  try have hg4_0 : ∀ o, w4.frozen? ⟨w.heap.size, o, none⟩ = false := by intro o; rw [hb]; first | (simp (maxDischargeDepth := 7) [go_sem]; done) | (simp (maxDischargeDepth := 7) [go_sem, *]; done)
  clear ha hb
  refine kuz (b := w.heap.size + 1) hk4 (by first | (simp; done) | (simp; omega) | omega) ?_
  intro ha hb hz4_1 hn4_1 hm4_1
  have hf4_1_0 : w4.cell? ⟨w.heap.size + 1, 0, none⟩ = some (.int .i64 c) := (ha _).trans (by first | with_reducible assumption | (simp (maxDischargeDepth := 7) [go_sem]; done) | (simp (maxDischargeDepth := 7) [go_sem, *]; done))
  have hf4_1_1 : w4.cell? ⟨w.heap.size + 1, 1, none⟩ = some (.int .i64 d) := (ha _).trans (by first | with_reducible assumption | (simp (maxDischargeDepth := 7) [go_sem]; done) | (simp (maxDischargeDepth := 7) [go_sem, *]; done))
  try have hg4_1 : ∀ o, w4.frozen? ⟨w.heap.size + 1, o, none⟩ = false := by intro o; rw [hb]; first | (simp (maxDischargeDepth := 7) [go_sem]; done) | (simp (maxDischargeDepth := 7) [go_sem, *]; done)
  clear ha hb
  refine kuz (b := w2.heap.size) hk4 (by first | (simp; done) | (simp; omega) | omega) ?_
  intro ha hb hz4_2 hn4_2 hm4_2
  have hf4_2_0 : w4.cell? ⟨w2.heap.size, 0, none⟩ = some (.int .i64 l0) := (ha _).trans (by first | with_reducible assumption | (simp (maxDischargeDepth := 7) [go_sem]; done) | (simp (maxDischargeDepth := 7) [go_sem, *]; done))
  have hf4_2_1 : w4.cell? ⟨w2.heap.size, 1, none⟩ = some (.int .i64 g0) := (ha _).trans (by first | with_reducible assumption | (simp (maxDischargeDepth := 7) [go_sem]; done) | (simp (maxDischargeDepth := 7) [go_sem, *]; done))
  try have hg4_2 : ∀ o, w4.frozen? ⟨w2.heap.size, o, none⟩ = false := by intro o; rw [hb]; first | (simp (maxDischargeDepth := 7) [go_sem]; done) | (simp (maxDischargeDepth := 7) [go_sem, *]; done)
  clear ha hb
  refine kuz (b := w3.heap.size) hk4 (by first | (simp; done) | (simp; omega) | omega) ?_
  intro ha hb hz4_3 hn4_3 hm4_3
  have hf4_3_0 : w4.cell? ⟨w3.heap.size, 0, none⟩ = some (.int .i64 l0) := (ha _).trans (by first | with_reducible assumption | (simp (maxDischargeDepth := 7) [go_sem]; done) | (simp (maxDischargeDepth := 7) [go_sem, *]; done))
  have hf4_3_1 : w4.cell? ⟨w3.heap.size, 1, none⟩ = some (.int .i64 g0) := (ha _).trans (by first | with_reducible assumption | (simp (maxDischargeDepth := 7) [go_sem]; done) | (simp (maxDischargeDepth := 7) [go_sem, *]; done))
  try have hg4_3 : ∀ o, w4.frozen? ⟨w3.heap.size, o, none⟩ = false := by intro o; rw [hb]; first | (simp (maxDischargeDepth := 7) [go_sem]; done) | (simp (maxDischargeDepth := 7) [go_sem, *]; done)
  clear ha hb
  try clear hf3_0_0
  try clear hf3_0_1
  try clear hf3_1_0
  try clear hf3_1_1
  try clear hf3_2_0
  try clear hf3_2_1
  try clear hg3_0
  try clear hg3_1
  try clear hg3_2
  try clear hz3_1
  try clear hz3_2
  have HO0_0 : Hid (OwnB w4 (w.heap.size) [.int .i64 a, .int .i64 b]) := Lib.hid ⟨hz4_0, hg4_0, hf4_0_0, hf4_0_1, trivial⟩
  have HO0_1 : Hid (OwnB w4 (w.heap.size + 1) [.int .i64 c, .int .i64 d]) := Lib.hid ⟨hz4_1, hg4_1, hf4_1_0, hf4_1_1, trivial⟩
  have HO0_2 : Hid (OwnB w4 (w2.heap.size) [.int .i64 l0, .int .i64 g0]) := Lib.hid ⟨hz4_2, hg4_2, hf4_2_0, hf4_2_1, trivial⟩
  have HO0_3 : Hid (OwnB w4 (w3.heap.size) [.int .i64 l0, .int .i64 g0]) := Lib.hid ⟨hz4_3, hg4_3, hf4_3_0, hf4_3_1, trivial⟩
  have HK0 : Hid (Kept w w4) := Lib.hid (by repeat (first | with_reducible exact Kept.refl _ | with_reducible assumption | with_reducible refine Kept.setCell ?_ (by first | (simp; done) | (simp; omega) | omega) _ | with_reducible refine Kept.alloc ?_ _ | with_reducible refine Kept.drewN ?_ _ | with_reducible refine Kept.drew ?_ | with_reducible refine Kept.trans ?_ (by with_reducible assumption) | with_reducible refine Kept.dr ?_ (by with_reducible assumption)))
  have nw0 : w.heap.size ≤ w.heap.size := by first | omega | (have := HK0.out.size; omega)
  have nb0_1 : ¬ w.heap.size = w.heap.size + 1 := by omega
  have nc0_1 : ¬ w.heap.size + 1 = w.heap.size := by omega
  have nw1 : w.heap.size ≤ w.heap.size + 1 := by first | omega | (have := HK0.out.size; omega)
  have nb0_2 : ¬ w.heap.size = w2.heap.size := by omega
  have nc0_2 : ¬ w2.heap.size = w.heap.size := by omega
  have nb1_2 : ¬ w.heap.size + 1 = w2.heap.size := by omega
  have nc1_2 : ¬ w2.heap.size = w.heap.size + 1 := by omega
  have nw2 : w.heap.size ≤ w2.heap.size := by first | omega | (have := HK0.out.size; omega)
  have nb0_3 : ¬ w.heap.size = w3.heap.size := by omega
  have nc0_3 : ¬ w3.heap.size = w.heap.size := by omega
  have nb1_3 : ¬ w.heap.size + 1 = w3.heap.size := by omega
  have nc1_3 : ¬ w3.heap.size = w.heap.size + 1 := by omega
  have nb2_3 : ¬ w2.heap.size = w3.heap.size := by omega
  have nc2_3 : ¬ w3.heap.size = w2.heap.size := by omega
  have nw3 : w.heap.size ≤ w3.heap.size := by first | omega | (have := HK0.out.size; omega)
  try clear hk1
  try clear hz1_0
  try clear hn1_0
  try clear hm1_0
  try clear hg1_0
  try clear hf1_0_0
  try clear hf1_0_1
  try clear hf1_0_2
  try clear hf1_0_3
  try clear hf1_0_4
  try clear hf1_0_5
  try clear hf1_0_6
  try clear hf1_0_7
  try clear hf1_0_8
  try clear hf1_0_9
  try clear hf1_0_10
  try clear hf1_0_11
  try clear hz1_1
  try clear hn1_1
  try clear hm1_1
  try clear hg1_1
  try clear hf1_1_0
  try clear hf1_1_1
  try clear hf1_1_2
  try clear hf1_1_3
  try clear hf1_1_4
  try clear hf1_1_5
  try clear hf1_1_6
  try clear hf1_1_7
  try clear hf1_1_8
  try clear hf1_1_9
  try clear hf1_1_10
  try clear hf1_1_11
  try clear hz1_2
  try clear hn1_2
  try clear hm1_2
  try clear hg1_2
  try clear hf1_2_0
  try clear hf1_2_1
  try clear hf1_2_2
  try clear hf1_2_3
  try clear hf1_2_4
  try clear hf1_2_5
  try clear hf1_2_6
  try clear hf1_2_7
  try clear hf1_2_8
  try clear hf1_2_9
  try clear hf1_2_10
  try clear hf1_2_11
  try clear hz1_3
  try clear hn1_3
  try clear hm1_3
  try clear hg1_3
  try clear hf1_3_0
  try clear hf1_3_1
  try clear hf1_3_2
  try clear hf1_3_3
  try clear hf1_3_4
  try clear hf1_3_5
  try clear hf1_3_6
  try clear hf1_3_7
  try clear hf1_3_8
  try clear hf1_3_9
  try clear hf1_3_10
  try clear hf1_3_11
  try clear hk2
  try clear hz2_0
  try clear hn2_0
  try clear hm2_0
  try clear hg2_0
  try clear hf2_0_0
  try clear hf2_0_1
  try clear hf2_0_2
  try clear hf2_0_3
  try clear hf2_0_4
  try clear hf2_0_5
  try clear hf2_0_6
  try clear hf2_0_7
  try clear hf2_0_8
  try clear hf2_0_9
  try clear hf2_0_10
  try clear hf2_0_11
  try clear hz2_1
  try clear hn2_1
  try clear hm2_1
  try clear hg2_1
  try clear hf2_1_0
  try clear hf2_1_1
  try clear hf2_1_2
  try clear hf2_1_3
  try clear hf2_1_4
  try clear hf2_1_5
  try clear hf2_1_6
  try clear hf2_1_7
  try clear hf2_1_8
  try clear hf2_1_9
  try clear hf2_1_10
  try clear hf2_1_11
  try clear hz2_2
  try clear hn2_2
  try clear hm2_2
  try clear hg2_2
  try clear hf2_2_0
  try clear hf2_2_1
  try clear hf2_2_2
  try clear hf2_2_3
  try clear hf2_2_4
  try clear hf2_2_5
  try clear hf2_2_6
  try clear hf2_2_7
  try clear hf2_2_8
  try clear hf2_2_9
  try clear hf2_2_10
  try clear hf2_2_11
  try clear hz2_3
  try clear hn2_3
  try clear hm2_3
  try clear hg2_3
  try clear hf2_3_0
  try clear hf2_3_1
  try clear hf2_3_2
  try clear hf2_3_3
  try clear hf2_3_4
  try clear hf2_3_5
  try clear hf2_3_6
  try clear hf2_3_7
  try clear hf2_3_8
  try clear hf2_3_9
  try clear hf2_3_10
  try clear hf2_3_11
  try clear hk3
  try clear hz3_0
  try clear hn3_0
  try clear hm3_0
  try clear hg3_0
  try clear hf3_0_0
  try clear hf3_0_1
  try clear hf3_0_2
  try clear hf3_0_3
  try clear hf3_0_4
  try clear hf3_0_5
  try clear hf3_0_6
  try clear hf3_0_7
  try clear hf3_0_8
  try clear hf3_0_9
  try clear hf3_0_10
  try clear hf3_0_11
  try clear hz3_1
  try clear hn3_1
  try clear hm3_1
  try clear hg3_1
  try clear hf3_1_0
  try clear hf3_1_1
  try clear hf3_1_2
  try clear hf3_1_3
  try clear hf3_1_4
  try clear hf3_1_5
  try clear hf3_1_6
  try clear hf3_1_7
  try clear hf3_1_8
  try clear hf3_1_9
  try clear hf3_1_10
  try clear hf3_1_11
  try clear hz3_2
  try clear hn3_2
  try clear hm3_2
  try clear hg3_2
  try clear hf3_2_0
  try clear hf3_2_1
  try clear hf3_2_2
  try clear hf3_2_3
  try clear hf3_2_4
  try clear hf3_2_5
  try clear hf3_2_6
  try clear hf3_2_7
  try clear hf3_2_8
  try clear hf3_2_9
  try clear hf3_2_10
  try clear hf3_2_11
  try clear hz3_3
  try clear hn3_3
  try clear hm3_3
  try clear hg3_3
  try clear hf3_3_0
  try clear hf3_3_1
  try clear hf3_3_2
  try clear hf3_3_3
  try clear hf3_3_4
  try clear hf3_3_5
  try clear hf3_3_6
  try clear hf3_3_7
  try clear hf3_3_8
  try clear hf3_3_9
  try clear hf3_3_10
  try clear hf3_3_11
  try clear hk4
  try clear hz4_0
  try clear hn4_0
  try clear hm4_0
  try clear hg4_0
  try clear hf4_0_0
  try clear hf4_0_1
  try clear hf4_0_2
  try clear hf4_0_3
  try clear hf4_0_4
  try clear hf4_0_5
  try clear hf4_0_6
  try clear hf4_0_7
  try clear hf4_0_8
  try clear hf4_0_9
  try clear hf4_0_10
  try clear hf4_0_11
  try clear hz4_1
  try clear hn4_1
  try clear hm4_1
  try clear hg4_1
  try clear hf4_1_0
  try clear hf4_1_1
  try clear hf4_1_2
  try clear hf4_1_3
  try clear hf4_1_4
  try clear hf4_1_5
  try clear hf4_1_6
  try clear hf4_1_7
  try clear hf4_1_8
  try clear hf4_1_9
  try clear hf4_1_10
  try clear hf4_1_11
  try clear hz4_2
  try clear hn4_2
  try clear hm4_2
  try clear hg4_2
  try clear hf4_2_0
  try clear hf4_2_1
  try clear hf4_2_2
  try clear hf4_2_3
  try clear hf4_2_4
  try clear hf4_2_5
  try clear hf4_2_6
  try clear hf4_2_7
  try clear hf4_2_8
  try clear hf4_2_9
  try clear hf4_2_10
  try clear hf4_2_11
  try clear hz4_3
  try clear hn4_3
  try clear hm4_3
  try clear hg4_3
  try clear hf4_3_0
  try clear hf4_3_1
  try clear hf4_3_2
  try clear hf4_3_3
  try clear hf4_3_4
  try clear hf4_3_5
  try clear hf4_3_6
  try clear hf4_3_7
  try clear hf4_3_8
  try clear hf4_3_9
  try clear hf4_3_10
  try clear hf4_3_11
  obtain ⟨oz0, og0, of0_0, of0_1, _⟩ := HO0_0.out
  obtain ⟨oz1, og1, of1_0, of1_1, _⟩ := HO0_1.out
  obtain ⟨oz2, og2, of2_0, of2_1, _⟩ := HO0_2.out
  obtain ⟨oz3, og3, of3_0, of3_1, _⟩ := HO0_3.out
  go_wp2_with fail
  try clear oz0 og0 of0_0 of0_1 oz1 og1 of1_0 of1_1 oz2 og2 of2_0 of2_1 oz3 og3 of3_0 of3_1
  with_reducible refine (P1.out _).mono ?_
  rintro e w5 ⟨rfl, hk⟩
  have HO1_0 : Hid (OwnB w5 (w.heap.size) [.int .i64 a, .int .i64 b]) := Lib.hid (OwnB.kept hk (by repeat (first | with_reducible exact HO0_0.out | with_reducible refine OwnB.setOther ?_ (by first | with_reducible assumption | omega) | with_reducible refine OwnB.drew ?_ | with_reducible refine OwnB.drewN ?_ _ | with_reducible refine OwnB.alloc ?_ _)))
  have HO1_1 : Hid (OwnB w5 (w.heap.size + 1) [.int .i64 c, .int .i64 d]) := Lib.hid (OwnB.kept hk (by repeat (first | with_reducible exact HO0_1.out | with_reducible refine OwnB.setOther ?_ (by first | with_reducible assumption | omega) | with_reducible refine OwnB.drew ?_ | with_reducible refine OwnB.drewN ?_ _ | with_reducible refine OwnB.alloc ?_ _)))
  have HO1_2 : Hid (OwnB w5 (w2.heap.size) [.int .i64 l0, .int .i64 g0]) := Lib.hid (OwnB.kept hk (by repeat (first | with_reducible exact HO0_2.out | with_reducible refine OwnB.setOther ?_ (by first | with_reducible assumption | omega) | with_reducible refine OwnB.drew ?_ | with_reducible refine OwnB.drewN ?_ _ | with_reducible refine OwnB.alloc ?_ _)))
  have HO1_3 : Hid (OwnB w5 (w3.heap.size) [.int .i64 l0, .int .i64 g0]) := Lib.hid (OwnB.kept hk (by repeat (first | with_reducible exact HO0_3.out | with_reducible refine OwnB.setOther ?_ (by first | with_reducible assumption | omega) | with_reducible refine OwnB.drew ?_ | with_reducible refine OwnB.drewN ?_ _ | with_reducible refine OwnB.alloc ?_ _)))
  have HK1 : Hid (Kept w w5) := Lib.hid (Kept.trans (by repeat (first | with_reducible exact HK0.out | with_reducible refine Kept.setCell ?_ (by first | with_reducible assumption | omega) _ | with_reducible refine Kept.drew ?_ | with_reducible refine Kept.drewN ?_ _ | with_reducible refine Kept.alloc ?_ _)) hk)
  clear hk HO0_0 HO0_1 HO0_2 HO0_3 HK0
  obtain ⟨oz0, og0, of0_0, of0_1, _⟩ := HO1_0.out
  obtain ⟨oz1, og1, of1_0, of1_1, _⟩ := HO1_1.out
  obtain ⟨oz2, og2, of2_0, of2_1, _⟩ := HO1_2.out
  obtain ⟨oz3, og3, of3_0, of3_1, _⟩ := HO1_3.out
  go_wp2_with fail
  try clear oz0 og0 of0_0 of0_1 oz1 og1 of1_0 of1_1 oz2 og2 of2_0 of2_1 oz3 og3 of3_0 of3_1
  with_reducible refine (R1.out _).mono ?_
  rintro e w6 ⟨rfl, hk⟩
  have HO2_0 : Hid (OwnB w6 (w.heap.size) [.int .i64 a, .int .i64 b]) := Lib.hid (OwnB.kept hk (by repeat (first | with_reducible exact HO1_0.out | with_reducible refine OwnB.setOther ?_ (by first | with_reducible assumption | omega) | with_reducible refine OwnB.drew ?_ | with_reducible refine OwnB.drewN ?_ _ | with_reducible refine OwnB.alloc ?_ _)))
  have HO2_1 : Hid (OwnB w6 (w.heap.size + 1) [.int .i64 c, .int .i64 d]) := Lib.hid (OwnB.kept hk (by repeat (first | with_reducible exact HO1_1.out | with_reducible refine OwnB.setOther ?_ (by first | with_reducible assumption | omega) | with_reducible refine OwnB.drew ?_ | with_reducible refine OwnB.drewN ?_ _ | with_reducible refine OwnB.alloc ?_ _)))
  have HO2_2 : Hid (OwnB w6 (w2.heap.size) [.int .i64 l1, .int .i64 g1]) := Lib.hid (OwnB.kept hk (by repeat (first | with_reducible exact HO1_2.out | with_reducible refine own_set2 (us := [.int .i64 l0, .int .i64 g0]) ?_ rfl | with_reducible refine OwnB.setOther ?_ (by first | with_reducible assumption | omega) | with_reducible refine OwnB.drew ?_ | with_reducible refine OwnB.drewN ?_ _ | with_reducible refine OwnB.alloc ?_ _)))
  have HO2_3 : Hid (OwnB w6 (w3.heap.size) [.int .i64 l0, .int .i64 g0]) := Lib.hid (OwnB.kept hk (by repeat (first | with_reducible exact HO1_3.out | with_reducible refine OwnB.setOther ?_ (by first | with_reducible assumption | omega) | with_reducible refine OwnB.drew ?_ | with_reducible refine OwnB.drewN ?_ _ | with_reducible refine OwnB.alloc ?_ _)))
  have HK2 : Hid (Kept w w6) := Lib.hid (Kept.trans (by repeat (first | with_reducible exact HK1.out | with_reducible refine Kept.setCell ?_ (by first | with_reducible assumption | omega) _ | with_reducible refine Kept.drew ?_ | with_reducible refine Kept.drewN ?_ _ | with_reducible refine Kept.alloc ?_ _)) hk)
  clear hk HO1_0 HO1_1 HO1_2 HO1_3 HK1
  obtain ⟨oz0, og0, of0_0, of0_1, _⟩ := HO2_0.out
  obtain ⟨oz1, og1, of1_0, of1_1, _⟩ := HO2_1.out
  obtain ⟨oz2, og2, of2_0, of2_1, _⟩ := HO2_2.out
  obtain ⟨oz3, og3, of3_0, of3_1, _⟩ := HO2_3.out
  go_wp2_with fail
  try clear oz0 og0 of0_0 of0_1 oz1 og1 of1_0 of1_1 oz2 og2 of2_0 of2_1 oz3 og3 of3_0 of3_1
  with_reducible refine (same_w l1 g1 e1 _).mono ?_
  rintro e w7 ⟨rfl, hk⟩
  have HO3_0 : Hid (OwnB w7 (w.heap.size) [.int .i64 a, .int .i64 b]) := Lib.hid (OwnB.kept hk (by repeat (first | with_reducible exact HO2_0.out | with_reducible refine OwnB.setOther ?_ (by first | with_reducible assumption | omega) | with_reducible refine OwnB.drew ?_ | with_reducible refine OwnB.drewN ?_ _ | with_reducible refine OwnB.alloc ?_ _)))
  have HO3_1 : Hid (OwnB w7 (w.heap.size + 1) [.int .i64 c, .int .i64 d]) := Lib.hid (OwnB.kept hk (by repeat (first | with_reducible exact HO2_1.out | with_reducible refine OwnB.setOther ?_ (by first | with_reducible assumption | omega) | with_reducible refine OwnB.drew ?_ | with_reducible refine OwnB.drewN ?_ _ | with_reducible refine OwnB.alloc ?_ _)))
  have HO3_2 : Hid (OwnB w7 (w2.heap.size) [.int .i64 l1, .int .i64 g1]) := Lib.hid (OwnB.kept hk (by repeat (first | with_reducible exact HO2_2.out | with_reducible refine OwnB.setOther ?_ (by first | with_reducible assumption | omega) | with_reducible refine OwnB.drew ?_ | with_reducible refine OwnB.drewN ?_ _ | with_reducible refine OwnB.alloc ?_ _)))
  have HO3_3 : Hid (OwnB w7 (w3.heap.size) [.int .i64 l1, .int .i64 g1]) := Lib.hid (OwnB.kept hk (by repeat (first | with_reducible exact HO2_3.out | with_reducible refine own_set2 (us := [.int .i64 l0, .int .i64 g0]) ?_ rfl | with_reducible refine OwnB.setOther ?_ (by first | with_reducible assumption | omega) | with_reducible refine OwnB.drew ?_ | with_reducible refine OwnB.drewN ?_ _ | with_reducible refine OwnB.alloc ?_ _)))
  have HK3 : Hid (Kept w w7) := Lib.hid (Kept.trans (by repeat (first | with_reducible exact HK2.out | with_reducible refine Kept.setCell ?_ (by first | with_reducible assumption | omega) _ | with_reducible refine Kept.drew ?_ | with_reducible refine Kept.drewN ?_ _ | with_reducible refine Kept.alloc ?_ _)) hk)
  clear hk HO2_0 HO2_1 HO2_2 HO2_3 HK2
  obtain ⟨oz0, og0, of0_0, of0_1, _⟩ := HO3_0.out
  obtain ⟨oz1, og1, of1_0, of1_1, _⟩ := HO3_1.out
  obtain ⟨oz2, og2, of2_0, of2_1, _⟩ := HO3_2.out
  obtain ⟨oz3, og3, of3_0, of3_1, _⟩ := HO3_3.out
  go_wp2_with fail
  try clear oz0 og0 of0_0 of0_1 oz1 og1 of1_0 of1_1 oz2 og2 of2_0 of2_1 oz3 og3 of3_0 of3_1
  with_reducible refine (P2.out _).mono ?_
  rintro e w8 ⟨rfl, hk⟩
  have HO4_0 : Hid (OwnB w8 (w.heap.size) [.int .i64 a, .int .i64 b]) := Lib.hid (OwnB.kept hk (by repeat (first | with_reducible exact HO3_0.out | with_reducible refine OwnB.setOther ?_ (by first | with_reducible assumption | omega) | with_reducible refine OwnB.drew ?_ | with_reducible refine OwnB.drewN ?_ _ | with_reducible refine OwnB.alloc ?_ _)))
  have HO4_1 : Hid (OwnB w8 (w.heap.size + 1) [.int .i64 c, .int .i64 d]) := Lib.hid (OwnB.kept hk (by repeat (first | with_reducible exact HO3_1.out | with_reducible refine OwnB.setOther ?_ (by first | with_reducible assumption | omega) | with_reducible refine OwnB.drew ?_ | with_reducible refine OwnB.drewN ?_ _ | with_reducible refine OwnB.alloc ?_ _)))
  have HO4_2 : Hid (OwnB w8 (w2.heap.size) [.int .i64 l1, .int .i64 g1]) := Lib.hid (OwnB.kept hk (by repeat (first | with_reducible exact HO3_2.out | with_reducible refine OwnB.setOther ?_ (by first | with_reducible assumption | omega) | with_reducible refine OwnB.drew ?_ | with_reducible refine OwnB.drewN ?_ _ | with_reducible refine OwnB.alloc ?_ _)))
  have HO4_3 : Hid (OwnB w8 (w3.heap.size) [.int .i64 l1, .int .i64 g1]) := Lib.hid (OwnB.kept hk (by repeat (first | with_reducible exact HO3_3.out | with_reducible refine OwnB.setOther ?_ (by first | with_reducible assumption | omega) | with_reducible refine OwnB.drew ?_ | with_reducible refine OwnB.drewN ?_ _ | with_reducible refine OwnB.alloc ?_ _)))
  have HK4 : Hid (Kept w w8) := Lib.hid (Kept.trans (by repeat (first | with_reducible exact HK3.out | with_reducible refine Kept.setCell ?_ (by first | with_reducible assumption | omega) _ | with_reducible refine Kept.drew ?_ | with_reducible refine Kept.drewN ?_ _ | with_reducible refine Kept.alloc ?_ _)) hk)
  clear hk HO3_0 HO3_1 HO3_2 HO3_3 HK3
  obtain ⟨oz0, og0, of0_0, of0_1, _⟩ := HO4_0.out
  obtain ⟨oz1, og1, of1_0, of1_1, _⟩ := HO4_1.out
  obtain ⟨oz2, og2, of2_0, of2_1, _⟩ := HO4_2.out
  obtain ⟨oz3, og3, of3_0, of3_1, _⟩ := HO4_3.out
  go_wp2_with fail
  try clear oz0 og0 of0_0 of0_1 oz1 og1 of1_0 of1_1 oz2 og2 of2_0 of2_1 oz3 og3 of3_0 of3_1
  with_reducible refine (R2.out _).mono ?_
  rintro e w9 ⟨rfl, hk⟩
  have HO5_0 : Hid (OwnB w9 (w.heap.size) [.int .i64 a, .int .i64 b]) := Lib.hid (OwnB.kept hk (by repeat (first | with_reducible exact HO4_0.out | with_reducible refine OwnB.setOther ?_ (by first | with_reducible assumption | omega) | with_reducible refine OwnB.drew ?_ | with_reducible refine OwnB.drewN ?_ _ | with_reducible refine OwnB.alloc ?_ _)))
  have HO5_1 : Hid (OwnB w9 (w.heap.size + 1) [.int .i64 c, .int .i64 d]) := Lib.hid (OwnB.kept hk (by repeat (first | with_reducible exact HO4_1.out | with_reducible refine OwnB.setOther ?_ (by first | with_reducible assumption | omega) | with_reducible refine OwnB.drew ?_ | with_reducible refine OwnB.drewN ?_ _ | with_reducible refine OwnB.alloc ?_ _)))
  have HO5_2 : Hid (OwnB w9 (w2.heap.size) [.int .i64 l2, .int .i64 g2]) := Lib.hid (OwnB.kept hk (by repeat (first | with_reducible exact HO4_2.out | with_reducible refine own_set2 (us := [.int .i64 l1, .int .i64 g1]) ?_ rfl | with_reducible refine OwnB.setOther ?_ (by first | with_reducible assumption | omega) | with_reducible refine OwnB.drew ?_ | with_reducible refine OwnB.drewN ?_ _ | with_reducible refine OwnB.alloc ?_ _)))
  have HO5_3 : Hid (OwnB w9 (w3.heap.size) [.int .i64 l1, .int .i64 g1]) := Lib.hid (OwnB.kept hk (by repeat (first | with_reducible exact HO4_3.out | with_reducible refine OwnB.setOther ?_ (by first | with_reducible assumption | omega) | with_reducible refine OwnB.drew ?_ | with_reducible refine OwnB.drewN ?_ _ | with_reducible refine OwnB.alloc ?_ _)))
  have HK5 : Hid (Kept w w9) := Lib.hid (Kept.trans (by repeat (first | with_reducible exact HK4.out | with_reducible refine Kept.setCell ?_ (by first | with_reducible assumption | omega) _ | with_reducible refine Kept.drew ?_ | with_reducible refine Kept.drewN ?_ _ | with_reducible refine Kept.alloc ?_ _)) hk)
  clear hk HO4_0 HO4_1 HO4_2 HO4_3 HK4
  obtain ⟨oz0, og0, of0_0, of0_1, _⟩ := HO5_0.out
  obtain ⟨oz1, og1, of1_0, of1_1, _⟩ := HO5_1.out
  obtain ⟨oz2, og2, of2_0, of2_1, _⟩ := HO5_2.out
  obtain ⟨oz3, og3, of3_0, of3_1, _⟩ := HO5_3.out
  go_wp2_with fail
  try clear oz0 og0 of0_0 of0_1 oz1 og1 of1_0 of1_1 oz2 og2 of2_0 of2_1 oz3 og3 of3_0 of3_1
  with_reducible refine (same_w l2 g2 e2 _).mono ?_
  rintro e w10 ⟨rfl, hk⟩
  have HO6_0 : Hid (OwnB w10 (w.heap.size) [.int .i64 a, .int .i64 b]) := Lib.hid (OwnB.kept hk (by repeat (first | with_reducible exact HO5_0.out | with_reducible refine OwnB.setOther ?_ (by first | with_reducible assumption | omega) | with_reducible refine OwnB.drew ?_ | with_reducible refine OwnB.drewN ?_ _ | with_reducible refine OwnB.alloc ?_ _)))
  have HO6_1 : Hid (OwnB w10 (w.heap.size + 1) [.int .i64 c, .int .i64 d]) := Lib.hid (OwnB.kept hk (by repeat (first | with_reducible exact HO5_1.out | with_reducible refine OwnB.setOther ?_ (by first | with_reducible assumption | omega) | with_reducible refine OwnB.drew ?_ | with_reducible refine OwnB.drewN ?_ _ | with_reducible refine OwnB.alloc ?_ _)))
  have HO6_2 : Hid (OwnB w10 (w2.heap.size) [.int .i64 l2, .int .i64 g2]) := Lib.hid (OwnB.kept hk (by repeat (first | with_reducible exact HO5_2.out | with_reducible refine OwnB.setOther ?_ (by first | with_reducible assumption | omega) | with_reducible refine OwnB.drew ?_ | with_reducible refine OwnB.drewN ?_ _ | with_reducible refine OwnB.alloc ?_ _)))
  have HO6_3 : Hid (OwnB w10 (w3.heap.size) [.int .i64 l2, .int .i64 g2]) := Lib.hid (OwnB.kept hk (by repeat (first | with_reducible exact HO5_3.out | with_reducible refine own_set2 (us := [.int .i64 l1, .int .i64 g1]) ?_ rfl | with_reducible refine OwnB.setOther ?_ (by first | with_reducible assumption | omega) | with_reducible refine OwnB.drew ?_ | with_reducible refine OwnB.drewN ?_ _ | with_reducible refine OwnB.alloc ?_ _)))
  have HK6 : Hid (Kept w w10) := Lib.hid (Kept.trans (by repeat (first | with_reducible exact HK5.out | with_reducible refine Kept.setCell ?_ (by first | with_reducible assumption | omega) _ | with_reducible refine Kept.drew ?_ | with_reducible refine Kept.drewN ?_ _ | with_reducible refine Kept.alloc ?_ _)) hk)
  clear hk HO5_0 HO5_1 HO5_2 HO5_3 HK5
  obtain ⟨oz0, og0, of0_0, of0_1, _⟩ := HO6_0.out
  obtain ⟨oz1, og1, of1_0, of1_1, _⟩ := HO6_1.out
  obtain ⟨oz2, og2, of2_0, of2_1, _⟩ := HO6_2.out
  obtain ⟨oz3, og3, of3_0, of3_1, _⟩ := HO6_3.out
  go_wp2_with fail
  try clear oz0 og0 of0_0 of0_1 oz1 og1 of1_0 of1_1 oz2 og2 of2_0 of2_1 oz3 og3 of3_0 of3_1
  with_reducible refine (P3.out _).mono ?_
  rintro e w11 ⟨rfl, hk⟩
  have HO7_0 : Hid (OwnB w11 (w.heap.size) [.int .i64 a, .int .i64 b]) := Lib.hid (OwnB.kept hk (by repeat (first | with_reducible exact HO6_0.out | with_reducible refine OwnB.setOther ?_ (by first | with_reducible assumption | omega) | with_reducible refine OwnB.drew ?_ | with_reducible refine OwnB.drewN ?_ _ | with_reducible refine OwnB.alloc ?_ _)))
  have HO7_1 : Hid (OwnB w11 (w.heap.size + 1) [.int .i64 c, .int .i64 d]) := Lib.hid (OwnB.kept hk (by repeat (first | with_reducible exact HO6_1.out | with_reducible refine OwnB.setOther ?_ (by first | with_reducible assumption | omega) | with_reducible refine OwnB.drew ?_ | with_reducible refine OwnB.drewN ?_ _ | with_reducible refine OwnB.alloc ?_ _)))
  have HO7_2 : Hid (OwnB w11 (w2.heap.size) [.int .i64 l2, .int .i64 g2]) := Lib.hid (OwnB.kept hk (by repeat (first | with_reducible exact HO6_2.out | with_reducible refine OwnB.setOther ?_ (by first | with_reducible assumption | omega) | with_reducible refine OwnB.drew ?_ | with_reducible refine OwnB.drewN ?_ _ | with_reducible refine OwnB.alloc ?_ _)))
  have HO7_3 : Hid (OwnB w11 (w3.heap.size) [.int .i64 l2, .int .i64 g2]) := Lib.hid (OwnB.kept hk (by repeat (first | with_reducible exact HO6_3.out | with_reducible refine OwnB.setOther ?_ (by first | with_reducible assumption | omega) | with_reducible refine OwnB.drew ?_ | with_reducible refine OwnB.drewN ?_ _ | with_reducible refine OwnB.alloc ?_ _)))
  have HK7 : Hid (Kept w w11) := Lib.hid (Kept.trans (by repeat (first | with_reducible exact HK6.out | with_reducible refine Kept.setCell ?_ (by first | with_reducible assumption | omega) _ | with_reducible refine Kept.drew ?_ | with_reducible refine Kept.drewN ?_ _ | with_reducible refine Kept.alloc ?_ _)) hk)
  clear hk HO6_0 HO6_1 HO6_2 HO6_3 HK6
  obtain ⟨oz0, og0, of0_0, of0_1, _⟩ := HO7_0.out
  obtain ⟨oz1, og1, of1_0, of1_1, _⟩ := HO7_1.out
  obtain ⟨oz2, og2, of2_0, of2_1, _⟩ := HO7_2.out
  obtain ⟨oz3, og3, of3_0, of3_1, _⟩ := HO7_3.out
  go_wp2_with fail
  try clear oz0 og0 of0_0 of0_1 oz1 og1 of1_0 of1_1 oz2 og2 of2_0 of2_1 oz3 og3 of3_0 of3_1
  with_reducible refine (R3.out _).mono ?_
  rintro e w12 ⟨rfl, hk⟩
  have HO8_0 : Hid (OwnB w12 (w.heap.size) [.int .i64 a, .int .i64 b]) := Lib.hid (OwnB.kept hk (by repeat (first | with_reducible exact HO7_0.out | with_reducible refine OwnB.setOther ?_ (by first | with_reducible assumption | omega) | with_reducible refine OwnB.drew ?_ | with_reducible refine OwnB.drewN ?_ _ | with_reducible refine OwnB.alloc ?_ _)))
  have HO8_1 : Hid (OwnB w12 (w.heap.size + 1) [.int .i64 c, .int .i64 d]) := Lib.hid (OwnB.kept hk (by repeat (first | with_reducible exact HO7_1.out | with_reducible refine OwnB.setOther ?_ (by first | with_reducible assumption | omega) | with_reducible refine OwnB.drew ?_ | with_reducible refine OwnB.drewN ?_ _ | with_reducible refine OwnB.alloc ?_ _)))
  have HO8_2 : Hid (OwnB w12 (w2.heap.size) [.int .i64 l3, .int .i64 g3]) := Lib.hid (OwnB.kept hk (by repeat (first | with_reducible exact HO7_2.out | with_reducible refine own_set2 (us := [.int .i64 l2, .int .i64 g2]) ?_ rfl | with_reducible refine OwnB.setOther ?_ (by first | with_reducible assumption | omega) | with_reducible refine OwnB.drew ?_ | with_reducible refine OwnB.drewN ?_ _ | with_reducible refine OwnB.alloc ?_ _)))
  have HO8_3 : Hid (OwnB w12 (w3.heap.size) [.int .i64 l2, .int .i64 g2]) := Lib.hid (OwnB.kept hk (by repeat (first | with_reducible exact HO7_3.out | with_reducible refine OwnB.setOther ?_ (by first | with_reducible assumption | omega) | with_reducible refine OwnB.drew ?_ | with_reducible refine OwnB.drewN ?_ _ | with_reducible refine OwnB.alloc ?_ _)))
  have HK8 : Hid (Kept w w12) := Lib.hid (Kept.trans (by repeat (first | with_reducible exact HK7.out | with_reducible refine Kept.setCell ?_ (by first | with_reducible assumption | omega) _ | with_reducible refine Kept.drew ?_ | with_reducible refine Kept.drewN ?_ _ | with_reducible refine Kept.alloc ?_ _)) hk)
  clear hk HO7_0 HO7_1 HO7_2 HO7_3 HK7
  obtain ⟨oz0, og0, of0_0, of0_1, _⟩ := HO8_0.out
  obtain ⟨oz1, og1, of1_0, of1_1, _⟩ := HO8_1.out
  obtain ⟨oz2, og2, of2_0, of2_1, _⟩ := HO8_2.out
  obtain ⟨oz3, og3, of3_0, of3_1, _⟩ := HO8_3.out
  go_wp2_with fail
  try clear oz0 og0 of0_0 of0_1 oz1 og1 of1_0 of1_1 oz2 og2 of2_0 of2_1 oz3 og3 of3_0 of3_1
  with_reducible refine (same_w l3 g3 e3 _).mono ?_
  rintro e w13 ⟨rfl, hk⟩
  have HO9_0 : Hid (OwnB w13 (w.heap.size) [.int .i64 a, .int .i64 b]) := Lib.hid (OwnB.kept hk (by repeat (first | with_reducible exact HO8_0.out | with_reducible refine OwnB.setOther ?_ (by first | with_reducible assumption | omega) | with_reducible refine OwnB.drew ?_ | with_reducible refine OwnB.drewN ?_ _ | with_reducible refine OwnB.alloc ?_ _)))
  have HO9_1 : Hid (OwnB w13 (w.heap.size + 1) [.int .i64 c, .int .i64 d]) := Lib.hid (OwnB.kept hk (by repeat (first | with_reducible exact HO8_1.out | with_reducible refine OwnB.setOther ?_ (by first | with_reducible assumption | omega) | with_reducible refine OwnB.drew ?_ | with_reducible refine OwnB.drewN ?_ _ | with_reducible refine OwnB.alloc ?_ _)))
  have HO9_2 : Hid (OwnB w13 (w2.heap.size) [.int .i64 l3, .int .i64 g3]) := Lib.hid (OwnB.kept hk (by repeat (first | with_reducible exact HO8_2.out | with_reducible refine OwnB.setOther ?_ (by first | with_reducible assumption | omega) | with_reducible refine OwnB.drew ?_ | with_reducible refine OwnB.drewN ?_ _ | with_reducible refine OwnB.alloc ?_ _)))
  have HO9_3 : Hid (OwnB w13 (w3.heap.size) [.int .i64 l3, .int .i64 g3]) := Lib.hid (OwnB.kept hk (by repeat (first | with_reducible exact HO8_3.out | with_reducible refine own_set2 (us := [.int .i64 l2, .int .i64 g2]) ?_ rfl | with_reducible refine OwnB.setOther ?_ (by first | with_reducible assumption | omega) | with_reducible refine OwnB.drew ?_ | with_reducible refine OwnB.drewN ?_ _ | with_reducible refine OwnB.alloc ?_ _)))
  have HK9 : Hid (Kept w w13) := Lib.hid (Kept.trans (by repeat (first | with_reducible exact HK8.out | with_reducible refine Kept.setCell ?_ (by first | with_reducible assumption | omega) _ | with_reducible refine Kept.drew ?_ | with_reducible refine Kept.drewN ?_ _ | with_reducible refine Kept.alloc ?_ _)) hk)
  clear hk HO8_0 HO8_1 HO8_2 HO8_3 HK8
  obtain ⟨oz0, og0, of0_0, of0_1, _⟩ := HO9_0.out
  obtain ⟨oz1, og1, of1_0, of1_1, _⟩ := HO9_1.out
  obtain ⟨oz2, og2, of2_0, of2_1, _⟩ := HO9_2.out
  obtain ⟨oz3, og3, of3_0, of3_1, _⟩ := HO9_3.out
  go_wp2_with fail
  try clear oz0 og0 of0_0 of0_1 oz1 og1 of1_0 of1_1 oz2 og2 of2_0 of2_1 oz3 og3 of3_0 of3_1
  all_goals go_ret
  all_goals exact ⟨rfl, (by repeat (first | with_reducible exact HK9.out | with_reducible refine Kept.setCell ?_ (by first | with_reducible assumption | omega) _ | with_reducible refine Kept.drew ?_ | with_reducible refine Kept.drewN ?_ _ | with_reducible refine Kept.alloc ?_ _))⟩
set_option maxHeartbeats 2000000 in
set_option maxRecDepth 100000 in
theorem law_hulls (a b c d k : Int) (a_0 : -9223372036854775808 ≤ a) (a_1 : a ≤ 9223372036854775807) (b_0 : -9223372036854775808 ≤ b) (b_1 : b ≤ 9223372036854775807) (c_0 : -9223372036854775808 ≤ c) (c_1 : c ≤ 9223372036854775807) (d_0 : -9223372036854775808 ≤ d) (d_1 : d ≤ 9223372036854775807) (k_0 : -9223372036854775808 ≤ k) (k_1 : k ≤ 9223372036854775807) (w : World) : Calls Try.prog 5 #[.agg #[.int .i64 a, .int .i64 b], .agg #[.int .i64 c, .int .i64 d], .int .i64 k] w fun e w' => e = .returned (.bool true) ∧ Kept w w' := by
  obtain ⟨l0, g0, e0, p0, r0⟩ := hull_both a b c d
  have P0 := Lib.hid p0
  have R0 := Lib.hid r0
  clear p0 r0
  obtain ⟨l1, g1, e1, p1, r1⟩ := meet_both a b c d
  have P1 := Lib.hid p1
  have R1 := Lib.hid r1
  clear p1 r1
  obtain ⟨l2, g2, e2, p2, r2⟩ := widen_both a b k k_1
  have P2 := Lib.hid p2
  have R2 := Lib.hid r2
  clear p2 r2
  go_enter Try.func5, Try.ntmps5
  go_wp2_with fail
  with_reducible refine (awake_w _).mono ?_
  rintro e w1 ⟨rfl, hk1⟩
  refine kuz (b := w.heap.size) hk1 (by first | (simp; done) | (simp; omega) | omega) ?_
  intro ha hb hz1_0 hn1_0 hm1_0
  have hf1_0_0 : w1.cell? ⟨w.heap.size, 0, none⟩ = some (.int .i64 a) := (ha _).trans (by first | with_reducible assumption | (simp (maxDischargeDepth := 7) [go_sem]; done) | (simp (maxDischargeDepth := 7) [go_sem, *]; done))
  have hf1_0_1 : w1.cell? ⟨w.heap.size, 1, none⟩ = some (.int .i64 b) := (ha _).trans (by first | with_reducible assumption | (simp (maxDischargeDepth := 7) [go_sem]; done) | (simp (maxDischargeDepth := 7) [go_sem, *]; done))
  try have hg1_0 : ∀ o, w1.frozen? ⟨w.heap.size, o, none⟩ = false := by intro o; rw [hb]; first | (simp (maxDischargeDepth := 7) [go_sem]; done) | (simp (maxDischargeDepth := 7) [go_sem, *]; done)
  clear ha hb
  refine kuz (b := w.heap.size + 1) hk1 (by first | (simp; done) | (simp; omega) | omega) ?_
  intro ha hb hz1_1 hn1_1 hm1_1
  have hf1_1_0 : w1.cell? ⟨w.heap.size + 1, 0, none⟩ = some (.int .i64 c) := (ha _).trans (by first | with_reducible assumption | (simp (maxDischargeDepth := 7) [go_sem]; done) | (simp (maxDischargeDepth := 7) [go_sem, *]; done))
  have hf1_1_1 : w1.cell? ⟨w.heap.size + 1, 1, none⟩ = some (.int .i64 d) := (ha _).trans (by first | with_reducible assumption | (simp (maxDischargeDepth := 7) [go_sem]; done) | (simp (maxDischargeDepth := 7) [go_sem, *]; done))
  try have hg1_1 : ∀ o, w1.frozen? ⟨w.heap.size + 1, o, none⟩ = false := by intro o; rw [hb]; first | (simp (maxDischargeDepth := 7) [go_sem]; done) | (simp (maxDischargeDepth := 7) [go_sem, *]; done)
  clear ha hb
  go_wp2_with fail
  with_reducible refine (P0.out _).mono ?_
  rintro e w2 ⟨rfl, hk2⟩
  refine kuz (b := w.heap.size) hk2 (by first | (simp; done) | (simp; omega) | omega) ?_
  intro ha hb hz2_0 hn2_0 hm2_0
  have hf2_0_0 : w2.cell? ⟨w.heap.size, 0, none⟩ = some (.int .i64 a) := (ha _).trans (by first | with_reducible assumption | (simp (maxDischargeDepth := 7) [go_sem]; done) | (simp (maxDischargeDepth := 7) [go_sem, *]; done))
  have hf2_0_1 : w2.cell? ⟨w.heap.size, 1, none⟩ = some (.int .i64 b) := (ha _).trans (by first | with_reducible assumption | (simp (maxDischargeDepth := 7) [go_sem]; done) | (simp (maxDischargeDepth := 7) [go_sem, *]; done))
  try have hg2_0 : ∀ o, w2.frozen? ⟨w.heap.size, o, none⟩ = false := by intro o; rw [hb]; first | (simp (maxDischargeDepth := 7) [go_sem]; done) | (simp (maxDischargeDepth := 7) [go_sem, *]; done)
  clear ha hb
  refine kuz (b := w.heap.size + 1) hk2 (by first | (simp; done) | (simp; omega) | omega) ?_
  intro ha hb hz2_1 hn2_1 hm2_1
  have hf2_1_0 : w2.cell? ⟨w.heap.size + 1, 0, none⟩ = some (.int .i64 c) := (ha _).trans (by first | with_reducible assumption | (simp (maxDischargeDepth := 7) [go_sem]; done) | (simp (maxDischargeDepth := 7) [go_sem, *]; done))
  have hf2_1_1 : w2.cell? ⟨w.heap.size + 1, 1, none⟩ = some (.int .i64 d) := (ha _).trans (by first | with_reducible assumption | (simp (maxDischargeDepth := 7) [go_sem]; done) | (simp (maxDischargeDepth := 7) [go_sem, *]; done))
  try have hg2_1 : ∀ o, w2.frozen? ⟨w.heap.size + 1, o, none⟩ = false := by intro o; rw [hb]; first | (simp (maxDischargeDepth := 7) [go_sem]; done) | (simp (maxDischargeDepth := 7) [go_sem, *]; done)
  clear ha hb
  try clear hf1_0_0
  try clear hf1_0_1
  try clear hf1_1_0
  try clear hf1_1_1
  try clear hg1_0
  try clear hg1_1
  try clear hz1_1
  go_wp2_with fail
  with_reducible refine (R0.out _).mono ?_
  rintro e w3 ⟨rfl, hk3⟩
  refine kuz (b := w.heap.size) hk3 (by first | (simp; done) | (simp; omega) | omega) ?_
  intro ha hb hz3_0 hn3_0 hm3_0
  have hf3_0_0 : w3.cell? ⟨w.heap.size, 0, none⟩ = some (.int .i64 a) := (ha _).trans (by first | with_reducible assumption | (simp (maxDischargeDepth := 7) [go_sem]; done) | (simp (maxDischargeDepth := 7) [go_sem, *]; done))
  have hf3_0_1 : w3.cell? ⟨w.heap.size, 1, none⟩ = some (.int .i64 b) := (ha _).trans (by first | with_reducible assumption | (simp (maxDischargeDepth := 7) [go_sem]; done) | (simp (maxDischargeDepth := 7) [go_sem, *]; done))
  try have hg3_0 : ∀ o, w3.frozen? ⟨w.heap.size, o, none⟩ = false := by intro o; rw [hb]; first | (simp (maxDischargeDepth := 7) [go_sem]; done) | (simp (maxDischargeDepth := 7) [go_sem, *]; done)
  clear ha hb
  refine kuz (b := w.heap.size + 1) hk3 (by first | (simp; done) | (simp; omega) | omega) ?_
  intro ha hb hz3_1 hn3_1 hm3_1
  have hf3_1_0 : w3.cell? ⟨w.heap.size + 1, 0, none⟩ = some (.int .i64 c) := (ha _).trans (by first | with_reducible assumption | (simp (maxDischargeDepth := 7) [go_sem]; done) | (simp (maxDischargeDepth := 7) [go_sem, *]; done))
  have hf3_1_1 : w3.cell? ⟨w.heap.size + 1, 1, none⟩ = some (.int .i64 d) := (ha _).trans (by first | with_reducible assumption | (simp (maxDischargeDepth := 7) [go_sem]; done) | (simp (maxDischargeDepth := 7) [go_sem, *]; done))
  try have hg3_1 : ∀ o, w3.frozen? ⟨w.heap.size + 1, o, none⟩ = false := by intro o; rw [hb]; first | (simp (maxDischargeDepth := 7) [go_sem]; done) | (simp (maxDischargeDepth := 7) [go_sem, *]; done)
  clear ha hb
  refine kuz (b := w2.heap.size) hk3 (by first | (simp; done) | (simp; omega) | omega) ?_
  intro ha hb hz3_2 hn3_2 hm3_2
  have hf3_2_0 : w3.cell? ⟨w2.heap.size, 0, none⟩ = some (.int .i64 l0) := (ha _).trans (by first | with_reducible assumption | (simp (maxDischargeDepth := 7) [go_sem]; done) | (simp (maxDischargeDepth := 7) [go_sem, *]; done))
  have hf3_2_1 : w3.cell? ⟨w2.heap.size, 1, none⟩ = some (.int .i64 g0) := (ha _).trans (by first | with_reducible assumption | (simp (maxDischargeDepth := 7) [go_sem]; done) | (simp (maxDischargeDepth := 7) [go_sem, *]; done))
  try have hg3_2 : ∀ o, w3.frozen? ⟨w2.heap.size, o, none⟩ = false := by intro o; rw [hb]; first | (simp (maxDischargeDepth := 7) [go_sem]; done) | (simp (maxDischargeDepth := 7) [go_sem, *]; done)
  clear ha hb
  try clear hf2_0_0
  try clear hf2_0_1
  try clear hf2_1_0
  try clear hf2_1_1
  try clear hg2_0
  try clear hg2_1
  try clear hz2_1
  go_wp2_with fail
  with_reducible refine (same_w l0 g0 e0 _).mono ?_
  rintro e w4 ⟨rfl, hk4⟩
  refine kuz (b := w.heap.size) hk4 (by first | (simp; done) | (simp; omega) | omega) ?_
  intro ha hb hz4_0 hn4_0 hm4_0
  have hf4_0_0 : w4.cell? ⟨w.heap.size, 0, none⟩ = some (.int .i64 a) := (ha _).trans (by first | with_reducible assumption | (simp (maxDischargeDepth := 7) [go_sem]; done) | (simp (maxDischargeDepth := 7) [go_sem, *]; done))
  have hf4_0_1 : w4.cell? ⟨w.heap.size, 1, none⟩ = some (.int .i64 b) := (ha _).trans (by first | with_reducible assumption | (simp (maxDischargeDepth := 7) [go_sem]; done) | (simp (maxDischargeDepth := 7) [go_sem, *]; done))
  try have hg4_0 : ∀ o, w4.frozen? ⟨w.heap.size, o, none⟩ = false := by intro o; rw [hb]; first | (simp (maxDischargeDepth := 7) [go_sem]; done) | (simp (maxDischargeDepth := 7) [go_sem, *]; done)
  clear ha hb
  refine kuz (b := w.heap.size + 1) hk4 (by first | (simp; done) | (simp; omega) | omega) ?_
  intro ha hb hz4_1 hn4_1 hm4_1
  have hf4_1_0 : w4.cell? ⟨w.heap.size + 1, 0, none⟩ = some (.int .i64 c) := (ha _).trans (by first | with_reducible assumption | (simp (maxDischargeDepth := 7) [go_sem]; done) | (simp (maxDischargeDepth := 7) [go_sem, *]; done))
  have hf4_1_1 : w4.cell? ⟨w.heap.size + 1, 1, none⟩ = some (.int .i64 d) := (ha _).trans (by first | with_reducible assumption | (simp (maxDischargeDepth := 7) [go_sem]; done) | (simp (maxDischargeDepth := 7) [go_sem, *]; done))
  try have hg4_1 : ∀ o, w4.frozen? ⟨w.heap.size + 1, o, none⟩ = false := by intro o; rw [hb]; first | (simp (maxDischargeDepth := 7) [go_sem]; done) | (simp (maxDischargeDepth := 7) [go_sem, *]; done)
  clear ha hb
  refine kuz (b := w2.heap.size) hk4 (by first | (simp; done) | (simp; omega) | omega) ?_
  intro ha hb hz4_2 hn4_2 hm4_2
  have hf4_2_0 : w4.cell? ⟨w2.heap.size, 0, none⟩ = some (.int .i64 l0) := (ha _).trans (by first | with_reducible assumption | (simp (maxDischargeDepth := 7) [go_sem]; done) | (simp (maxDischargeDepth := 7) [go_sem, *]; done))
  have hf4_2_1 : w4.cell? ⟨w2.heap.size, 1, none⟩ = some (.int .i64 g0) := (ha _).trans (by first | with_reducible assumption | (simp (maxDischargeDepth := 7) [go_sem]; done) | (simp (maxDischargeDepth := 7) [go_sem, *]; done))
  try have hg4_2 : ∀ o, w4.frozen? ⟨w2.heap.size, o, none⟩ = false := by intro o; rw [hb]; first | (simp (maxDischargeDepth := 7) [go_sem]; done) | (simp (maxDischargeDepth := 7) [go_sem, *]; done)
  clear ha hb
  refine kuz (b := w3.heap.size) hk4 (by first | (simp; done) | (simp; omega) | omega) ?_
  intro ha hb hz4_3 hn4_3 hm4_3
  have hf4_3_0 : w4.cell? ⟨w3.heap.size, 0, none⟩ = some (.int .i64 l0) := (ha _).trans (by first | with_reducible assumption | (simp (maxDischargeDepth := 7) [go_sem]; done) | (simp (maxDischargeDepth := 7) [go_sem, *]; done))
  have hf4_3_1 : w4.cell? ⟨w3.heap.size, 1, none⟩ = some (.int .i64 g0) := (ha _).trans (by first | with_reducible assumption | (simp (maxDischargeDepth := 7) [go_sem]; done) | (simp (maxDischargeDepth := 7) [go_sem, *]; done))
  try have hg4_3 : ∀ o, w4.frozen? ⟨w3.heap.size, o, none⟩ = false := by intro o; rw [hb]; first | (simp (maxDischargeDepth := 7) [go_sem]; done) | (simp (maxDischargeDepth := 7) [go_sem, *]; done)
  clear ha hb
  try clear hf3_0_0
  try clear hf3_0_1
  try clear hf3_1_0
  try clear hf3_1_1
  try clear hf3_2_0
  try clear hf3_2_1
  try clear hg3_0
  try clear hg3_1
  try clear hg3_2
  try clear hz3_1
  try clear hz3_2
  have HO0_0 : Hid (OwnB w4 (w.heap.size) [.int .i64 a, .int .i64 b]) := Lib.hid ⟨hz4_0, hg4_0, hf4_0_0, hf4_0_1, trivial⟩
  have HO0_1 : Hid (OwnB w4 (w.heap.size + 1) [.int .i64 c, .int .i64 d]) := Lib.hid ⟨hz4_1, hg4_1, hf4_1_0, hf4_1_1, trivial⟩
  have HO0_2 : Hid (OwnB w4 (w2.heap.size) [.int .i64 l0, .int .i64 g0]) := Lib.hid ⟨hz4_2, hg4_2, hf4_2_0, hf4_2_1, trivial⟩
  have HO0_3 : Hid (OwnB w4 (w3.heap.size) [.int .i64 l0, .int .i64 g0]) := Lib.hid ⟨hz4_3, hg4_3, hf4_3_0, hf4_3_1, trivial⟩
  have HK0 : Hid (Kept w w4) := Lib.hid (by repeat (first | with_reducible exact Kept.refl _ | with_reducible assumption | with_reducible refine Kept.setCell ?_ (by first | (simp; done) | (simp; omega) | omega) _ | with_reducible refine Kept.alloc ?_ _ | with_reducible refine Kept.drewN ?_ _ | with_reducible refine Kept.drew ?_ | with_reducible refine Kept.trans ?_ (by with_reducible assumption) | with_reducible refine Kept.dr ?_ (by with_reducible assumption)))
  have nw0 : w.heap.size ≤ w.heap.size := by first | omega | (have := HK0.out.size; omega)
  have nb0_1 : ¬ w.heap.size = w.heap.size + 1 := by omega
  have nc0_1 : ¬ w.heap.size + 1 = w.heap.size := by omega
  have nw1 : w.heap.size ≤ w.heap.size + 1 := by first | omega | (have := HK0.out.size; omega)
  have nb0_2 : ¬ w.heap.size = w2.heap.size := by omega
  have nc0_2 : ¬ w2.heap.size = w.heap.size := by omega
  have nb1_2 : ¬ w.heap.size + 1 = w2.heap.size := by omega
  have nc1_2 : ¬ w2.heap.size = w.heap.size + 1 := by omega
  have nw2 : w.heap.size ≤ w2.heap.size := by first | omega | (have := HK0.out.size; omega)
  have nb0_3 : ¬ w.heap.size = w3.heap.size := by omega
  have nc0_3 : ¬ w3.heap.size = w.heap.size := by omega
  have nb1_3 : ¬ w.heap.size + 1 = w3.heap.size := by omega
  have nc1_3 : ¬ w3.heap.size = w.heap.size + 1 := by omega
  have nb2_3 : ¬ w2.heap.size = w3.heap.size := by omega
  have nc2_3 : ¬ w3.heap.size = w2.heap.size := by omega
  have nw3 : w.heap.size ≤ w3.heap.size := by first | omega | (have := HK0.out.size; omega)
  try clear hk1
  try clear hz1_0
  try clear hn1_0
  try clear hm1_0
  try clear hg1_0
  try clear hf1_0_0
  try clear hf1_0_1
  try clear hf1_0_2
  try clear hf1_0_3
  try clear hf1_0_4
  try clear hf1_0_5
  try clear hf1_0_6
  try clear hf1_0_7
  try clear hf1_0_8
  try clear hf1_0_9
  try clear hf1_0_10
  try clear hf1_0_11
  try clear hz1_1
  try clear hn1_1
  try clear hm1_1
  try clear hg1_1
  try clear hf1_1_0
  try clear hf1_1_1
  try clear hf1_1_2
  try clear hf1_1_3
  try clear hf1_1_4
  try clear hf1_1_5
  try clear hf1_1_6
  try clear hf1_1_7
  try clear hf1_1_8
  try clear hf1_1_9
  try clear hf1_1_10
  try clear hf1_1_11
  try clear hz1_2
  try clear hn1_2
  try clear hm1_2
  try clear hg1_2
  try clear hf1_2_0
  try clear hf1_2_1
  try clear hf1_2_2
  try clear hf1_2_3
  try clear hf1_2_4
  try clear hf1_2_5
  try clear hf1_2_6
  try clear hf1_2_7
  try clear hf1_2_8
  try clear hf1_2_9
  try clear hf1_2_10
  try clear hf1_2_11
  try clear hz1_3
  try clear hn1_3
  try clear hm1_3
  try clear hg1_3
  try clear hf1_3_0
  try clear hf1_3_1
  try clear hf1_3_2
  try clear hf1_3_3
  try clear hf1_3_4
  try clear hf1_3_5
  try clear hf1_3_6
  try clear hf1_3_7
  try clear hf1_3_8
  try clear hf1_3_9
  try clear hf1_3_10
  try clear hf1_3_11
  try clear hk2
  try clear hz2_0
  try clear hn2_0
  try clear hm2_0
  try clear hg2_0
  try clear hf2_0_0
  try clear hf2_0_1
  try clear hf2_0_2
  try clear hf2_0_3
  try clear hf2_0_4
  try clear hf2_0_5
  try clear hf2_0_6
  try clear hf2_0_7
  try clear hf2_0_8
  try clear hf2_0_9
  try clear hf2_0_10
  try clear hf2_0_11
  try clear hz2_1
  try clear hn2_1
  try clear hm2_1
  try clear hg2_1
  try clear hf2_1_0
  try clear hf2_1_1
  try clear hf2_1_2
  try clear hf2_1_3
  try clear hf2_1_4
  try clear hf2_1_5
  try clear hf2_1_6
  try clear hf2_1_7
  try clear hf2_1_8
  try clear hf2_1_9
  try clear hf2_1_10
  try clear hf2_1_11
  try clear hz2_2
  try clear hn2_2
  try clear hm2_2
  try clear hg2_2
  try clear hf2_2_0
  try clear hf2_2_1
  try clear hf2_2_2
  try clear hf2_2_3
  try clear hf2_2_4
  try clear hf2_2_5
  try clear hf2_2_6
  try clear hf2_2_7
  try clear hf2_2_8
  try clear hf2_2_9
  try clear hf2_2_10
  try clear hf2_2_11
  try clear hz2_3
  try clear hn2_3
  try clear hm2_3
  try clear hg2_3
  try clear hf2_3_0
  try clear hf2_3_1
  try clear hf2_3_2
  try clear hf2_3_3
  try clear hf2_3_4
  try clear hf2_3_5
  try clear hf2_3_6
  try clear hf2_3_7
  try clear hf2_3_8
  try clear hf2_3_9
  try clear hf2_3_10
  try clear hf2_3_11
  try clear hk3
  try clear hz3_0
  try clear hn3_0
  try clear hm3_0
  try clear hg3_0
  try clear hf3_0_0
  try clear hf3_0_1
  try clear hf3_0_2
  try clear hf3_0_3
  try clear hf3_0_4
  try clear hf3_0_5
  try clear hf3_0_6
  try clear hf3_0_7
  try clear hf3_0_8
  try clear hf3_0_9
  try clear hf3_0_10
  try clear hf3_0_11
  try clear hz3_1
  try clear hn3_1
  try clear hm3_1
  try clear hg3_1
  try clear hf3_1_0
  try clear hf3_1_1
  try clear hf3_1_2
  try clear hf3_1_3
  try clear hf3_1_4
  try clear hf3_1_5
  try clear hf3_1_6
  try clear hf3_1_7
  try clear hf3_1_8
  try clear hf3_1_9
  try clear hf3_1_10
  try clear hf3_1_11
  try clear hz3_2
  try clear hn3_2
  try clear hm3_2
  try clear hg3_2
  try clear hf3_2_0
  try clear hf3_2_1
  try clear hf3_2_2
  try clear hf3_2_3
  try clear hf3_2_4
  try clear hf3_2_5
  try clear hf3_2_6
  try clear hf3_2_7
  try clear hf3_2_8
  try clear hf3_2_9
  try clear hf3_2_10
  try clear hf3_2_11
  try clear hz3_3
  try clear hn3_3
  try clear hm3_3
  try clear hg3_3
  try clear hf3_3_0
  try clear hf3_3_1
  try clear hf3_3_2
  try clear hf3_3_3
  try clear hf3_3_4
  try clear hf3_3_5
  try clear hf3_3_6
  try clear hf3_3_7
  try clear hf3_3_8
  try clear hf3_3_9
  try clear hf3_3_10
  try clear hf3_3_11
  try clear hk4
  try clear hz4_0
  try clear hn4_0
  try clear hm4_0
  try clear hg4_0
  try clear hf4_0_0
  try clear hf4_0_1
  try clear hf4_0_2
  try clear hf4_0_3
  try clear hf4_0_4
  try clear hf4_0_5
  try clear hf4_0_6
  try clear hf4_0_7
  try clear hf4_0_8
  try clear hf4_0_9
  try clear hf4_0_10
  try clear hf4_0_11
  try clear hz4_1
  try clear hn4_1
  try clear hm4_1
  try clear hg4_1
  try clear hf4_1_0
  try clear hf4_1_1
  try clear hf4_1_2
  try clear hf4_1_3
  try clear hf4_1_4
  try clear hf4_1_5
  try clear hf4_1_6
  try clear hf4_1_7
  try clear hf4_1_8
  try clear hf4_1_9
  try clear hf4_1_10
  try clear hf4_1_11
  try clear hz4_2
  try clear hn4_2
  try clear hm4_2
  try clear hg4_2
  try clear hf4_2_0
  try clear hf4_2_1
  try clear hf4_2_2
  try clear hf4_2_3
  try clear hf4_2_4
  try clear hf4_2_5
  try clear hf4_2_6
  try clear hf4_2_7
  try clear hf4_2_8
  try clear hf4_2_9
  try clear hf4_2_10
  try clear hf4_2_11
  try clear hz4_3
  try clear hn4_3
  try clear hm4_3
  try clear hg4_3
  try clear hf4_3_0
  try clear hf4_3_1
  try clear hf4_3_2
  try clear hf4_3_3
  try clear hf4_3_4
  try clear hf4_3_5
  try clear hf4_3_6
  try clear hf4_3_7
  try clear hf4_3_8
  try clear hf4_3_9
  try clear hf4_3_10
  try clear hf4_3_11
  obtain ⟨oz0, og0, of0_0, of0_1, _⟩ := HO0_0.out
  obtain ⟨oz1, og1, of1_0, of1_1, _⟩ := HO0_1.out
  obtain ⟨oz2, og2, of2_0, of2_1, _⟩ := HO0_2.out
  obtain ⟨oz3, og3, of3_0, of3_1, _⟩ := HO0_3.out
  go_wp2_with fail
  try clear oz0 og0 of0_0 of0_1 oz1 og1 of1_0 of1_1 oz2 og2 of2_0 of2_1 oz3 og3 of3_0 of3_1
  with_reducible refine (P1.out _).mono ?_
  rintro e w5 ⟨rfl, hk⟩
  have HO1_0 : Hid (OwnB w5 (w.heap.size) [.int .i64 a, .int .i64 b]) := Lib.hid (OwnB.kept hk (by repeat (first | with_reducible exact HO0_0.out | with_reducible refine OwnB.setOther ?_ (by first | with_reducible assumption | omega) | with_reducible refine OwnB.drew ?_ | with_reducible refine OwnB.drewN ?_ _ | with_reducible refine OwnB.alloc ?_ _)))
  have HO1_1 : Hid (OwnB w5 (w.heap.size + 1) [.int .i64 c, .int .i64 d]) := Lib.hid (OwnB.kept hk (by repeat (first | with_reducible exact HO0_1.out | with_reducible refine OwnB.setOther ?_ (by first | with_reducible assumption | omega) | with_reducible refine OwnB.drew ?_ | with_reducible refine OwnB.drewN ?_ _ | with_reducible refine OwnB.alloc ?_ _)))
  have HO1_2 : Hid (OwnB w5 (w2.heap.size) [.int .i64 l0, .int .i64 g0]) := Lib.hid (OwnB.kept hk (by repeat (first | with_reducible exact HO0_2.out | with_reducible refine OwnB.setOther ?_ (by first | with_reducible assumption | omega) | with_reducible refine OwnB.drew ?_ | with_reducible refine OwnB.drewN ?_ _ | with_reducible refine OwnB.alloc ?_ _)))
  have HO1_3 : Hid (OwnB w5 (w3.heap.size) [.int .i64 l0, .int .i64 g0]) := Lib.hid (OwnB.kept hk (by repeat (first | with_reducible exact HO0_3.out | with_reducible refine OwnB.setOther ?_ (by first | with_reducible assumption | omega) | with_reducible refine OwnB.drew ?_ | with_reducible refine OwnB.drewN ?_ _ | with_reducible refine OwnB.alloc ?_ _)))
  have HK1 : Hid (Kept w w5) := Lib.hid (Kept.trans (by repeat (first | with_reducible exact HK0.out | with_reducible refine Kept.setCell ?_ (by first | with_reducible assumption | omega) _ | with_reducible refine Kept.drew ?_ | with_reducible refine Kept.drewN ?_ _ | with_reducible refine Kept.alloc ?_ _)) hk)
  clear hk HO0_0 HO0_1 HO0_2 HO0_3 HK0
  obtain ⟨oz0, og0, of0_0, of0_1, _⟩ := HO1_0.out
  obtain ⟨oz1, og1, of1_0, of1_1, _⟩ := HO1_1.out
  obtain ⟨oz2, og2, of2_0, of2_1, _⟩ := HO1_2.out
  obtain ⟨oz3, og3, of3_0, of3_1, _⟩ := HO1_3.out
  go_wp2_with fail
  try clear oz0 og0 of0_0 of0_1 oz1 og1 of1_0 of1_1 oz2 og2 of2_0 of2_1 oz3 og3 of3_0 of3_1
  with_reducible refine (R1.out _).mono ?_
  rintro e w6 ⟨rfl, hk⟩
  have HO2_0 : Hid (OwnB w6 (w.heap.size) [.int .i64 a, .int .i64 b]) := Lib.hid (OwnB.kept hk (by repeat (first | with_reducible exact HO1_0.out | with_reducible refine OwnB.setOther ?_ (by first | with_reducible assumption | omega) | with_reducible refine OwnB.drew ?_ | with_reducible refine OwnB.drewN ?_ _ | with_reducible refine OwnB.alloc ?_ _)))
  have HO2_1 : Hid (OwnB w6 (w.heap.size + 1) [.int .i64 c, .int .i64 d]) := Lib.hid (OwnB.kept hk (by repeat (first | with_reducible exact HO1_1.out | with_reducible refine OwnB.setOther ?_ (by first | with_reducible assumption | omega) | with_reducible refine OwnB.drew ?_ | with_reducible refine OwnB.drewN ?_ _ | with_reducible refine OwnB.alloc ?_ _)))
  have HO2_2 : Hid (OwnB w6 (w2.heap.size) [.int .i64 l1, .int .i64 g1]) := Lib.hid (OwnB.kept hk (by repeat (first | with_reducible exact HO1_2.out | with_reducible refine own_set2 (us := [.int .i64 l0, .int .i64 g0]) ?_ rfl | with_reducible refine OwnB.setOther ?_ (by first | with_reducible assumption | omega) | with_reducible refine OwnB.drew ?_ | with_reducible refine OwnB.drewN ?_ _ | with_reducible refine OwnB.alloc ?_ _)))
  have HO2_3 : Hid (OwnB w6 (w3.heap.size) [.int .i64 l0, .int .i64 g0]) := Lib.hid (OwnB.kept hk (by repeat (first | with_reducible exact HO1_3.out | with_reducible refine OwnB.setOther ?_ (by first | with_reducible assumption | omega) | with_reducible refine OwnB.drew ?_ | with_reducible refine OwnB.drewN ?_ _ | with_reducible refine OwnB.alloc ?_ _)))
  have HK2 : Hid (Kept w w6) := Lib.hid (Kept.trans (by repeat (first | with_reducible exact HK1.out | with_reducible refine Kept.setCell ?_ (by first | with_reducible assumption | omega) _ | with_reducible refine Kept.drew ?_ | with_reducible refine Kept.drewN ?_ _ | with_reducible refine Kept.alloc ?_ _)) hk)
  clear hk HO1_0 HO1_1 HO1_2 HO1_3 HK1
  obtain ⟨oz0, og0, of0_0, of0_1, _⟩ := HO2_0.out
  obtain ⟨oz1, og1, of1_0, of1_1, _⟩ := HO2_1.out
  obtain ⟨oz2, og2, of2_0, of2_1, _⟩ := HO2_2.out
  obtain ⟨oz3, og3, of3_0, of3_1, _⟩ := HO2_3.out
  go_wp2_with fail
  try clear oz0 og0 of0_0 of0_1 oz1 og1 of1_0 of1_1 oz2 og2 of2_0 of2_1 oz3 og3 of3_0 of3_1
  with_reducible refine (same_w l1 g1 e1 _).mono ?_
  rintro e w7 ⟨rfl, hk⟩
  have HO3_0 : Hid (OwnB w7 (w.heap.size) [.int .i64 a, .int .i64 b]) := Lib.hid (OwnB.kept hk (by repeat (first | with_reducible exact HO2_0.out | with_reducible refine OwnB.setOther ?_ (by first | with_reducible assumption | omega) | with_reducible refine OwnB.drew ?_ | with_reducible refine OwnB.drewN ?_ _ | with_reducible refine OwnB.alloc ?_ _)))
  have HO3_1 : Hid (OwnB w7 (w.heap.size + 1) [.int .i64 c, .int .i64 d]) := Lib.hid (OwnB.kept hk (by repeat (first | with_reducible exact HO2_1.out | with_reducible refine OwnB.setOther ?_ (by first | with_reducible assumption | omega) | with_reducible refine OwnB.drew ?_ | with_reducible refine OwnB.drewN ?_ _ | with_reducible refine OwnB.alloc ?_ _)))
  have HO3_2 : Hid (OwnB w7 (w2.heap.size) [.int .i64 l1, .int .i64 g1]) := Lib.hid (OwnB.kept hk (by repeat (first | with_reducible exact HO2_2.out | with_reducible refine OwnB.setOther ?_ (by first | with_reducible assumption | omega) | with_reducible refine OwnB.drew ?_ | with_reducible refine OwnB.drewN ?_ _ | with_reducible refine OwnB.alloc ?_ _)))
  have HO3_3 : Hid (OwnB w7 (w3.heap.size) [.int .i64 l1, .int .i64 g1]) := Lib.hid (OwnB.kept hk (by repeat (first | with_reducible exact HO2_3.out | with_reducible refine own_set2 (us := [.int .i64 l0, .int .i64 g0]) ?_ rfl | with_reducible refine OwnB.setOther ?_ (by first | with_reducible assumption | omega) | with_reducible refine OwnB.drew ?_ | with_reducible refine OwnB.drewN ?_ _ | with_reducible refine OwnB.alloc ?_ _)))
  have HK3 : Hid (Kept w w7) := Lib.hid (Kept.trans (by repeat (first | with_reducible exact HK2.out | with_reducible refine Kept.setCell ?_ (by first | with_reducible assumption | omega) _ | with_reducible refine Kept.drew ?_ | with_reducible refine Kept.drewN ?_ _ | with_reducible refine Kept.alloc ?_ _)) hk)
  clear hk HO2_0 HO2_1 HO2_2 HO2_3 HK2
  obtain ⟨oz0, og0, of0_0, of0_1, _⟩ := HO3_0.out
  obtain ⟨oz1, og1, of1_0, of1_1, _⟩ := HO3_1.out
  obtain ⟨oz2, og2, of2_0, of2_1, _⟩ := HO3_2.out
  obtain ⟨oz3, og3, of3_0, of3_1, _⟩ := HO3_3.out
  go_wp2_with fail
  try clear oz0 og0 of0_0 of0_1 oz1 og1 of1_0 of1_1 oz2 og2 of2_0 of2_1 oz3 og3 of3_0 of3_1
  with_reducible refine (P2.out _).mono ?_
  rintro e w8 ⟨rfl, hk⟩
  have HO4_0 : Hid (OwnB w8 (w.heap.size) [.int .i64 a, .int .i64 b]) := Lib.hid (OwnB.kept hk (by repeat (first | with_reducible exact HO3_0.out | with_reducible refine OwnB.setOther ?_ (by first | with_reducible assumption | omega) | with_reducible refine OwnB.drew ?_ | with_reducible refine OwnB.drewN ?_ _ | with_reducible refine OwnB.alloc ?_ _)))
  have HO4_1 : Hid (OwnB w8 (w.heap.size + 1) [.int .i64 c, .int .i64 d]) := Lib.hid (OwnB.kept hk (by repeat (first | with_reducible exact HO3_1.out | with_reducible refine OwnB.setOther ?_ (by first | with_reducible assumption | omega) | with_reducible refine OwnB.drew ?_ | with_reducible refine OwnB.drewN ?_ _ | with_reducible refine OwnB.alloc ?_ _)))
  have HO4_2 : Hid (OwnB w8 (w2.heap.size) [.int .i64 l1, .int .i64 g1]) := Lib.hid (OwnB.kept hk (by repeat (first | with_reducible exact HO3_2.out | with_reducible refine OwnB.setOther ?_ (by first | with_reducible assumption | omega) | with_reducible refine OwnB.drew ?_ | with_reducible refine OwnB.drewN ?_ _ | with_reducible refine OwnB.alloc ?_ _)))
  have HO4_3 : Hid (OwnB w8 (w3.heap.size) [.int .i64 l1, .int .i64 g1]) := Lib.hid (OwnB.kept hk (by repeat (first | with_reducible exact HO3_3.out | with_reducible refine OwnB.setOther ?_ (by first | with_reducible assumption | omega) | with_reducible refine OwnB.drew ?_ | with_reducible refine OwnB.drewN ?_ _ | with_reducible refine OwnB.alloc ?_ _)))
  have HK4 : Hid (Kept w w8) := Lib.hid (Kept.trans (by repeat (first | with_reducible exact HK3.out | with_reducible refine Kept.setCell ?_ (by first | with_reducible assumption | omega) _ | with_reducible refine Kept.drew ?_ | with_reducible refine Kept.drewN ?_ _ | with_reducible refine Kept.alloc ?_ _)) hk)
  clear hk HO3_0 HO3_1 HO3_2 HO3_3 HK3
  obtain ⟨oz0, og0, of0_0, of0_1, _⟩ := HO4_0.out
  obtain ⟨oz1, og1, of1_0, of1_1, _⟩ := HO4_1.out
  obtain ⟨oz2, og2, of2_0, of2_1, _⟩ := HO4_2.out
  obtain ⟨oz3, og3, of3_0, of3_1, _⟩ := HO4_3.out
  go_wp2_with fail
  try clear oz0 og0 of0_0 of0_1 oz1 og1 of1_0 of1_1 oz2 og2 of2_0 of2_1 oz3 og3 of3_0 of3_1
  with_reducible refine (R2.out _).mono ?_
  rintro e w9 ⟨rfl, hk⟩
  have HO5_0 : Hid (OwnB w9 (w.heap.size) [.int .i64 a, .int .i64 b]) := Lib.hid (OwnB.kept hk (by repeat (first | with_reducible exact HO4_0.out | with_reducible refine OwnB.setOther ?_ (by first | with_reducible assumption | omega) | with_reducible refine OwnB.drew ?_ | with_reducible refine OwnB.drewN ?_ _ | with_reducible refine OwnB.alloc ?_ _)))
  have HO5_1 : Hid (OwnB w9 (w.heap.size + 1) [.int .i64 c, .int .i64 d]) := Lib.hid (OwnB.kept hk (by repeat (first | with_reducible exact HO4_1.out | with_reducible refine OwnB.setOther ?_ (by first | with_reducible assumption | omega) | with_reducible refine OwnB.drew ?_ | with_reducible refine OwnB.drewN ?_ _ | with_reducible refine OwnB.alloc ?_ _)))
  have HO5_2 : Hid (OwnB w9 (w2.heap.size) [.int .i64 l2, .int .i64 g2]) := Lib.hid (OwnB.kept hk (by repeat (first | with_reducible exact HO4_2.out | with_reducible refine own_set2 (us := [.int .i64 l1, .int .i64 g1]) ?_ rfl | with_reducible refine OwnB.setOther ?_ (by first | with_reducible assumption | omega) | with_reducible refine OwnB.drew ?_ | with_reducible refine OwnB.drewN ?_ _ | with_reducible refine OwnB.alloc ?_ _)))
  have HO5_3 : Hid (OwnB w9 (w3.heap.size) [.int .i64 l1, .int .i64 g1]) := Lib.hid (OwnB.kept hk (by repeat (first | with_reducible exact HO4_3.out | with_reducible refine OwnB.setOther ?_ (by first | with_reducible assumption | omega) | with_reducible refine OwnB.drew ?_ | with_reducible refine OwnB.drewN ?_ _ | with_reducible refine OwnB.alloc ?_ _)))
  have HK5 : Hid (Kept w w9) := Lib.hid (Kept.trans (by repeat (first | with_reducible exact HK4.out | with_reducible refine Kept.setCell ?_ (by first | with_reducible assumption | omega) _ | with_reducible refine Kept.drew ?_ | with_reducible refine Kept.drewN ?_ _ | with_reducible refine Kept.alloc ?_ _)) hk)
  clear hk HO4_0 HO4_1 HO4_2 HO4_3 HK4
  obtain ⟨oz0, og0, of0_0, of0_1, _⟩ := HO5_0.out
  obtain ⟨oz1, og1, of1_0, of1_1, _⟩ := HO5_1.out
  obtain ⟨oz2, og2, of2_0, of2_1, _⟩ := HO5_2.out
  obtain ⟨oz3, og3, of3_0, of3_1, _⟩ := HO5_3.out
  go_wp2_with fail
  try clear oz0 og0 of0_0 of0_1 oz1 og1 of1_0 of1_1 oz2 og2 of2_0 of2_1 oz3 og3 of3_0 of3_1
  with_reducible refine (same_w l2 g2 e2 _).mono ?_
  rintro e w10 ⟨rfl, hk⟩
  have HO6_0 : Hid (OwnB w10 (w.heap.size) [.int .i64 a, .int .i64 b]) := Lib.hid (OwnB.kept hk (by repeat (first | with_reducible exact HO5_0.out | with_reducible refine OwnB.setOther ?_ (by first | with_reducible assumption | omega) | with_reducible refine OwnB.drew ?_ | with_reducible refine OwnB.drewN ?_ _ | with_reducible refine OwnB.alloc ?_ _)))
  have HO6_1 : Hid (OwnB w10 (w.heap.size + 1) [.int .i64 c, .int .i64 d]) := Lib.hid (OwnB.kept hk (by repeat (first | with_reducible exact HO5_1.out | with_reducible refine OwnB.setOther ?_ (by first | with_reducible assumption | omega) | with_reducible refine OwnB.drew ?_ | with_reducible refine OwnB.drewN ?_ _ | with_reducible refine OwnB.alloc ?_ _)))
  have HO6_2 : Hid (OwnB w10 (w2.heap.size) [.int .i64 l2, .int .i64 g2]) := Lib.hid (OwnB.kept hk (by repeat (first | with_reducible exact HO5_2.out | with_reducible refine OwnB.setOther ?_ (by first | with_reducible assumption | omega) | with_reducible refine OwnB.drew ?_ | with_reducible refine OwnB.drewN ?_ _ | with_reducible refine OwnB.alloc ?_ _)))
  have HO6_3 : Hid (OwnB w10 (w3.heap.size) [.int .i64 l2, .int .i64 g2]) := Lib.hid (OwnB.kept hk (by repeat (first | with_reducible exact HO5_3.out | with_reducible refine own_set2 (us := [.int .i64 l1, .int .i64 g1]) ?_ rfl | with_reducible refine OwnB.setOther ?_ (by first | with_reducible assumption | omega) | with_reducible refine OwnB.drew ?_ | with_reducible refine OwnB.drewN ?_ _ | with_reducible refine OwnB.alloc ?_ _)))
  have HK6 : Hid (Kept w w10) := Lib.hid (Kept.trans (by repeat (first | with_reducible exact HK5.out | with_reducible refine Kept.setCell ?_ (by first | with_reducible assumption | omega) _ | with_reducible refine Kept.drew ?_ | with_reducible refine Kept.drewN ?_ _ | with_reducible refine Kept.alloc ?_ _)) hk)
  clear hk HO5_0 HO5_1 HO5_2 HO5_3 HK5
  obtain ⟨oz0, og0, of0_0, of0_1, _⟩ := HO6_0.out
  obtain ⟨oz1, og1, of1_0, of1_1, _⟩ := HO6_1.out
  obtain ⟨oz2, og2, of2_0, of2_1, _⟩ := HO6_2.out
  obtain ⟨oz3, og3, of3_0, of3_1, _⟩ := HO6_3.out
  go_wp2_with fail
  try clear oz0 og0 of0_0 of0_1 oz1 og1 of1_0 of1_1 oz2 og2 of2_0 of2_1 oz3 og3 of3_0 of3_1
  all_goals go_ret
  all_goals exact ⟨rfl, (by repeat (first | with_reducible exact HK6.out | with_reducible refine Kept.setCell ?_ (by first | with_reducible assumption | omega) _ | with_reducible refine Kept.drew ?_ | with_reducible refine Kept.drewN ?_ _ | with_reducible refine Kept.alloc ?_ _))⟩
end Go.Proofs.Ytinpmooihjdbgaa
