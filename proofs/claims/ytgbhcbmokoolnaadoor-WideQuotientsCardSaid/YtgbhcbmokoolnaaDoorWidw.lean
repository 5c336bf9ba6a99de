/-
  Own contracts: the examples of the chapter of layer 2 hold.
-/
import Derived.Test.YtgbhcbmokoolnaaDoorWidv
import Derived.WalkKit
import Derived.ProofKit
import Derived.OpenShut
import Derived.WalkLawsBesides
import Derived.WalkSpells
import Derived.Lib.Hide
import Derived.Deep.DeepCutAuto
import Derived.Deep.CutBlock
import Derived.Deep.QuietTactic
import Derived.BigQuiet
import Derived.Handy
import Derived.StillTailTactics
import Derived.IntWalk
import Derived.LoopN
import Derived.Deep.RegionHeld3
namespace Go.Proofs.YtgbhcbmokoolnaaDoor
open Go.ChangeShapes Go.WideShapes Go.ChangeAt Go.RowKit
set_option linter.unusedVariables false
set_option linter.unusedSimpArgs false

set_option maxHeartbeats 2000000 in
set_option maxRecDepth 100000 in
theorem awake_w (w : World) (ht : Tb w) : Calls Tryd.prog 13 #[] w fun e w' => e = .returned (.bool true) ∧ Kept w w' := by
  have HT := Lib.hid ht
  clear ht
  go_enter Tryd.func13, Tryd.ntmps13
  go_wp2_with fail
  with_reducible refine (x_mul _).mono ?_
  rintro e w1 ⟨rfl, hk1⟩
  go_wp2_with fail
  with_reducible refine (x_add _).mono ?_
  rintro e w2 ⟨rfl, hk2⟩
  refine kuse (b := w1.heap.size) hk2 (by first | (simp; done) | (simp; omega) | omega) ?_
  intro ha hb
  have hz2_0 : w1.heap.size < w2.heap.size := by have := hk2.size; (try simp at this); omega
  have hn2_0 : ¬ w1.heap.size = w2.heap.size := by omega
  have hm2_0 : ¬ w2.heap.size = w1.heap.size := by omega
  have hf2_0_0 : w2.cell? ⟨w1.heap.size, 0, none⟩ = some (.int .i64 4611686018427387904) := by first | (rw [ha]; with_reducible assumption) | (simp (maxDischargeDepth := 7) [go_sem, ha]; done) | (rw [ha]; assumption) | (simp (maxDischargeDepth := 7) [go_sem, ha, *]; done)
  have hf2_0_1 : w2.cell? ⟨w1.heap.size, 1, none⟩ = some (.int .u64 0) := by first | (rw [ha]; with_reducible assumption) | (simp (maxDischargeDepth := 7) [go_sem, ha]; done) | (rw [ha]; assumption) | (simp (maxDischargeDepth := 7) [go_sem, ha, *]; done)
  try have hg2_0 : ∀ o, w2.frozen? ⟨w1.heap.size, o, none⟩ = false := by intro o; first | (simp (maxDischargeDepth := 7) [go_sem, hb]; done) | (rw [hb]; simp (maxDischargeDepth := 7) [go_sem, *]; done)
  clear ha hb
  go_wp2_with fail
  with_reducible refine (x_abs _).mono ?_
  rintro e w3 ⟨rfl, hk3⟩
  refine kuse (b := w1.heap.size) hk3 (by first | (simp; done) | (simp; omega) | omega) ?_
  intro ha hb
  have hz3_0 : w1.heap.size < w3.heap.size := by have := hk3.size; (try simp at this); omega
  have hn3_0 : ¬ w1.heap.size = w3.heap.size := by omega
  have hm3_0 : ¬ w3.heap.size = w1.heap.size := by omega
  have hf3_0_0 : w3.cell? ⟨w1.heap.size, 0, none⟩ = some (.int .i64 4611686018427387904) := by first | (rw [ha]; with_reducible assumption) | (simp (maxDischargeDepth := 7) [go_sem, ha]; done) | (rw [ha]; assumption) | (simp (maxDischargeDepth := 7) [go_sem, ha, *]; done)
  have hf3_0_1 : w3.cell? ⟨w1.heap.size, 1, none⟩ = some (.int .u64 0) := by first | (rw [ha]; with_reducible assumption) | (simp (maxDischargeDepth := 7) [go_sem, ha]; done) | (rw [ha]; assumption) | (simp (maxDischargeDepth := 7) [go_sem, ha, *]; done)
  try have hg3_0 : ∀ o, w3.frozen? ⟨w1.heap.size, o, none⟩ = false := by intro o; first | (simp (maxDischargeDepth := 7) [go_sem, hb]; done) | (rw [hb]; simp (maxDischargeDepth := 7) [go_sem, *]; done)
  clear ha hb
  try clear hf2_0_0
  try clear hf2_0_1
  try clear hg2_0
  go_wp2_with fail
  with_reducible refine (x_ofm7 _).mono ?_
  rintro e w4 ⟨rfl, hk4⟩
  refine kuse (b := w1.heap.size) hk4 (by first | (simp; done) | (simp; omega) | omega) ?_
  intro ha hb
  have hz4_0 : w1.heap.size < w4.heap.size := by have := hk4.size; (try simp at this); omega
  have hn4_0 : ¬ w1.heap.size = w4.heap.size := by omega
  have hm4_0 : ¬ w4.heap.size = w1.heap.size := by omega
  have hf4_0_0 : w4.cell? ⟨w1.heap.size, 0, none⟩ = some (.int .i64 4611686018427387904) := by first | (rw [ha]; with_reducible assumption) | (simp (maxDischargeDepth := 7) [go_sem, ha]; done) | (rw [ha]; assumption) | (simp (maxDischargeDepth := 7) [go_sem, ha, *]; done)
  have hf4_0_1 : w4.cell? ⟨w1.heap.size, 1, none⟩ = some (.int .u64 0) := by first | (rw [ha]; with_reducible assumption) | (simp (maxDischargeDepth := 7) [go_sem, ha]; done) | (rw [ha]; assumption) | (simp (maxDischargeDepth := 7) [go_sem, ha, *]; done)
  try have hg4_0 : ∀ o, w4.frozen? ⟨w1.heap.size, o, none⟩ = false := by intro o; first | (simp (maxDischargeDepth := 7) [go_sem, hb]; done) | (rw [hb]; simp (maxDischargeDepth := 7) [go_sem, *]; done)
  clear ha hb
  try clear hf3_0_0
  try clear hf3_0_1
  try clear hg3_0
  go_wp2_with fail
  with_reducible refine (x_of2 _).mono ?_
  rintro e w5 ⟨rfl, hk5⟩
  refine kuse (b := w1.heap.size) hk5 (by first | (simp; done) | (simp; omega) | omega) ?_
  intro ha hb
  have hz5_0 : w1.heap.size < w5.heap.size := by have := hk5.size; (try simp at this); omega
  have hn5_0 : ¬ w1.heap.size = w5.heap.size := by omega
  have hm5_0 : ¬ w5.heap.size = w1.heap.size := by omega
  have hf5_0_0 : w5.cell? ⟨w1.heap.size, 0, none⟩ = some (.int .i64 4611686018427387904) := by first | (rw [ha]; with_reducible assumption) | (simp (maxDischargeDepth := 7) [go_sem, ha]; done) | (rw [ha]; assumption) | (simp (maxDischargeDepth := 7) [go_sem, ha, *]; done)
  have hf5_0_1 : w5.cell? ⟨w1.heap.size, 1, none⟩ = some (.int .u64 0) := by first | (rw [ha]; with_reducible assumption) | (simp (maxDischargeDepth := 7) [go_sem, ha]; done) | (rw [ha]; assumption) | (simp (maxDischargeDepth := 7) [go_sem, ha, *]; done)
  try have hg5_0 : ∀ o, w5.frozen? ⟨w1.heap.size, o, none⟩ = false := by intro o; first | (simp (maxDischargeDepth := 7) [go_sem, hb]; done) | (rw [hb]; simp (maxDischargeDepth := 7) [go_sem, *]; done)
  clear ha hb
  try clear hf4_0_0
  try clear hf4_0_1
  try clear hg4_0
  go_wp2_with fail
  with_reducible refine (x_Div _).mono ?_
  rintro e w6 ⟨rfl, hk6⟩
  refine kuse (b := w1.heap.size) hk6 (by first | (simp; done) | (simp; omega) | omega) ?_
  intro ha hb
  have hz6_0 : w1.heap.size < w6.heap.size := by have := hk6.size; (try simp at this); omega
  have hn6_0 : ¬ w1.heap.size = w6.heap.size := by omega
  have hm6_0 : ¬ w6.heap.size = w1.heap.size := by omega
  have hf6_0_0 : w6.cell? ⟨w1.heap.size, 0, none⟩ = some (.int .i64 4611686018427387904) := by first | (rw [ha]; with_reducible assumption) | (simp (maxDischargeDepth := 7) [go_sem, ha]; done) | (rw [ha]; assumption) | (simp (maxDischargeDepth := 7) [go_sem, ha, *]; done)
  have hf6_0_1 : w6.cell? ⟨w1.heap.size, 1, none⟩ = some (.int .u64 0) := by first | (rw [ha]; with_reducible assumption) | (simp (maxDischargeDepth := 7) [go_sem, ha]; done) | (rw [ha]; assumption) | (simp (maxDischargeDepth := 7) [go_sem, ha, *]; done)
  try have hg6_0 : ∀ o, w6.frozen? ⟨w1.heap.size, o, none⟩ = false := by intro o; first | (simp (maxDischargeDepth := 7) [go_sem, hb]; done) | (rw [hb]; simp (maxDischargeDepth := 7) [go_sem, *]; done)
  clear ha hb
  try clear hf5_0_0
  try clear hf5_0_1
  try clear hg5_0
  go_wp2_with fail
  with_reducible refine (x_ofm7 _).mono ?_
  rintro e w7 ⟨rfl, hk7⟩
  refine kuse (b := w1.heap.size) hk7 (by first | (simp; done) | (simp; omega) | omega) ?_
  intro ha hb
  have hz7_0 : w1.heap.size < w7.heap.size := by have := hk7.size; (try simp at this); omega
  have hn7_0 : ¬ w1.heap.size = w7.heap.size := by omega
  have hm7_0 : ¬ w7.heap.size = w1.heap.size := by omega
  have hf7_0_0 : w7.cell? ⟨w1.heap.size, 0, none⟩ = some (.int .i64 4611686018427387904) := by first | (rw [ha]; with_reducible assumption) | (simp (maxDischargeDepth := 7) [go_sem, ha]; done) | (rw [ha]; assumption) | (simp (maxDischargeDepth := 7) [go_sem, ha, *]; done)
  have hf7_0_1 : w7.cell? ⟨w1.heap.size, 1, none⟩ = some (.int .u64 0) := by first | (rw [ha]; with_reducible assumption) | (simp (maxDischargeDepth := 7) [go_sem, ha]; done) | (rw [ha]; assumption) | (simp (maxDischargeDepth := 7) [go_sem, ha, *]; done)
  try have hg7_0 : ∀ o, w7.frozen? ⟨w1.heap.size, o, none⟩ = false := by intro o; first | (simp (maxDischargeDepth := 7) [go_sem, hb]; done) | (rw [hb]; simp (maxDischargeDepth := 7) [go_sem, *]; done)
  clear ha hb
  refine kuse (b := w6.heap.size) hk7 (by first | (simp; done) | (simp; omega) | omega) ?_
  intro ha hb
  have hz7_1 : w6.heap.size < w7.heap.size := by have := hk7.size; (try simp at this); omega
  have hn7_1 : ¬ w6.heap.size = w7.heap.size := by omega
  have hm7_1 : ¬ w7.heap.size = w6.heap.size := by omega
  have hf7_1_0 : w7.cell? ⟨w6.heap.size, 0, none⟩ = some (.int .i64 (-1)) := by first | (rw [ha]; with_reducible assumption) | (simp (maxDischargeDepth := 7) [go_sem, ha]; done) | (rw [ha]; assumption) | (simp (maxDischargeDepth := 7) [go_sem, ha, *]; done)
  have hf7_1_1 : w7.cell? ⟨w6.heap.size, 1, none⟩ = some (.int .u64 18446744073709551612) := by first | (rw [ha]; with_reducible assumption) | (simp (maxDischargeDepth := 7) [go_sem, ha]; done) | (rw [ha]; assumption) | (simp (maxDischargeDepth := 7) [go_sem, ha, *]; done)
  try have hg7_1 : ∀ o, w7.frozen? ⟨w6.heap.size, o, none⟩ = false := by intro o; first | (simp (maxDischargeDepth := 7) [go_sem, hb]; done) | (rw [hb]; simp (maxDischargeDepth := 7) [go_sem, *]; done)
  clear ha hb
  try clear hf6_0_0
  try clear hf6_0_1
  try clear hg6_0
  go_wp2_with fail
  with_reducible refine (x_of2 _).mono ?_
  rintro e w8 ⟨rfl, hk8⟩
  refine kuse (b := w1.heap.size) hk8 (by first | (simp; done) | (simp; omega) | omega) ?_
  intro ha hb
  have hz8_0 : w1.heap.size < w8.heap.size := by have := hk8.size; (try simp at this); omega
  have hn8_0 : ¬ w1.heap.size = w8.heap.size := by omega
  have hm8_0 : ¬ w8.heap.size = w1.heap.size := by omega
  have hf8_0_0 : w8.cell? ⟨w1.heap.size, 0, none⟩ = some (.int .i64 4611686018427387904) := by first | (rw [ha]; with_reducible assumption) | (simp (maxDischargeDepth := 7) [go_sem, ha]; done) | (rw [ha]; assumption) | (simp (maxDischargeDepth := 7) [go_sem, ha, *]; done)
  have hf8_0_1 : w8.cell? ⟨w1.heap.size, 1, none⟩ = some (.int .u64 0) := by first | (rw [ha]; with_reducible assumption) | (simp (maxDischargeDepth := 7) [go_sem, ha]; done) | (rw [ha]; assumption) | (simp (maxDischargeDepth := 7) [go_sem, ha, *]; done)
  try have hg8_0 : ∀ o, w8.frozen? ⟨w1.heap.size, o, none⟩ = false := by intro o; first | (simp (maxDischargeDepth := 7) [go_sem, hb]; done) | (rw [hb]; simp (maxDischargeDepth := 7) [go_sem, *]; done)
  clear ha hb
  refine kuse (b := w6.heap.size) hk8 (by first | (simp; done) | (simp; omega) | omega) ?_
  intro ha hb
  have hz8_1 : w6.heap.size < w8.heap.size := by have := hk8.size; (try simp at this); omega
  have hn8_1 : ¬ w6.heap.size = w8.heap.size := by omega
  have hm8_1 : ¬ w8.heap.size = w6.heap.size := by omega
  have hf8_1_0 : w8.cell? ⟨w6.heap.size, 0, none⟩ = some (.int .i64 (-1)) := by first | (rw [ha]; with_reducible assumption) | (simp (maxDischargeDepth := 7) [go_sem, ha]; done) | (rw [ha]; assumption) | (simp (maxDischargeDepth := 7) [go_sem, ha, *]; done)
  have hf8_1_1 : w8.cell? ⟨w6.heap.size, 1, none⟩ = some (.int .u64 18446744073709551612) := by first | (rw [ha]; with_reducible assumption) | (simp (maxDischargeDepth := 7) [go_sem, ha]; done) | (rw [ha]; assumption) | (simp (maxDischargeDepth := 7) [go_sem, ha, *]; done)
  try have hg8_1 : ∀ o, w8.frozen? ⟨w6.heap.size, o, none⟩ = false := by intro o; first | (simp (maxDischargeDepth := 7) [go_sem, hb]; done) | (rw [hb]; simp (maxDischargeDepth := 7) [go_sem, *]; done)
  clear ha hb
  try clear hf7_0_0
  try clear hf7_0_1
  try clear hf7_1_0
  try clear hf7_1_1
  try clear hg7_0
  try clear hg7_1
  try clear hz7_1
  go_wp2_with fail
  with_reducible refine (x_DivUp _).mono ?_
  rintro e w9 ⟨rfl, hk9⟩
  refine kuse (b := w1.heap.size) hk9 (by first | (simp; done) | (simp; omega) | omega) ?_
  intro ha hb
  have hz9_0 : w1.heap.size < w9.heap.size := by have := hk9.size; (try simp at this); omega
  have hn9_0 : ¬ w1.heap.size = w9.heap.size := by omega
  have hm9_0 : ¬ w9.heap.size = w1.heap.size := by omega
  have hf9_0_0 : w9.cell? ⟨w1.heap.size, 0, none⟩ = some (.int .i64 4611686018427387904) := by first | (rw [ha]; with_reducible assumption) | (simp (maxDischargeDepth := 7) [go_sem, ha]; done) | (rw [ha]; assumption) | (simp (maxDischargeDepth := 7) [go_sem, ha, *]; done)
  have hf9_0_1 : w9.cell? ⟨w1.heap.size, 1, none⟩ = some (.int .u64 0) := by first | (rw [ha]; with_reducible assumption) | (simp (maxDischargeDepth := 7) [go_sem, ha]; done) | (rw [ha]; assumption) | (simp (maxDischargeDepth := 7) [go_sem, ha, *]; done)
  try have hg9_0 : ∀ o, w9.frozen? ⟨w1.heap.size, o, none⟩ = false := by intro o; first | (simp (maxDischargeDepth := 7) [go_sem, hb]; done) | (rw [hb]; simp (maxDischargeDepth := 7) [go_sem, *]; done)
  clear ha hb
  refine kuse (b := w6.heap.size) hk9 (by first | (simp; done) | (simp; omega) | omega) ?_
  intro ha hb
  have hz9_1 : w6.heap.size < w9.heap.size := by have := hk9.size; (try simp at this); omega
  have hn9_1 : ¬ w6.heap.size = w9.heap.size := by omega
  have hm9_1 : ¬ w9.heap.size = w6.heap.size := by omega
  have hf9_1_0 : w9.cell? ⟨w6.heap.size, 0, none⟩ = some (.int .i64 (-1)) := by first | (rw [ha]; with_reducible assumption) | (simp (maxDischargeDepth := 7) [go_sem, ha]; done) | (rw [ha]; assumption) | (simp (maxDischargeDepth := 7) [go_sem, ha, *]; done)
  have hf9_1_1 : w9.cell? ⟨w6.heap.size, 1, none⟩ = some (.int .u64 18446744073709551612) := by first | (rw [ha]; with_reducible assumption) | (simp (maxDischargeDepth := 7) [go_sem, ha]; done) | (rw [ha]; assumption) | (simp (maxDischargeDepth := 7) [go_sem, ha, *]; done)
  try have hg9_1 : ∀ o, w9.frozen? ⟨w6.heap.size, o, none⟩ = false := by intro o; first | (simp (maxDischargeDepth := 7) [go_sem, hb]; done) | (rw [hb]; simp (maxDischargeDepth := 7) [go_sem, *]; done)
  clear ha hb
  try clear hf8_0_0
  try clear hf8_0_1
  try clear hf8_1_0
  try clear hf8_1_1
  try clear hg8_0
  try clear hg8_1
  try clear hz8_1
  go_wp2_with fail
  with_reducible refine (x_ofm7 _).mono ?_
  rintro e w10 ⟨rfl, hk10⟩
  refine kuse (b := w1.heap.size) hk10 (by first | (simp; done) | (simp; omega) | omega) ?_
  intro ha hb
  have hz10_0 : w1.heap.size < w10.heap.size := by have := hk10.size; (try simp at this); omega
  have hn10_0 : ¬ w1.heap.size = w10.heap.size := by omega
  have hm10_0 : ¬ w10.heap.size = w1.heap.size := by omega
  have hf10_0_0 : w10.cell? ⟨w1.heap.size, 0, none⟩ = some (.int .i64 4611686018427387904) := by first | (rw [ha]; with_reducible assumption) | (simp (maxDischargeDepth := 7) [go_sem, ha]; done) | (rw [ha]; assumption) | (simp (maxDischargeDepth := 7) [go_sem, ha, *]; done)
  have hf10_0_1 : w10.cell? ⟨w1.heap.size, 1, none⟩ = some (.int .u64 0) := by first | (rw [ha]; with_reducible assumption) | (simp (maxDischargeDepth := 7) [go_sem, ha]; done) | (rw [ha]; assumption) | (simp (maxDischargeDepth := 7) [go_sem, ha, *]; done)
  try have hg10_0 : ∀ o, w10.frozen? ⟨w1.heap.size, o, none⟩ = false := by intro o; first | (simp (maxDischargeDepth := 7) [go_sem, hb]; done) | (rw [hb]; simp (maxDischargeDepth := 7) [go_sem, *]; done)
  clear ha hb
  refine kuse (b := w6.heap.size) hk10 (by first | (simp; done) | (simp; omega) | omega) ?_
  intro ha hb
  have hz10_1 : w6.heap.size < w10.heap.size := by have := hk10.size; (try simp at this); omega
  have hn10_1 : ¬ w6.heap.size = w10.heap.size := by omega
  have hm10_1 : ¬ w10.heap.size = w6.heap.size := by omega
  have hf10_1_0 : w10.cell? ⟨w6.heap.size, 0, none⟩ = some (.int .i64 (-1)) := by first | (rw [ha]; with_reducible assumption) | (simp (maxDischargeDepth := 7) [go_sem, ha]; done) | (rw [ha]; assumption) | (simp (maxDischargeDepth := 7) [go_sem, ha, *]; done)
  have hf10_1_1 : w10.cell? ⟨w6.heap.size, 1, none⟩ = some (.int .u64 18446744073709551612) := by first | (rw [ha]; with_reducible assumption) | (simp (maxDischargeDepth := 7) [go_sem, ha]; done) | (rw [ha]; assumption) | (simp (maxDischargeDepth := 7) [go_sem, ha, *]; done)
  try have hg10_1 : ∀ o, w10.frozen? ⟨w6.heap.size, o, none⟩ = false := by intro o; first | (simp (maxDischargeDepth := 7) [go_sem, hb]; done) | (rw [hb]; simp (maxDischargeDepth := 7) [go_sem, *]; done)
  clear ha hb
  refine kuse (b := w9.heap.size) hk10 (by first | (simp; done) | (simp; omega) | omega) ?_
  intro ha hb
  have hz10_2 : w9.heap.size < w10.heap.size := by have := hk10.size; (try simp at this); omega
  have hn10_2 : ¬ w9.heap.size = w10.heap.size := by omega
  have hm10_2 : ¬ w10.heap.size = w9.heap.size := by omega
  have hf10_2_0 : w10.cell? ⟨w9.heap.size, 0, none⟩ = some (.int .i64 (-1)) := by first | (rw [ha]; with_reducible assumption) | (simp (maxDischargeDepth := 7) [go_sem, ha]; done) | (rw [ha]; assumption) | (simp (maxDischargeDepth := 7) [go_sem, ha, *]; done)
  have hf10_2_1 : w10.cell? ⟨w9.heap.size, 1, none⟩ = some (.int .u64 18446744073709551613) := by first | (rw [ha]; with_reducible assumption) | (simp (maxDischargeDepth := 7) [go_sem, ha]; done) | (rw [ha]; assumption) | (simp (maxDischargeDepth := 7) [go_sem, ha, *]; done)
  try have hg10_2 : ∀ o, w10.frozen? ⟨w9.heap.size, o, none⟩ = false := by intro o; first | (simp (maxDischargeDepth := 7) [go_sem, hb]; done) | (rw [hb]; simp (maxDischargeDepth := 7) [go_sem, *]; done)
  clear ha hb
  try clear hf9_0_0
  try clear hf9_0_1
  try clear hf9_1_0
  try clear hf9_1_1
  try clear hg9_0
  try clear hg9_1
  try clear hz9_1
  go_wp2_with fail
  with_reducible refine (x_of2 _).mono ?_
  rintro e w11 ⟨rfl, hk11⟩
  refine kuse (b := w1.heap.size) hk11 (by first | (simp; done) | (simp; omega) | omega) ?_
  intro ha hb
  have hz11_0 : w1.heap.size < w11.heap.size := by have := hk11.size; (try simp at this); omega
  have hn11_0 : ¬ w1.heap.size = w11.heap.size := by omega
  have hm11_0 : ¬ w11.heap.size = w1.heap.size := by omega
  have hf11_0_0 : w11.cell? ⟨w1.heap.size, 0, none⟩ = some (.int .i64 4611686018427387904) := by first | (rw [ha]; with_reducible assumption) | (simp (maxDischargeDepth := 7) [go_sem, ha]; done) | (rw [ha]; assumption) | (simp (maxDischargeDepth := 7) [go_sem, ha, *]; done)
  have hf11_0_1 : w11.cell? ⟨w1.heap.size, 1, none⟩ = some (.int .u64 0) := by first | (rw [ha]; with_reducible assumption) | (simp (maxDischargeDepth := 7) [go_sem, ha]; done) | (rw [ha]; assumption) | (simp (maxDischargeDepth := 7) [go_sem, ha, *]; done)
  try have hg11_0 : ∀ o, w11.frozen? ⟨w1.heap.size, o, none⟩ = false := by intro o; first | (simp (maxDischargeDepth := 7) [go_sem, hb]; done) | (rw [hb]; simp (maxDischargeDepth := 7) [go_sem, *]; done)
  clear ha hb
  refine kuse (b := w6.heap.size) hk11 (by first | (simp; done) | (simp; omega) | omega) ?_
  intro ha hb
  have hz11_1 : w6.heap.size < w11.heap.size := by have := hk11.size; (try simp at this); omega
  have hn11_1 : ¬ w6.heap.size = w11.heap.size := by omega
  have hm11_1 : ¬ w11.heap.size = w6.heap.size := by omega
  have hf11_1_0 : w11.cell? ⟨w6.heap.size, 0, none⟩ = some (.int .i64 (-1)) := by first | (rw [ha]; with_reducible assumption) | (simp (maxDischargeDepth := 7) [go_sem, ha]; done) | (rw [ha]; assumption) | (simp (maxDischargeDepth := 7) [go_sem, ha, *]; done)
  have hf11_1_1 : w11.cell? ⟨w6.heap.size, 1, none⟩ = some (.int .u64 18446744073709551612) := by first | (rw [ha]; with_reducible assumption) | (simp (maxDischargeDepth := 7) [go_sem, ha]; done) | (rw [ha]; assumption) | (simp (maxDischargeDepth := 7) [go_sem, ha, *]; done)
  try have hg11_1 : ∀ o, w11.frozen? ⟨w6.heap.size, o, none⟩ = false := by intro o; first | (simp (maxDischargeDepth := 7) [go_sem, hb]; done) | (rw [hb]; simp (maxDischargeDepth := 7) [go_sem, *]; done)
  clear ha hb
  refine kuse (b := w9.heap.size) hk11 (by first | (simp; done) | (simp; omega) | omega) ?_
  intro ha hb
  have hz11_2 : w9.heap.size < w11.heap.size := by have := hk11.size; (try simp at this); omega
  have hn11_2 : ¬ w9.heap.size = w11.heap.size := by omega
  have hm11_2 : ¬ w11.heap.size = w9.heap.size := by omega
  have hf11_2_0 : w11.cell? ⟨w9.heap.size, 0, none⟩ = some (.int .i64 (-1)) := by first | (rw [ha]; with_reducible assumption) | (simp (maxDischargeDepth := 7) [go_sem, ha]; done) | (rw [ha]; assumption) | (simp (maxDischargeDepth := 7) [go_sem, ha, *]; done)
  have hf11_2_1 : w11.cell? ⟨w9.heap.size, 1, none⟩ = some (.int .u64 18446744073709551613) := by first | (rw [ha]; with_reducible assumption) | (simp (maxDischargeDepth := 7) [go_sem, ha]; done) | (rw [ha]; assumption) | (simp (maxDischargeDepth := 7) [go_sem, ha, *]; done)
  try have hg11_2 : ∀ o, w11.frozen? ⟨w9.heap.size, o, none⟩ = false := by intro o; first | (simp (maxDischargeDepth := 7) [go_sem, hb]; done) | (rw [hb]; simp (maxDischargeDepth := 7) [go_sem, *]; done)
  clear ha hb
  try clear hf10_0_0
  try clear hf10_0_1
  try clear hf10_1_0
  try clear hf10_1_1
  try clear hf10_2_0
  try clear hf10_2_1
  try clear hg10_0
  try clear hg10_1
  try clear hg10_2
  try clear hz10_1
  try clear hz10_2
  go_wp2_with fail
  with_reducible refine (x_Nearest _).mono ?_
  rintro e w12 ⟨rfl, hk12⟩
  refine kuse (b := w1.heap.size) hk12 (by first | (simp; done) | (simp; omega) | omega) ?_
  intro ha hb
  have hz12_0 : w1.heap.size < w12.heap.size := by have := hk12.size; (try simp at this); omega
  have hn12_0 : ¬ w1.heap.size = w12.heap.size := by omega
  have hm12_0 : ¬ w12.heap.size = w1.heap.size := by omega
  have hf12_0_0 : w12.cell? ⟨w1.heap.size, 0, none⟩ = some (.int .i64 4611686018427387904) := by first | (rw [ha]; with_reducible assumption) | (simp (maxDischargeDepth := 7) [go_sem, ha]; done) | (rw [ha]; assumption) | (simp (maxDischargeDepth := 7) [go_sem, ha, *]; done)
  have hf12_0_1 : w12.cell? ⟨w1.heap.size, 1, none⟩ = some (.int .u64 0) := by first | (rw [ha]; with_reducible assumption) | (simp (maxDischargeDepth := 7) [go_sem, ha]; done) | (rw [ha]; assumption) | (simp (maxDischargeDepth := 7) [go_sem, ha, *]; done)
  try have hg12_0 : ∀ o, w12.frozen? ⟨w1.heap.size, o, none⟩ = false := by intro o; first | (simp (maxDischargeDepth := 7) [go_sem, hb]; done) | (rw [hb]; simp (maxDischargeDepth := 7) [go_sem, *]; done)
  clear ha hb
  refine kuse (b := w6.heap.size) hk12 (by first | (simp; done) | (simp; omega) | omega) ?_
  intro ha hb
  have hz12_1 : w6.heap.size < w12.heap.size := by have := hk12.size; (try simp at this); omega
  have hn12_1 : ¬ w6.heap.size = w12.heap.size := by omega
  have hm12_1 : ¬ w12.heap.size = w6.heap.size := by omega
  have hf12_1_0 : w12.cell? ⟨w6.heap.size, 0, none⟩ = some (.int .i64 (-1)) := by first | (rw [ha]; with_reducible assumption) | (simp (maxDischargeDepth := 7) [go_sem, ha]; done) | (rw [ha]; assumption) | (simp (maxDischargeDepth := 7) [go_sem, ha, *]; done)
  have hf12_1_1 : w12.cell? ⟨w6.heap.size, 1, none⟩ = some (.int .u64 18446744073709551612) := by first | (rw [ha]; with_reducible assumption) | (simp (maxDischargeDepth := 7) [go_sem, ha]; done) | (rw [ha]; assumption) | (simp (maxDischargeDepth := 7) [go_sem, ha, *]; done)
  try have hg12_1 : ∀ o, w12.frozen? ⟨w6.heap.size, o, none⟩ = false := by intro o; first | (simp (maxDischargeDepth := 7) [go_sem, hb]; done) | (rw [hb]; simp (maxDischargeDepth := 7) [go_sem, *]; done)
  clear ha hb
  refine kuse (b := w9.heap.size) hk12 (by first | (simp; done) | (simp; omega) | omega) ?_
  intro ha hb
  have hz12_2 : w9.heap.size < w12.heap.size := by have := hk12.size; (try simp at this); omega
  have hn12_2 : ¬ w9.heap.size = w12.heap.size := by omega
  have hm12_2 : ¬ w12.heap.size = w9.heap.size := by omega
  have hf12_2_0 : w12.cell? ⟨w9.heap.size, 0, none⟩ = some (.int .i64 (-1)) := by first | (rw [ha]; with_reducible assumption) | (simp (maxDischargeDepth := 7) [go_sem, ha]; done) | (rw [ha]; assumption) | (simp (maxDischargeDepth := 7) [go_sem, ha, *]; done)
  have hf12_2_1 : w12.cell? ⟨w9.heap.size, 1, none⟩ = some (.int .u64 18446744073709551613) := by first | (rw [ha]; with_reducible assumption) | (simp (maxDischargeDepth := 7) [go_sem, ha]; done) | (rw [ha]; assumption) | (simp (maxDischargeDepth := 7) [go_sem, ha, *]; done)
  try have hg12_2 : ∀ o, w12.frozen? ⟨w9.heap.size, o, none⟩ = false := by intro o; first | (simp (maxDischargeDepth := 7) [go_sem, hb]; done) | (rw [hb]; simp (maxDischargeDepth := 7) [go_sem, *]; done)
  clear ha hb
  try clear hf11_0_0
  try clear hf11_0_1
  try clear hf11_1_0
  try clear hf11_1_1
  try clear hf11_2_0
  try clear hf11_2_1
  try clear hg11_0
  try clear hg11_1
  try clear hg11_2
  try clear hz11_1
  try clear hz11_2
  go_wp2_with fail
  go_region_held3 (fun W => W.cell? ⟨w1.heap.size, 0, none⟩ = some (.int .i64 4611686018427387904) ∧ W.cell? ⟨w1.heap.size, 1, none⟩ = some (.int .u64 0) ∧ W.cell? ⟨w6.heap.size, 0, none⟩ = some (.int .i64 (-1)) ∧ W.cell? ⟨w6.heap.size, 1, none⟩ = some (.int .u64 18446744073709551612) ∧ W.cell? ⟨w9.heap.size, 0, none⟩ = some (.int .i64 (-1)) ∧ W.cell? ⟨w9.heap.size, 1, none⟩ = some (.int .u64 18446744073709551613) ∧ W.cell? ⟨w12.heap.size, 0, none⟩ = some (.int .i64 (-1)) ∧ W.cell? ⟨w12.heap.size, 1, none⟩ = some (.int .u64 18446744073709551613)) (first | (go_keep; done) | (simp (maxDischargeDepth := 9) [*, World.cell?_alloc_some, World.cell?_setCell_far]; done) | (simp (maxDischargeDepth := 9) [go_sem, *]; done)) (first | (go_at_call 31; (first | with_reducible refine (x_ofm4 _).mono ?_); rintro e w' ⟨rfl, hk⟩; have hz := hk.size; (try (refine kuse (b := w1.heap.size) hk (by first | (simp; done) | (simp; omega) | omega) ?_; intro hq0 hg0; have hy0 : w1.heap.size < w'.heap.size := (by (try simp at hz); omega); have hn0 : ¬ w1.heap.size = w'.heap.size := (by omega); have hm0 : ¬ w1.heap.size = w'.heap.size + 1 := (by omega); refine withF (p := w'.cell? ⟨w1.heap.size, 0, none⟩ = some (.int .i64 4611686018427387904)) (by first | (rw [hq0]; with_reducible assumption) | (simp (maxDischargeDepth := 7) [go_sem, hq0]; done) | (simp (maxDischargeDepth := 7) [go_sem, hq0, *]; done) | fail) ?_; intro ff00; refine withF (p := w'.cell? ⟨w1.heap.size, 1, none⟩ = some (.int .u64 0)) (by first | (rw [hq0]; with_reducible assumption) | (simp (maxDischargeDepth := 7) [go_sem, hq0]; done) | (simp (maxDischargeDepth := 7) [go_sem, hq0, *]; done) | fail) ?_; intro ff01)); (try (refine kuse (b := w6.heap.size) hk (by first | (simp; done) | (simp; omega) | omega) ?_; intro hq1 hg1; have hy1 : w6.heap.size < w'.heap.size := (by (try simp at hz); omega); have hn1 : ¬ w6.heap.size = w'.heap.size := (by omega); have hm1 : ¬ w6.heap.size = w'.heap.size + 1 := (by omega); refine withF (p := w'.cell? ⟨w6.heap.size, 0, none⟩ = some (.int .i64 (-1))) (by first | (rw [hq1]; with_reducible assumption) | (simp (maxDischargeDepth := 7) [go_sem, hq1]; done) | (simp (maxDischargeDepth := 7) [go_sem, hq1, *]; done) | fail) ?_; intro ff10; refine withF (p := w'.cell? ⟨w6.heap.size, 1, none⟩ = some (.int .u64 18446744073709551612)) (by first | (rw [hq1]; with_reducible assumption) | (simp (maxDischargeDepth := 7) [go_sem, hq1]; done) | (simp (maxDischargeDepth := 7) [go_sem, hq1, *]; done) | fail) ?_; intro ff11)); (try (refine kuse (b := w9.heap.size) hk (by first | (simp; done) | (simp; omega) | omega) ?_; intro hq2 hg2; have hy2 : w9.heap.size < w'.heap.size := (by (try simp at hz); omega); have hn2 : ¬ w9.heap.size = w'.heap.size := (by omega); have hm2 : ¬ w9.heap.size = w'.heap.size + 1 := (by omega); refine withF (p := w'.cell? ⟨w9.heap.size, 0, none⟩ = some (.int .i64 (-1))) (by first | (rw [hq2]; with_reducible assumption) | (simp (maxDischargeDepth := 7) [go_sem, hq2]; done) | (simp (maxDischargeDepth := 7) [go_sem, hq2, *]; done) | fail) ?_; intro ff20; refine withF (p := w'.cell? ⟨w9.heap.size, 1, none⟩ = some (.int .u64 18446744073709551613)) (by first | (rw [hq2]; with_reducible assumption) | (simp (maxDischargeDepth := 7) [go_sem, hq2]; done) | (simp (maxDischargeDepth := 7) [go_sem, hq2, *]; done) | fail) ?_; intro ff21)); (try (refine kuse (b := w12.heap.size) hk (by first | (simp; done) | (simp; omega) | omega) ?_; intro hq3 hg3; have hy3 : w12.heap.size < w'.heap.size := (by (try simp at hz); omega); have hn3 : ¬ w12.heap.size = w'.heap.size := (by omega); have hm3 : ¬ w12.heap.size = w'.heap.size + 1 := (by omega); refine withF (p := w'.cell? ⟨w12.heap.size, 0, none⟩ = some (.int .i64 (-1))) (by first | (rw [hq3]; with_reducible assumption) | (simp (maxDischargeDepth := 7) [go_sem, hq3]; done) | (simp (maxDischargeDepth := 7) [go_sem, hq3, *]; done) | fail) ?_; intro ff30; refine withF (p := w'.cell? ⟨w12.heap.size, 1, none⟩ = some (.int .u64 18446744073709551613)) (by first | (rw [hq3]; with_reducible assumption) | (simp (maxDischargeDepth := 7) [go_sem, hq3]; done) | (simp (maxDischargeDepth := 7) [go_sem, hq3, *]; done) | fail) ?_; intro ff31))) | (go_at_call 31; (first | with_reducible refine (x_ofm3 _).mono ?_); rintro e w' ⟨rfl, hk⟩; have hz := hk.size; (try (refine kuse (b := w1.heap.size) hk (by first | (simp; done) | (simp; omega) | omega) ?_; intro hq0 hg0; have hy0 : w1.heap.size < w'.heap.size := (by (try simp at hz); omega); have hn0 : ¬ w1.heap.size = w'.heap.size := (by omega); have hm0 : ¬ w1.heap.size = w'.heap.size + 1 := (by omega); refine withF (p := w'.cell? ⟨w1.heap.size, 0, none⟩ = some (.int .i64 4611686018427387904)) (by first | (rw [hq0]; with_reducible assumption) | (simp (maxDischargeDepth := 7) [go_sem, hq0]; done) | (simp (maxDischargeDepth := 7) [go_sem, hq0, *]; done) | fail) ?_; intro ff00; refine withF (p := w'.cell? ⟨w1.heap.size, 1, none⟩ = some (.int .u64 0)) (by first | (rw [hq0]; with_reducible assumption) | (simp (maxDischargeDepth := 7) [go_sem, hq0]; done) | (simp (maxDischargeDepth := 7) [go_sem, hq0, *]; done) | fail) ?_; intro ff01)); (try (refine kuse (b := w6.heap.size) hk (by first | (simp; done) | (simp; omega) | omega) ?_; intro hq1 hg1; have hy1 : w6.heap.size < w'.heap.size := (by (try simp at hz); omega); have hn1 : ¬ w6.heap.size = w'.heap.size := (by omega); have hm1 : ¬ w6.heap.size = w'.heap.size + 1 := (by omega); refine withF (p := w'.cell? ⟨w6.heap.size, 0, none⟩ = some (.int .i64 (-1))) (by first | (rw [hq1]; with_reducible assumption) | (simp (maxDischargeDepth := 7) [go_sem, hq1]; done) | (simp (maxDischargeDepth := 7) [go_sem, hq1, *]; done) | fail) ?_; intro ff10; refine withF (p := w'.cell? ⟨w6.heap.size, 1, none⟩ = some (.int .u64 18446744073709551612)) (by first | (rw [hq1]; with_reducible assumption) | (simp (maxDischargeDepth := 7) [go_sem, hq1]; done) | (simp (maxDischargeDepth := 7) [go_sem, hq1, *]; done) | fail) ?_; intro ff11)); (try (refine kuse (b := w9.heap.size) hk (by first | (simp; done) | (simp; omega) | omega) ?_; intro hq2 hg2; have hy2 : w9.heap.size < w'.heap.size := (by (try simp at hz); omega); have hn2 : ¬ w9.heap.size = w'.heap.size := (by omega); have hm2 : ¬ w9.heap.size = w'.heap.size + 1 := (by omega); refine withF (p := w'.cell? ⟨w9.heap.size, 0, none⟩ = some (.int .i64 (-1))) (by first | (rw [hq2]; with_reducible assumption) | (simp (maxDischargeDepth := 7) [go_sem, hq2]; done) | (simp (maxDischargeDepth := 7) [go_sem, hq2, *]; done) | fail) ?_; intro ff20; refine withF (p := w'.cell? ⟨w9.heap.size, 1, none⟩ = some (.int .u64 18446744073709551613)) (by first | (rw [hq2]; with_reducible assumption) | (simp (maxDischargeDepth := 7) [go_sem, hq2]; done) | (simp (maxDischargeDepth := 7) [go_sem, hq2, *]; done) | fail) ?_; intro ff21)); (try (refine kuse (b := w12.heap.size) hk (by first | (simp; done) | (simp; omega) | omega) ?_; intro hq3 hg3; have hy3 : w12.heap.size < w'.heap.size := (by (try simp at hz); omega); have hn3 : ¬ w12.heap.size = w'.heap.size := (by omega); have hm3 : ¬ w12.heap.size = w'.heap.size + 1 := (by omega); refine withF (p := w'.cell? ⟨w12.heap.size, 0, none⟩ = some (.int .i64 (-1))) (by first | (rw [hq3]; with_reducible assumption) | (simp (maxDischargeDepth := 7) [go_sem, hq3]; done) | (simp (maxDischargeDepth := 7) [go_sem, hq3, *]; done) | fail) ?_; intro ff30; refine withF (p := w'.cell? ⟨w12.heap.size, 1, none⟩ = some (.int .u64 18446744073709551613)) (by first | (rw [hq3]; with_reducible assumption) | (simp (maxDischargeDepth := 7) [go_sem, hq3]; done) | (simp (maxDischargeDepth := 7) [go_sem, hq3, *]; done) | fail) ?_; intro ff31))))
  all_goals go_wp2_with fail
  with_reducible refine (x_sqrt _).mono ?_
  rintro e w13 ⟨rfl, hk13⟩
  refine kuse (b := w1.heap.size) hk13 (by first | (simp; done) | (simp; omega) | omega) ?_
  intro ha hb
  have hz13_0 : w1.heap.size < w13.heap.size := by have := hk13.size; (try simp at this); omega
  have hn13_0 : ¬ w1.heap.size = w13.heap.size := by omega
  have hm13_0 : ¬ w13.heap.size = w1.heap.size := by omega
  have hf13_0_0 : w13.cell? ⟨w1.heap.size, 0, none⟩ = some (.int .i64 4611686018427387904) := by first | (rw [ha]; with_reducible assumption) | (simp (maxDischargeDepth := 7) [go_sem, ha]; done) | (rw [ha]; assumption) | (simp (maxDischargeDepth := 7) [go_sem, ha, *]; done)
  have hf13_0_1 : w13.cell? ⟨w1.heap.size, 1, none⟩ = some (.int .u64 0) := by first | (rw [ha]; with_reducible assumption) | (simp (maxDischargeDepth := 7) [go_sem, ha]; done) | (rw [ha]; assumption) | (simp (maxDischargeDepth := 7) [go_sem, ha, *]; done)
  try have hg13_0 : ∀ o, w13.frozen? ⟨w1.heap.size, o, none⟩ = false := by intro o; first | (simp (maxDischargeDepth := 7) [go_sem, hb]; done) | (rw [hb]; simp (maxDischargeDepth := 7) [go_sem, *]; done)
  clear ha hb
  try clear hf12_0_0
  try clear hf12_0_1
  try clear hf12_1_0
  try clear hf12_1_1
  try clear hf12_2_0
  try clear hf12_2_1
  try clear hg12_0
  try clear hg12_1
  try clear hg12_2
  try clear hz12_1
  try clear hz12_2
  go_wp2_with fail
  with_reducible refine (x_parse _).mono ?_
  rintro e w14 ⟨rfl, hk14⟩
  try clear hf13_0_0
  try clear hf13_0_1
  try clear hg13_0
  go_wp2_with fail
  refine (x_textp _ (tab_kept HT.out (by repeat (first | with_reducible exact Kept.refl _ | with_reducible assumption | with_reducible refine Kept.setCell ?_ (by first | (simp; done) | (simp; omega) | omega) _ | with_reducible refine Kept.alloc ?_ _ | with_reducible refine Kept.drewN ?_ _ | with_reducible refine Kept.drew ?_ | with_reducible refine Kept.trans ?_ (by with_reducible assumption) | with_reducible refine Kept.dr ?_ (by with_reducible assumption))))).mono ?_
  rintro e w15 ⟨rfl, hk15⟩
  go_wp2_with fail
  refine (x_textm _ (tab_kept HT.out (by repeat (first | with_reducible exact Kept.refl _ | with_reducible assumption | with_reducible refine Kept.setCell ?_ (by first | (simp; done) | (simp; omega) | omega) _ | with_reducible refine Kept.alloc ?_ _ | with_reducible refine Kept.drewN ?_ _ | with_reducible refine Kept.drew ?_ | with_reducible refine Kept.trans ?_ (by with_reducible assumption) | with_reducible refine Kept.dr ?_ (by with_reducible assumption))))).mono ?_
  rintro e w16 ⟨rfl, hk16⟩
  go_wp2_with fail
  all_goals go_ret
  all_goals exact ⟨rfl, (by repeat (first | with_reducible exact Kept.refl _ | with_reducible assumption | with_reducible refine Kept.setCell ?_ (by first | (simp; done) | (simp; omega) | omega) _ | with_reducible refine Kept.alloc ?_ _ | with_reducible refine Kept.drewN ?_ _ | with_reducible refine Kept.drew ?_ | with_reducible refine Kept.trans ?_ (by with_reducible assumption) | with_reducible refine Kept.dr ?_ (by with_reducible assumption)))⟩
end Go.Proofs.YtgbhcbmokoolnaaDoor
