/-
  Own contracts: package sphere and the document's answers of layer 9: the laws of layer 9.
-/
import Derived.Test.YtjnodchmamlcpaaSphv
import Derived.WalkKit
import Derived.ProofKit
import Derived.OpenShut
import Derived.WalkLawsBesides
import Derived.WalkSpells
import Derived.Lib.Hide
import Derived.Deep.DeepCutAuto
import Derived.Deep.CutBlock
import Derived.Deep.QuietTactic
import Derived.BigQuiet
import Derived.Handy
import Derived.StillTailTactics
import Derived.IntWalk
import Derived.LoopN
import Derived.Deep.RegionHeld3
namespace Go.Proofs.Ytjnodchmamlcpaa
open Go.ChangeShapes Go.WideShapes Go.ChangeAt Go.RowKit
set_option linter.unusedVariables false
set_option linter.unusedSimpArgs false
set_option maxHeartbeats 4000000 in
set_option maxRecDepth 100000 in
theorem awake_w  (w : World) : Calls Try.prog 15 #[] w fun e w' => e = .returned (.bool true) ∧ Kept w w' := by
  obtain ⟨u1, u2, u3⟩ := av1
  have X2 := Lib.hid av2
  have X3 := Lib.hid av3
  have X4 := Lib.hid av4
  have X5 := Lib.hid av5
  have X6 := Lib.hid av6
  have X7 := Lib.hid av7
  have X8 := Lib.hid av8
  have X9 := Lib.hid av9
  have X10 := Lib.hid av10
  have X11 := Lib.hid av11
  have hV := fun w => of_ok 32400000 0 (by omega) (by omega) (by omega) (by omega) w
  rw [u1, u2, u3] at hV
  clear u1 u2 u3
  have c2 := fun w => dist_ok 0 0 (by omega) (by omega) (by omega) (by omega) 0 32400000 (by omega) (by omega) (by omega) (by omega) w
  rw [X2.out] at c2
  have c3 := fun w => course_ok 0 0 (by omega) (by omega) (by omega) (by omega) 0 10800000 (by omega) (by omega) (by omega) (by omega) (by rw [X3.out]; omega) (by rw [X3.out]; omega) w
  rw [X5.out] at c3
  have c4 := fun w => course_lo 0 0 (by omega) (by omega) (by omega) (by omega) 0 599 (by omega) (by omega) (by omega) (by omega) (by rw [X4.out]; omega) w
  have c6 := fun w => along_ok 0 0 (by omega) (by omega) (by omega) (by omega) 0 32400000 (by omega) (by omega) (by omega) (by omega) w
  rw [X6.out, X7.out, X8.out] at c6
  have c9 := fun w => along_ok 0 0 (by omega) (by omega) (by omega) (by omega) 32400000 10800000 (by omega) (by omega) (by omega) (by omega) w
  rw [X9.out, X10.out, X11.out] at c9
  have KhV := Lib.hid hV
  clear hV
  have Kc2 := Lib.hid c2
  clear c2
  have Kc3 := Lib.hid c3
  clear c3
  have Kc4 := Lib.hid c4
  clear c4
  have Kc6 := Lib.hid c6
  clear c6
  have Kc9 := Lib.hid c9
  clear c9
  clear X2 X3 X4 X5 X6 X7 X8 X9 X10 X11
  have eqvt : ∀ w, (Op.equalIn 10000 26 (.agg #[.int .i64 (0), .int .i64 (0), .int .i64 (1073741824)]) (.agg #[.int .i64 (0), .int .i64 (0), .int .i64 (1073741824)])).run Try.prog w = .ok true w := fun w => by rw [eqV]; simp
  go_enter Try.func15, Try.ntmps15
  go_wp2_with fail
  with_reducible refine (KhV.out _).mono ?_
  rintro e w1 ⟨rfl, hk1⟩
  refine kuse (b := w.heap.size) hk1 (by first | (simp; done) | (simp; omega) | omega) ?_
  intro ha hb
  have hz1_0 : w.heap.size < w1.heap.size := by have := hk1.size; (try simp at this); omega
  have hn1_0 : ¬ w.heap.size = w1.heap.size := by omega
  have hm1_0 : ¬ w1.heap.size = w.heap.size := by omega
  have hf1_0_0 : w1.cell? ⟨w.heap.size, 0, none⟩ = some (.int .i64 0) := by first | (rw [ha]; with_reducible assumption) | (simp (maxDischargeDepth := 7) [go_sem, ha]; done) | (rw [ha]; assumption) | (simp (maxDischargeDepth := 7) [go_sem, ha, *]; done)
  have hf1_0_1 : w1.cell? ⟨w.heap.size, 1, none⟩ = some (.int .i64 0) := by first | (rw [ha]; with_reducible assumption) | (simp (maxDischargeDepth := 7) [go_sem, ha]; done) | (rw [ha]; assumption) | (simp (maxDischargeDepth := 7) [go_sem, ha, *]; done)
  try have hg1_0 : ∀ o, w1.frozen? ⟨w.heap.size, o, none⟩ = false := by intro o; first | (simp (maxDischargeDepth := 7) [go_sem, hb]; done) | (rw [hb]; simp (maxDischargeDepth := 7) [go_sem, *]; done)
  clear ha hb
  refine kuse (b := w.heap.size + 1) hk1 (by first | (simp; done) | (simp; omega) | omega) ?_
  intro ha hb
  have hz1_1 : w.heap.size + 1 < w1.heap.size := by have := hk1.size; (try simp at this); omega
  have hn1_1 : ¬ w.heap.size + 1 = w1.heap.size := by omega
  have hm1_1 : ¬ w1.heap.size = w.heap.size + 1 := by omega
  have hf1_1_0 : w1.cell? ⟨w.heap.size + 1, 0, none⟩ = some (.int .i64 32400000) := by first | (rw [ha]; with_reducible assumption) | (simp (maxDischargeDepth := 7) [go_sem, ha]; done) | (rw [ha]; assumption) | (simp (maxDischargeDepth := 7) [go_sem, ha, *]; done)
  have hf1_1_1 : w1.cell? ⟨w.heap.size + 1, 1, none⟩ = some (.int .i64 0) := by first | (rw [ha]; with_reducible assumption) | (simp (maxDischargeDepth := 7) [go_sem, ha]; done) | (rw [ha]; assumption) | (simp (maxDischargeDepth := 7) [go_sem, ha, *]; done)
  try have hg1_1 : ∀ o, w1.frozen? ⟨w.heap.size + 1, o, none⟩ = false := by intro o; first | (simp (maxDischargeDepth := 7) [go_sem, hb]; done) | (rw [hb]; simp (maxDischargeDepth := 7) [go_sem, *]; done)
  clear ha hb
  go_wp2_with fail
  with_reducible refine (Kc2.out _).mono ?_
  rintro e w2 ⟨rfl, hk2⟩
  refine kuse (b := w.heap.size) hk2 (by first | (simp; done) | (simp; omega) | omega) ?_
  intro ha hb
  have hz2_0 : w.heap.size < w2.heap.size := by have := hk2.size; (try simp at this); omega
  have hn2_0 : ¬ w.heap.size = w2.heap.size := by omega
  have hm2_0 : ¬ w2.heap.size = w.heap.size := by omega
  have hf2_0_0 : w2.cell? ⟨w.heap.size, 0, none⟩ = some (.int .i64 0) := by first | (rw [ha]; with_reducible assumption) | (simp (maxDischargeDepth := 7) [go_sem, ha]; done) | (rw [ha]; assumption) | (simp (maxDischargeDepth := 7) [go_sem, ha, *]; done)
  have hf2_0_1 : w2.cell? ⟨w.heap.size, 1, none⟩ = some (.int .i64 0) := by first | (rw [ha]; with_reducible assumption) | (simp (maxDischargeDepth := 7) [go_sem, ha]; done) | (rw [ha]; assumption) | (simp (maxDischargeDepth := 7) [go_sem, ha, *]; done)
  try have hg2_0 : ∀ o, w2.frozen? ⟨w.heap.size, o, none⟩ = false := by intro o; first | (simp (maxDischargeDepth := 7) [go_sem, hb]; done) | (rw [hb]; simp (maxDischargeDepth := 7) [go_sem, *]; done)
  clear ha hb
  refine kuse (b := w.heap.size + 1) hk2 (by first | (simp; done) | (simp; omega) | omega) ?_
  intro ha hb
  have hz2_1 : w.heap.size + 1 < w2.heap.size := by have := hk2.size; (try simp at this); omega
  have hn2_1 : ¬ w.heap.size + 1 = w2.heap.size := by omega
  have hm2_1 : ¬ w2.heap.size = w.heap.size + 1 := by omega
  have hf2_1_0 : w2.cell? ⟨w.heap.size + 1, 0, none⟩ = some (.int .i64 32400000) := by first | (rw [ha]; with_reducible assumption) | (simp (maxDischargeDepth := 7) [go_sem, ha]; done) | (rw [ha]; assumption) | (simp (maxDischargeDepth := 7) [go_sem, ha, *]; done)
  have hf2_1_1 : w2.cell? ⟨w.heap.size + 1, 1, none⟩ = some (.int .i64 0) := by first | (rw [ha]; with_reducible assumption) | (simp (maxDischargeDepth := 7) [go_sem, ha]; done) | (rw [ha]; assumption) | (simp (maxDischargeDepth := 7) [go_sem, ha, *]; done)
  try have hg2_1 : ∀ o, w2.frozen? ⟨w.heap.size + 1, o, none⟩ = false := by intro o; first | (simp (maxDischargeDepth := 7) [go_sem, hb]; done) | (rw [hb]; simp (maxDischargeDepth := 7) [go_sem, *]; done)
  clear ha hb
  refine kuse (b := w1.heap.size) hk2 (by first | (simp; done) | (simp; omega) | omega) ?_
  intro ha hb
  have hz2_2 : w1.heap.size < w2.heap.size := by have := hk2.size; (try simp at this); omega
  have hn2_2 : ¬ w1.heap.size = w2.heap.size := by omega
  have hm2_2 : ¬ w2.heap.size = w1.heap.size := by omega
  have hf2_2_0 : w2.cell? ⟨w1.heap.size, 0, none⟩ = some (.int .i64 (0)) := by first | (rw [ha]; with_reducible assumption) | (simp (maxDischargeDepth := 7) [go_sem, ha]; done) | (rw [ha]; assumption) | (simp (maxDischargeDepth := 7) [go_sem, ha, *]; done)
  have hf2_2_1 : w2.cell? ⟨w1.heap.size, 1, none⟩ = some (.int .i64 (0)) := by first | (rw [ha]; with_reducible assumption) | (simp (maxDischargeDepth := 7) [go_sem, ha]; done) | (rw [ha]; assumption) | (simp (maxDischargeDepth := 7) [go_sem, ha, *]; done)
  have hf2_2_2 : w2.cell? ⟨w1.heap.size, 2, none⟩ = some (.int .i64 (1073741824)) := by first | (rw [ha]; with_reducible assumption) | (simp (maxDischargeDepth := 7) [go_sem, ha]; done) | (rw [ha]; assumption) | (simp (maxDischargeDepth := 7) [go_sem, ha, *]; done)
  try have hg2_2 : ∀ o, w2.frozen? ⟨w1.heap.size, o, none⟩ = false := by intro o; first | (simp (maxDischargeDepth := 7) [go_sem, hb]; done) | (rw [hb]; simp (maxDischargeDepth := 7) [go_sem, *]; done)
  clear ha hb
  try clear hf1_0_0
  try clear hf1_0_1
  try clear hf1_1_0
  try clear hf1_1_1
  try clear hg1_0
  try clear hg1_1
  try clear hz1_1
  go_wp2_with fail
  with_reducible refine (Kc3.out _).mono ?_
  rintro e w3 ⟨rfl, hk3⟩
  refine kuse (b := w.heap.size) hk3 (by first | (simp; done) | (simp; omega) | omega) ?_
  intro ha hb
  have hz3_0 : w.heap.size < w3.heap.size := by have := hk3.size; (try simp at this); omega
  have hn3_0 : ¬ w.heap.size = w3.heap.size := by omega
  have hm3_0 : ¬ w3.heap.size = w.heap.size := by omega
  have hf3_0_0 : w3.cell? ⟨w.heap.size, 0, none⟩ = some (.int .i64 0) := by first | (rw [ha]; with_reducible assumption) | (simp (maxDischargeDepth := 7) [go_sem, ha]; done) | (rw [ha]; assumption) | (simp (maxDischargeDepth := 7) [go_sem, ha, *]; done)
  have hf3_0_1 : w3.cell? ⟨w.heap.size, 1, none⟩ = some (.int .i64 0) := by first | (rw [ha]; with_reducible assumption) | (simp (maxDischargeDepth := 7) [go_sem, ha]; done) | (rw [ha]; assumption) | (simp (maxDischargeDepth := 7) [go_sem, ha, *]; done)
  try have hg3_0 : ∀ o, w3.frozen? ⟨w.heap.size, o, none⟩ = false := by intro o; first | (simp (maxDischargeDepth := 7) [go_sem, hb]; done) | (rw [hb]; simp (maxDischargeDepth := 7) [go_sem, *]; done)
  clear ha hb
  refine kuse (b := w.heap.size + 1) hk3 (by first | (simp; done) | (simp; omega) | omega) ?_
  intro ha hb
  have hz3_1 : w.heap.size + 1 < w3.heap.size := by have := hk3.size; (try simp at this); omega
  have hn3_1 : ¬ w.heap.size + 1 = w3.heap.size := by omega
  have hm3_1 : ¬ w3.heap.size = w.heap.size + 1 := by omega
  have hf3_1_0 : w3.cell? ⟨w.heap.size + 1, 0, none⟩ = some (.int .i64 32400000) := by first | (rw [ha]; with_reducible assumption) | (simp (maxDischargeDepth := 7) [go_sem, ha]; done) | (rw [ha]; assumption) | (simp (maxDischargeDepth := 7) [go_sem, ha, *]; done)
  have hf3_1_1 : w3.cell? ⟨w.heap.size + 1, 1, none⟩ = some (.int .i64 0) := by first | (rw [ha]; with_reducible assumption) | (simp (maxDischargeDepth := 7) [go_sem, ha]; done) | (rw [ha]; assumption) | (simp (maxDischargeDepth := 7) [go_sem, ha, *]; done)
  try have hg3_1 : ∀ o, w3.frozen? ⟨w.heap.size + 1, o, none⟩ = false := by intro o; first | (simp (maxDischargeDepth := 7) [go_sem, hb]; done) | (rw [hb]; simp (maxDischargeDepth := 7) [go_sem, *]; done)
  clear ha hb
  refine kuse (b := w1.heap.size) hk3 (by first | (simp; done) | (simp; omega) | omega) ?_
  intro ha hb
  have hz3_2 : w1.heap.size < w3.heap.size := by have := hk3.size; (try simp at this); omega
  have hn3_2 : ¬ w1.heap.size = w3.heap.size := by omega
  have hm3_2 : ¬ w3.heap.size = w1.heap.size := by omega
  have hf3_2_0 : w3.cell? ⟨w1.heap.size, 0, none⟩ = some (.int .i64 (0)) := by first | (rw [ha]; with_reducible assumption) | (simp (maxDischargeDepth := 7) [go_sem, ha]; done) | (rw [ha]; assumption) | (simp (maxDischargeDepth := 7) [go_sem, ha, *]; done)
  have hf3_2_1 : w3.cell? ⟨w1.heap.size, 1, none⟩ = some (.int .i64 (0)) := by first | (rw [ha]; with_reducible assumption) | (simp (maxDischargeDepth := 7) [go_sem, ha]; done) | (rw [ha]; assumption) | (simp (maxDischargeDepth := 7) [go_sem, ha, *]; done)
  have hf3_2_2 : w3.cell? ⟨w1.heap.size, 2, none⟩ = some (.int .i64 (1073741824)) := by first | (rw [ha]; with_reducible assumption) | (simp (maxDischargeDepth := 7) [go_sem, ha]; done) | (rw [ha]; assumption) | (simp (maxDischargeDepth := 7) [go_sem, ha, *]; done)
  try have hg3_2 : ∀ o, w3.frozen? ⟨w1.heap.size, o, none⟩ = false := by intro o; first | (simp (maxDischargeDepth := 7) [go_sem, hb]; done) | (rw [hb]; simp (maxDischargeDepth := 7) [go_sem, *]; done)
  clear ha hb
  try clear hf2_0_0
  try clear hf2_0_1
  try clear hf2_1_0
  try clear hf2_1_1
  try clear hf2_2_0
  try clear hf2_2_1
  try clear hf2_2_2
  try clear hg2_0
  try clear hg2_1
  try clear hg2_2
  try clear hz2_1
  try clear hz2_2
  go_wp2_with fail
  with_reducible refine (Kc4.out _).mono ?_
  rintro e w4 ⟨rfl, hk4⟩
  refine kuse (b := w.heap.size) hk4 (by first | (simp; done) | (simp; omega) | omega) ?_
  intro ha hb
  have hz4_0 : w.heap.size < w4.heap.size := by have := hk4.size; (try simp at this); omega
  have hn4_0 : ¬ w.heap.size = w4.heap.size := by omega
  have hm4_0 : ¬ w4.heap.size = w.heap.size := by omega
  have hf4_0_0 : w4.cell? ⟨w.heap.size, 0, none⟩ = some (.int .i64 0) := by first | (rw [ha]; with_reducible assumption) | (simp (maxDischargeDepth := 7) [go_sem, ha]; done) | (rw [ha]; assumption) | (simp (maxDischargeDepth := 7) [go_sem, ha, *]; done)
  have hf4_0_1 : w4.cell? ⟨w.heap.size, 1, none⟩ = some (.int .i64 0) := by first | (rw [ha]; with_reducible assumption) | (simp (maxDischargeDepth := 7) [go_sem, ha]; done) | (rw [ha]; assumption) | (simp (maxDischargeDepth := 7) [go_sem, ha, *]; done)
  try have hg4_0 : ∀ o, w4.frozen? ⟨w.heap.size, o, none⟩ = false := by intro o; first | (simp (maxDischargeDepth := 7) [go_sem, hb]; done) | (rw [hb]; simp (maxDischargeDepth := 7) [go_sem, *]; done)
  clear ha hb
  refine kuse (b := w.heap.size + 1) hk4 (by first | (simp; done) | (simp; omega) | omega) ?_
  intro ha hb
  have hz4_1 : w.heap.size + 1 < w4.heap.size := by have := hk4.size; (try simp at this); omega
  have hn4_1 : ¬ w.heap.size + 1 = w4.heap.size := by omega
  have hm4_1 : ¬ w4.heap.size = w.heap.size + 1 := by omega
  have hf4_1_0 : w4.cell? ⟨w.heap.size + 1, 0, none⟩ = some (.int .i64 32400000) := by first | (rw [ha]; with_reducible assumption) | (simp (maxDischargeDepth := 7) [go_sem, ha]; done) | (rw [ha]; assumption) | (simp (maxDischargeDepth := 7) [go_sem, ha, *]; done)
  have hf4_1_1 : w4.cell? ⟨w.heap.size + 1, 1, none⟩ = some (.int .i64 0) := by first | (rw [ha]; with_reducible assumption) | (simp (maxDischargeDepth := 7) [go_sem, ha]; done) | (rw [ha]; assumption) | (simp (maxDischargeDepth := 7) [go_sem, ha, *]; done)
  try have hg4_1 : ∀ o, w4.frozen? ⟨w.heap.size + 1, o, none⟩ = false := by intro o; first | (simp (maxDischargeDepth := 7) [go_sem, hb]; done) | (rw [hb]; simp (maxDischargeDepth := 7) [go_sem, *]; done)
  clear ha hb
  refine kuse (b := w1.heap.size) hk4 (by first | (simp; done) | (simp; omega) | omega) ?_
  intro ha hb
  have hz4_2 : w1.heap.size < w4.heap.size := by have := hk4.size; (try simp at this); omega
  have hn4_2 : ¬ w1.heap.size = w4.heap.size := by omega
  have hm4_2 : ¬ w4.heap.size = w1.heap.size := by omega
  have hf4_2_0 : w4.cell? ⟨w1.heap.size, 0, none⟩ = some (.int .i64 (0)) := by first | (rw [ha]; with_reducible assumption) | (simp (maxDischargeDepth := 7) [go_sem, ha]; done) | (rw [ha]; assumption) | (simp (maxDischargeDepth := 7) [go_sem, ha, *]; done)
  have hf4_2_1 : w4.cell? ⟨w1.heap.size, 1, none⟩ = some (.int .i64 (0)) := by first | (rw [ha]; with_reducible assumption) | (simp (maxDischargeDepth := 7) [go_sem, ha]; done) | (rw [ha]; assumption) | (simp (maxDischargeDepth := 7) [go_sem, ha, *]; done)
  have hf4_2_2 : w4.cell? ⟨w1.heap.size, 2, none⟩ = some (.int .i64 (1073741824)) := by first | (rw [ha]; with_reducible assumption) | (simp (maxDischargeDepth := 7) [go_sem, ha]; done) | (rw [ha]; assumption) | (simp (maxDischargeDepth := 7) [go_sem, ha, *]; done)
  try have hg4_2 : ∀ o, w4.frozen? ⟨w1.heap.size, o, none⟩ = false := by intro o; first | (simp (maxDischargeDepth := 7) [go_sem, hb]; done) | (rw [hb]; simp (maxDischargeDepth := 7) [go_sem, *]; done)
  clear ha hb
  try clear hf3_0_0
  try clear hf3_0_1
  try clear hf3_1_0
  try clear hf3_1_1
  try clear hf3_2_0
  try clear hf3_2_1
  try clear hf3_2_2
  try clear hg3_0
  try clear hg3_1
  try clear hg3_2
  try clear hz3_1
  try clear hz3_2
  go_wp2_with fail
  with_reducible refine (Kc6.out _).mono ?_
  rintro e w5 ⟨rfl, hk5⟩
  refine kuse (b := w.heap.size) hk5 (by first | (simp; done) | (simp; omega) | omega) ?_
  intro ha hb
  have hz5_0 : w.heap.size < w5.heap.size := by have := hk5.size; (try simp at this); omega
  have hn5_0 : ¬ w.heap.size = w5.heap.size := by omega
  have hm5_0 : ¬ w5.heap.size = w.heap.size := by omega
  have hf5_0_0 : w5.cell? ⟨w.heap.size, 0, none⟩ = some (.int .i64 0) := by first | (rw [ha]; with_reducible assumption) | (simp (maxDischargeDepth := 7) [go_sem, ha]; done) | (rw [ha]; assumption) | (simp (maxDischargeDepth := 7) [go_sem, ha, *]; done)
  have hf5_0_1 : w5.cell? ⟨w.heap.size, 1, none⟩ = some (.int .i64 0) := by first | (rw [ha]; with_reducible assumption) | (simp (maxDischargeDepth := 7) [go_sem, ha]; done) | (rw [ha]; assumption) | (simp (maxDischargeDepth := 7) [go_sem, ha, *]; done)
  try have hg5_0 : ∀ o, w5.frozen? ⟨w.heap.size, o, none⟩ = false := by intro o; first | (simp (maxDischargeDepth := 7) [go_sem, hb]; done) | (rw [hb]; simp (maxDischargeDepth := 7) [go_sem, *]; done)
  clear ha hb
  refine kuse (b := w.heap.size + 1) hk5 (by first | (simp; done) | (simp; omega) | omega) ?_
  intro ha hb
  have hz5_1 : w.heap.size + 1 < w5.heap.size := by have := hk5.size; (try simp at this); omega
  have hn5_1 : ¬ w.heap.size + 1 = w5.heap.size := by omega
  have hm5_1 : ¬ w5.heap.size = w.heap.size + 1 := by omega
  have hf5_1_0 : w5.cell? ⟨w.heap.size + 1, 0, none⟩ = some (.int .i64 32400000) := by first | (rw [ha]; with_reducible assumption) | (simp (maxDischargeDepth := 7) [go_sem, ha]; done) | (rw [ha]; assumption) | (simp (maxDischargeDepth := 7) [go_sem, ha, *]; done)
  have hf5_1_1 : w5.cell? ⟨w.heap.size + 1, 1, none⟩ = some (.int .i64 0) := by first | (rw [ha]; with_reducible assumption) | (simp (maxDischargeDepth := 7) [go_sem, ha]; done) | (rw [ha]; assumption) | (simp (maxDischargeDepth := 7) [go_sem, ha, *]; done)
  try have hg5_1 : ∀ o, w5.frozen? ⟨w.heap.size + 1, o, none⟩ = false := by intro o; first | (simp (maxDischargeDepth := 7) [go_sem, hb]; done) | (rw [hb]; simp (maxDischargeDepth := 7) [go_sem, *]; done)
  clear ha hb
  refine kuse (b := w1.heap.size) hk5 (by first | (simp; done) | (simp; omega) | omega) ?_
  intro ha hb
  have hz5_2 : w1.heap.size < w5.heap.size := by have := hk5.size; (try simp at this); omega
  have hn5_2 : ¬ w1.heap.size = w5.heap.size := by omega
  have hm5_2 : ¬ w5.heap.size = w1.heap.size := by omega
  have hf5_2_0 : w5.cell? ⟨w1.heap.size, 0, none⟩ = some (.int .i64 (0)) := by first | (rw [ha]; with_reducible assumption) | (simp (maxDischargeDepth := 7) [go_sem, ha]; done) | (rw [ha]; assumption) | (simp (maxDischargeDepth := 7) [go_sem, ha, *]; done)
  have hf5_2_1 : w5.cell? ⟨w1.heap.size, 1, none⟩ = some (.int .i64 (0)) := by first | (rw [ha]; with_reducible assumption) | (simp (maxDischargeDepth := 7) [go_sem, ha]; done) | (rw [ha]; assumption) | (simp (maxDischargeDepth := 7) [go_sem, ha, *]; done)
  have hf5_2_2 : w5.cell? ⟨w1.heap.size, 2, none⟩ = some (.int .i64 (1073741824)) := by first | (rw [ha]; with_reducible assumption) | (simp (maxDischargeDepth := 7) [go_sem, ha]; done) | (rw [ha]; assumption) | (simp (maxDischargeDepth := 7) [go_sem, ha, *]; done)
  try have hg5_2 : ∀ o, w5.frozen? ⟨w1.heap.size, o, none⟩ = false := by intro o; first | (simp (maxDischargeDepth := 7) [go_sem, hb]; done) | (rw [hb]; simp (maxDischargeDepth := 7) [go_sem, *]; done)
  clear ha hb
  try clear hf4_0_0
  try clear hf4_0_1
  try clear hf4_1_0
  try clear hf4_1_1
  try clear hf4_2_0
  try clear hf4_2_1
  try clear hf4_2_2
  try clear hg4_0
  try clear hg4_1
  try clear hg4_2
  try clear hz4_1
  try clear hz4_2
  go_wp2_with fail
  with_reducible refine (Kc9.out _).mono ?_
  rintro e w6 ⟨rfl, hk6⟩
  refine kuse (b := w.heap.size) hk6 (by first | (simp; done) | (simp; omega) | omega) ?_
  intro ha hb
  have hz6_0 : w.heap.size < w6.heap.size := by have := hk6.size; (try simp at this); omega
  have hn6_0 : ¬ w.heap.size = w6.heap.size := by omega
  have hm6_0 : ¬ w6.heap.size = w.heap.size := by omega
  have hf6_0_0 : w6.cell? ⟨w.heap.size, 0, none⟩ = some (.int .i64 0) := by first | (rw [ha]; with_reducible assumption) | (simp (maxDischargeDepth := 7) [go_sem, ha]; done) | (rw [ha]; assumption) | (simp (maxDischargeDepth := 7) [go_sem, ha, *]; done)
  have hf6_0_1 : w6.cell? ⟨w.heap.size, 1, none⟩ = some (.int .i64 0) := by first | (rw [ha]; with_reducible assumption) | (simp (maxDischargeDepth := 7) [go_sem, ha]; done) | (rw [ha]; assumption) | (simp (maxDischargeDepth := 7) [go_sem, ha, *]; done)
  try have hg6_0 : ∀ o, w6.frozen? ⟨w.heap.size, o, none⟩ = false := by intro o; first | (simp (maxDischargeDepth := 7) [go_sem, hb]; done) | (rw [hb]; simp (maxDischargeDepth := 7) [go_sem, *]; done)
  clear ha hb
  refine kuse (b := w.heap.size + 1) hk6 (by first | (simp; done) | (simp; omega) | omega) ?_
  intro ha hb
  have hz6_1 : w.heap.size + 1 < w6.heap.size := by have := hk6.size; (try simp at this); omega
  have hn6_1 : ¬ w.heap.size + 1 = w6.heap.size := by omega
  have hm6_1 : ¬ w6.heap.size = w.heap.size + 1 := by omega
  have hf6_1_0 : w6.cell? ⟨w.heap.size + 1, 0, none⟩ = some (.int .i64 32400000) := by first | (rw [ha]; with_reducible assumption) | (simp (maxDischargeDepth := 7) [go_sem, ha]; done) | (rw [ha]; assumption) | (simp (maxDischargeDepth := 7) [go_sem, ha, *]; done)
  have hf6_1_1 : w6.cell? ⟨w.heap.size + 1, 1, none⟩ = some (.int .i64 0) := by first | (rw [ha]; with_reducible assumption) | (simp (maxDischargeDepth := 7) [go_sem, ha]; done) | (rw [ha]; assumption) | (simp (maxDischargeDepth := 7) [go_sem, ha, *]; done)
  try have hg6_1 : ∀ o, w6.frozen? ⟨w.heap.size + 1, o, none⟩ = false := by intro o; first | (simp (maxDischargeDepth := 7) [go_sem, hb]; done) | (rw [hb]; simp (maxDischargeDepth := 7) [go_sem, *]; done)
  clear ha hb
  refine kuse (b := w1.heap.size) hk6 (by first | (simp; done) | (simp; omega) | omega) ?_
  intro ha hb
  have hz6_2 : w1.heap.size < w6.heap.size := by have := hk6.size; (try simp at this); omega
  have hn6_2 : ¬ w1.heap.size = w6.heap.size := by omega
  have hm6_2 : ¬ w6.heap.size = w1.heap.size := by omega
  have hf6_2_0 : w6.cell? ⟨w1.heap.size, 0, none⟩ = some (.int .i64 (0)) := by first | (rw [ha]; with_reducible assumption) | (simp (maxDischargeDepth := 7) [go_sem, ha]; done) | (rw [ha]; assumption) | (simp (maxDischargeDepth := 7) [go_sem, ha, *]; done)
  have hf6_2_1 : w6.cell? ⟨w1.heap.size, 1, none⟩ = some (.int .i64 (0)) := by first | (rw [ha]; with_reducible assumption) | (simp (maxDischargeDepth := 7) [go_sem, ha]; done) | (rw [ha]; assumption) | (simp (maxDischargeDepth := 7) [go_sem, ha, *]; done)
  have hf6_2_2 : w6.cell? ⟨w1.heap.size, 2, none⟩ = some (.int .i64 (1073741824)) := by first | (rw [ha]; with_reducible assumption) | (simp (maxDischargeDepth := 7) [go_sem, ha]; done) | (rw [ha]; assumption) | (simp (maxDischargeDepth := 7) [go_sem, ha, *]; done)
  try have hg6_2 : ∀ o, w6.frozen? ⟨w1.heap.size, o, none⟩ = false := by intro o; first | (simp (maxDischargeDepth := 7) [go_sem, hb]; done) | (rw [hb]; simp (maxDischargeDepth := 7) [go_sem, *]; done)
  clear ha hb
  refine kuse (b := w5.heap.size) hk6 (by first | (simp; done) | (simp; omega) | omega) ?_
  intro ha hb
  have hz6_3 : w5.heap.size < w6.heap.size := by have := hk6.size; (try simp at this); omega
  have hn6_3 : ¬ w5.heap.size = w6.heap.size := by omega
  have hm6_3 : ¬ w6.heap.size = w5.heap.size := by omega
  have hf6_3_0 : w6.cell? ⟨w5.heap.size, 0, none⟩ = some (.int .i64 (32400000)) := by first | (rw [ha]; with_reducible assumption) | (simp (maxDischargeDepth := 7) [go_sem, ha]; done) | (rw [ha]; assumption) | (simp (maxDischargeDepth := 7) [go_sem, ha, *]; done)
  have hf6_3_1 : w6.cell? ⟨w5.heap.size, 1, none⟩ = some (.int .i64 (0)) := by first | (rw [ha]; with_reducible assumption) | (simp (maxDischargeDepth := 7) [go_sem, ha]; done) | (rw [ha]; assumption) | (simp (maxDischargeDepth := 7) [go_sem, ha, *]; done)
  try have hg6_3 : ∀ o, w6.frozen? ⟨w5.heap.size, o, none⟩ = false := by intro o; first | (simp (maxDischargeDepth := 7) [go_sem, hb]; done) | (rw [hb]; simp (maxDischargeDepth := 7) [go_sem, *]; done)
  clear ha hb
  try clear hf5_0_0
  try clear hf5_0_1
  try clear hf5_1_0
  try clear hf5_1_1
  try clear hf5_2_0
  try clear hf5_2_1
  try clear hf5_2_2
  try clear hg5_0
  try clear hg5_1
  try clear hg5_2
  try clear hz5_1
  try clear hz5_2
  go_wp2_with fail
  all_goals go_ret
  all_goals exact ⟨rfl, (by repeat (first | with_reducible exact Kept.refl _ | with_reducible assumption | with_reducible refine Kept.setCell ?_ (by first | (simp; done) | (simp; omega) | omega) _ | with_reducible refine Kept.alloc ?_ _ | with_reducible refine Kept.drewN ?_ _ | with_reducible refine Kept.drew ?_ | with_reducible refine Kept.trans ?_ (by with_reducible assumption) | with_reducible refine Kept.dr ?_ (by with_reducible assumption)))⟩
theorem dif0_bd (a : Int) : -64800000 < dif 0 a ∧ dif 0 a ≤ 64800000 := by unfold dif swp nrm; split <;> omega
theorem psLo_bd (x y z : Int) : -64800000 < psLo x y z ∧ psLo x y z ≤ 64800000 := by unfold psLo; split; exact dif0_bd _; omega
theorem psLa_bd (x y z : Int) : -32400000 ≤ psLa x y z ∧ psLa x y z ≤ 32400000 := by
  unfold psLa
  split
  · have hh := (hyV_bd x y).1
    generalize hyV x y = h at *
    obtain ⟨q0, q1⟩ := at2Q_bd z h
    unfold dirV at2V
    generalize at2Q z h = q at *
    split
    · decide
    split
    · decide
    rw [if_neg (by omega), if_neg (by omega)]
    split
    · unfold dif swp nrm; split <;> omega
    · unfold dif swp nrm; split <;> omega
  · omega
set_option maxHeartbeats 4000000 in
set_option maxRecDepth 100000 in
theorem law_positions (x y z : Int) (x_0 : -9223372036854775808 ≤ x) (x_1 : x ≤ 9223372036854775807) (y_0 : -9223372036854775808 ≤ y) (y_1 : y ≤ 9223372036854775807) (z_0 : -9223372036854775808 ≤ z) (z_1 : z ≤ 9223372036854775807) (w : World) : Calls Try.prog 4 #[.agg #[.int .i64 x, .int .i64 y, .int .i64 z]] w fun e w' => e = .returned (.bool true) ∧ Kept w w' := by
  obtain ⟨b0, b1⟩ := psLa_bd x y z
  obtain ⟨b2, b3⟩ := psLo_bd x y z
  obtain ⟨A, hA⟩ : ∃ A, psLa x y z = A := ⟨_, rfl⟩
  obtain ⟨B, hB⟩ : ∃ A, psLo x y z = A := ⟨_, rfl⟩
  rw [hA] at b0 b1
  rw [hB] at b2 b3
  have HA := Lib.hid hA; have HB := Lib.hid hB
  clear hA hB
  go_enter Try.func4, Try.ntmps4
  go_wp2_with fail
  with_reducible refine (awake_w _).mono ?_
  rintro e w1 ⟨rfl, hk1⟩
  refine kuse (b := w.heap.size) hk1 (by first | (simp; done) | (simp; omega) | omega) ?_
  intro ha hb
  have hz1_0 : w.heap.size < w1.heap.size := by have := hk1.size; (try simp at this); omega
  have hn1_0 : ¬ w.heap.size = w1.heap.size := by omega
  have hm1_0 : ¬ w1.heap.size = w.heap.size := by omega
  have hf1_0_0 : w1.cell? ⟨w.heap.size, 0, none⟩ = some (.int .i64 x) := by first | (rw [ha]; with_reducible assumption) | (simp (maxDischargeDepth := 7) [go_sem, ha]; done) | (rw [ha]; assumption) | (simp (maxDischargeDepth := 7) [go_sem, ha, *]; done)
  have hf1_0_1 : w1.cell? ⟨w.heap.size, 1, none⟩ = some (.int .i64 y) := by first | (rw [ha]; with_reducible assumption) | (simp (maxDischargeDepth := 7) [go_sem, ha]; done) | (rw [ha]; assumption) | (simp (maxDischargeDepth := 7) [go_sem, ha, *]; done)
  have hf1_0_2 : w1.cell? ⟨w.heap.size, 2, none⟩ = some (.int .i64 z) := by first | (rw [ha]; with_reducible assumption) | (simp (maxDischargeDepth := 7) [go_sem, ha]; done) | (rw [ha]; assumption) | (simp (maxDischargeDepth := 7) [go_sem, ha, *]; done)
  try have hg1_0 : ∀ o, w1.frozen? ⟨w.heap.size, o, none⟩ = false := by intro o; first | (simp (maxDischargeDepth := 7) [go_sem, hb]; done) | (rw [hb]; simp (maxDischargeDepth := 7) [go_sem, *]; done)
  clear ha hb
  go_wp2_with fail
  with_reducible refine (position_w x y z x_0 x_1 y_0 y_1 z_0 z_1 _).mono ?_
  rw [HA.out, HB.out]
  rintro e w2 ⟨rfl, hk2⟩
  refine kuse (b := w.heap.size) hk2 (by first | (simp; done) | (simp; omega) | omega) ?_
  intro ha hb
  have hz2_0 : w.heap.size < w2.heap.size := by have := hk2.size; (try simp at this); omega
  have hn2_0 : ¬ w.heap.size = w2.heap.size := by omega
  have hm2_0 : ¬ w2.heap.size = w.heap.size := by omega
  have hf2_0_0 : w2.cell? ⟨w.heap.size, 0, none⟩ = some (.int .i64 x) := by first | (rw [ha]; with_reducible assumption) | (simp (maxDischargeDepth := 7) [go_sem, ha]; done) | (rw [ha]; assumption) | (simp (maxDischargeDepth := 7) [go_sem, ha, *]; done)
  have hf2_0_1 : w2.cell? ⟨w.heap.size, 1, none⟩ = some (.int .i64 y) := by first | (rw [ha]; with_reducible assumption) | (simp (maxDischargeDepth := 7) [go_sem, ha]; done) | (rw [ha]; assumption) | (simp (maxDischargeDepth := 7) [go_sem, ha, *]; done)
  have hf2_0_2 : w2.cell? ⟨w.heap.size, 2, none⟩ = some (.int .i64 z) := by first | (rw [ha]; with_reducible assumption) | (simp (maxDischargeDepth := 7) [go_sem, ha]; done) | (rw [ha]; assumption) | (simp (maxDischargeDepth := 7) [go_sem, ha, *]; done)
  try have hg2_0 : ∀ o, w2.frozen? ⟨w.heap.size, o, none⟩ = false := by intro o; first | (simp (maxDischargeDepth := 7) [go_sem, hb]; done) | (rw [hb]; simp (maxDischargeDepth := 7) [go_sem, *]; done)
  clear ha hb
  try clear hf1_0_0
  try clear hf1_0_1
  try clear hf1_0_2
  try clear hg1_0
  go_wp2_with fail
  with_reducible refine (ref_position_w x y z x_0 x_1 y_0 y_1 z_0 z_1 _).mono ?_
  rw [HA.out, HB.out]
  rintro e w3 ⟨rfl, hk3⟩
  refine kuse (b := w.heap.size) hk3 (by first | (simp; done) | (simp; omega) | omega) ?_
  intro ha hb
  have hz3_0 : w.heap.size < w3.heap.size := by have := hk3.size; (try simp at this); omega
  have hn3_0 : ¬ w.heap.size = w3.heap.size := by omega
  have hm3_0 : ¬ w3.heap.size = w.heap.size := by omega
  have hf3_0_0 : w3.cell? ⟨w.heap.size, 0, none⟩ = some (.int .i64 x) := by first | (rw [ha]; with_reducible assumption) | (simp (maxDischargeDepth := 7) [go_sem, ha]; done) | (rw [ha]; assumption) | (simp (maxDischargeDepth := 7) [go_sem, ha, *]; done)
  have hf3_0_1 : w3.cell? ⟨w.heap.size, 1, none⟩ = some (.int .i64 y) := by first | (rw [ha]; with_reducible assumption) | (simp (maxDischargeDepth := 7) [go_sem, ha]; done) | (rw [ha]; assumption) | (simp (maxDischargeDepth := 7) [go_sem, ha, *]; done)
  have hf3_0_2 : w3.cell? ⟨w.heap.size, 2, none⟩ = some (.int .i64 z) := by first | (rw [ha]; with_reducible assumption) | (simp (maxDischargeDepth := 7) [go_sem, ha]; done) | (rw [ha]; assumption) | (simp (maxDischargeDepth := 7) [go_sem, ha, *]; done)
  try have hg3_0 : ∀ o, w3.frozen? ⟨w.heap.size, o, none⟩ = false := by intro o; first | (simp (maxDischargeDepth := 7) [go_sem, hb]; done) | (rw [hb]; simp (maxDischargeDepth := 7) [go_sem, *]; done)
  clear ha hb
  refine kuse (b := w2.heap.size) hk3 (by first | (simp; done) | (simp; omega) | omega) ?_
  intro ha hb
  have hz3_1 : w2.heap.size < w3.heap.size := by have := hk3.size; (try simp at this); omega
  have hn3_1 : ¬ w2.heap.size = w3.heap.size := by omega
  have hm3_1 : ¬ w3.heap.size = w2.heap.size := by omega
  have hf3_1_0 : w3.cell? ⟨w2.heap.size, 0, none⟩ = some (.int .i64 (A)) := by first | (rw [ha]; with_reducible assumption) | (simp (maxDischargeDepth := 7) [go_sem, ha]; done) | (rw [ha]; assumption) | (simp (maxDischargeDepth := 7) [go_sem, ha, *]; done)
  have hf3_1_1 : w3.cell? ⟨w2.heap.size, 1, none⟩ = some (.int .i64 (B)) := by first | (rw [ha]; with_reducible assumption) | (simp (maxDischargeDepth := 7) [go_sem, ha]; done) | (rw [ha]; assumption) | (simp (maxDischargeDepth := 7) [go_sem, ha, *]; done)
  try have hg3_1 : ∀ o, w3.frozen? ⟨w2.heap.size, o, none⟩ = false := by intro o; first | (simp (maxDischargeDepth := 7) [go_sem, hb]; done) | (rw [hb]; simp (maxDischargeDepth := 7) [go_sem, *]; done)
  clear ha hb
  try clear hf2_0_0
  try clear hf2_0_1
  try clear hf2_0_2
  try clear hg2_0
  go_wp2_with fail
  with_reducible refine (valid_ok A B b0 b1 b2 b3 _).mono ?_
  rintro e w4 ⟨rfl, hk4⟩
  refine kuse (b := w.heap.size) hk4 (by first | (simp; done) | (simp; omega) | omega) ?_
  intro ha hb
  have hz4_0 : w.heap.size < w4.heap.size := by have := hk4.size; (try simp at this); omega
  have hn4_0 : ¬ w.heap.size = w4.heap.size := by omega
  have hm4_0 : ¬ w4.heap.size = w.heap.size := by omega
  have hf4_0_0 : w4.cell? ⟨w.heap.size, 0, none⟩ = some (.int .i64 x) := by first | (rw [ha]; with_reducible assumption) | (simp (maxDischargeDepth := 7) [go_sem, ha]; done) | (rw [ha]; assumption) | (simp (maxDischargeDepth := 7) [go_sem, ha, *]; done)
  have hf4_0_1 : w4.cell? ⟨w.heap.size, 1, none⟩ = some (.int .i64 y) := by first | (rw [ha]; with_reducible assumption) | (simp (maxDischargeDepth := 7) [go_sem, ha]; done) | (rw [ha]; assumption) | (simp (maxDischargeDepth := 7) [go_sem, ha, *]; done)
  have hf4_0_2 : w4.cell? ⟨w.heap.size, 2, none⟩ = some (.int .i64 z) := by first | (rw [ha]; with_reducible assumption) | (simp (maxDischargeDepth := 7) [go_sem, ha]; done) | (rw [ha]; assumption) | (simp (maxDischargeDepth := 7) [go_sem, ha, *]; done)
  try have hg4_0 : ∀ o, w4.frozen? ⟨w.heap.size, o, none⟩ = false := by intro o; first | (simp (maxDischargeDepth := 7) [go_sem, hb]; done) | (rw [hb]; simp (maxDischargeDepth := 7) [go_sem, *]; done)
  clear ha hb
  refine kuse (b := w2.heap.size) hk4 (by first | (simp; done) | (simp; omega) | omega) ?_
  intro ha hb
  have hz4_1 : w2.heap.size < w4.heap.size := by have := hk4.size; (try simp at this); omega
  have hn4_1 : ¬ w2.heap.size = w4.heap.size := by omega
  have hm4_1 : ¬ w4.heap.size = w2.heap.size := by omega
  have hf4_1_0 : w4.cell? ⟨w2.heap.size, 0, none⟩ = some (.int .i64 (A)) := by first | (rw [ha]; with_reducible assumption) | (simp (maxDischargeDepth := 7) [go_sem, ha]; done) | (rw [ha]; assumption) | (simp (maxDischargeDepth := 7) [go_sem, ha, *]; done)
  have hf4_1_1 : w4.cell? ⟨w2.heap.size, 1, none⟩ = some (.int .i64 (B)) := by first | (rw [ha]; with_reducible assumption) | (simp (maxDischargeDepth := 7) [go_sem, ha]; done) | (rw [ha]; assumption) | (simp (maxDischargeDepth := 7) [go_sem, ha, *]; done)
  try have hg4_1 : ∀ o, w4.frozen? ⟨w2.heap.size, o, none⟩ = false := by intro o; first | (simp (maxDischargeDepth := 7) [go_sem, hb]; done) | (rw [hb]; simp (maxDischargeDepth := 7) [go_sem, *]; done)
  clear ha hb
  refine kuse (b := w3.heap.size) hk4 (by first | (simp; done) | (simp; omega) | omega) ?_
  intro ha hb
  have hz4_2 : w3.heap.size < w4.heap.size := by have := hk4.size; (try simp at this); omega
  have hn4_2 : ¬ w3.heap.size = w4.heap.size := by omega
  have hm4_2 : ¬ w4.heap.size = w3.heap.size := by omega
  have hf4_2_0 : w4.cell? ⟨w3.heap.size, 0, none⟩ = some (.int .i64 (A)) := by first | (rw [ha]; with_reducible assumption) | (simp (maxDischargeDepth := 7) [go_sem, ha]; done) | (rw [ha]; assumption) | (simp (maxDischargeDepth := 7) [go_sem, ha, *]; done)
  have hf4_2_1 : w4.cell? ⟨w3.heap.size, 1, none⟩ = some (.int .i64 (B)) := by first | (rw [ha]; with_reducible assumption) | (simp (maxDischargeDepth := 7) [go_sem, ha]; done) | (rw [ha]; assumption) | (simp (maxDischargeDepth := 7) [go_sem, ha, *]; done)
  try have hg4_2 : ∀ o, w4.frozen? ⟨w3.heap.size, o, none⟩ = false := by intro o; first | (simp (maxDischargeDepth := 7) [go_sem, hb]; done) | (rw [hb]; simp (maxDischargeDepth := 7) [go_sem, *]; done)
  clear ha hb
  try clear hf3_0_0
  try clear hf3_0_1
  try clear hf3_0_2
  try clear hf3_1_0
  try clear hf3_1_1
  try clear hg3_0
  try clear hg3_1
  try clear hz3_1
  go_wp2_with fail
  all_goals go_ret
  all_goals exact ⟨rfl, (by repeat (first | with_reducible exact Kept.refl _ | with_reducible assumption | with_reducible refine Kept.setCell ?_ (by first | (simp; done) | (simp; omega) | omega) _ | with_reducible refine Kept.alloc ?_ _ | with_reducible refine Kept.drewN ?_ _ | with_reducible refine Kept.drew ?_ | with_reducible refine Kept.trans ?_ (by with_reducible assumption) | with_reducible refine Kept.dr ?_ (by with_reducible assumption)))⟩
set_option maxHeartbeats 4000000 in
set_option maxRecDepth 100000 in
theorem law_locals (la lo ma mo : Int) (la_0 : -9223372036854775808 ≤ la) (la_1 : la ≤ 9223372036854775807) (lo_0 : -9223372036854775808 ≤ lo) (lo_1 : lo ≤ 9223372036854775807) (ma_0 : -9223372036854775808 ≤ ma) (ma_1 : ma ≤ 9223372036854775807) (mo_0 : -9223372036854775808 ≤ mo) (mo_1 : mo ≤ 9223372036854775807) (w : World) : Calls Try.prog 5 #[.agg #[.int .i64 la, .int .i64 lo], .agg #[.int .i64 ma, .int .i64 mo]] w fun e w' => e = .returned (.bool true) ∧ Kept w w' := by
  by_cases hp : -32400000 ≤ la ∧ la ≤ 32400000 ∧ -64800000 < lo ∧ lo ≤ 64800000
  · obtain ⟨la0, la1, lo0, lo1⟩ := hp
    by_cases hq : -32400000 ≤ ma ∧ ma ≤ 32400000 ∧ -64800000 < mo ∧ mo ≤ 64800000
    · obtain ⟨ma0, ma1, mo0, mo1⟩ := hq
      obtain ⟨E, hE1⟩ : ∃ A, lcE la lo (uX ma mo) (uY ma mo) (uZ ma mo) = A := ⟨_, rfl⟩
      obtain ⟨N, hN1⟩ : ∃ A, lcN la lo (uX ma mo) (uY ma mo) (uZ ma mo) = A := ⟨_, rfl⟩
      obtain ⟨U, hU1⟩ : ∃ A, lcU la lo (uX ma mo) (uY ma mo) (uZ ma mo) = A := ⟨_, rfl⟩
      have C1 := fun w => local_ok la lo la0 la1 lo0 lo1 ma mo ma0 ma1 mo0 mo1 w
      have C2 := fun w => ref_local_ok la lo la0 la1 lo0 lo1 ma mo ma0 ma1 mo0 mo1 w
      rw [hE1, hN1, hU1] at C1 C2
      have K1 := Lib.hid C1; have K2 := Lib.hid C2
      clear C1 C2 hE1 hN1 hU1
      have eqvt : ∀ w, (Op.equalIn 10000 26 (.agg #[.int .i64 (E), .int .i64 (N), .int .i64 (U)]) (.agg #[.int .i64 (E), .int .i64 (N), .int .i64 (U)])).run Try.prog w = .ok true w := fun w => by rw [eqV]; simp
      go_enter Try.func5, Try.ntmps5
      go_wp2_with fail
      with_reducible refine (awake_w _).mono ?_
      rintro e w1 ⟨rfl, hk1⟩
      refine kuse (b := w.heap.size) hk1 (by first | (simp; done) | (simp; omega) | omega) ?_
      intro ha hb
      have hz1_0 : w.heap.size < w1.heap.size := by have := hk1.size; (try simp at this); omega
      have hn1_0 : ¬ w.heap.size = w1.heap.size := by omega
      have hm1_0 : ¬ w1.heap.size = w.heap.size := by omega
      have hf1_0_0 : w1.cell? ⟨w.heap.size, 0, none⟩ = some (.int .i64 la) := by first | (rw [ha]; with_reducible assumption) | (simp (maxDischargeDepth := 7) [go_sem, ha]; done) | (rw [ha]; assumption) | (simp (maxDischargeDepth := 7) [go_sem, ha, *]; done)
      have hf1_0_1 : w1.cell? ⟨w.heap.size, 1, none⟩ = some (.int .i64 lo) := by first | (rw [ha]; with_reducible assumption) | (simp (maxDischargeDepth := 7) [go_sem, ha]; done) | (rw [ha]; assumption) | (simp (maxDischargeDepth := 7) [go_sem, ha, *]; done)
      try have hg1_0 : ∀ o, w1.frozen? ⟨w.heap.size, o, none⟩ = false := by intro o; first | (simp (maxDischargeDepth := 7) [go_sem, hb]; done) | (rw [hb]; simp (maxDischargeDepth := 7) [go_sem, *]; done)
      clear ha hb
      refine kuse (b := w.heap.size + 1) hk1 (by first | (simp; done) | (simp; omega) | omega) ?_
      intro ha hb
      have hz1_1 : w.heap.size + 1 < w1.heap.size := by have := hk1.size; (try simp at this); omega
      have hn1_1 : ¬ w.heap.size + 1 = w1.heap.size := by omega
      have hm1_1 : ¬ w1.heap.size = w.heap.size + 1 := by omega
      have hf1_1_0 : w1.cell? ⟨w.heap.size + 1, 0, none⟩ = some (.int .i64 ma) := by first | (rw [ha]; with_reducible assumption) | (simp (maxDischargeDepth := 7) [go_sem, ha]; done) | (rw [ha]; assumption) | (simp (maxDischargeDepth := 7) [go_sem, ha, *]; done)
      have hf1_1_1 : w1.cell? ⟨w.heap.size + 1, 1, none⟩ = some (.int .i64 mo) := by first | (rw [ha]; with_reducible assumption) | (simp (maxDischargeDepth := 7) [go_sem, ha]; done) | (rw [ha]; assumption) | (simp (maxDischargeDepth := 7) [go_sem, ha, *]; done)
      try have hg1_1 : ∀ o, w1.frozen? ⟨w.heap.size + 1, o, none⟩ = false := by intro o; first | (simp (maxDischargeDepth := 7) [go_sem, hb]; done) | (rw [hb]; simp (maxDischargeDepth := 7) [go_sem, *]; done)
      clear ha hb
      go_wp2_with fail
      with_reducible refine (K1.out _).mono ?_
      rintro e w2 ⟨rfl, hk2⟩
      refine kuse (b := w.heap.size) hk2 (by first | (simp; done) | (simp; omega) | omega) ?_
      intro ha hb
      have hz2_0 : w.heap.size < w2.heap.size := by have := hk2.size; (try simp at this); omega
      have hn2_0 : ¬ w.heap.size = w2.heap.size := by omega
      have hm2_0 : ¬ w2.heap.size = w.heap.size := by omega
      have hf2_0_0 : w2.cell? ⟨w.heap.size, 0, none⟩ = some (.int .i64 la) := by first | (rw [ha]; with_reducible assumption) | (simp (maxDischargeDepth := 7) [go_sem, ha]; done) | (rw [ha]; assumption) | (simp (maxDischargeDepth := 7) [go_sem, ha, *]; done)
      have hf2_0_1 : w2.cell? ⟨w.heap.size, 1, none⟩ = some (.int .i64 lo) := by first | (rw [ha]; with_reducible assumption) | (simp (maxDischargeDepth := 7) [go_sem, ha]; done) | (rw [ha]; assumption) | (simp (maxDischargeDepth := 7) [go_sem, ha, *]; done)
      try have hg2_0 : ∀ o, w2.frozen? ⟨w.heap.size, o, none⟩ = false := by intro o; first | (simp (maxDischargeDepth := 7) [go_sem, hb]; done) | (rw [hb]; simp (maxDischargeDepth := 7) [go_sem, *]; done)
      clear ha hb
      refine kuse (b := w.heap.size + 1) hk2 (by first | (simp; done) | (simp; omega) | omega) ?_
      intro ha hb
      have hz2_1 : w.heap.size + 1 < w2.heap.size := by have := hk2.size; (try simp at this); omega
      have hn2_1 : ¬ w.heap.size + 1 = w2.heap.size := by omega
      have hm2_1 : ¬ w2.heap.size = w.heap.size + 1 := by omega
      have hf2_1_0 : w2.cell? ⟨w.heap.size + 1, 0, none⟩ = some (.int .i64 ma) := by first | (rw [ha]; with_reducible assumption) | (simp (maxDischargeDepth := 7) [go_sem, ha]; done) | (rw [ha]; assumption) | (simp (maxDischargeDepth := 7) [go_sem, ha, *]; done)
      have hf2_1_1 : w2.cell? ⟨w.heap.size + 1, 1, none⟩ = some (.int .i64 mo) := by first | (rw [ha]; with_reducible assumption) | (simp (maxDischargeDepth := 7) [go_sem, ha]; done) | (rw [ha]; assumption) | (simp (maxDischargeDepth := 7) [go_sem, ha, *]; done)
      try have hg2_1 : ∀ o, w2.frozen? ⟨w.heap.size + 1, o, none⟩ = false := by intro o; first | (simp (maxDischargeDepth := 7) [go_sem, hb]; done) | (rw [hb]; simp (maxDischargeDepth := 7) [go_sem, *]; done)
      clear ha hb
      try clear hf1_0_0
      try clear hf1_0_1
      try clear hf1_1_0
      try clear hf1_1_1
      try clear hg1_0
      try clear hg1_1
      try clear hz1_1
      go_wp2_with fail
      with_reducible refine (K2.out _).mono ?_
      rintro e w3 ⟨rfl, hk3⟩
      refine kuse (b := w.heap.size) hk3 (by first | (simp; done) | (simp; omega) | omega) ?_
      intro ha hb
      have hz3_0 : w.heap.size < w3.heap.size := by have := hk3.size; (try simp at this); omega
      have hn3_0 : ¬ w.heap.size = w3.heap.size := by omega
      have hm3_0 : ¬ w3.heap.size = w.heap.size := by omega
      have hf3_0_0 : w3.cell? ⟨w.heap.size, 0, none⟩ = some (.int .i64 la) := by first | (rw [ha]; with_reducible assumption) | (simp (maxDischargeDepth := 7) [go_sem, ha]; done) | (rw [ha]; assumption) | (simp (maxDischargeDepth := 7) [go_sem, ha, *]; done)
      have hf3_0_1 : w3.cell? ⟨w.heap.size, 1, none⟩ = some (.int .i64 lo) := by first | (rw [ha]; with_reducible assumption) | (simp (maxDischargeDepth := 7) [go_sem, ha]; done) | (rw [ha]; assumption) | (simp (maxDischargeDepth := 7) [go_sem, ha, *]; done)
      try have hg3_0 : ∀ o, w3.frozen? ⟨w.heap.size, o, none⟩ = false := by intro o; first | (simp (maxDischargeDepth := 7) [go_sem, hb]; done) | (rw [hb]; simp (maxDischargeDepth := 7) [go_sem, *]; done)
      clear ha hb
      refine kuse (b := w.heap.size + 1) hk3 (by first | (simp; done) | (simp; omega) | omega) ?_
      intro ha hb
      have hz3_1 : w.heap.size + 1 < w3.heap.size := by have := hk3.size; (try simp at this); omega
      have hn3_1 : ¬ w.heap.size + 1 = w3.heap.size := by omega
      have hm3_1 : ¬ w3.heap.size = w.heap.size + 1 := by omega
      have hf3_1_0 : w3.cell? ⟨w.heap.size + 1, 0, none⟩ = some (.int .i64 ma) := by first | (rw [ha]; with_reducible assumption) | (simp (maxDischargeDepth := 7) [go_sem, ha]; done) | (rw [ha]; assumption) | (simp (maxDischargeDepth := 7) [go_sem, ha, *]; done)
      have hf3_1_1 : w3.cell? ⟨w.heap.size + 1, 1, none⟩ = some (.int .i64 mo) := by first | (rw [ha]; with_reducible assumption) | (simp (maxDischargeDepth := 7) [go_sem, ha]; done) | (rw [ha]; assumption) | (simp (maxDischargeDepth := 7) [go_sem, ha, *]; done)
      try have hg3_1 : ∀ o, w3.frozen? ⟨w.heap.size + 1, o, none⟩ = false := by intro o; first | (simp (maxDischargeDepth := 7) [go_sem, hb]; done) | (rw [hb]; simp (maxDischargeDepth := 7) [go_sem, *]; done)
      clear ha hb
      refine kuse (b := w2.heap.size) hk3 (by first | (simp; done) | (simp; omega) | omega) ?_
      intro ha hb
      have hz3_2 : w2.heap.size < w3.heap.size := by have := hk3.size; (try simp at this); omega
      have hn3_2 : ¬ w2.heap.size = w3.heap.size := by omega
      have hm3_2 : ¬ w3.heap.size = w2.heap.size := by omega
      have hf3_2_0 : w3.cell? ⟨w2.heap.size, 0, none⟩ = some (.int .i64 (E)) := by first | (rw [ha]; with_reducible assumption) | (simp (maxDischargeDepth := 7) [go_sem, ha]; done) | (rw [ha]; assumption) | (simp (maxDischargeDepth := 7) [go_sem, ha, *]; done)
      have hf3_2_1 : w3.cell? ⟨w2.heap.size, 1, none⟩ = some (.int .i64 (N)) := by first | (rw [ha]; with_reducible assumption) | (simp (maxDischargeDepth := 7) [go_sem, ha]; done) | (rw [ha]; assumption) | (simp (maxDischargeDepth := 7) [go_sem, ha, *]; done)
      have hf3_2_2 : w3.cell? ⟨w2.heap.size, 2, none⟩ = some (.int .i64 (U)) := by first | (rw [ha]; with_reducible assumption) | (simp (maxDischargeDepth := 7) [go_sem, ha]; done) | (rw [ha]; assumption) | (simp (maxDischargeDepth := 7) [go_sem, ha, *]; done)
      try have hg3_2 : ∀ o, w3.frozen? ⟨w2.heap.size, o, none⟩ = false := by intro o; first | (simp (maxDischargeDepth := 7) [go_sem, hb]; done) | (rw [hb]; simp (maxDischargeDepth := 7) [go_sem, *]; done)
      clear ha hb
      try clear hf2_0_0
      try clear hf2_0_1
      try clear hf2_1_0
      try clear hf2_1_1
      try clear hg2_0
      try clear hg2_1
      try clear hz2_1
      go_wp2_with fail
      all_goals go_ret
      all_goals exact ⟨rfl, (by repeat (first | with_reducible exact Kept.refl _ | with_reducible assumption | with_reducible refine Kept.setCell ?_ (by first | (simp; done) | (simp; omega) | omega) _ | with_reducible refine Kept.alloc ?_ _ | with_reducible refine Kept.drewN ?_ _ | with_reducible refine Kept.drew ?_ | with_reducible refine Kept.trans ?_ (by with_reducible assumption) | with_reducible refine Kept.dr ?_ (by with_reducible assumption)))⟩
    · have hq' : ma < -32400000 ∨ 32400000 < ma ∨ mo ≤ -64800000 ∨ 64800000 < mo := by omega
      clear hq
      have eqvt : ∀ w, (Op.equalIn 10000 26 (.agg #[.int .i64 (0), .int .i64 (0), .int .i64 (0)]) (.agg #[.int .i64 (0), .int .i64 (0), .int .i64 (0)])).run Try.prog w = .ok true w := fun w => by rw [eqV]; simp
      go_enter Try.func5, Try.ntmps5
      go_wp2_with fail
      with_reducible refine (awake_w _).mono ?_
      rintro e w1 ⟨rfl, hk1⟩
      refine kuse (b := w.heap.size) hk1 (by first | (simp; done) | (simp; omega) | omega) ?_
      intro ha hb
      have hz1_0 : w.heap.size < w1.heap.size := by have := hk1.size; (try simp at this); omega
      have hn1_0 : ¬ w.heap.size = w1.heap.size := by omega
      have hm1_0 : ¬ w1.heap.size = w.heap.size := by omega
      have hf1_0_0 : w1.cell? ⟨w.heap.size, 0, none⟩ = some (.int .i64 la) := by first | (rw [ha]; with_reducible assumption) | (simp (maxDischargeDepth := 7) [go_sem, ha]; done) | (rw [ha]; assumption) | (simp (maxDischargeDepth := 7) [go_sem, ha, *]; done)
      have hf1_0_1 : w1.cell? ⟨w.heap.size, 1, none⟩ = some (.int .i64 lo) := by first | (rw [ha]; with_reducible assumption) | (simp (maxDischargeDepth := 7) [go_sem, ha]; done) | (rw [ha]; assumption) | (simp (maxDischargeDepth := 7) [go_sem, ha, *]; done)
      try have hg1_0 : ∀ o, w1.frozen? ⟨w.heap.size, o, none⟩ = false := by intro o; first | (simp (maxDischargeDepth := 7) [go_sem, hb]; done) | (rw [hb]; simp (maxDischargeDepth := 7) [go_sem, *]; done)
      clear ha hb
      refine kuse (b := w.heap.size + 1) hk1 (by first | (simp; done) | (simp; omega) | omega) ?_
      intro ha hb
      have hz1_1 : w.heap.size + 1 < w1.heap.size := by have := hk1.size; (try simp at this); omega
      have hn1_1 : ¬ w.heap.size + 1 = w1.heap.size := by omega
      have hm1_1 : ¬ w1.heap.size = w.heap.size + 1 := by omega
      have hf1_1_0 : w1.cell? ⟨w.heap.size + 1, 0, none⟩ = some (.int .i64 ma) := by first | (rw [ha]; with_reducible assumption) | (simp (maxDischargeDepth := 7) [go_sem, ha]; done) | (rw [ha]; assumption) | (simp (maxDischargeDepth := 7) [go_sem, ha, *]; done)
      have hf1_1_1 : w1.cell? ⟨w.heap.size + 1, 1, none⟩ = some (.int .i64 mo) := by first | (rw [ha]; with_reducible assumption) | (simp (maxDischargeDepth := 7) [go_sem, ha]; done) | (rw [ha]; assumption) | (simp (maxDischargeDepth := 7) [go_sem, ha, *]; done)
      try have hg1_1 : ∀ o, w1.frozen? ⟨w.heap.size + 1, o, none⟩ = false := by intro o; first | (simp (maxDischargeDepth := 7) [go_sem, hb]; done) | (rw [hb]; simp (maxDischargeDepth := 7) [go_sem, *]; done)
      clear ha hb
      go_wp2_with fail
      with_reducible refine (local_badq la lo la0 la1 lo0 lo1 ma mo hq' _).mono ?_
      rintro e w2 ⟨rfl, hk2⟩
      refine kuse (b := w.heap.size) hk2 (by first | (simp; done) | (simp; omega) | omega) ?_
      intro ha hb
      have hz2_0 : w.heap.size < w2.heap.size := by have := hk2.size; (try simp at this); omega
      have hn2_0 : ¬ w.heap.size = w2.heap.size := by omega
      have hm2_0 : ¬ w2.heap.size = w.heap.size := by omega
      have hf2_0_0 : w2.cell? ⟨w.heap.size, 0, none⟩ = some (.int .i64 la) := by first | (rw [ha]; with_reducible assumption) | (simp (maxDischargeDepth := 7) [go_sem, ha]; done) | (rw [ha]; assumption) | (simp (maxDischargeDepth := 7) [go_sem, ha, *]; done)
      have hf2_0_1 : w2.cell? ⟨w.heap.size, 1, none⟩ = some (.int .i64 lo) := by first | (rw [ha]; with_reducible assumption) | (simp (maxDischargeDepth := 7) [go_sem, ha]; done) | (rw [ha]; assumption) | (simp (maxDischargeDepth := 7) [go_sem, ha, *]; done)
      try have hg2_0 : ∀ o, w2.frozen? ⟨w.heap.size, o, none⟩ = false := by intro o; first | (simp (maxDischargeDepth := 7) [go_sem, hb]; done) | (rw [hb]; simp (maxDischargeDepth := 7) [go_sem, *]; done)
      clear ha hb
      refine kuse (b := w.heap.size + 1) hk2 (by first | (simp; done) | (simp; omega) | omega) ?_
      intro ha hb
      have hz2_1 : w.heap.size + 1 < w2.heap.size := by have := hk2.size; (try simp at this); omega
      have hn2_1 : ¬ w.heap.size + 1 = w2.heap.size := by omega
      have hm2_1 : ¬ w2.heap.size = w.heap.size + 1 := by omega
      have hf2_1_0 : w2.cell? ⟨w.heap.size + 1, 0, none⟩ = some (.int .i64 ma) := by first | (rw [ha]; with_reducible assumption) | (simp (maxDischargeDepth := 7) [go_sem, ha]; done) | (rw [ha]; assumption) | (simp (maxDischargeDepth := 7) [go_sem, ha, *]; done)
      have hf2_1_1 : w2.cell? ⟨w.heap.size + 1, 1, none⟩ = some (.int .i64 mo) := by first | (rw [ha]; with_reducible assumption) | (simp (maxDischargeDepth := 7) [go_sem, ha]; done) | (rw [ha]; assumption) | (simp (maxDischargeDepth := 7) [go_sem, ha, *]; done)
      try have hg2_1 : ∀ o, w2.frozen? ⟨w.heap.size + 1, o, none⟩ = false := by intro o; first | (simp (maxDischargeDepth := 7) [go_sem, hb]; done) | (rw [hb]; simp (maxDischargeDepth := 7) [go_sem, *]; done)
      clear ha hb
      try clear hf1_0_0
      try clear hf1_0_1
      try clear hf1_1_0
      try clear hf1_1_1
      try clear hg1_0
      try clear hg1_1
      try clear hz1_1
      go_wp2_with fail
      with_reducible refine (ref_local_badq la lo la0 la1 lo0 lo1 ma mo hq' _).mono ?_
      rintro e w3 ⟨rfl, hk3⟩
      refine kuse (b := w.heap.size) hk3 (by first | (simp; done) | (simp; omega) | omega) ?_
      intro ha hb
      have hz3_0 : w.heap.size < w3.heap.size := by have := hk3.size; (try simp at this); omega
      have hn3_0 : ¬ w.heap.size = w3.heap.size := by omega
      have hm3_0 : ¬ w3.heap.size = w.heap.size := by omega
      have hf3_0_0 : w3.cell? ⟨w.heap.size, 0, none⟩ = some (.int .i64 la) := by first | (rw [ha]; with_reducible assumption) | (simp (maxDischargeDepth := 7) [go_sem, ha]; done) | (rw [ha]; assumption) | (simp (maxDischargeDepth := 7) [go_sem, ha, *]; done)
      have hf3_0_1 : w3.cell? ⟨w.heap.size, 1, none⟩ = some (.int .i64 lo) := by first | (rw [ha]; with_reducible assumption) | (simp (maxDischargeDepth := 7) [go_sem, ha]; done) | (rw [ha]; assumption) | (simp (maxDischargeDepth := 7) [go_sem, ha, *]; done)
      try have hg3_0 : ∀ o, w3.frozen? ⟨w.heap.size, o, none⟩ = false := by intro o; first | (simp (maxDischargeDepth := 7) [go_sem, hb]; done) | (rw [hb]; simp (maxDischargeDepth := 7) [go_sem, *]; done)
      clear ha hb
      refine kuse (b := w.heap.size + 1) hk3 (by first | (simp; done) | (simp; omega) | omega) ?_
      intro ha hb
      have hz3_1 : w.heap.size + 1 < w3.heap.size := by have := hk3.size; (try simp at this); omega
      have hn3_1 : ¬ w.heap.size + 1 = w3.heap.size := by omega
      have hm3_1 : ¬ w3.heap.size = w.heap.size + 1 := by omega
      have hf3_1_0 : w3.cell? ⟨w.heap.size + 1, 0, none⟩ = some (.int .i64 ma) := by first | (rw [ha]; with_reducible assumption) | (simp (maxDischargeDepth := 7) [go_sem, ha]; done) | (rw [ha]; assumption) | (simp (maxDischargeDepth := 7) [go_sem, ha, *]; done)
      have hf3_1_1 : w3.cell? ⟨w.heap.size + 1, 1, none⟩ = some (.int .i64 mo) := by first | (rw [ha]; with_reducible assumption) | (simp (maxDischargeDepth := 7) [go_sem, ha]; done) | (rw [ha]; assumption) | (simp (maxDischargeDepth := 7) [go_sem, ha, *]; done)
      try have hg3_1 : ∀ o, w3.frozen? ⟨w.heap.size + 1, o, none⟩ = false := by intro o; first | (simp (maxDischargeDepth := 7) [go_sem, hb]; done) | (rw [hb]; simp (maxDischargeDepth := 7) [go_sem, *]; done)
      clear ha hb
      refine kuse (b := w2.heap.size) hk3 (by first | (simp; done) | (simp; omega) | omega) ?_
      intro ha hb
      have hz3_2 : w2.heap.size < w3.heap.size := by have := hk3.size; (try simp at this); omega
      have hn3_2 : ¬ w2.heap.size = w3.heap.size := by omega
      have hm3_2 : ¬ w3.heap.size = w2.heap.size := by omega
      have hf3_2_0 : w3.cell? ⟨w2.heap.size, 0, none⟩ = some (.int .i64 (0)) := by first | (rw [ha]; with_reducible assumption) | (simp (maxDischargeDepth := 7) [go_sem, ha]; done) | (rw [ha]; assumption) | (simp (maxDischargeDepth := 7) [go_sem, ha, *]; done)
      have hf3_2_1 : w3.cell? ⟨w2.heap.size, 1, none⟩ = some (.int .i64 (0)) := by first | (rw [ha]; with_reducible assumption) | (simp (maxDischargeDepth := 7) [go_sem, ha]; done) | (rw [ha]; assumption) | (simp (maxDischargeDepth := 7) [go_sem, ha, *]; done)
      have hf3_2_2 : w3.cell? ⟨w2.heap.size, 2, none⟩ = some (.int .i64 (0)) := by first | (rw [ha]; with_reducible assumption) | (simp (maxDischargeDepth := 7) [go_sem, ha]; done) | (rw [ha]; assumption) | (simp (maxDischargeDepth := 7) [go_sem, ha, *]; done)
      try have hg3_2 : ∀ o, w3.frozen? ⟨w2.heap.size, o, none⟩ = false := by intro o; first | (simp (maxDischargeDepth := 7) [go_sem, hb]; done) | (rw [hb]; simp (maxDischargeDepth := 7) [go_sem, *]; done)
      clear ha hb
      try clear hf2_0_0
      try clear hf2_0_1
      try clear hf2_1_0
      try clear hf2_1_1
      try clear hg2_0
      try clear hg2_1
      try clear hz2_1
      go_wp2_with fail
      all_goals go_ret
      all_goals exact ⟨rfl, (by repeat (first | with_reducible exact Kept.refl _ | with_reducible assumption | with_reducible refine Kept.setCell ?_ (by first | (simp; done) | (simp; omega) | omega) _ | with_reducible refine Kept.alloc ?_ _ | with_reducible refine Kept.drewN ?_ _ | with_reducible refine Kept.drew ?_ | with_reducible refine Kept.trans ?_ (by with_reducible assumption) | with_reducible refine Kept.dr ?_ (by with_reducible assumption)))⟩
  · have hp' : la < -32400000 ∨ 32400000 < la ∨ lo ≤ -64800000 ∨ 64800000 < lo := by omega
    clear hp
    have eqvt : ∀ w, (Op.equalIn 10000 26 (.agg #[.int .i64 (0), .int .i64 (0), .int .i64 (0)]) (.agg #[.int .i64 (0), .int .i64 (0), .int .i64 (0)])).run Try.prog w = .ok true w := fun w => by rw [eqV]; simp
    go_enter Try.func5, Try.ntmps5
    go_wp2_with fail
    with_reducible refine (awake_w _).mono ?_
    rintro e w1 ⟨rfl, hk1⟩
    refine kuse (b := w.heap.size) hk1 (by first | (simp; done) | (simp; omega) | omega) ?_
    intro ha hb
    have hz1_0 : w.heap.size < w1.heap.size := by have := hk1.size; (try simp at this); omega
    have hn1_0 : ¬ w.heap.size = w1.heap.size := by omega
    have hm1_0 : ¬ w1.heap.size = w.heap.size := by omega
    have hf1_0_0 : w1.cell? ⟨w.heap.size, 0, none⟩ = some (.int .i64 la) := by first | (rw [ha]; with_reducible assumption) | (simp (maxDischargeDepth := 7) [go_sem, ha]; done) | (rw [ha]; assumption) | (simp (maxDischargeDepth := 7) [go_sem, ha, *]; done)
    have hf1_0_1 : w1.cell? ⟨w.heap.size, 1, none⟩ = some (.int .i64 lo) := by first | (rw [ha]; with_reducible assumption) | (simp (maxDischargeDepth := 7) [go_sem, ha]; done) | (rw [ha]; assumption) | (simp (maxDischargeDepth := 7) [go_sem, ha, *]; done)
    try have hg1_0 : ∀ o, w1.frozen? ⟨w.heap.size, o, none⟩ = false := by intro o; first | (simp (maxDischargeDepth := 7) [go_sem, hb]; done) | (rw [hb]; simp (maxDischargeDepth := 7) [go_sem, *]; done)
    clear ha hb
    refine kuse (b := w.heap.size + 1) hk1 (by first | (simp; done) | (simp; omega) | omega) ?_
    intro ha hb
    have hz1_1 : w.heap.size + 1 < w1.heap.size := by have := hk1.size; (try simp at this); omega
    have hn1_1 : ¬ w.heap.size + 1 = w1.heap.size := by omega
    have hm1_1 : ¬ w1.heap.size = w.heap.size + 1 := by omega
    have hf1_1_0 : w1.cell? ⟨w.heap.size + 1, 0, none⟩ = some (.int .i64 ma) := by first | (rw [ha]; with_reducible assumption) | (simp (maxDischargeDepth := 7) [go_sem, ha]; done) | (rw [ha]; assumption) | (simp (maxDischargeDepth := 7) [go_sem, ha, *]; done)
    have hf1_1_1 : w1.cell? ⟨w.heap.size + 1, 1, none⟩ = some (.int .i64 mo) := by first | (rw [ha]; with_reducible assumption) | (simp (maxDischargeDepth := 7) [go_sem, ha]; done) | (rw [ha]; assumption) | (simp (maxDischargeDepth := 7) [go_sem, ha, *]; done)
    try have hg1_1 : ∀ o, w1.frozen? ⟨w.heap.size + 1, o, none⟩ = false := by intro o; first | (simp (maxDischargeDepth := 7) [go_sem, hb]; done) | (rw [hb]; simp (maxDischargeDepth := 7) [go_sem, *]; done)
    clear ha hb
    go_wp2_with fail
    with_reducible refine (local_badp la lo ma mo hp' _).mono ?_
    rintro e w2 ⟨rfl, hk2⟩
    refine kuse (b := w.heap.size) hk2 (by first | (simp; done) | (simp; omega) | omega) ?_
    intro ha hb
    have hz2_0 : w.heap.size < w2.heap.size := by have := hk2.size; (try simp at this); omega
    have hn2_0 : ¬ w.heap.size = w2.heap.size := by omega
    have hm2_0 : ¬ w2.heap.size = w.heap.size := by omega
    have hf2_0_0 : w2.cell? ⟨w.heap.size, 0, none⟩ = some (.int .i64 la) := by first | (rw [ha]; with_reducible assumption) | (simp (maxDischargeDepth := 7) [go_sem, ha]; done) | (rw [ha]; assumption) | (simp (maxDischargeDepth := 7) [go_sem, ha, *]; done)
    have hf2_0_1 : w2.cell? ⟨w.heap.size, 1, none⟩ = some (.int .i64 lo) := by first | (rw [ha]; with_reducible assumption) | (simp (maxDischargeDepth := 7) [go_sem, ha]; done) | (rw [ha]; assumption) | (simp (maxDischargeDepth := 7) [go_sem, ha, *]; done)
    try have hg2_0 : ∀ o, w2.frozen? ⟨w.heap.size, o, none⟩ = false := by intro o; first | (simp (maxDischargeDepth := 7) [go_sem, hb]; done) | (rw [hb]; simp (maxDischargeDepth := 7) [go_sem, *]; done)
    clear ha hb
    refine kuse (b := w.heap.size + 1) hk2 (by first | (simp; done) | (simp; omega) | omega) ?_
    intro ha hb
    have hz2_1 : w.heap.size + 1 < w2.heap.size := by have := hk2.size; (try simp at this); omega
    have hn2_1 : ¬ w.heap.size + 1 = w2.heap.size := by omega
    have hm2_1 : ¬ w2.heap.size = w.heap.size + 1 := by omega
    have hf2_1_0 : w2.cell? ⟨w.heap.size + 1, 0, none⟩ = some (.int .i64 ma) := by first | (rw [ha]; with_reducible assumption) | (simp (maxDischargeDepth := 7) [go_sem, ha]; done) | (rw [ha]; assumption) | (simp (maxDischargeDepth := 7) [go_sem, ha, *]; done)
    have hf2_1_1 : w2.cell? ⟨w.heap.size + 1, 1, none⟩ = some (.int .i64 mo) := by first | (rw [ha]; with_reducible assumption) | (simp (maxDischargeDepth := 7) [go_sem, ha]; done) | (rw [ha]; assumption) | (simp (maxDischargeDepth := 7) [go_sem, ha, *]; done)
    try have hg2_1 : ∀ o, w2.frozen? ⟨w.heap.size + 1, o, none⟩ = false := by intro o; first | (simp (maxDischargeDepth := 7) [go_sem, hb]; done) | (rw [hb]; simp (maxDischargeDepth := 7) [go_sem, *]; done)
    clear ha hb
    try clear hf1_0_0
    try clear hf1_0_1
    try clear hf1_1_0
    try clear hf1_1_1
    try clear hg1_0
    try clear hg1_1
    try clear hz1_1
    go_wp2_with fail
    with_reducible refine (ref_local_badp la lo ma mo hp' _).mono ?_
    rintro e w3 ⟨rfl, hk3⟩
    refine kuse (b := w.heap.size) hk3 (by first | (simp; done) | (simp; omega) | omega) ?_
    intro ha hb
    have hz3_0 : w.heap.size < w3.heap.size := by have := hk3.size; (try simp at this); omega
    have hn3_0 : ¬ w.heap.size = w3.heap.size := by omega
    have hm3_0 : ¬ w3.heap.size = w.heap.size := by omega
    have hf3_0_0 : w3.cell? ⟨w.heap.size, 0, none⟩ = some (.int .i64 la) := by first | (rw [ha]; with_reducible assumption) | (simp (maxDischargeDepth := 7) [go_sem, ha]; done) | (rw [ha]; assumption) | (simp (maxDischargeDepth := 7) [go_sem, ha, *]; done)
    have hf3_0_1 : w3.cell? ⟨w.heap.size, 1, none⟩ = some (.int .i64 lo) := by first | (rw [ha]; with_reducible assumption) | (simp (maxDischargeDepth := 7) [go_sem, ha]; done) | (rw [ha]; assumption) | (simp (maxDischargeDepth := 7) [go_sem, ha, *]; done)
    try have hg3_0 : ∀ o, w3.frozen? ⟨w.heap.size, o, none⟩ = false := by intro o; first | (simp (maxDischargeDepth := 7) [go_sem, hb]; done) | (rw [hb]; simp (maxDischargeDepth := 7) [go_sem, *]; done)
    clear ha hb
    refine kuse (b := w.heap.size + 1) hk3 (by first | (simp; done) | (simp; omega) | omega) ?_
    intro ha hb
    have hz3_1 : w.heap.size + 1 < w3.heap.size := by have := hk3.size; (try simp at this); omega
    have hn3_1 : ¬ w.heap.size + 1 = w3.heap.size := by omega
    have hm3_1 : ¬ w3.heap.size = w.heap.size + 1 := by omega
    have hf3_1_0 : w3.cell? ⟨w.heap.size + 1, 0, none⟩ = some (.int .i64 ma) := by first | (rw [ha]; with_reducible assumption) | (simp (maxDischargeDepth := 7) [go_sem, ha]; done) | (rw [ha]; assumption) | (simp (maxDischargeDepth := 7) [go_sem, ha, *]; done)
    have hf3_1_1 : w3.cell? ⟨w.heap.size + 1, 1, none⟩ = some (.int .i64 mo) := by first | (rw [ha]; with_reducible assumption) | (simp (maxDischargeDepth := 7) [go_sem, ha]; done) | (rw [ha]; assumption) | (simp (maxDischargeDepth := 7) [go_sem, ha, *]; done)
    try have hg3_1 : ∀ o, w3.frozen? ⟨w.heap.size + 1, o, none⟩ = false := by intro o; first | (simp (maxDischargeDepth := 7) [go_sem, hb]; done) | (rw [hb]; simp (maxDischargeDepth := 7) [go_sem, *]; done)
    clear ha hb
    refine kuse (b := w2.heap.size) hk3 (by first | (simp; done) | (simp; omega) | omega) ?_
    intro ha hb
    have hz3_2 : w2.heap.size < w3.heap.size := by have := hk3.size; (try simp at this); omega
    have hn3_2 : ¬ w2.heap.size = w3.heap.size := by omega
    have hm3_2 : ¬ w3.heap.size = w2.heap.size := by omega
    have hf3_2_0 : w3.cell? ⟨w2.heap.size, 0, none⟩ = some (.int .i64 (0)) := by first | (rw [ha]; with_reducible assumption) | (simp (maxDischargeDepth := 7) [go_sem, ha]; done) | (rw [ha]; assumption) | (simp (maxDischargeDepth := 7) [go_sem, ha, *]; done)
    have hf3_2_1 : w3.cell? ⟨w2.heap.size, 1, none⟩ = some (.int .i64 (0)) := by first | (rw [ha]; with_reducible assumption) | (simp (maxDischargeDepth := 7) [go_sem, ha]; done) | (rw [ha]; assumption) | (simp (maxDischargeDepth := 7) [go_sem, ha, *]; done)
    have hf3_2_2 : w3.cell? ⟨w2.heap.size, 2, none⟩ = some (.int .i64 (0)) := by first | (rw [ha]; with_reducible assumption) | (simp (maxDischargeDepth := 7) [go_sem, ha]; done) | (rw [ha]; assumption) | (simp (maxDischargeDepth := 7) [go_sem, ha, *]; done)
    try have hg3_2 : ∀ o, w3.frozen? ⟨w2.heap.size, o, none⟩ = false := by intro o; first | (simp (maxDischargeDepth := 7) [go_sem, hb]; done) | (rw [hb]; simp (maxDischargeDepth := 7) [go_sem, *]; done)
    clear ha hb
    try clear hf2_0_0
    try clear hf2_0_1
    try clear hf2_1_0
    try clear hf2_1_1
    try clear hg2_0
    try clear hg2_1
    try clear hz2_1
    go_wp2_with fail
    all_goals go_ret
    all_goals exact ⟨rfl, (by repeat (first | with_reducible exact Kept.refl _ | with_reducible assumption | with_reducible refine Kept.setCell ?_ (by first | (simp; done) | (simp; omega) | omega) _ | with_reducible refine Kept.alloc ?_ _ | with_reducible refine Kept.drewN ?_ _ | with_reducible refine Kept.drew ?_ | with_reducible refine Kept.trans ?_ (by with_reducible assumption) | with_reducible refine Kept.dr ?_ (by with_reducible assumption)))⟩

end Go.Proofs.Ytjnodchmamlcpaa
