/-
  The law that operations keep inclusions: walks.
-/
import Derived.Test.YtinpmooihjdbgaaIntr
import Derived.Test.YtinpmooihjdbgaaIntn
import Derived.WalkKit
import Derived.ProofKit
import Derived.OpenShut
import Derived.WalkLawsBesides
import Derived.WalkSpells
import Derived.Lib.Hide
import Derived.Deep.DeepCutAuto
import Derived.Deep.CutBlock
import Derived.Deep.QuietTactic
import Derived.BigQuiet
import Derived.Handy
import Derived.StillTailTactics
import Derived.IntWalk
import Derived.LoopN
import Derived.Deep.RegionHeld3
namespace Go.Proofs.Ytinpmooihjdbgaa
open Go.ChangeShapes Go.WideShapes Go.ChangeAt Go.RowKit
set_option linter.unusedVariables false
set_option linter.unusedSimpArgs false

set_option maxHeartbeats 8000000 in
set_option maxRecDepth 100000 in
theorem nests_4 (a b c d p q : Int) (x1 : a ≤ b) (x2 : -4611686018427387904 ≤ a) (x3 : b ≤ 4611686018427387904) (y1 : c ≤ d) (y2 : -4611686018427387904 ≤ c) (y3 : d ≤ 4611686018427387904) (z1 : p ≤ q) (z2 : -4611686018427387904 ≤ p) (z3 : q ≤ 4611686018427387904) (k1 : a ≤ q) (k2 : p ≤ b) (h1 : c ≤ 0) (h2 : 0 ≤ d) (w : World) : Calls Try.prog 11 #[.agg #[.int .i64 a, .int .i64 b], .agg #[.int .i64 c, .int .i64 d], .agg #[.int .i64 p, .int .i64 q]] w fun en w' => en = .returned (.bool true) ∧ Kept w w' := by
  have cw := imeet_ok a b p q x1 x2 x3 z1 z2 z3 k1 k2
  have hm : a ≤ max a p ∧ p ≤ max a p ∧ max a p ≤ min b q ∧ min b q ≤ b ∧ min b q ≤ q := by omega
  generalize max a p = m at cw hm
  generalize min b q = k at cw hm
  obtain ⟨m1, m2, m3, m4, m5⟩ := hm
  have cv1 := iwithin_yes m k a b m3 (by omega) (by omega) x1 x2 x3 m1 m4
  have cv2 := iwithin_yes m k p q m3 (by omega) (by omega) z1 z2 z3 m2 m5
  obtain ⟨ml, mg, me, hm1, cm1⟩ := imul_x m k c d m3 (by omega) (by omega) y1 y2 y3
  obtain ⟨nl, ng, ne, hm2, cm2⟩ := imul_x a b c d x1 x2 x3 y1 y2 y3
  have kmm : (ne = 0 ∧ me = 0 ∧ -4611686018427387904 ≤ nl ∧ nl ≤ ml ∧ ml ≤ mg ∧ mg ≤ ng ∧ ng ≤ 4611686018427387904) ∨ (ne = 2) := by
    have g1 := corner (u := m) (v := c) m1 (by omega) (show c ≤ c by omega) y1
    have g2 := corner (u := m) (v := d) m1 (by omega) y1 (show d ≤ d by omega)
    have g3 := corner (u := k) (v := c) (show a ≤ k by omega) m4 (show c ≤ c by omega) y1
    have g4 := corner (u := k) (v := d) (show a ≤ k by omega) m4 y1 (show d ≤ d by omega)
    rcases hm2 with h | h
    · rcases hm1 with h2 | h2
      · left; omega
      · exfalso; omega
    · right; omega
  clear hm1 hm2
  obtain ⟨sl, sg, se, hs1, cs1⟩ := isub_x c d m k y1 y2 y3 m3 (by omega) (by omega)
  obtain ⟨tl, tg, te, hs2, cs2⟩ := isub_x c d a b y1 y2 y3 x1 x2 x3
  have kss : (te = 0 ∧ se = 0 ∧ -4611686018427387904 ≤ tl ∧ tl ≤ sl ∧ sl ≤ sg ∧ sg ≤ tg ∧ tg ≤ 4611686018427387904) ∨ (te = 2) := by omega
  clear hs1 hs2
  have cq1 := iquo_arg m k c d (by omega)
  have cq2 := iquo_arg a b c d (by omega)
  go_enter Try.func11, Try.ntmps11
  go_wp2_with fail
  with_reducible refine (awake_w _).mono ?_
  rintro e w1 ⟨rfl, hk1⟩
  refine kuse (b := w.heap.size) hk1 (by first | (simp; done) | (simp; omega) | omega) ?_
  intro ha hb
  have hz1_0 : w.heap.size < w1.heap.size := by have := hk1.size; (try simp at this); omega
  have hn1_0 : ¬ w.heap.size = w1.heap.size := by omega
  have hm1_0 : ¬ w1.heap.size = w.heap.size := by omega
  have hf1_0_0 : w1.cell? ⟨w.heap.size, 0, none⟩ = some (.int .i64 a) := by first | (rw [ha]; with_reducible assumption) | (simp (maxDischargeDepth := 7) [go_sem, ha]; done) | (rw [ha]; assumption) | (simp (maxDischargeDepth := 7) [go_sem, ha, *]; done)
  have hf1_0_1 : w1.cell? ⟨w.heap.size, 1, none⟩ = some (.int .i64 b) := by first | (rw [ha]; with_reducible assumption) | (simp (maxDischargeDepth := 7) [go_sem, ha]; done) | (rw [ha]; assumption) | (simp (maxDischargeDepth := 7) [go_sem, ha, *]; done)
  try have hg1_0 : ∀ o, w1.frozen? ⟨w.heap.size, o, none⟩ = false := by intro o; first | (simp (maxDischargeDepth := 7) [go_sem, hb]; done) | (rw [hb]; simp (maxDischargeDepth := 7) [go_sem, *]; done)
  clear ha hb
  refine kuse (b := w.heap.size + 1) hk1 (by first | (simp; done) | (simp; omega) | omega) ?_
  intro ha hb
  have hz1_1 : w.heap.size + 1 < w1.heap.size := by have := hk1.size; (try simp at this); omega
  have hn1_1 : ¬ w.heap.size + 1 = w1.heap.size := by omega
  have hm1_1 : ¬ w1.heap.size = w.heap.size + 1 := by omega
  have hf1_1_0 : w1.cell? ⟨w.heap.size + 1, 0, none⟩ = some (.int .i64 c) := by first | (rw [ha]; with_reducible assumption) | (simp (maxDischargeDepth := 7) [go_sem, ha]; done) | (rw [ha]; assumption) | (simp (maxDischargeDepth := 7) [go_sem, ha, *]; done)
  have hf1_1_1 : w1.cell? ⟨w.heap.size + 1, 1, none⟩ = some (.int .i64 d) := by first | (rw [ha]; with_reducible assumption) | (simp (maxDischargeDepth := 7) [go_sem, ha]; done) | (rw [ha]; assumption) | (simp (maxDischargeDepth := 7) [go_sem, ha, *]; done)
  try have hg1_1 : ∀ o, w1.frozen? ⟨w.heap.size + 1, o, none⟩ = false := by intro o; first | (simp (maxDischargeDepth := 7) [go_sem, hb]; done) | (rw [hb]; simp (maxDischargeDepth := 7) [go_sem, *]; done)
  clear ha hb
  refine kuse (b := w.heap.size + 1 + 1) hk1 (by first | (simp; done) | (simp; omega) | omega) ?_
  intro ha hb
  have hz1_2 : w.heap.size + 1 + 1 < w1.heap.size := by have := hk1.size; (try simp at this); omega
  have hn1_2 : ¬ w.heap.size + 1 + 1 = w1.heap.size := by omega
  have hm1_2 : ¬ w1.heap.size = w.heap.size + 1 + 1 := by omega
  have hf1_2_0 : w1.cell? ⟨w.heap.size + 1 + 1, 0, none⟩ = some (.int .i64 p) := by first | (rw [ha]; with_reducible assumption) | (simp (maxDischargeDepth := 7) [go_sem, ha]; done) | (rw [ha]; assumption) | (simp (maxDischargeDepth := 7) [go_sem, ha, *]; done)
  have hf1_2_1 : w1.cell? ⟨w.heap.size + 1 + 1, 1, none⟩ = some (.int .i64 q) := by first | (rw [ha]; with_reducible assumption) | (simp (maxDischargeDepth := 7) [go_sem, ha]; done) | (rw [ha]; assumption) | (simp (maxDischargeDepth := 7) [go_sem, ha, *]; done)
  try have hg1_2 : ∀ o, w1.frozen? ⟨w.heap.size + 1 + 1, o, none⟩ = false := by intro o; first | (simp (maxDischargeDepth := 7) [go_sem, hb]; done) | (rw [hb]; simp (maxDischargeDepth := 7) [go_sem, *]; done)
  clear ha hb
  go_wp2_with fail
  with_reducible refine (cw _).mono ?_
  rintro e w2 ⟨rfl, hk2⟩
  refine kuse (b := w.heap.size) hk2 (by first | (simp; done) | (simp; omega) | omega) ?_
  intro ha hb
  have hz2_0 : w.heap.size < w2.heap.size := by have := hk2.size; (try simp at this); omega
  have hn2_0 : ¬ w.heap.size = w2.heap.size := by omega
  have hm2_0 : ¬ w2.heap.size = w.heap.size := by omega
  have hf2_0_0 : w2.cell? ⟨w.heap.size, 0, none⟩ = some (.int .i64 a) := by first | (rw [ha]; with_reducible assumption) | (simp (maxDischargeDepth := 7) [go_sem, ha]; done) | (rw [ha]; assumption) | (simp (maxDischargeDepth := 7) [go_sem, ha, *]; done)
  have hf2_0_1 : w2.cell? ⟨w.heap.size, 1, none⟩ = some (.int .i64 b) := by first | (rw [ha]; with_reducible assumption) | (simp (maxDischargeDepth := 7) [go_sem, ha]; done) | (rw [ha]; assumption) | (simp (maxDischargeDepth := 7) [go_sem, ha, *]; done)
  try have hg2_0 : ∀ o, w2.frozen? ⟨w.heap.size, o, none⟩ = false := by intro o; first | (simp (maxDischargeDepth := 7) [go_sem, hb]; done) | (rw [hb]; simp (maxDischargeDepth := 7) [go_sem, *]; done)
  clear ha hb
  refine kuse (b := w.heap.size + 1) hk2 (by first | (simp; done) | (simp; omega) | omega) ?_
  intro ha hb
  have hz2_1 : w.heap.size + 1 < w2.heap.size := by have := hk2.size; (try simp at this); omega
  have hn2_1 : ¬ w.heap.size + 1 = w2.heap.size := by omega
  have hm2_1 : ¬ w2.heap.size = w.heap.size + 1 := by omega
  have hf2_1_0 : w2.cell? ⟨w.heap.size + 1, 0, none⟩ = some (.int .i64 c) := by first | (rw [ha]; with_reducible assumption) | (simp (maxDischargeDepth := 7) [go_sem, ha]; done) | (rw [ha]; assumption) | (simp (maxDischargeDepth := 7) [go_sem, ha, *]; done)
  have hf2_1_1 : w2.cell? ⟨w.heap.size + 1, 1, none⟩ = some (.int .i64 d) := by first | (rw [ha]; with_reducible assumption) | (simp (maxDischargeDepth := 7) [go_sem, ha]; done) | (rw [ha]; assumption) | (simp (maxDischargeDepth := 7) [go_sem, ha, *]; done)
  try have hg2_1 : ∀ o, w2.frozen? ⟨w.heap.size + 1, o, none⟩ = false := by intro o; first | (simp (maxDischargeDepth := 7) [go_sem, hb]; done) | (rw [hb]; simp (maxDischargeDepth := 7) [go_sem, *]; done)
  clear ha hb
  refine kuse (b := w.heap.size + 1 + 1) hk2 (by first | (simp; done) | (simp; omega) | omega) ?_
  intro ha hb
  have hz2_2 : w.heap.size + 1 + 1 < w2.heap.size := by have := hk2.size; (try simp at this); omega
  have hn2_2 : ¬ w.heap.size + 1 + 1 = w2.heap.size := by omega
  have hm2_2 : ¬ w2.heap.size = w.heap.size + 1 + 1 := by omega
  have hf2_2_0 : w2.cell? ⟨w.heap.size + 1 + 1, 0, none⟩ = some (.int .i64 p) := by first | (rw [ha]; with_reducible assumption) | (simp (maxDischargeDepth := 7) [go_sem, ha]; done) | (rw [ha]; assumption) | (simp (maxDischargeDepth := 7) [go_sem, ha, *]; done)
  have hf2_2_1 : w2.cell? ⟨w.heap.size + 1 + 1, 1, none⟩ = some (.int .i64 q) := by first | (rw [ha]; with_reducible assumption) | (simp (maxDischargeDepth := 7) [go_sem, ha]; done) | (rw [ha]; assumption) | (simp (maxDischargeDepth := 7) [go_sem, ha, *]; done)
  try have hg2_2 : ∀ o, w2.frozen? ⟨w.heap.size + 1 + 1, o, none⟩ = false := by intro o; first | (simp (maxDischargeDepth := 7) [go_sem, hb]; done) | (rw [hb]; simp (maxDischargeDepth := 7) [go_sem, *]; done)
  clear ha hb
  try clear hf1_0_0
  try clear hf1_0_1
  try clear hf1_1_0
  try clear hf1_1_1
  try clear hf1_2_0
  try clear hf1_2_1
  try clear hg1_0
  try clear hg1_1
  try clear hg1_2
  try clear hn1_0
  try clear hn1_1
  try clear hn1_2
  try clear hm1_0
  try clear hm1_1
  try clear hm1_2
  try clear hz1_1
  try clear hz1_2
  go_wp2_with fail
  with_reducible refine (cv1 _).mono ?_
  rintro e w3 ⟨rfl, hk3⟩
  refine kuse (b := w.heap.size) hk3 (by first | (simp; done) | (simp; omega) | omega) ?_
  intro ha hb
  have hz3_0 : w.heap.size < w3.heap.size := by have := hk3.size; (try simp at this); omega
  have hn3_0 : ¬ w.heap.size = w3.heap.size := by omega
  have hm3_0 : ¬ w3.heap.size = w.heap.size := by omega
  have hf3_0_0 : w3.cell? ⟨w.heap.size, 0, none⟩ = some (.int .i64 a) := by first | (rw [ha]; with_reducible assumption) | (simp (maxDischargeDepth := 7) [go_sem, ha]; done) | (rw [ha]; assumption) | (simp (maxDischargeDepth := 7) [go_sem, ha, *]; done)
  have hf3_0_1 : w3.cell? ⟨w.heap.size, 1, none⟩ = some (.int .i64 b) := by first | (rw [ha]; with_reducible assumption) | (simp (maxDischargeDepth := 7) [go_sem, ha]; done) | (rw [ha]; assumption) | (simp (maxDischargeDepth := 7) [go_sem, ha, *]; done)
  try have hg3_0 : ∀ o, w3.frozen? ⟨w.heap.size, o, none⟩ = false := by intro o; first | (simp (maxDischargeDepth := 7) [go_sem, hb]; done) | (rw [hb]; simp (maxDischargeDepth := 7) [go_sem, *]; done)
  clear ha hb
  refine kuse (b := w.heap.size + 1) hk3 (by first | (simp; done) | (simp; omega) | omega) ?_
  intro ha hb
  have hz3_1 : w.heap.size + 1 < w3.heap.size := by have := hk3.size; (try simp at this); omega
  have hn3_1 : ¬ w.heap.size + 1 = w3.heap.size := by omega
  have hm3_1 : ¬ w3.heap.size = w.heap.size + 1 := by omega
  have hf3_1_0 : w3.cell? ⟨w.heap.size + 1, 0, none⟩ = some (.int .i64 c) := by first | (rw [ha]; with_reducible assumption) | (simp (maxDischargeDepth := 7) [go_sem, ha]; done) | (rw [ha]; assumption) | (simp (maxDischargeDepth := 7) [go_sem, ha, *]; done)
  have hf3_1_1 : w3.cell? ⟨w.heap.size + 1, 1, none⟩ = some (.int .i64 d) := by first | (rw [ha]; with_reducible assumption) | (simp (maxDischargeDepth := 7) [go_sem, ha]; done) | (rw [ha]; assumption) | (simp (maxDischargeDepth := 7) [go_sem, ha, *]; done)
  try have hg3_1 : ∀ o, w3.frozen? ⟨w.heap.size + 1, o, none⟩ = false := by intro o; first | (simp (maxDischargeDepth := 7) [go_sem, hb]; done) | (rw [hb]; simp (maxDischargeDepth := 7) [go_sem, *]; done)
  clear ha hb
  refine kuse (b := w.heap.size + 1 + 1) hk3 (by first | (simp; done) | (simp; omega) | omega) ?_
  intro ha hb
  have hz3_2 : w.heap.size + 1 + 1 < w3.heap.size := by have := hk3.size; (try simp at this); omega
  have hn3_2 : ¬ w.heap.size + 1 + 1 = w3.heap.size := by omega
  have hm3_2 : ¬ w3.heap.size = w.heap.size + 1 + 1 := by omega
  have hf3_2_0 : w3.cell? ⟨w.heap.size + 1 + 1, 0, none⟩ = some (.int .i64 p) := by first | (rw [ha]; with_reducible assumption) | (simp (maxDischargeDepth := 7) [go_sem, ha]; done) | (rw [ha]; assumption) | (simp (maxDischargeDepth := 7) [go_sem, ha, *]; done)
  have hf3_2_1 : w3.cell? ⟨w.heap.size + 1 + 1, 1, none⟩ = some (.int .i64 q) := by first | (rw [ha]; with_reducible assumption) | (simp (maxDischargeDepth := 7) [go_sem, ha]; done) | (rw [ha]; assumption) | (simp (maxDischargeDepth := 7) [go_sem, ha, *]; done)
  try have hg3_2 : ∀ o, w3.frozen? ⟨w.heap.size + 1 + 1, o, none⟩ = false := by intro o; first | (simp (maxDischargeDepth := 7) [go_sem, hb]; done) | (rw [hb]; simp (maxDischargeDepth := 7) [go_sem, *]; done)
  clear ha hb
  refine kuse (b := w2.heap.size) hk3 (by first | (simp; done) | (simp; omega) | omega) ?_
  intro ha hb
  have hz3_3 : w2.heap.size < w3.heap.size := by have := hk3.size; (try simp at this); omega
  have hn3_3 : ¬ w2.heap.size = w3.heap.size := by omega
  have hm3_3 : ¬ w3.heap.size = w2.heap.size := by omega
  have hf3_3_0 : w3.cell? ⟨w2.heap.size, 0, none⟩ = some (.int .i64 m) := by first | (rw [ha]; with_reducible assumption) | (simp (maxDischargeDepth := 7) [go_sem, ha]; done) | (rw [ha]; assumption) | (simp (maxDischargeDepth := 7) [go_sem, ha, *]; done)
  have hf3_3_1 : w3.cell? ⟨w2.heap.size, 1, none⟩ = some (.int .i64 k) := by first | (rw [ha]; with_reducible assumption) | (simp (maxDischargeDepth := 7) [go_sem, ha]; done) | (rw [ha]; assumption) | (simp (maxDischargeDepth := 7) [go_sem, ha, *]; done)
  try have hg3_3 : ∀ o, w3.frozen? ⟨w2.heap.size, o, none⟩ = false := by intro o; first | (simp (maxDischargeDepth := 7) [go_sem, hb]; done) | (rw [hb]; simp (maxDischargeDepth := 7) [go_sem, *]; done)
  clear ha hb
  try clear hf2_0_0
  try clear hf2_0_1
  try clear hf2_1_0
  try clear hf2_1_1
  try clear hf2_2_0
  try clear hf2_2_1
  try clear hg2_0
  try clear hg2_1
  try clear hg2_2
  try clear hz2_1
  try clear hz2_2
  go_wp2_with fail
  with_reducible refine (cv2 _).mono ?_
  rintro e w4 ⟨rfl, hk4⟩
  refine kuse (b := w.heap.size) hk4 (by first | (simp; done) | (simp; omega) | omega) ?_
  intro ha hb
  have hz4_0 : w.heap.size < w4.heap.size := by have := hk4.size; (try simp at this); omega
  have hn4_0 : ¬ w.heap.size = w4.heap.size := by omega
  have hm4_0 : ¬ w4.heap.size = w.heap.size := by omega
  have hf4_0_0 : w4.cell? ⟨w.heap.size, 0, none⟩ = some (.int .i64 a) := by first | (rw [ha]; with_reducible assumption) | (simp (maxDischargeDepth := 7) [go_sem, ha]; done) | (rw [ha]; assumption) | (simp (maxDischargeDepth := 7) [go_sem, ha, *]; done)
  have hf4_0_1 : w4.cell? ⟨w.heap.size, 1, none⟩ = some (.int .i64 b) := by first | (rw [ha]; with_reducible assumption) | (simp (maxDischargeDepth := 7) [go_sem, ha]; done) | (rw [ha]; assumption) | (simp (maxDischargeDepth := 7) [go_sem, ha, *]; done)
  try have hg4_0 : ∀ o, w4.frozen? ⟨w.heap.size, o, none⟩ = false := by intro o; first | (simp (maxDischargeDepth := 7) [go_sem, hb]; done) | (rw [hb]; simp (maxDischargeDepth := 7) [go_sem, *]; done)
  clear ha hb
  refine kuse (b := w.heap.size + 1) hk4 (by first | (simp; done) | (simp; omega) | omega) ?_
  intro ha hb
  have hz4_1 : w.heap.size + 1 < w4.heap.size := by have := hk4.size; (try simp at this); omega
  have hn4_1 : ¬ w.heap.size + 1 = w4.heap.size := by omega
  have hm4_1 : ¬ w4.heap.size = w.heap.size + 1 := by omega
  have hf4_1_0 : w4.cell? ⟨w.heap.size + 1, 0, none⟩ = some (.int .i64 c) := by first | (rw [ha]; with_reducible assumption) | (simp (maxDischargeDepth := 7) [go_sem, ha]; done) | (rw [ha]; assumption) | (simp (maxDischargeDepth := 7) [go_sem, ha, *]; done)
  have hf4_1_1 : w4.cell? ⟨w.heap.size + 1, 1, none⟩ = some (.int .i64 d) := by first | (rw [ha]; with_reducible assumption) | (simp (maxDischargeDepth := 7) [go_sem, ha]; done) | (rw [ha]; assumption) | (simp (maxDischargeDepth := 7) [go_sem, ha, *]; done)
  try have hg4_1 : ∀ o, w4.frozen? ⟨w.heap.size + 1, o, none⟩ = false := by intro o; first | (simp (maxDischargeDepth := 7) [go_sem, hb]; done) | (rw [hb]; simp (maxDischargeDepth := 7) [go_sem, *]; done)
  clear ha hb
  refine kuse (b := w2.heap.size) hk4 (by first | (simp; done) | (simp; omega) | omega) ?_
  intro ha hb
  have hz4_2 : w2.heap.size < w4.heap.size := by have := hk4.size; (try simp at this); omega
  have hn4_2 : ¬ w2.heap.size = w4.heap.size := by omega
  have hm4_2 : ¬ w4.heap.size = w2.heap.size := by omega
  have hf4_2_0 : w4.cell? ⟨w2.heap.size, 0, none⟩ = some (.int .i64 m) := by first | (rw [ha]; with_reducible assumption) | (simp (maxDischargeDepth := 7) [go_sem, ha]; done) | (rw [ha]; assumption) | (simp (maxDischargeDepth := 7) [go_sem, ha, *]; done)
  have hf4_2_1 : w4.cell? ⟨w2.heap.size, 1, none⟩ = some (.int .i64 k) := by first | (rw [ha]; with_reducible assumption) | (simp (maxDischargeDepth := 7) [go_sem, ha]; done) | (rw [ha]; assumption) | (simp (maxDischargeDepth := 7) [go_sem, ha, *]; done)
  try have hg4_2 : ∀ o, w4.frozen? ⟨w2.heap.size, o, none⟩ = false := by intro o; first | (simp (maxDischargeDepth := 7) [go_sem, hb]; done) | (rw [hb]; simp (maxDischargeDepth := 7) [go_sem, *]; done)
  clear ha hb
  try clear hf3_0_0
  try clear hf3_0_1
  try clear hf3_1_0
  try clear hf3_1_1
  try clear hf3_2_0
  try clear hf3_2_1
  try clear hf3_3_0
  try clear hf3_3_1
  try clear hg3_0
  try clear hg3_1
  try clear hg3_2
  try clear hg3_3
  try clear hn3_0
  try clear hn3_1
  try clear hn3_2
  try clear hn3_3
  try clear hm3_0
  try clear hm3_1
  try clear hm3_2
  try clear hm3_3
  try clear hz3_1
  try clear hz3_2
  try clear hz3_3
  go_wp2_with fail
  with_reducible refine (cm1 _).mono ?_
  rintro e w5 ⟨rfl, hk5⟩
  refine kuse (b := w.heap.size) hk5 (by first | (simp; done) | (simp; omega) | omega) ?_
  intro ha hb
  have hz5_0 : w.heap.size < w5.heap.size := by have := hk5.size; (try simp at this); omega
  have hn5_0 : ¬ w.heap.size = w5.heap.size := by omega
  have hm5_0 : ¬ w5.heap.size = w.heap.size := by omega
  have hf5_0_0 : w5.cell? ⟨w.heap.size, 0, none⟩ = some (.int .i64 a) := by first | (rw [ha]; with_reducible assumption) | (simp (maxDischargeDepth := 7) [go_sem, ha]; done) | (rw [ha]; assumption) | (simp (maxDischargeDepth := 7) [go_sem, ha, *]; done)
  have hf5_0_1 : w5.cell? ⟨w.heap.size, 1, none⟩ = some (.int .i64 b) := by first | (rw [ha]; with_reducible assumption) | (simp (maxDischargeDepth := 7) [go_sem, ha]; done) | (rw [ha]; assumption) | (simp (maxDischargeDepth := 7) [go_sem, ha, *]; done)
  try have hg5_0 : ∀ o, w5.frozen? ⟨w.heap.size, o, none⟩ = false := by intro o; first | (simp (maxDischargeDepth := 7) [go_sem, hb]; done) | (rw [hb]; simp (maxDischargeDepth := 7) [go_sem, *]; done)
  clear ha hb
  refine kuse (b := w.heap.size + 1) hk5 (by first | (simp; done) | (simp; omega) | omega) ?_
  intro ha hb
  have hz5_1 : w.heap.size + 1 < w5.heap.size := by have := hk5.size; (try simp at this); omega
  have hn5_1 : ¬ w.heap.size + 1 = w5.heap.size := by omega
  have hm5_1 : ¬ w5.heap.size = w.heap.size + 1 := by omega
  have hf5_1_0 : w5.cell? ⟨w.heap.size + 1, 0, none⟩ = some (.int .i64 c) := by first | (rw [ha]; with_reducible assumption) | (simp (maxDischargeDepth := 7) [go_sem, ha]; done) | (rw [ha]; assumption) | (simp (maxDischargeDepth := 7) [go_sem, ha, *]; done)
  have hf5_1_1 : w5.cell? ⟨w.heap.size + 1, 1, none⟩ = some (.int .i64 d) := by first | (rw [ha]; with_reducible assumption) | (simp (maxDischargeDepth := 7) [go_sem, ha]; done) | (rw [ha]; assumption) | (simp (maxDischargeDepth := 7) [go_sem, ha, *]; done)
  try have hg5_1 : ∀ o, w5.frozen? ⟨w.heap.size + 1, o, none⟩ = false := by intro o; first | (simp (maxDischargeDepth := 7) [go_sem, hb]; done) | (rw [hb]; simp (maxDischargeDepth := 7) [go_sem, *]; done)
  clear ha hb
  refine kuse (b := w2.heap.size) hk5 (by first | (simp; done) | (simp; omega) | omega) ?_
  intro ha hb
  have hz5_2 : w2.heap.size < w5.heap.size := by have := hk5.size; (try simp at this); omega
  have hn5_2 : ¬ w2.heap.size = w5.heap.size := by omega
  have hm5_2 : ¬ w5.heap.size = w2.heap.size := by omega
  have hf5_2_0 : w5.cell? ⟨w2.heap.size, 0, none⟩ = some (.int .i64 m) := by first | (rw [ha]; with_reducible assumption) | (simp (maxDischargeDepth := 7) [go_sem, ha]; done) | (rw [ha]; assumption) | (simp (maxDischargeDepth := 7) [go_sem, ha, *]; done)
  have hf5_2_1 : w5.cell? ⟨w2.heap.size, 1, none⟩ = some (.int .i64 k) := by first | (rw [ha]; with_reducible assumption) | (simp (maxDischargeDepth := 7) [go_sem, ha]; done) | (rw [ha]; assumption) | (simp (maxDischargeDepth := 7) [go_sem, ha, *]; done)
  try have hg5_2 : ∀ o, w5.frozen? ⟨w2.heap.size, o, none⟩ = false := by intro o; first | (simp (maxDischargeDepth := 7) [go_sem, hb]; done) | (rw [hb]; simp (maxDischargeDepth := 7) [go_sem, *]; done)
  clear ha hb
  try clear hf4_0_0
  try clear hf4_0_1
  try clear hf4_1_0
  try clear hf4_1_1
  try clear hf4_2_0
  try clear hf4_2_1
  try clear hg4_0
  try clear hg4_1
  try clear hg4_2
  try clear hn4_0
  try clear hn4_1
  try clear hn4_2
  try clear hm4_0
  try clear hm4_1
  try clear hm4_2
  try clear hz4_1
  try clear hz4_2
  go_wp2_with fail
  with_reducible refine (cm2 _).mono ?_
  rintro e w6 ⟨rfl, hk6⟩
  refine kuse (b := w.heap.size) hk6 (by first | (simp; done) | (simp; omega) | omega) ?_
  intro ha hb
  have hz6_0 : w.heap.size < w6.heap.size := by have := hk6.size; (try simp at this); omega
  have hn6_0 : ¬ w.heap.size = w6.heap.size := by omega
  have hm6_0 : ¬ w6.heap.size = w.heap.size := by omega
  have hf6_0_0 : w6.cell? ⟨w.heap.size, 0, none⟩ = some (.int .i64 a) := by first | (rw [ha]; with_reducible assumption) | (simp (maxDischargeDepth := 7) [go_sem, ha]; done) | (rw [ha]; assumption) | (simp (maxDischargeDepth := 7) [go_sem, ha, *]; done)
  have hf6_0_1 : w6.cell? ⟨w.heap.size, 1, none⟩ = some (.int .i64 b) := by first | (rw [ha]; with_reducible assumption) | (simp (maxDischargeDepth := 7) [go_sem, ha]; done) | (rw [ha]; assumption) | (simp (maxDischargeDepth := 7) [go_sem, ha, *]; done)
  try have hg6_0 : ∀ o, w6.frozen? ⟨w.heap.size, o, none⟩ = false := by intro o; first | (simp (maxDischargeDepth := 7) [go_sem, hb]; done) | (rw [hb]; simp (maxDischargeDepth := 7) [go_sem, *]; done)
  clear ha hb
  refine kuse (b := w.heap.size + 1) hk6 (by first | (simp; done) | (simp; omega) | omega) ?_
  intro ha hb
  have hz6_1 : w.heap.size + 1 < w6.heap.size := by have := hk6.size; (try simp at this); omega
  have hn6_1 : ¬ w.heap.size + 1 = w6.heap.size := by omega
  have hm6_1 : ¬ w6.heap.size = w.heap.size + 1 := by omega
  have hf6_1_0 : w6.cell? ⟨w.heap.size + 1, 0, none⟩ = some (.int .i64 c) := by first | (rw [ha]; with_reducible assumption) | (simp (maxDischargeDepth := 7) [go_sem, ha]; done) | (rw [ha]; assumption) | (simp (maxDischargeDepth := 7) [go_sem, ha, *]; done)
  have hf6_1_1 : w6.cell? ⟨w.heap.size + 1, 1, none⟩ = some (.int .i64 d) := by first | (rw [ha]; with_reducible assumption) | (simp (maxDischargeDepth := 7) [go_sem, ha]; done) | (rw [ha]; assumption) | (simp (maxDischargeDepth := 7) [go_sem, ha, *]; done)
  try have hg6_1 : ∀ o, w6.frozen? ⟨w.heap.size + 1, o, none⟩ = false := by intro o; first | (simp (maxDischargeDepth := 7) [go_sem, hb]; done) | (rw [hb]; simp (maxDischargeDepth := 7) [go_sem, *]; done)
  clear ha hb
  refine kuse (b := w2.heap.size) hk6 (by first | (simp; done) | (simp; omega) | omega) ?_
  intro ha hb
  have hz6_2 : w2.heap.size < w6.heap.size := by have := hk6.size; (try simp at this); omega
  have hn6_2 : ¬ w2.heap.size = w6.heap.size := by omega
  have hm6_2 : ¬ w6.heap.size = w2.heap.size := by omega
  have hf6_2_0 : w6.cell? ⟨w2.heap.size, 0, none⟩ = some (.int .i64 m) := by first | (rw [ha]; with_reducible assumption) | (simp (maxDischargeDepth := 7) [go_sem, ha]; done) | (rw [ha]; assumption) | (simp (maxDischargeDepth := 7) [go_sem, ha, *]; done)
  have hf6_2_1 : w6.cell? ⟨w2.heap.size, 1, none⟩ = some (.int .i64 k) := by first | (rw [ha]; with_reducible assumption) | (simp (maxDischargeDepth := 7) [go_sem, ha]; done) | (rw [ha]; assumption) | (simp (maxDischargeDepth := 7) [go_sem, ha, *]; done)
  try have hg6_2 : ∀ o, w6.frozen? ⟨w2.heap.size, o, none⟩ = false := by intro o; first | (simp (maxDischargeDepth := 7) [go_sem, hb]; done) | (rw [hb]; simp (maxDischargeDepth := 7) [go_sem, *]; done)
  clear ha hb
  refine kuse (b := w5.heap.size) hk6 (by first | (simp; done) | (simp; omega) | omega) ?_
  intro ha hb
  have hz6_3 : w5.heap.size < w6.heap.size := by have := hk6.size; (try simp at this); omega
  have hn6_3 : ¬ w5.heap.size = w6.heap.size := by omega
  have hm6_3 : ¬ w6.heap.size = w5.heap.size := by omega
  have hf6_3_0 : w6.cell? ⟨w5.heap.size, 0, none⟩ = some (.int .i64 ml) := by first | (rw [ha]; with_reducible assumption) | (simp (maxDischargeDepth := 7) [go_sem, ha]; done) | (rw [ha]; assumption) | (simp (maxDischargeDepth := 7) [go_sem, ha, *]; done)
  have hf6_3_1 : w6.cell? ⟨w5.heap.size, 1, none⟩ = some (.int .i64 mg) := by first | (rw [ha]; with_reducible assumption) | (simp (maxDischargeDepth := 7) [go_sem, ha]; done) | (rw [ha]; assumption) | (simp (maxDischargeDepth := 7) [go_sem, ha, *]; done)
  try have hg6_3 : ∀ o, w6.frozen? ⟨w5.heap.size, o, none⟩ = false := by intro o; first | (simp (maxDischargeDepth := 7) [go_sem, hb]; done) | (rw [hb]; simp (maxDischargeDepth := 7) [go_sem, *]; done)
  clear ha hb
  try clear hf5_0_0
  try clear hf5_0_1
  try clear hf5_1_0
  try clear hf5_1_1
  try clear hf5_2_0
  try clear hf5_2_1
  try clear hg5_0
  try clear hg5_1
  try clear hg5_2
  try clear hz5_1
  try clear hz5_2
  rcases kmm with ⟨rfl, rfl, n1, n2, n3, n4, n5⟩ | rfl
  · go_wp2_with fail
    with_reducible refine (iwithin_yes ml mg nl ng (by omega) (by omega) (by omega) (by omega) (by omega) (by omega) (by omega) (by omega) _).mono ?_
    rintro e w7 ⟨rfl, hk7⟩
    refine kuse (b := w.heap.size) hk7 (by first | (simp; done) | (simp; omega) | omega) ?_
    intro ha hb
    have hz7_0 : w.heap.size < w7.heap.size := by have := hk7.size; (try simp at this); omega
    have hn7_0 : ¬ w.heap.size = w7.heap.size := by omega
    have hm7_0 : ¬ w7.heap.size = w.heap.size := by omega
    have hf7_0_0 : w7.cell? ⟨w.heap.size, 0, none⟩ = some (.int .i64 a) := by first | (rw [ha]; with_reducible assumption) | (simp (maxDischargeDepth := 7) [go_sem, ha]; done) | (rw [ha]; assumption) | (simp (maxDischargeDepth := 7) [go_sem, ha, *]; done)
    have hf7_0_1 : w7.cell? ⟨w.heap.size, 1, none⟩ = some (.int .i64 b) := by first | (rw [ha]; with_reducible assumption) | (simp (maxDischargeDepth := 7) [go_sem, ha]; done) | (rw [ha]; assumption) | (simp (maxDischargeDepth := 7) [go_sem, ha, *]; done)
    try have hg7_0 : ∀ o, w7.frozen? ⟨w.heap.size, o, none⟩ = false := by intro o; first | (simp (maxDischargeDepth := 7) [go_sem, hb]; done) | (rw [hb]; simp (maxDischargeDepth := 7) [go_sem, *]; done)
    clear ha hb
    refine kuse (b := w.heap.size + 1) hk7 (by first | (simp; done) | (simp; omega) | omega) ?_
    intro ha hb
    have hz7_1 : w.heap.size + 1 < w7.heap.size := by have := hk7.size; (try simp at this); omega
    have hn7_1 : ¬ w.heap.size + 1 = w7.heap.size := by omega
    have hm7_1 : ¬ w7.heap.size = w.heap.size + 1 := by omega
    have hf7_1_0 : w7.cell? ⟨w.heap.size + 1, 0, none⟩ = some (.int .i64 c) := by first | (rw [ha]; with_reducible assumption) | (simp (maxDischargeDepth := 7) [go_sem, ha]; done) | (rw [ha]; assumption) | (simp (maxDischargeDepth := 7) [go_sem, ha, *]; done)
    have hf7_1_1 : w7.cell? ⟨w.heap.size + 1, 1, none⟩ = some (.int .i64 d) := by first | (rw [ha]; with_reducible assumption) | (simp (maxDischargeDepth := 7) [go_sem, ha]; done) | (rw [ha]; assumption) | (simp (maxDischargeDepth := 7) [go_sem, ha, *]; done)
    try have hg7_1 : ∀ o, w7.frozen? ⟨w.heap.size + 1, o, none⟩ = false := by intro o; first | (simp (maxDischargeDepth := 7) [go_sem, hb]; done) | (rw [hb]; simp (maxDischargeDepth := 7) [go_sem, *]; done)
    clear ha hb
    refine kuse (b := w2.heap.size) hk7 (by first | (simp; done) | (simp; omega) | omega) ?_
    intro ha hb
    have hz7_2 : w2.heap.size < w7.heap.size := by have := hk7.size; (try simp at this); omega
    have hn7_2 : ¬ w2.heap.size = w7.heap.size := by omega
    have hm7_2 : ¬ w7.heap.size = w2.heap.size := by omega
    have hf7_2_0 : w7.cell? ⟨w2.heap.size, 0, none⟩ = some (.int .i64 m) := by first | (rw [ha]; with_reducible assumption) | (simp (maxDischargeDepth := 7) [go_sem, ha]; done) | (rw [ha]; assumption) | (simp (maxDischargeDepth := 7) [go_sem, ha, *]; done)
    have hf7_2_1 : w7.cell? ⟨w2.heap.size, 1, none⟩ = some (.int .i64 k) := by first | (rw [ha]; with_reducible assumption) | (simp (maxDischargeDepth := 7) [go_sem, ha]; done) | (rw [ha]; assumption) | (simp (maxDischargeDepth := 7) [go_sem, ha, *]; done)
    try have hg7_2 : ∀ o, w7.frozen? ⟨w2.heap.size, o, none⟩ = false := by intro o; first | (simp (maxDischargeDepth := 7) [go_sem, hb]; done) | (rw [hb]; simp (maxDischargeDepth := 7) [go_sem, *]; done)
    clear ha hb
    refine kuse (b := w5.heap.size) hk7 (by first | (simp; done) | (simp; omega) | omega) ?_
    intro ha hb
    have hz7_3 : w5.heap.size < w7.heap.size := by have := hk7.size; (try simp at this); omega
    have hn7_3 : ¬ w5.heap.size = w7.heap.size := by omega
    have hm7_3 : ¬ w7.heap.size = w5.heap.size := by omega
    have hf7_3_0 : w7.cell? ⟨w5.heap.size, 0, none⟩ = some (.int .i64 ml) := by first | (rw [ha]; with_reducible assumption) | (simp (maxDischargeDepth := 7) [go_sem, ha]; done) | (rw [ha]; assumption) | (simp (maxDischargeDepth := 7) [go_sem, ha, *]; done)
    have hf7_3_1 : w7.cell? ⟨w5.heap.size, 1, none⟩ = some (.int .i64 mg) := by first | (rw [ha]; with_reducible assumption) | (simp (maxDischargeDepth := 7) [go_sem, ha]; done) | (rw [ha]; assumption) | (simp (maxDischargeDepth := 7) [go_sem, ha, *]; done)
    try have hg7_3 : ∀ o, w7.frozen? ⟨w5.heap.size, o, none⟩ = false := by intro o; first | (simp (maxDischargeDepth := 7) [go_sem, hb]; done) | (rw [hb]; simp (maxDischargeDepth := 7) [go_sem, *]; done)
    clear ha hb
    refine kuse (b := w6.heap.size) hk7 (by first | (simp; done) | (simp; omega) | omega) ?_
    intro ha hb
    have hz7_4 : w6.heap.size < w7.heap.size := by have := hk7.size; (try simp at this); omega
    have hn7_4 : ¬ w6.heap.size = w7.heap.size := by omega
    have hm7_4 : ¬ w7.heap.size = w6.heap.size := by omega
    have hf7_4_0 : w7.cell? ⟨w6.heap.size, 0, none⟩ = some (.int .i64 nl) := by first | (rw [ha]; with_reducible assumption) | (simp (maxDischargeDepth := 7) [go_sem, ha]; done) | (rw [ha]; assumption) | (simp (maxDischargeDepth := 7) [go_sem, ha, *]; done)
    have hf7_4_1 : w7.cell? ⟨w6.heap.size, 1, none⟩ = some (.int .i64 ng) := by first | (rw [ha]; with_reducible assumption) | (simp (maxDischargeDepth := 7) [go_sem, ha]; done) | (rw [ha]; assumption) | (simp (maxDischargeDepth := 7) [go_sem, ha, *]; done)
    try have hg7_4 : ∀ o, w7.frozen? ⟨w6.heap.size, o, none⟩ = false := by intro o; first | (simp (maxDischargeDepth := 7) [go_sem, hb]; done) | (rw [hb]; simp (maxDischargeDepth := 7) [go_sem, *]; done)
    clear ha hb
    go_wp2_with fail
    with_reducible refine (cq1 _).mono ?_
    rintro e w8 ⟨rfl, hk8⟩
    refine kuse (b := w.heap.size) hk8 (by first | (simp; done) | (simp; omega) | omega) ?_
    intro ha hb
    have hz8_0 : w.heap.size < w8.heap.size := by have := hk8.size; (try simp at this); omega
    have hn8_0 : ¬ w.heap.size = w8.heap.size := by omega
    have hm8_0 : ¬ w8.heap.size = w.heap.size := by omega
    have hf8_0_0 : w8.cell? ⟨w.heap.size, 0, none⟩ = some (.int .i64 a) := by first | (rw [ha]; with_reducible assumption) | (simp (maxDischargeDepth := 7) [go_sem, ha]; done) | (rw [ha]; assumption) | (simp (maxDischargeDepth := 7) [go_sem, ha, *]; done)
    have hf8_0_1 : w8.cell? ⟨w.heap.size, 1, none⟩ = some (.int .i64 b) := by first | (rw [ha]; with_reducible assumption) | (simp (maxDischargeDepth := 7) [go_sem, ha]; done) | (rw [ha]; assumption) | (simp (maxDischargeDepth := 7) [go_sem, ha, *]; done)
    try have hg8_0 : ∀ o, w8.frozen? ⟨w.heap.size, o, none⟩ = false := by intro o; first | (simp (maxDischargeDepth := 7) [go_sem, hb]; done) | (rw [hb]; simp (maxDischargeDepth := 7) [go_sem, *]; done)
    clear ha hb
    refine kuse (b := w.heap.size + 1) hk8 (by first | (simp; done) | (simp; omega) | omega) ?_
    intro ha hb
    have hz8_1 : w.heap.size + 1 < w8.heap.size := by have := hk8.size; (try simp at this); omega
    have hn8_1 : ¬ w.heap.size + 1 = w8.heap.size := by omega
    have hm8_1 : ¬ w8.heap.size = w.heap.size + 1 := by omega
    have hf8_1_0 : w8.cell? ⟨w.heap.size + 1, 0, none⟩ = some (.int .i64 c) := by first | (rw [ha]; with_reducible assumption) | (simp (maxDischargeDepth := 7) [go_sem, ha]; done) | (rw [ha]; assumption) | (simp (maxDischargeDepth := 7) [go_sem, ha, *]; done)
    have hf8_1_1 : w8.cell? ⟨w.heap.size + 1, 1, none⟩ = some (.int .i64 d) := by first | (rw [ha]; with_reducible assumption) | (simp (maxDischargeDepth := 7) [go_sem, ha]; done) | (rw [ha]; assumption) | (simp (maxDischargeDepth := 7) [go_sem, ha, *]; done)
    try have hg8_1 : ∀ o, w8.frozen? ⟨w.heap.size + 1, o, none⟩ = false := by intro o; first | (simp (maxDischargeDepth := 7) [go_sem, hb]; done) | (rw [hb]; simp (maxDischargeDepth := 7) [go_sem, *]; done)
    clear ha hb
    refine kuse (b := w2.heap.size) hk8 (by first | (simp; done) | (simp; omega) | omega) ?_
    intro ha hb
    have hz8_2 : w2.heap.size < w8.heap.size := by have := hk8.size; (try simp at this); omega
    have hn8_2 : ¬ w2.heap.size = w8.heap.size := by omega
    have hm8_2 : ¬ w8.heap.size = w2.heap.size := by omega
    have hf8_2_0 : w8.cell? ⟨w2.heap.size, 0, none⟩ = some (.int .i64 m) := by first | (rw [ha]; with_reducible assumption) | (simp (maxDischargeDepth := 7) [go_sem, ha]; done) | (rw [ha]; assumption) | (simp (maxDischargeDepth := 7) [go_sem, ha, *]; done)
    have hf8_2_1 : w8.cell? ⟨w2.heap.size, 1, none⟩ = some (.int .i64 k) := by first | (rw [ha]; with_reducible assumption) | (simp (maxDischargeDepth := 7) [go_sem, ha]; done) | (rw [ha]; assumption) | (simp (maxDischargeDepth := 7) [go_sem, ha, *]; done)
    try have hg8_2 : ∀ o, w8.frozen? ⟨w2.heap.size, o, none⟩ = false := by intro o; first | (simp (maxDischargeDepth := 7) [go_sem, hb]; done) | (rw [hb]; simp (maxDischargeDepth := 7) [go_sem, *]; done)
    clear ha hb
    refine kuse (b := w5.heap.size) hk8 (by first | (simp; done) | (simp; omega) | omega) ?_
    intro ha hb
    have hz8_3 : w5.heap.size < w8.heap.size := by have := hk8.size; (try simp at this); omega
    have hn8_3 : ¬ w5.heap.size = w8.heap.size := by omega
    have hm8_3 : ¬ w8.heap.size = w5.heap.size := by omega
    have hf8_3_0 : w8.cell? ⟨w5.heap.size, 0, none⟩ = some (.int .i64 ml) := by first | (rw [ha]; with_reducible assumption) | (simp (maxDischargeDepth := 7) [go_sem, ha]; done) | (rw [ha]; assumption) | (simp (maxDischargeDepth := 7) [go_sem, ha, *]; done)
    have hf8_3_1 : w8.cell? ⟨w5.heap.size, 1, none⟩ = some (.int .i64 mg) := by first | (rw [ha]; with_reducible assumption) | (simp (maxDischargeDepth := 7) [go_sem, ha]; done) | (rw [ha]; assumption) | (simp (maxDischargeDepth := 7) [go_sem, ha, *]; done)
    try have hg8_3 : ∀ o, w8.frozen? ⟨w5.heap.size, o, none⟩ = false := by intro o; first | (simp (maxDischargeDepth := 7) [go_sem, hb]; done) | (rw [hb]; simp (maxDischargeDepth := 7) [go_sem, *]; done)
    clear ha hb
    refine kuse (b := w6.heap.size) hk8 (by first | (simp; done) | (simp; omega) | omega) ?_
    intro ha hb
    have hz8_4 : w6.heap.size < w8.heap.size := by have := hk8.size; (try simp at this); omega
    have hn8_4 : ¬ w6.heap.size = w8.heap.size := by omega
    have hm8_4 : ¬ w8.heap.size = w6.heap.size := by omega
    have hf8_4_0 : w8.cell? ⟨w6.heap.size, 0, none⟩ = some (.int .i64 nl) := by first | (rw [ha]; with_reducible assumption) | (simp (maxDischargeDepth := 7) [go_sem, ha]; done) | (rw [ha]; assumption) | (simp (maxDischargeDepth := 7) [go_sem, ha, *]; done)
    have hf8_4_1 : w8.cell? ⟨w6.heap.size, 1, none⟩ = some (.int .i64 ng) := by first | (rw [ha]; with_reducible assumption) | (simp (maxDischargeDepth := 7) [go_sem, ha]; done) | (rw [ha]; assumption) | (simp (maxDischargeDepth := 7) [go_sem, ha, *]; done)
    try have hg8_4 : ∀ o, w8.frozen? ⟨w6.heap.size, o, none⟩ = false := by intro o; first | (simp (maxDischargeDepth := 7) [go_sem, hb]; done) | (rw [hb]; simp (maxDischargeDepth := 7) [go_sem, *]; done)
    clear ha hb
    try clear hf7_0_0
    try clear hf7_0_1
    try clear hf7_1_0
    try clear hf7_1_1
    try clear hf7_2_0
    try clear hf7_2_1
    try clear hf7_3_0
    try clear hf7_3_1
    try clear hf7_4_0
    try clear hf7_4_1
    try clear hg7_0
    try clear hg7_1
    try clear hg7_2
    try clear hg7_3
    try clear hg7_4
    try clear hn7_0
    try clear hn7_1
    try clear hn7_2
    try clear hn7_3
    try clear hn7_4
    try clear hm7_0
    try clear hm7_1
    try clear hm7_2
    try clear hm7_3
    try clear hm7_4
    try clear hz7_1
    try clear hz7_2
    try clear hz7_3
    try clear hz7_4
    go_wp2_with fail
    with_reducible refine (cq2 _).mono ?_
    rintro e w9 ⟨rfl, hk9⟩
    refine kuse (b := w.heap.size) hk9 (by first | (simp; done) | (simp; omega) | omega) ?_
    intro ha hb
    have hz9_0 : w.heap.size < w9.heap.size := by have := hk9.size; (try simp at this); omega
    have hn9_0 : ¬ w.heap.size = w9.heap.size := by omega
    have hm9_0 : ¬ w9.heap.size = w.heap.size := by omega
    have hf9_0_0 : w9.cell? ⟨w.heap.size, 0, none⟩ = some (.int .i64 a) := by first | (rw [ha]; with_reducible assumption) | (simp (maxDischargeDepth := 7) [go_sem, ha]; done) | (rw [ha]; assumption) | (simp (maxDischargeDepth := 7) [go_sem, ha, *]; done)
    have hf9_0_1 : w9.cell? ⟨w.heap.size, 1, none⟩ = some (.int .i64 b) := by first | (rw [ha]; with_reducible assumption) | (simp (maxDischargeDepth := 7) [go_sem, ha]; done) | (rw [ha]; assumption) | (simp (maxDischargeDepth := 7) [go_sem, ha, *]; done)
    try have hg9_0 : ∀ o, w9.frozen? ⟨w.heap.size, o, none⟩ = false := by intro o; first | (simp (maxDischargeDepth := 7) [go_sem, hb]; done) | (rw [hb]; simp (maxDischargeDepth := 7) [go_sem, *]; done)
    clear ha hb
    refine kuse (b := w.heap.size + 1) hk9 (by first | (simp; done) | (simp; omega) | omega) ?_
    intro ha hb
    have hz9_1 : w.heap.size + 1 < w9.heap.size := by have := hk9.size; (try simp at this); omega
    have hn9_1 : ¬ w.heap.size + 1 = w9.heap.size := by omega
    have hm9_1 : ¬ w9.heap.size = w.heap.size + 1 := by omega
    have hf9_1_0 : w9.cell? ⟨w.heap.size + 1, 0, none⟩ = some (.int .i64 c) := by first | (rw [ha]; with_reducible assumption) | (simp (maxDischargeDepth := 7) [go_sem, ha]; done) | (rw [ha]; assumption) | (simp (maxDischargeDepth := 7) [go_sem, ha, *]; done)
    have hf9_1_1 : w9.cell? ⟨w.heap.size + 1, 1, none⟩ = some (.int .i64 d) := by first | (rw [ha]; with_reducible assumption) | (simp (maxDischargeDepth := 7) [go_sem, ha]; done) | (rw [ha]; assumption) | (simp (maxDischargeDepth := 7) [go_sem, ha, *]; done)
    try have hg9_1 : ∀ o, w9.frozen? ⟨w.heap.size + 1, o, none⟩ = false := by intro o; first | (simp (maxDischargeDepth := 7) [go_sem, hb]; done) | (rw [hb]; simp (maxDischargeDepth := 7) [go_sem, *]; done)
    clear ha hb
    refine kuse (b := w2.heap.size) hk9 (by first | (simp; done) | (simp; omega) | omega) ?_
    intro ha hb
    have hz9_2 : w2.heap.size < w9.heap.size := by have := hk9.size; (try simp at this); omega
    have hn9_2 : ¬ w2.heap.size = w9.heap.size := by omega
    have hm9_2 : ¬ w9.heap.size = w2.heap.size := by omega
    have hf9_2_0 : w9.cell? ⟨w2.heap.size, 0, none⟩ = some (.int .i64 m) := by first | (rw [ha]; with_reducible assumption) | (simp (maxDischargeDepth := 7) [go_sem, ha]; done) | (rw [ha]; assumption) | (simp (maxDischargeDepth := 7) [go_sem, ha, *]; done)
    have hf9_2_1 : w9.cell? ⟨w2.heap.size, 1, none⟩ = some (.int .i64 k) := by first | (rw [ha]; with_reducible assumption) | (simp (maxDischargeDepth := 7) [go_sem, ha]; done) | (rw [ha]; assumption) | (simp (maxDischargeDepth := 7) [go_sem, ha, *]; done)
    try have hg9_2 : ∀ o, w9.frozen? ⟨w2.heap.size, o, none⟩ = false := by intro o; first | (simp (maxDischargeDepth := 7) [go_sem, hb]; done) | (rw [hb]; simp (maxDischargeDepth := 7) [go_sem, *]; done)
    clear ha hb
    refine kuse (b := w5.heap.size) hk9 (by first | (simp; done) | (simp; omega) | omega) ?_
    intro ha hb
    have hz9_3 : w5.heap.size < w9.heap.size := by have := hk9.size; (try simp at this); omega
    have hn9_3 : ¬ w5.heap.size = w9.heap.size := by omega
    have hm9_3 : ¬ w9.heap.size = w5.heap.size := by omega
    have hf9_3_0 : w9.cell? ⟨w5.heap.size, 0, none⟩ = some (.int .i64 0) := by first | (rw [ha]; with_reducible assumption) | (simp (maxDischargeDepth := 7) [go_sem, ha]; done) | (rw [ha]; assumption) | (simp (maxDischargeDepth := 7) [go_sem, ha, *]; done)
    have hf9_3_1 : w9.cell? ⟨w5.heap.size, 1, none⟩ = some (.int .i64 0) := by first | (rw [ha]; with_reducible assumption) | (simp (maxDischargeDepth := 7) [go_sem, ha]; done) | (rw [ha]; assumption) | (simp (maxDischargeDepth := 7) [go_sem, ha, *]; done)
    try have hg9_3 : ∀ o, w9.frozen? ⟨w5.heap.size, o, none⟩ = false := by intro o; first | (simp (maxDischargeDepth := 7) [go_sem, hb]; done) | (rw [hb]; simp (maxDischargeDepth := 7) [go_sem, *]; done)
    clear ha hb
    refine kuse (b := w6.heap.size) hk9 (by first | (simp; done) | (simp; omega) | omega) ?_
    intro ha hb
    have hz9_4 : w6.heap.size < w9.heap.size := by have := hk9.size; (try simp at this); omega
    have hn9_4 : ¬ w6.heap.size = w9.heap.size := by omega
    have hm9_4 : ¬ w9.heap.size = w6.heap.size := by omega
    have hf9_4_0 : w9.cell? ⟨w6.heap.size, 0, none⟩ = some (.int .i64 nl) := by first | (rw [ha]; with_reducible assumption) | (simp (maxDischargeDepth := 7) [go_sem, ha]; done) | (rw [ha]; assumption) | (simp (maxDischargeDepth := 7) [go_sem, ha, *]; done)
    have hf9_4_1 : w9.cell? ⟨w6.heap.size, 1, none⟩ = some (.int .i64 ng) := by first | (rw [ha]; with_reducible assumption) | (simp (maxDischargeDepth := 7) [go_sem, ha]; done) | (rw [ha]; assumption) | (simp (maxDischargeDepth := 7) [go_sem, ha, *]; done)
    try have hg9_4 : ∀ o, w9.frozen? ⟨w6.heap.size, o, none⟩ = false := by intro o; first | (simp (maxDischargeDepth := 7) [go_sem, hb]; done) | (rw [hb]; simp (maxDischargeDepth := 7) [go_sem, *]; done)
    clear ha hb
    try clear hf8_0_0
    try clear hf8_0_1
    try clear hf8_1_0
    try clear hf8_1_1
    try clear hf8_2_0
    try clear hf8_2_1
    try clear hf8_3_0
    try clear hf8_3_1
    try clear hf8_4_0
    try clear hf8_4_1
    try clear hg8_0
    try clear hg8_1
    try clear hg8_2
    try clear hg8_3
    try clear hg8_4
    try clear hn8_0
    try clear hn8_1
    try clear hn8_2
    try clear hn8_3
    try clear hn8_4
    try clear hm8_0
    try clear hm8_1
    try clear hm8_2
    try clear hm8_3
    try clear hm8_4
    try clear hz8_1
    try clear hz8_2
    try clear hz8_3
    try clear hz8_4
    go_wp2_with fail
    with_reducible refine (cs1 _).mono ?_
    rintro e w10 ⟨rfl, hk10⟩
    refine kuse (b := w.heap.size) hk10 (by first | (simp; done) | (simp; omega) | omega) ?_
    intro ha hb
    have hz10_0 : w.heap.size < w10.heap.size := by have := hk10.size; (try simp at this); omega
    have hn10_0 : ¬ w.heap.size = w10.heap.size := by omega
    have hm10_0 : ¬ w10.heap.size = w.heap.size := by omega
    have hf10_0_0 : w10.cell? ⟨w.heap.size, 0, none⟩ = some (.int .i64 a) := by first | (rw [ha]; with_reducible assumption) | (simp (maxDischargeDepth := 7) [go_sem, ha]; done) | (rw [ha]; assumption) | (simp (maxDischargeDepth := 7) [go_sem, ha, *]; done)
    have hf10_0_1 : w10.cell? ⟨w.heap.size, 1, none⟩ = some (.int .i64 b) := by first | (rw [ha]; with_reducible assumption) | (simp (maxDischargeDepth := 7) [go_sem, ha]; done) | (rw [ha]; assumption) | (simp (maxDischargeDepth := 7) [go_sem, ha, *]; done)
    try have hg10_0 : ∀ o, w10.frozen? ⟨w.heap.size, o, none⟩ = false := by intro o; first | (simp (maxDischargeDepth := 7) [go_sem, hb]; done) | (rw [hb]; simp (maxDischargeDepth := 7) [go_sem, *]; done)
    clear ha hb
    refine kuse (b := w.heap.size + 1) hk10 (by first | (simp; done) | (simp; omega) | omega) ?_
    intro ha hb
    have hz10_1 : w.heap.size + 1 < w10.heap.size := by have := hk10.size; (try simp at this); omega
    have hn10_1 : ¬ w.heap.size + 1 = w10.heap.size := by omega
    have hm10_1 : ¬ w10.heap.size = w.heap.size + 1 := by omega
    have hf10_1_0 : w10.cell? ⟨w.heap.size + 1, 0, none⟩ = some (.int .i64 c) := by first | (rw [ha]; with_reducible assumption) | (simp (maxDischargeDepth := 7) [go_sem, ha]; done) | (rw [ha]; assumption) | (simp (maxDischargeDepth := 7) [go_sem, ha, *]; done)
    have hf10_1_1 : w10.cell? ⟨w.heap.size + 1, 1, none⟩ = some (.int .i64 d) := by first | (rw [ha]; with_reducible assumption) | (simp (maxDischargeDepth := 7) [go_sem, ha]; done) | (rw [ha]; assumption) | (simp (maxDischargeDepth := 7) [go_sem, ha, *]; done)
    try have hg10_1 : ∀ o, w10.frozen? ⟨w.heap.size + 1, o, none⟩ = false := by intro o; first | (simp (maxDischargeDepth := 7) [go_sem, hb]; done) | (rw [hb]; simp (maxDischargeDepth := 7) [go_sem, *]; done)
    clear ha hb
    refine kuse (b := w2.heap.size) hk10 (by first | (simp; done) | (simp; omega) | omega) ?_
    intro ha hb
    have hz10_2 : w2.heap.size < w10.heap.size := by have := hk10.size; (try simp at this); omega
    have hn10_2 : ¬ w2.heap.size = w10.heap.size := by omega
    have hm10_2 : ¬ w10.heap.size = w2.heap.size := by omega
    have hf10_2_0 : w10.cell? ⟨w2.heap.size, 0, none⟩ = some (.int .i64 m) := by first | (rw [ha]; with_reducible assumption) | (simp (maxDischargeDepth := 7) [go_sem, ha]; done) | (rw [ha]; assumption) | (simp (maxDischargeDepth := 7) [go_sem, ha, *]; done)
    have hf10_2_1 : w10.cell? ⟨w2.heap.size, 1, none⟩ = some (.int .i64 k) := by first | (rw [ha]; with_reducible assumption) | (simp (maxDischargeDepth := 7) [go_sem, ha]; done) | (rw [ha]; assumption) | (simp (maxDischargeDepth := 7) [go_sem, ha, *]; done)
    try have hg10_2 : ∀ o, w10.frozen? ⟨w2.heap.size, o, none⟩ = false := by intro o; first | (simp (maxDischargeDepth := 7) [go_sem, hb]; done) | (rw [hb]; simp (maxDischargeDepth := 7) [go_sem, *]; done)
    clear ha hb
    refine kuse (b := w5.heap.size) hk10 (by first | (simp; done) | (simp; omega) | omega) ?_
    intro ha hb
    have hz10_3 : w5.heap.size < w10.heap.size := by have := hk10.size; (try simp at this); omega
    have hn10_3 : ¬ w5.heap.size = w10.heap.size := by omega
    have hm10_3 : ¬ w10.heap.size = w5.heap.size := by omega
    have hf10_3_0 : w10.cell? ⟨w5.heap.size, 0, none⟩ = some (.int .i64 0) := by first | (rw [ha]; with_reducible assumption) | (simp (maxDischargeDepth := 7) [go_sem, ha]; done) | (rw [ha]; assumption) | (simp (maxDischargeDepth := 7) [go_sem, ha, *]; done)
    have hf10_3_1 : w10.cell? ⟨w5.heap.size, 1, none⟩ = some (.int .i64 0) := by first | (rw [ha]; with_reducible assumption) | (simp (maxDischargeDepth := 7) [go_sem, ha]; done) | (rw [ha]; assumption) | (simp (maxDischargeDepth := 7) [go_sem, ha, *]; done)
    try have hg10_3 : ∀ o, w10.frozen? ⟨w5.heap.size, o, none⟩ = false := by intro o; first | (simp (maxDischargeDepth := 7) [go_sem, hb]; done) | (rw [hb]; simp (maxDischargeDepth := 7) [go_sem, *]; done)
    clear ha hb
    refine kuse (b := w6.heap.size) hk10 (by first | (simp; done) | (simp; omega) | omega) ?_
    intro ha hb
    have hz10_4 : w6.heap.size < w10.heap.size := by have := hk10.size; (try simp at this); omega
    have hn10_4 : ¬ w6.heap.size = w10.heap.size := by omega
    have hm10_4 : ¬ w10.heap.size = w6.heap.size := by omega
    have hf10_4_0 : w10.cell? ⟨w6.heap.size, 0, none⟩ = some (.int .i64 0) := by first | (rw [ha]; with_reducible assumption) | (simp (maxDischargeDepth := 7) [go_sem, ha]; done) | (rw [ha]; assumption) | (simp (maxDischargeDepth := 7) [go_sem, ha, *]; done)
    have hf10_4_1 : w10.cell? ⟨w6.heap.size, 1, none⟩ = some (.int .i64 0) := by first | (rw [ha]; with_reducible assumption) | (simp (maxDischargeDepth := 7) [go_sem, ha]; done) | (rw [ha]; assumption) | (simp (maxDischargeDepth := 7) [go_sem, ha, *]; done)
    try have hg10_4 : ∀ o, w10.frozen? ⟨w6.heap.size, o, none⟩ = false := by intro o; first | (simp (maxDischargeDepth := 7) [go_sem, hb]; done) | (rw [hb]; simp (maxDischargeDepth := 7) [go_sem, *]; done)
    clear ha hb
    try clear hf9_0_0
    try clear hf9_0_1
    try clear hf9_1_0
    try clear hf9_1_1
    try clear hf9_2_0
    try clear hf9_2_1
    try clear hf9_3_0
    try clear hf9_3_1
    try clear hf9_4_0
    try clear hf9_4_1
    try clear hg9_0
    try clear hg9_1
    try clear hg9_2
    try clear hg9_3
    try clear hg9_4
    try clear hn9_0
    try clear hn9_1
    try clear hn9_2
    try clear hn9_3
    try clear hn9_4
    try clear hm9_0
    try clear hm9_1
    try clear hm9_2
    try clear hm9_3
    try clear hm9_4
    try clear hz9_1
    try clear hz9_2
    try clear hz9_3
    try clear hz9_4
    go_wp2_with fail
    with_reducible refine (cs2 _).mono ?_
    rintro e w11 ⟨rfl, hk11⟩
    refine kuse (b := w.heap.size) hk11 (by first | (simp; done) | (simp; omega) | omega) ?_
    intro ha hb
    have hz11_0 : w.heap.size < w11.heap.size := by have := hk11.size; (try simp at this); omega
    have hn11_0 : ¬ w.heap.size = w11.heap.size := by omega
    have hm11_0 : ¬ w11.heap.size = w.heap.size := by omega
    have hf11_0_0 : w11.cell? ⟨w.heap.size, 0, none⟩ = some (.int .i64 a) := by first | (rw [ha]; with_reducible assumption) | (simp (maxDischargeDepth := 7) [go_sem, ha]; done) | (rw [ha]; assumption) | (simp (maxDischargeDepth := 7) [go_sem, ha, *]; done)
    have hf11_0_1 : w11.cell? ⟨w.heap.size, 1, none⟩ = some (.int .i64 b) := by first | (rw [ha]; with_reducible assumption) | (simp (maxDischargeDepth := 7) [go_sem, ha]; done) | (rw [ha]; assumption) | (simp (maxDischargeDepth := 7) [go_sem, ha, *]; done)
    try have hg11_0 : ∀ o, w11.frozen? ⟨w.heap.size, o, none⟩ = false := by intro o; first | (simp (maxDischargeDepth := 7) [go_sem, hb]; done) | (rw [hb]; simp (maxDischargeDepth := 7) [go_sem, *]; done)
    clear ha hb
    refine kuse (b := w.heap.size + 1) hk11 (by first | (simp; done) | (simp; omega) | omega) ?_
    intro ha hb
    have hz11_1 : w.heap.size + 1 < w11.heap.size := by have := hk11.size; (try simp at this); omega
    have hn11_1 : ¬ w.heap.size + 1 = w11.heap.size := by omega
    have hm11_1 : ¬ w11.heap.size = w.heap.size + 1 := by omega
    have hf11_1_0 : w11.cell? ⟨w.heap.size + 1, 0, none⟩ = some (.int .i64 c) := by first | (rw [ha]; with_reducible assumption) | (simp (maxDischargeDepth := 7) [go_sem, ha]; done) | (rw [ha]; assumption) | (simp (maxDischargeDepth := 7) [go_sem, ha, *]; done)
    have hf11_1_1 : w11.cell? ⟨w.heap.size + 1, 1, none⟩ = some (.int .i64 d) := by first | (rw [ha]; with_reducible assumption) | (simp (maxDischargeDepth := 7) [go_sem, ha]; done) | (rw [ha]; assumption) | (simp (maxDischargeDepth := 7) [go_sem, ha, *]; done)
    try have hg11_1 : ∀ o, w11.frozen? ⟨w.heap.size + 1, o, none⟩ = false := by intro o; first | (simp (maxDischargeDepth := 7) [go_sem, hb]; done) | (rw [hb]; simp (maxDischargeDepth := 7) [go_sem, *]; done)
    clear ha hb
    refine kuse (b := w2.heap.size) hk11 (by first | (simp; done) | (simp; omega) | omega) ?_
    intro ha hb
    have hz11_2 : w2.heap.size < w11.heap.size := by have := hk11.size; (try simp at this); omega
    have hn11_2 : ¬ w2.heap.size = w11.heap.size := by omega
    have hm11_2 : ¬ w11.heap.size = w2.heap.size := by omega
    have hf11_2_0 : w11.cell? ⟨w2.heap.size, 0, none⟩ = some (.int .i64 m) := by first | (rw [ha]; with_reducible assumption) | (simp (maxDischargeDepth := 7) [go_sem, ha]; done) | (rw [ha]; assumption) | (simp (maxDischargeDepth := 7) [go_sem, ha, *]; done)
    have hf11_2_1 : w11.cell? ⟨w2.heap.size, 1, none⟩ = some (.int .i64 k) := by first | (rw [ha]; with_reducible assumption) | (simp (maxDischargeDepth := 7) [go_sem, ha]; done) | (rw [ha]; assumption) | (simp (maxDischargeDepth := 7) [go_sem, ha, *]; done)
    try have hg11_2 : ∀ o, w11.frozen? ⟨w2.heap.size, o, none⟩ = false := by intro o; first | (simp (maxDischargeDepth := 7) [go_sem, hb]; done) | (rw [hb]; simp (maxDischargeDepth := 7) [go_sem, *]; done)
    clear ha hb
    refine kuse (b := w5.heap.size) hk11 (by first | (simp; done) | (simp; omega) | omega) ?_
    intro ha hb
    have hz11_3 : w5.heap.size < w11.heap.size := by have := hk11.size; (try simp at this); omega
    have hn11_3 : ¬ w5.heap.size = w11.heap.size := by omega
    have hm11_3 : ¬ w11.heap.size = w5.heap.size := by omega
    have hf11_3_0 : w11.cell? ⟨w5.heap.size, 0, none⟩ = some (.int .i64 sl) := by first | (rw [ha]; with_reducible assumption) | (simp (maxDischargeDepth := 7) [go_sem, ha]; done) | (rw [ha]; assumption) | (simp (maxDischargeDepth := 7) [go_sem, ha, *]; done)
    have hf11_3_1 : w11.cell? ⟨w5.heap.size, 1, none⟩ = some (.int .i64 sg) := by first | (rw [ha]; with_reducible assumption) | (simp (maxDischargeDepth := 7) [go_sem, ha]; done) | (rw [ha]; assumption) | (simp (maxDischargeDepth := 7) [go_sem, ha, *]; done)
    try have hg11_3 : ∀ o, w11.frozen? ⟨w5.heap.size, o, none⟩ = false := by intro o; first | (simp (maxDischargeDepth := 7) [go_sem, hb]; done) | (rw [hb]; simp (maxDischargeDepth := 7) [go_sem, *]; done)
    clear ha hb
    refine kuse (b := w6.heap.size) hk11 (by first | (simp; done) | (simp; omega) | omega) ?_
    intro ha hb
    have hz11_4 : w6.heap.size < w11.heap.size := by have := hk11.size; (try simp at this); omega
    have hn11_4 : ¬ w6.heap.size = w11.heap.size := by omega
    have hm11_4 : ¬ w11.heap.size = w6.heap.size := by omega
    have hf11_4_0 : w11.cell? ⟨w6.heap.size, 0, none⟩ = some (.int .i64 0) := by first | (rw [ha]; with_reducible assumption) | (simp (maxDischargeDepth := 7) [go_sem, ha]; done) | (rw [ha]; assumption) | (simp (maxDischargeDepth := 7) [go_sem, ha, *]; done)
    have hf11_4_1 : w11.cell? ⟨w6.heap.size, 1, none⟩ = some (.int .i64 0) := by first | (rw [ha]; with_reducible assumption) | (simp (maxDischargeDepth := 7) [go_sem, ha]; done) | (rw [ha]; assumption) | (simp (maxDischargeDepth := 7) [go_sem, ha, *]; done)
    try have hg11_4 : ∀ o, w11.frozen? ⟨w6.heap.size, o, none⟩ = false := by intro o; first | (simp (maxDischargeDepth := 7) [go_sem, hb]; done) | (rw [hb]; simp (maxDischargeDepth := 7) [go_sem, *]; done)
    clear ha hb
    try clear hf10_0_0
    try clear hf10_0_1
    try clear hf10_1_0
    try clear hf10_1_1
    try clear hf10_2_0
    try clear hf10_2_1
    try clear hf10_3_0
    try clear hf10_3_1
    try clear hf10_4_0
    try clear hf10_4_1
    try clear hg10_0
    try clear hg10_1
    try clear hg10_2
    try clear hg10_3
    try clear hg10_4
    try clear hn10_0
    try clear hn10_1
    try clear hn10_2
    try clear hn10_3
    try clear hn10_4
    try clear hm10_0
    try clear hm10_1
    try clear hm10_2
    try clear hm10_3
    try clear hm10_4
    try clear hz10_1
    try clear hz10_2
    try clear hz10_3
    try clear hz10_4
    rcases kss with ⟨rfl, rfl, s1, s2, s3, s4, s5⟩ | rfl
    · go_wp2_with fail
      with_reducible refine (iwithin_yes sl sg tl tg (by omega) (by omega) (by omega) (by omega) (by omega) (by omega) (by omega) (by omega) _).mono ?_
      rintro e w12 ⟨rfl, hk12⟩
      refine kuse (b := w5.heap.size) hk12 (by first | (simp; done) | (simp; omega) | omega) ?_
      intro ha hb
      have hz12_0 : w5.heap.size < w12.heap.size := by have := hk12.size; (try simp at this); omega
      have hn12_0 : ¬ w5.heap.size = w12.heap.size := by omega
      have hm12_0 : ¬ w12.heap.size = w5.heap.size := by omega
      have hf12_0_0 : w12.cell? ⟨w5.heap.size, 0, none⟩ = some (.int .i64 sl) := by first | (rw [ha]; with_reducible assumption) | (simp (maxDischargeDepth := 7) [go_sem, ha]; done) | (rw [ha]; assumption) | (simp (maxDischargeDepth := 7) [go_sem, ha, *]; done)
      have hf12_0_1 : w12.cell? ⟨w5.heap.size, 1, none⟩ = some (.int .i64 sg) := by first | (rw [ha]; with_reducible assumption) | (simp (maxDischargeDepth := 7) [go_sem, ha]; done) | (rw [ha]; assumption) | (simp (maxDischargeDepth := 7) [go_sem, ha, *]; done)
      try have hg12_0 : ∀ o, w12.frozen? ⟨w5.heap.size, o, none⟩ = false := by intro o; first | (simp (maxDischargeDepth := 7) [go_sem, hb]; done) | (rw [hb]; simp (maxDischargeDepth := 7) [go_sem, *]; done)
      clear ha hb
      refine kuse (b := w6.heap.size) hk12 (by first | (simp; done) | (simp; omega) | omega) ?_
      intro ha hb
      have hz12_1 : w6.heap.size < w12.heap.size := by have := hk12.size; (try simp at this); omega
      have hn12_1 : ¬ w6.heap.size = w12.heap.size := by omega
      have hm12_1 : ¬ w12.heap.size = w6.heap.size := by omega
      have hf12_1_0 : w12.cell? ⟨w6.heap.size, 0, none⟩ = some (.int .i64 tl) := by first | (rw [ha]; with_reducible assumption) | (simp (maxDischargeDepth := 7) [go_sem, ha]; done) | (rw [ha]; assumption) | (simp (maxDischargeDepth := 7) [go_sem, ha, *]; done)
      have hf12_1_1 : w12.cell? ⟨w6.heap.size, 1, none⟩ = some (.int .i64 tg) := by first | (rw [ha]; with_reducible assumption) | (simp (maxDischargeDepth := 7) [go_sem, ha]; done) | (rw [ha]; assumption) | (simp (maxDischargeDepth := 7) [go_sem, ha, *]; done)
      try have hg12_1 : ∀ o, w12.frozen? ⟨w6.heap.size, o, none⟩ = false := by intro o; first | (simp (maxDischargeDepth := 7) [go_sem, hb]; done) | (rw [hb]; simp (maxDischargeDepth := 7) [go_sem, *]; done)
      clear ha hb
      go_wp2_with fail
      all_goals go_wp2
      all_goals first | (go_ret; refine ⟨?_, (by repeat (first | with_reducible exact Kept.refl _ | with_reducible assumption | with_reducible refine Kept.setCell ?_ (by first | (simp; done) | (simp; omega) | omega) _ | with_reducible refine Kept.alloc ?_ _ | with_reducible refine Kept.drewN ?_ _ | with_reducible refine Kept.drew ?_ | with_reducible refine Kept.trans ?_ (by with_reducible assumption) | with_reducible refine Kept.dr ?_ (by with_reducible assumption)))⟩; first | rfl | (show Ending.returned (.bool (decide _)) = _; rw [decide_eq_true (by omega)]) | (show Ending.returned (.bool (decide _)) = _; rw [decide_eq_false (by omega)]) | (refine retb ?_; simp; done) | (refine retb ?_; simp; omega)) | (exfalso; omega)
    · go_wp2_with fail
      all_goals go_wp2
      all_goals first | (go_ret; refine ⟨?_, (by repeat (first | with_reducible exact Kept.refl _ | with_reducible assumption | with_reducible refine Kept.setCell ?_ (by first | (simp; done) | (simp; omega) | omega) _ | with_reducible refine Kept.alloc ?_ _ | with_reducible refine Kept.drewN ?_ _ | with_reducible refine Kept.drew ?_ | with_reducible refine Kept.trans ?_ (by with_reducible assumption) | with_reducible refine Kept.dr ?_ (by with_reducible assumption)))⟩; first | rfl | (show Ending.returned (.bool (decide _)) = _; rw [decide_eq_true (by omega)]) | (show Ending.returned (.bool (decide _)) = _; rw [decide_eq_false (by omega)]) | (refine retb ?_; simp; done) | (refine retb ?_; simp; omega)) | (exfalso; omega)
  · go_wp2_with fail
    with_reducible refine (cq1 _).mono ?_
    rintro e w7 ⟨rfl, hk7⟩
    refine kuse (b := w.heap.size) hk7 (by first | (simp; done) | (simp; omega) | omega) ?_
    intro ha hb
    have hz7_0 : w.heap.size < w7.heap.size := by have := hk7.size; (try simp at this); omega
    have hn7_0 : ¬ w.heap.size = w7.heap.size := by omega
    have hm7_0 : ¬ w7.heap.size = w.heap.size := by omega
    have hf7_0_0 : w7.cell? ⟨w.heap.size, 0, none⟩ = some (.int .i64 a) := by first | (rw [ha]; with_reducible assumption) | (simp (maxDischargeDepth := 7) [go_sem, ha]; done) | (rw [ha]; assumption) | (simp (maxDischargeDepth := 7) [go_sem, ha, *]; done)
    have hf7_0_1 : w7.cell? ⟨w.heap.size, 1, none⟩ = some (.int .i64 b) := by first | (rw [ha]; with_reducible assumption) | (simp (maxDischargeDepth := 7) [go_sem, ha]; done) | (rw [ha]; assumption) | (simp (maxDischargeDepth := 7) [go_sem, ha, *]; done)
    try have hg7_0 : ∀ o, w7.frozen? ⟨w.heap.size, o, none⟩ = false := by intro o; first | (simp (maxDischargeDepth := 7) [go_sem, hb]; done) | (rw [hb]; simp (maxDischargeDepth := 7) [go_sem, *]; done)
    clear ha hb
    refine kuse (b := w.heap.size + 1) hk7 (by first | (simp; done) | (simp; omega) | omega) ?_
    intro ha hb
    have hz7_1 : w.heap.size + 1 < w7.heap.size := by have := hk7.size; (try simp at this); omega
    have hn7_1 : ¬ w.heap.size + 1 = w7.heap.size := by omega
    have hm7_1 : ¬ w7.heap.size = w.heap.size + 1 := by omega
    have hf7_1_0 : w7.cell? ⟨w.heap.size + 1, 0, none⟩ = some (.int .i64 c) := by first | (rw [ha]; with_reducible assumption) | (simp (maxDischargeDepth := 7) [go_sem, ha]; done) | (rw [ha]; assumption) | (simp (maxDischargeDepth := 7) [go_sem, ha, *]; done)
    have hf7_1_1 : w7.cell? ⟨w.heap.size + 1, 1, none⟩ = some (.int .i64 d) := by first | (rw [ha]; with_reducible assumption) | (simp (maxDischargeDepth := 7) [go_sem, ha]; done) | (rw [ha]; assumption) | (simp (maxDischargeDepth := 7) [go_sem, ha, *]; done)
    try have hg7_1 : ∀ o, w7.frozen? ⟨w.heap.size + 1, o, none⟩ = false := by intro o; first | (simp (maxDischargeDepth := 7) [go_sem, hb]; done) | (rw [hb]; simp (maxDischargeDepth := 7) [go_sem, *]; done)
    clear ha hb
    refine kuse (b := w2.heap.size) hk7 (by first | (simp; done) | (simp; omega) | omega) ?_
    intro ha hb
    have hz7_2 : w2.heap.size < w7.heap.size := by have := hk7.size; (try simp at this); omega
    have hn7_2 : ¬ w2.heap.size = w7.heap.size := by omega
    have hm7_2 : ¬ w7.heap.size = w2.heap.size := by omega
    have hf7_2_0 : w7.cell? ⟨w2.heap.size, 0, none⟩ = some (.int .i64 m) := by first | (rw [ha]; with_reducible assumption) | (simp (maxDischargeDepth := 7) [go_sem, ha]; done) | (rw [ha]; assumption) | (simp (maxDischargeDepth := 7) [go_sem, ha, *]; done)
    have hf7_2_1 : w7.cell? ⟨w2.heap.size, 1, none⟩ = some (.int .i64 k) := by first | (rw [ha]; with_reducible assumption) | (simp (maxDischargeDepth := 7) [go_sem, ha]; done) | (rw [ha]; assumption) | (simp (maxDischargeDepth := 7) [go_sem, ha, *]; done)
    try have hg7_2 : ∀ o, w7.frozen? ⟨w2.heap.size, o, none⟩ = false := by intro o; first | (simp (maxDischargeDepth := 7) [go_sem, hb]; done) | (rw [hb]; simp (maxDischargeDepth := 7) [go_sem, *]; done)
    clear ha hb
    refine kuse (b := w5.heap.size) hk7 (by first | (simp; done) | (simp; omega) | omega) ?_
    intro ha hb
    have hz7_3 : w5.heap.size < w7.heap.size := by have := hk7.size; (try simp at this); omega
    have hn7_3 : ¬ w5.heap.size = w7.heap.size := by omega
    have hm7_3 : ¬ w7.heap.size = w5.heap.size := by omega
    have hf7_3_0 : w7.cell? ⟨w5.heap.size, 0, none⟩ = some (.int .i64 ml) := by first | (rw [ha]; with_reducible assumption) | (simp (maxDischargeDepth := 7) [go_sem, ha]; done) | (rw [ha]; assumption) | (simp (maxDischargeDepth := 7) [go_sem, ha, *]; done)
    have hf7_3_1 : w7.cell? ⟨w5.heap.size, 1, none⟩ = some (.int .i64 mg) := by first | (rw [ha]; with_reducible assumption) | (simp (maxDischargeDepth := 7) [go_sem, ha]; done) | (rw [ha]; assumption) | (simp (maxDischargeDepth := 7) [go_sem, ha, *]; done)
    try have hg7_3 : ∀ o, w7.frozen? ⟨w5.heap.size, o, none⟩ = false := by intro o; first | (simp (maxDischargeDepth := 7) [go_sem, hb]; done) | (rw [hb]; simp (maxDischargeDepth := 7) [go_sem, *]; done)
    clear ha hb
    refine kuse (b := w6.heap.size) hk7 (by first | (simp; done) | (simp; omega) | omega) ?_
    intro ha hb
    have hz7_4 : w6.heap.size < w7.heap.size := by have := hk7.size; (try simp at this); omega
    have hn7_4 : ¬ w6.heap.size = w7.heap.size := by omega
    have hm7_4 : ¬ w7.heap.size = w6.heap.size := by omega
    have hf7_4_0 : w7.cell? ⟨w6.heap.size, 0, none⟩ = some (.int .i64 nl) := by first | (rw [ha]; with_reducible assumption) | (simp (maxDischargeDepth := 7) [go_sem, ha]; done) | (rw [ha]; assumption) | (simp (maxDischargeDepth := 7) [go_sem, ha, *]; done)
    have hf7_4_1 : w7.cell? ⟨w6.heap.size, 1, none⟩ = some (.int .i64 ng) := by first | (rw [ha]; with_reducible assumption) | (simp (maxDischargeDepth := 7) [go_sem, ha]; done) | (rw [ha]; assumption) | (simp (maxDischargeDepth := 7) [go_sem, ha, *]; done)
    try have hg7_4 : ∀ o, w7.frozen? ⟨w6.heap.size, o, none⟩ = false := by intro o; first | (simp (maxDischargeDepth := 7) [go_sem, hb]; done) | (rw [hb]; simp (maxDischargeDepth := 7) [go_sem, *]; done)
    clear ha hb
    go_wp2_with fail
    with_reducible refine (cq2 _).mono ?_
    rintro e w8 ⟨rfl, hk8⟩
    refine kuse (b := w.heap.size) hk8 (by first | (simp; done) | (simp; omega) | omega) ?_
    intro ha hb
    have hz8_0 : w.heap.size < w8.heap.size := by have := hk8.size; (try simp at this); omega
    have hn8_0 : ¬ w.heap.size = w8.heap.size := by omega
    have hm8_0 : ¬ w8.heap.size = w.heap.size := by omega
    have hf8_0_0 : w8.cell? ⟨w.heap.size, 0, none⟩ = some (.int .i64 a) := by first | (rw [ha]; with_reducible assumption) | (simp (maxDischargeDepth := 7) [go_sem, ha]; done) | (rw [ha]; assumption) | (simp (maxDischargeDepth := 7) [go_sem, ha, *]; done)
    have hf8_0_1 : w8.cell? ⟨w.heap.size, 1, none⟩ = some (.int .i64 b) := by first | (rw [ha]; with_reducible assumption) | (simp (maxDischargeDepth := 7) [go_sem, ha]; done) | (rw [ha]; assumption) | (simp (maxDischargeDepth := 7) [go_sem, ha, *]; done)
    try have hg8_0 : ∀ o, w8.frozen? ⟨w.heap.size, o, none⟩ = false := by intro o; first | (simp (maxDischargeDepth := 7) [go_sem, hb]; done) | (rw [hb]; simp (maxDischargeDepth := 7) [go_sem, *]; done)
    clear ha hb
    refine kuse (b := w.heap.size + 1) hk8 (by first | (simp; done) | (simp; omega) | omega) ?_
    intro ha hb
    have hz8_1 : w.heap.size + 1 < w8.heap.size := by have := hk8.size; (try simp at this); omega
    have hn8_1 : ¬ w.heap.size + 1 = w8.heap.size := by omega
    have hm8_1 : ¬ w8.heap.size = w.heap.size + 1 := by omega
    have hf8_1_0 : w8.cell? ⟨w.heap.size + 1, 0, none⟩ = some (.int .i64 c) := by first | (rw [ha]; with_reducible assumption) | (simp (maxDischargeDepth := 7) [go_sem, ha]; done) | (rw [ha]; assumption) | (simp (maxDischargeDepth := 7) [go_sem, ha, *]; done)
    have hf8_1_1 : w8.cell? ⟨w.heap.size + 1, 1, none⟩ = some (.int .i64 d) := by first | (rw [ha]; with_reducible assumption) | (simp (maxDischargeDepth := 7) [go_sem, ha]; done) | (rw [ha]; assumption) | (simp (maxDischargeDepth := 7) [go_sem, ha, *]; done)
    try have hg8_1 : ∀ o, w8.frozen? ⟨w.heap.size + 1, o, none⟩ = false := by intro o; first | (simp (maxDischargeDepth := 7) [go_sem, hb]; done) | (rw [hb]; simp (maxDischargeDepth := 7) [go_sem, *]; done)
    clear ha hb
    refine kuse (b := w2.heap.size) hk8 (by first | (simp; done) | (simp; omega) | omega) ?_
    intro ha hb
    have hz8_2 : w2.heap.size < w8.heap.size := by have := hk8.size; (try simp at this); omega
    have hn8_2 : ¬ w2.heap.size = w8.heap.size := by omega
    have hm8_2 : ¬ w8.heap.size = w2.heap.size := by omega
    have hf8_2_0 : w8.cell? ⟨w2.heap.size, 0, none⟩ = some (.int .i64 m) := by first | (rw [ha]; with_reducible assumption) | (simp (maxDischargeDepth := 7) [go_sem, ha]; done) | (rw [ha]; assumption) | (simp (maxDischargeDepth := 7) [go_sem, ha, *]; done)
    have hf8_2_1 : w8.cell? ⟨w2.heap.size, 1, none⟩ = some (.int .i64 k) := by first | (rw [ha]; with_reducible assumption) | (simp (maxDischargeDepth := 7) [go_sem, ha]; done) | (rw [ha]; assumption) | (simp (maxDischargeDepth := 7) [go_sem, ha, *]; done)
    try have hg8_2 : ∀ o, w8.frozen? ⟨w2.heap.size, o, none⟩ = false := by intro o; first | (simp (maxDischargeDepth := 7) [go_sem, hb]; done) | (rw [hb]; simp (maxDischargeDepth := 7) [go_sem, *]; done)
    clear ha hb
    refine kuse (b := w5.heap.size) hk8 (by first | (simp; done) | (simp; omega) | omega) ?_
    intro ha hb
    have hz8_3 : w5.heap.size < w8.heap.size := by have := hk8.size; (try simp at this); omega
    have hn8_3 : ¬ w5.heap.size = w8.heap.size := by omega
    have hm8_3 : ¬ w8.heap.size = w5.heap.size := by omega
    have hf8_3_0 : w8.cell? ⟨w5.heap.size, 0, none⟩ = some (.int .i64 0) := by first | (rw [ha]; with_reducible assumption) | (simp (maxDischargeDepth := 7) [go_sem, ha]; done) | (rw [ha]; assumption) | (simp (maxDischargeDepth := 7) [go_sem, ha, *]; done)
    have hf8_3_1 : w8.cell? ⟨w5.heap.size, 1, none⟩ = some (.int .i64 0) := by first | (rw [ha]; with_reducible assumption) | (simp (maxDischargeDepth := 7) [go_sem, ha]; done) | (rw [ha]; assumption) | (simp (maxDischargeDepth := 7) [go_sem, ha, *]; done)
    try have hg8_3 : ∀ o, w8.frozen? ⟨w5.heap.size, o, none⟩ = false := by intro o; first | (simp (maxDischargeDepth := 7) [go_sem, hb]; done) | (rw [hb]; simp (maxDischargeDepth := 7) [go_sem, *]; done)
    clear ha hb
    refine kuse (b := w6.heap.size) hk8 (by first | (simp; done) | (simp; omega) | omega) ?_
    intro ha hb
    have hz8_4 : w6.heap.size < w8.heap.size := by have := hk8.size; (try simp at this); omega
    have hn8_4 : ¬ w6.heap.size = w8.heap.size := by omega
    have hm8_4 : ¬ w8.heap.size = w6.heap.size := by omega
    have hf8_4_0 : w8.cell? ⟨w6.heap.size, 0, none⟩ = some (.int .i64 nl) := by first | (rw [ha]; with_reducible assumption) | (simp (maxDischargeDepth := 7) [go_sem, ha]; done) | (rw [ha]; assumption) | (simp (maxDischargeDepth := 7) [go_sem, ha, *]; done)
    have hf8_4_1 : w8.cell? ⟨w6.heap.size, 1, none⟩ = some (.int .i64 ng) := by first | (rw [ha]; with_reducible assumption) | (simp (maxDischargeDepth := 7) [go_sem, ha]; done) | (rw [ha]; assumption) | (simp (maxDischargeDepth := 7) [go_sem, ha, *]; done)
    try have hg8_4 : ∀ o, w8.frozen? ⟨w6.heap.size, o, none⟩ = false := by intro o; first | (simp (maxDischargeDepth := 7) [go_sem, hb]; done) | (rw [hb]; simp (maxDischargeDepth := 7) [go_sem, *]; done)
    clear ha hb
    try clear hf7_0_0
    try clear hf7_0_1
    try clear hf7_1_0
    try clear hf7_1_1
    try clear hf7_2_0
    try clear hf7_2_1
    try clear hf7_3_0
    try clear hf7_3_1
    try clear hf7_4_0
    try clear hf7_4_1
    try clear hg7_0
    try clear hg7_1
    try clear hg7_2
    try clear hg7_3
    try clear hg7_4
    try clear hn7_0
    try clear hn7_1
    try clear hn7_2
    try clear hn7_3
    try clear hn7_4
    try clear hm7_0
    try clear hm7_1
    try clear hm7_2
    try clear hm7_3
    try clear hm7_4
    try clear hz7_1
    try clear hz7_2
    try clear hz7_3
    try clear hz7_4
    go_wp2_with fail
    with_reducible refine (cs1 _).mono ?_
    rintro e w9 ⟨rfl, hk9⟩
    refine kuse (b := w.heap.size) hk9 (by first | (simp; done) | (simp; omega) | omega) ?_
    intro ha hb
    have hz9_0 : w.heap.size < w9.heap.size := by have := hk9.size; (try simp at this); omega
    have hn9_0 : ¬ w.heap.size = w9.heap.size := by omega
    have hm9_0 : ¬ w9.heap.size = w.heap.size := by omega
    have hf9_0_0 : w9.cell? ⟨w.heap.size, 0, none⟩ = some (.int .i64 a) := by first | (rw [ha]; with_reducible assumption) | (simp (maxDischargeDepth := 7) [go_sem, ha]; done) | (rw [ha]; assumption) | (simp (maxDischargeDepth := 7) [go_sem, ha, *]; done)
    have hf9_0_1 : w9.cell? ⟨w.heap.size, 1, none⟩ = some (.int .i64 b) := by first | (rw [ha]; with_reducible assumption) | (simp (maxDischargeDepth := 7) [go_sem, ha]; done) | (rw [ha]; assumption) | (simp (maxDischargeDepth := 7) [go_sem, ha, *]; done)
    try have hg9_0 : ∀ o, w9.frozen? ⟨w.heap.size, o, none⟩ = false := by intro o; first | (simp (maxDischargeDepth := 7) [go_sem, hb]; done) | (rw [hb]; simp (maxDischargeDepth := 7) [go_sem, *]; done)
    clear ha hb
    refine kuse (b := w.heap.size + 1) hk9 (by first | (simp; done) | (simp; omega) | omega) ?_
    intro ha hb
    have hz9_1 : w.heap.size + 1 < w9.heap.size := by have := hk9.size; (try simp at this); omega
    have hn9_1 : ¬ w.heap.size + 1 = w9.heap.size := by omega
    have hm9_1 : ¬ w9.heap.size = w.heap.size + 1 := by omega
    have hf9_1_0 : w9.cell? ⟨w.heap.size + 1, 0, none⟩ = some (.int .i64 c) := by first | (rw [ha]; with_reducible assumption) | (simp (maxDischargeDepth := 7) [go_sem, ha]; done) | (rw [ha]; assumption) | (simp (maxDischargeDepth := 7) [go_sem, ha, *]; done)
    have hf9_1_1 : w9.cell? ⟨w.heap.size + 1, 1, none⟩ = some (.int .i64 d) := by first | (rw [ha]; with_reducible assumption) | (simp (maxDischargeDepth := 7) [go_sem, ha]; done) | (rw [ha]; assumption) | (simp (maxDischargeDepth := 7) [go_sem, ha, *]; done)
    try have hg9_1 : ∀ o, w9.frozen? ⟨w.heap.size + 1, o, none⟩ = false := by intro o; first | (simp (maxDischargeDepth := 7) [go_sem, hb]; done) | (rw [hb]; simp (maxDischargeDepth := 7) [go_sem, *]; done)
    clear ha hb
    refine kuse (b := w2.heap.size) hk9 (by first | (simp; done) | (simp; omega) | omega) ?_
    intro ha hb
    have hz9_2 : w2.heap.size < w9.heap.size := by have := hk9.size; (try simp at this); omega
    have hn9_2 : ¬ w2.heap.size = w9.heap.size := by omega
    have hm9_2 : ¬ w9.heap.size = w2.heap.size := by omega
    have hf9_2_0 : w9.cell? ⟨w2.heap.size, 0, none⟩ = some (.int .i64 m) := by first | (rw [ha]; with_reducible assumption) | (simp (maxDischargeDepth := 7) [go_sem, ha]; done) | (rw [ha]; assumption) | (simp (maxDischargeDepth := 7) [go_sem, ha, *]; done)
    have hf9_2_1 : w9.cell? ⟨w2.heap.size, 1, none⟩ = some (.int .i64 k) := by first | (rw [ha]; with_reducible assumption) | (simp (maxDischargeDepth := 7) [go_sem, ha]; done) | (rw [ha]; assumption) | (simp (maxDischargeDepth := 7) [go_sem, ha, *]; done)
    try have hg9_2 : ∀ o, w9.frozen? ⟨w2.heap.size, o, none⟩ = false := by intro o; first | (simp (maxDischargeDepth := 7) [go_sem, hb]; done) | (rw [hb]; simp (maxDischargeDepth := 7) [go_sem, *]; done)
    clear ha hb
    refine kuse (b := w5.heap.size) hk9 (by first | (simp; done) | (simp; omega) | omega) ?_
    intro ha hb
    have hz9_3 : w5.heap.size < w9.heap.size := by have := hk9.size; (try simp at this); omega
    have hn9_3 : ¬ w5.heap.size = w9.heap.size := by omega
    have hm9_3 : ¬ w9.heap.size = w5.heap.size := by omega
    have hf9_3_0 : w9.cell? ⟨w5.heap.size, 0, none⟩ = some (.int .i64 0) := by first | (rw [ha]; with_reducible assumption) | (simp (maxDischargeDepth := 7) [go_sem, ha]; done) | (rw [ha]; assumption) | (simp (maxDischargeDepth := 7) [go_sem, ha, *]; done)
    have hf9_3_1 : w9.cell? ⟨w5.heap.size, 1, none⟩ = some (.int .i64 0) := by first | (rw [ha]; with_reducible assumption) | (simp (maxDischargeDepth := 7) [go_sem, ha]; done) | (rw [ha]; assumption) | (simp (maxDischargeDepth := 7) [go_sem, ha, *]; done)
    try have hg9_3 : ∀ o, w9.frozen? ⟨w5.heap.size, o, none⟩ = false := by intro o; first | (simp (maxDischargeDepth := 7) [go_sem, hb]; done) | (rw [hb]; simp (maxDischargeDepth := 7) [go_sem, *]; done)
    clear ha hb
    refine kuse (b := w6.heap.size) hk9 (by first | (simp; done) | (simp; omega) | omega) ?_
    intro ha hb
    have hz9_4 : w6.heap.size < w9.heap.size := by have := hk9.size; (try simp at this); omega
    have hn9_4 : ¬ w6.heap.size = w9.heap.size := by omega
    have hm9_4 : ¬ w9.heap.size = w6.heap.size := by omega
    have hf9_4_0 : w9.cell? ⟨w6.heap.size, 0, none⟩ = some (.int .i64 0) := by first | (rw [ha]; with_reducible assumption) | (simp (maxDischargeDepth := 7) [go_sem, ha]; done) | (rw [ha]; assumption) | (simp (maxDischargeDepth := 7) [go_sem, ha, *]; done)
    have hf9_4_1 : w9.cell? ⟨w6.heap.size, 1, none⟩ = some (.int .i64 0) := by first | (rw [ha]; with_reducible assumption) | (simp (maxDischargeDepth := 7) [go_sem, ha]; done) | (rw [ha]; assumption) | (simp (maxDischargeDepth := 7) [go_sem, ha, *]; done)
    try have hg9_4 : ∀ o, w9.frozen? ⟨w6.heap.size, o, none⟩ = false := by intro o; first | (simp (maxDischargeDepth := 7) [go_sem, hb]; done) | (rw [hb]; simp (maxDischargeDepth := 7) [go_sem, *]; done)
    clear ha hb
    try clear hf8_0_0
    try clear hf8_0_1
    try clear hf8_1_0
    try clear hf8_1_1
    try clear hf8_2_0
    try clear hf8_2_1
    try clear hf8_3_0
    try clear hf8_3_1
    try clear hf8_4_0
    try clear hf8_4_1
    try clear hg8_0
    try clear hg8_1
    try clear hg8_2
    try clear hg8_3
    try clear hg8_4
    try clear hn8_0
    try clear hn8_1
    try clear hn8_2
    try clear hn8_3
    try clear hn8_4
    try clear hm8_0
    try clear hm8_1
    try clear hm8_2
    try clear hm8_3
    try clear hm8_4
    try clear hz8_1
    try clear hz8_2
    try clear hz8_3
    try clear hz8_4
    go_wp2_with fail
    with_reducible refine (cs2 _).mono ?_
    rintro e w10 ⟨rfl, hk10⟩
    refine kuse (b := w.heap.size) hk10 (by first | (simp; done) | (simp; omega) | omega) ?_
    intro ha hb
    have hz10_0 : w.heap.size < w10.heap.size := by have := hk10.size; (try simp at this); omega
    have hn10_0 : ¬ w.heap.size = w10.heap.size := by omega
    have hm10_0 : ¬ w10.heap.size = w.heap.size := by omega
    have hf10_0_0 : w10.cell? ⟨w.heap.size, 0, none⟩ = some (.int .i64 a) := by first | (rw [ha]; with_reducible assumption) | (simp (maxDischargeDepth := 7) [go_sem, ha]; done) | (rw [ha]; assumption) | (simp (maxDischargeDepth := 7) [go_sem, ha, *]; done)
    have hf10_0_1 : w10.cell? ⟨w.heap.size, 1, none⟩ = some (.int .i64 b) := by first | (rw [ha]; with_reducible assumption) | (simp (maxDischargeDepth := 7) [go_sem, ha]; done) | (rw [ha]; assumption) | (simp (maxDischargeDepth := 7) [go_sem, ha, *]; done)
    try have hg10_0 : ∀ o, w10.frozen? ⟨w.heap.size, o, none⟩ = false := by intro o; first | (simp (maxDischargeDepth := 7) [go_sem, hb]; done) | (rw [hb]; simp (maxDischargeDepth := 7) [go_sem, *]; done)
    clear ha hb
    refine kuse (b := w.heap.size + 1) hk10 (by first | (simp; done) | (simp; omega) | omega) ?_
    intro ha hb
    have hz10_1 : w.heap.size + 1 < w10.heap.size := by have := hk10.size; (try simp at this); omega
    have hn10_1 : ¬ w.heap.size + 1 = w10.heap.size := by omega
    have hm10_1 : ¬ w10.heap.size = w.heap.size + 1 := by omega
    have hf10_1_0 : w10.cell? ⟨w.heap.size + 1, 0, none⟩ = some (.int .i64 c) := by first | (rw [ha]; with_reducible assumption) | (simp (maxDischargeDepth := 7) [go_sem, ha]; done) | (rw [ha]; assumption) | (simp (maxDischargeDepth := 7) [go_sem, ha, *]; done)
    have hf10_1_1 : w10.cell? ⟨w.heap.size + 1, 1, none⟩ = some (.int .i64 d) := by first | (rw [ha]; with_reducible assumption) | (simp (maxDischargeDepth := 7) [go_sem, ha]; done) | (rw [ha]; assumption) | (simp (maxDischargeDepth := 7) [go_sem, ha, *]; done)
    try have hg10_1 : ∀ o, w10.frozen? ⟨w.heap.size + 1, o, none⟩ = false := by intro o; first | (simp (maxDischargeDepth := 7) [go_sem, hb]; done) | (rw [hb]; simp (maxDischargeDepth := 7) [go_sem, *]; done)
    clear ha hb
    refine kuse (b := w2.heap.size) hk10 (by first | (simp; done) | (simp; omega) | omega) ?_
    intro ha hb
    have hz10_2 : w2.heap.size < w10.heap.size := by have := hk10.size; (try simp at this); omega
    have hn10_2 : ¬ w2.heap.size = w10.heap.size := by omega
    have hm10_2 : ¬ w10.heap.size = w2.heap.size := by omega
    have hf10_2_0 : w10.cell? ⟨w2.heap.size, 0, none⟩ = some (.int .i64 m) := by first | (rw [ha]; with_reducible assumption) | (simp (maxDischargeDepth := 7) [go_sem, ha]; done) | (rw [ha]; assumption) | (simp (maxDischargeDepth := 7) [go_sem, ha, *]; done)
    have hf10_2_1 : w10.cell? ⟨w2.heap.size, 1, none⟩ = some (.int .i64 k) := by first | (rw [ha]; with_reducible assumption) | (simp (maxDischargeDepth := 7) [go_sem, ha]; done) | (rw [ha]; assumption) | (simp (maxDischargeDepth := 7) [go_sem, ha, *]; done)
    try have hg10_2 : ∀ o, w10.frozen? ⟨w2.heap.size, o, none⟩ = false := by intro o; first | (simp (maxDischargeDepth := 7) [go_sem, hb]; done) | (rw [hb]; simp (maxDischargeDepth := 7) [go_sem, *]; done)
    clear ha hb
    refine kuse (b := w5.heap.size) hk10 (by first | (simp; done) | (simp; omega) | omega) ?_
    intro ha hb
    have hz10_3 : w5.heap.size < w10.heap.size := by have := hk10.size; (try simp at this); omega
    have hn10_3 : ¬ w5.heap.size = w10.heap.size := by omega
    have hm10_3 : ¬ w10.heap.size = w5.heap.size := by omega
    have hf10_3_0 : w10.cell? ⟨w5.heap.size, 0, none⟩ = some (.int .i64 sl) := by first | (rw [ha]; with_reducible assumption) | (simp (maxDischargeDepth := 7) [go_sem, ha]; done) | (rw [ha]; assumption) | (simp (maxDischargeDepth := 7) [go_sem, ha, *]; done)
    have hf10_3_1 : w10.cell? ⟨w5.heap.size, 1, none⟩ = some (.int .i64 sg) := by first | (rw [ha]; with_reducible assumption) | (simp (maxDischargeDepth := 7) [go_sem, ha]; done) | (rw [ha]; assumption) | (simp (maxDischargeDepth := 7) [go_sem, ha, *]; done)
    try have hg10_3 : ∀ o, w10.frozen? ⟨w5.heap.size, o, none⟩ = false := by intro o; first | (simp (maxDischargeDepth := 7) [go_sem, hb]; done) | (rw [hb]; simp (maxDischargeDepth := 7) [go_sem, *]; done)
    clear ha hb
    refine kuse (b := w6.heap.size) hk10 (by first | (simp; done) | (simp; omega) | omega) ?_
    intro ha hb
    have hz10_4 : w6.heap.size < w10.heap.size := by have := hk10.size; (try simp at this); omega
    have hn10_4 : ¬ w6.heap.size = w10.heap.size := by omega
    have hm10_4 : ¬ w10.heap.size = w6.heap.size := by omega
    have hf10_4_0 : w10.cell? ⟨w6.heap.size, 0, none⟩ = some (.int .i64 0) := by first | (rw [ha]; with_reducible assumption) | (simp (maxDischargeDepth := 7) [go_sem, ha]; done) | (rw [ha]; assumption) | (simp (maxDischargeDepth := 7) [go_sem, ha, *]; done)
    have hf10_4_1 : w10.cell? ⟨w6.heap.size, 1, none⟩ = some (.int .i64 0) := by first | (rw [ha]; with_reducible assumption) | (simp (maxDischargeDepth := 7) [go_sem, ha]; done) | (rw [ha]; assumption) | (simp (maxDischargeDepth := 7) [go_sem, ha, *]; done)
    try have hg10_4 : ∀ o, w10.frozen? ⟨w6.heap.size, o, none⟩ = false := by intro o; first | (simp (maxDischargeDepth := 7) [go_sem, hb]; done) | (rw [hb]; simp (maxDischargeDepth := 7) [go_sem, *]; done)
    clear ha hb
    try clear hf9_0_0
    try clear hf9_0_1
    try clear hf9_1_0
    try clear hf9_1_1
    try clear hf9_2_0
    try clear hf9_2_1
    try clear hf9_3_0
    try clear hf9_3_1
    try clear hf9_4_0
    try clear hf9_4_1
    try clear hg9_0
    try clear hg9_1
    try clear hg9_2
    try clear hg9_3
    try clear hg9_4
    try clear hn9_0
    try clear hn9_1
    try clear hn9_2
    try clear hn9_3
    try clear hn9_4
    try clear hm9_0
    try clear hm9_1
    try clear hm9_2
    try clear hm9_3
    try clear hm9_4
    try clear hz9_1
    try clear hz9_2
    try clear hz9_3
    try clear hz9_4
    rcases kss with ⟨rfl, rfl, s1, s2, s3, s4, s5⟩ | rfl
    · go_wp2_with fail
      with_reducible refine (iwithin_yes sl sg tl tg (by omega) (by omega) (by omega) (by omega) (by omega) (by omega) (by omega) (by omega) _).mono ?_
      rintro e w11 ⟨rfl, hk11⟩
      refine kuse (b := w5.heap.size) hk11 (by first | (simp; done) | (simp; omega) | omega) ?_
      intro ha hb
      have hz11_0 : w5.heap.size < w11.heap.size := by have := hk11.size; (try simp at this); omega
      have hn11_0 : ¬ w5.heap.size = w11.heap.size := by omega
      have hm11_0 : ¬ w11.heap.size = w5.heap.size := by omega
      have hf11_0_0 : w11.cell? ⟨w5.heap.size, 0, none⟩ = some (.int .i64 sl) := by first | (rw [ha]; with_reducible assumption) | (simp (maxDischargeDepth := 7) [go_sem, ha]; done) | (rw [ha]; assumption) | (simp (maxDischargeDepth := 7) [go_sem, ha, *]; done)
      have hf11_0_1 : w11.cell? ⟨w5.heap.size, 1, none⟩ = some (.int .i64 sg) := by first | (rw [ha]; with_reducible assumption) | (simp (maxDischargeDepth := 7) [go_sem, ha]; done) | (rw [ha]; assumption) | (simp (maxDischargeDepth := 7) [go_sem, ha, *]; done)
      try have hg11_0 : ∀ o, w11.frozen? ⟨w5.heap.size, o, none⟩ = false := by intro o; first | (simp (maxDischargeDepth := 7) [go_sem, hb]; done) | (rw [hb]; simp (maxDischargeDepth := 7) [go_sem, *]; done)
      clear ha hb
      refine kuse (b := w6.heap.size) hk11 (by first | (simp; done) | (simp; omega) | omega) ?_
      intro ha hb
      have hz11_1 : w6.heap.size < w11.heap.size := by have := hk11.size; (try simp at this); omega
      have hn11_1 : ¬ w6.heap.size = w11.heap.size := by omega
      have hm11_1 : ¬ w11.heap.size = w6.heap.size := by omega
      have hf11_1_0 : w11.cell? ⟨w6.heap.size, 0, none⟩ = some (.int .i64 tl) := by first | (rw [ha]; with_reducible assumption) | (simp (maxDischargeDepth := 7) [go_sem, ha]; done) | (rw [ha]; assumption) | (simp (maxDischargeDepth := 7) [go_sem, ha, *]; done)
      have hf11_1_1 : w11.cell? ⟨w6.heap.size, 1, none⟩ = some (.int .i64 tg) := by first | (rw [ha]; with_reducible assumption) | (simp (maxDischargeDepth := 7) [go_sem, ha]; done) | (rw [ha]; assumption) | (simp (maxDischargeDepth := 7) [go_sem, ha, *]; done)
      try have hg11_1 : ∀ o, w11.frozen? ⟨w6.heap.size, o, none⟩ = false := by intro o; first | (simp (maxDischargeDepth := 7) [go_sem, hb]; done) | (rw [hb]; simp (maxDischargeDepth := 7) [go_sem, *]; done)
      clear ha hb
      go_wp2_with fail
      all_goals go_wp2
      all_goals first | (go_ret; refine ⟨?_, (by repeat (first | with_reducible exact Kept.refl _ | with_reducible assumption | with_reducible refine Kept.setCell ?_ (by first | (simp; done) | (simp; omega) | omega) _ | with_reducible refine Kept.alloc ?_ _ | with_reducible refine Kept.drewN ?_ _ | with_reducible refine Kept.drew ?_ | with_reducible refine Kept.trans ?_ (by with_reducible assumption) | with_reducible refine Kept.dr ?_ (by with_reducible assumption)))⟩; first | rfl | (show Ending.returned (.bool (decide _)) = _; rw [decide_eq_true (by omega)]) | (show Ending.returned (.bool (decide _)) = _; rw [decide_eq_false (by omega)]) | (refine retb ?_; simp; done) | (refine retb ?_; simp; omega)) | (exfalso; omega)
    · go_wp2_with fail
      all_goals go_wp2
      all_goals first | (go_ret; refine ⟨?_, (by repeat (first | with_reducible exact Kept.refl _ | with_reducible assumption | with_reducible refine Kept.setCell ?_ (by first | (simp; done) | (simp; omega) | omega) _ | with_reducible refine Kept.alloc ?_ _ | with_reducible refine Kept.drewN ?_ _ | with_reducible refine Kept.drew ?_ | with_reducible refine Kept.trans ?_ (by with_reducible assumption) | with_reducible refine Kept.dr ?_ (by with_reducible assumption)))⟩; first | rfl | (show Ending.returned (.bool (decide _)) = _; rw [decide_eq_true (by omega)]) | (show Ending.returned (.bool (decide _)) = _; rw [decide_eq_false (by omega)]) | (refine retb ?_; simp; done) | (refine retb ?_; simp; omega)) | (exfalso; omega)
end Go.Proofs.Ytinpmooihjdbgaa
