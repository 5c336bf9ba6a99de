/-
  Own contracts: package sphere and the document's answers of layer 9: distances across and along a great circle.
-/
import Derived.Test.YtjnodchmamlcpaaSphh
import Derived.WalkKit
import Derived.ProofKit
import Derived.OpenShut
import Derived.WalkLawsBesides
import Derived.WalkSpells
import Derived.Lib.Hide
import Derived.Deep.DeepCutAuto
import Derived.Deep.CutBlock
import Derived.Deep.QuietTactic
import Derived.BigQuiet
import Derived.Handy
import Derived.StillTailTactics
import Derived.IntWalk
import Derived.LoopN
import Derived.Deep.RegionHeld3
namespace Go.Proofs.Ytjnodchmamlcpaa
open Go.ChangeShapes Go.WideShapes Go.ChangeAt Go.RowKit
set_option linter.unusedVariables false
set_option linter.unusedSimpArgs false
def crO (la lo c ma mo : Int) : Int := dirV (r30 (lcE la lo (uX ma mo) (uY ma mo) (uZ ma mo) * cosV c - lcN la lo (uX ma mo) (uY ma mo) (uZ ma mo) * sinV c)) (hyV (r30 (lcE la lo (uX ma mo) (uY ma mo) (uZ ma mo) * sinV c + lcN la lo (uX ma mo) (uY ma mo) (uZ ma mo) * cosV c)) (lcU la lo (uX ma mo) (uY ma mo) (uZ ma mo)))
def crA (la lo c ma mo : Int) : Int := dirV (r30 (lcE la lo (uX ma mo) (uY ma mo) (uZ ma mo) * sinV c + lcN la lo (uX ma mo) (uY ma mo) (uZ ma mo) * cosV c)) (lcU la lo (uX ma mo) (uY ma mo) (uZ ma mo))
set_option maxHeartbeats 2000000 in
set_option maxRecDepth 100000 in
theorem cross_ok (la lo : Int) (la0 : -32400000 ≤ la) (la1 : la ≤ 32400000) (lo0 : -64800000 < lo) (lo1 : lo ≤ 64800000) (c : Int) (c_0 : -9223372036854775808 ≤ c) (c_1 : c ≤ 9223372036854775807) (ma mo : Int) (ma0 : -32400000 ≤ ma) (ma1 : ma ≤ 32400000) (mo0 : -64800000 < mo) (mo1 : mo ≤ 64800000) (w : World) : Calls Try.prog 33 #[.agg #[.int .i64 la, .int .i64 lo], .int .i64 c, .agg #[.int .i64 ma, .int .i64 mo]] w fun e w' => e = .returned (.tuple #[.int .i64 (crO la lo c ma mo), .int .i64 (crA la lo c ma mo), .int .i64 0]) ∧ Kept w w' := by
  have bd0 := sinV_bd lo
  obtain ⟨bd00, bd01⟩ := bd0
  have bd1 := cosV_bd lo
  obtain ⟨bd10, bd11⟩ := bd1
  have bd2 := cosV_bd la
  obtain ⟨bd20, bd21⟩ := bd2
  have bd3 := fA_bd la lo
  obtain ⟨bd30, bd31⟩ := bd3
  have bd4 := fB_bd la lo
  obtain ⟨bd40, bd41⟩ := bd4
  have bd5 := uX_bd la lo
  obtain ⟨bd50, bd51⟩ := bd5
  have bd6 := uY_bd la lo
  obtain ⟨bd60, bd61⟩ := bd6
  have bd7 := uZ_bd la lo
  obtain ⟨bd70, bd71⟩ := bd7
  have bd8 := uX_bd ma mo
  obtain ⟨bd80, bd81⟩ := bd8
  have bd9 := uY_bd ma mo
  obtain ⟨bd90, bd91⟩ := bd9
  have bd10 := uZ_bd ma mo
  obtain ⟨bd100, bd101⟩ := bd10
  obtain ⟨m00, m01⟩ := mul_sb (cosV lo) (uY ma mo) (by omega) (by omega) (by omega) (by omega)
  obtain ⟨m10, m11⟩ := mul_sb (sinV lo) (uX ma mo) (by omega) (by omega) (by omega) (by omega)
  obtain ⟨m20, m21⟩ := mul_sb (cosV la) (uZ ma mo) (by omega) (by omega) (by omega) (by omega)
  obtain ⟨m30, m31⟩ := mul_sb (fA la lo) (uX ma mo) (by omega) (by omega) (by omega) (by omega)
  obtain ⟨m40, m41⟩ := mul_sb (fB la lo) (uY ma mo) (by omega) (by omega) (by omega) (by omega)
  obtain ⟨m50, m51⟩ := mul_sb (uX la lo) (uX ma mo) (by omega) (by omega) (by omega) (by omega)
  obtain ⟨m60, m61⟩ := mul_sb (uY la lo) (uY ma mo) (by omega) (by omega) (by omega) (by omega)
  obtain ⟨m70, m71⟩ := mul_sb (uZ la lo) (uZ ma mo) (by omega) (by omega) (by omega) (by omega)
  have eb : -2147483648 ≤ lcE la lo (uX ma mo) (uY ma mo) (uZ ma mo) ∧ lcE la lo (uX ma mo) (uY ma mo) (uZ ma mo) ≤ 2147483648 := by unfold lcE r30; omega
  have nb : -3221225472 ≤ lcN la lo (uX ma mo) (uY ma mo) (uZ ma mo) ∧ lcN la lo (uX ma mo) (uY ma mo) (uZ ma mo) ≤ 3221225472 := by unfold lcN r30; omega
  have ub : -3221225472 ≤ lcU la lo (uX ma mo) (uY ma mo) (uZ ma mo) ∧ lcU la lo (uX ma mo) (uY ma mo) (uZ ma mo) ≤ 3221225472 := by unfold lcU dot3 r30; omega
  obtain ⟨E, hE⟩ : ∃ A, lcE la lo (uX ma mo) (uY ma mo) (uZ ma mo) = A := ⟨_, rfl⟩
  obtain ⟨N, hN⟩ : ∃ A, lcN la lo (uX ma mo) (uY ma mo) (uZ ma mo) = A := ⟨_, rfl⟩
  obtain ⟨U, hU⟩ : ∃ A, lcU la lo (uX ma mo) (uY ma mo) (uZ ma mo) = A := ⟨_, rfl⟩
  have LK := fun w => local_ok la lo la0 la1 lo0 lo1 ma mo ma0 ma1 mo0 mo1 w
  rw [hE] at eb LK
  rw [hN] at nb LK
  rw [hU] at ub LK
  obtain ⟨eb0, eb1⟩ := eb
  obtain ⟨nb0, nb1⟩ := nb
  obtain ⟨ub0, ub1⟩ := ub
  unfold crO crA
  rw [hE, hN, hU]
  have KL := Lib.hid LK
  clear LK hE hN hU
  have bd0_ := sinV_bd c
  obtain ⟨bd0_0, bd0_1⟩ := bd0_
  have bd1_ := cosV_bd c
  obtain ⟨bd1_0, bd1_1⟩ := bd1_
  obtain ⟨j0, j1⟩ := mul_sb' E (cosV c) 2147483648 1073741824 (by omega) (by omega) (by omega) (by omega)
  obtain ⟨j2, j3⟩ := mul_sb' E (sinV c) 2147483648 1073741824 (by omega) (by omega) (by omega) (by omega)
  obtain ⟨j4, j5⟩ := mul_sb' N (sinV c) 3221225472 1073741824 (by omega) (by omega) (by omega) (by omega)
  obtain ⟨j6, j7⟩ := mul_sb' N (cosV c) 3221225472 1073741824 (by omega) (by omega) (by omega) (by omega)
  have rb : -9223372036854775808 ≤ r30 (E * cosV c - N * sinV c) ∧ r30 (E * cosV c - N * sinV c) ≤ 9223372036854775807 := by unfold r30; omega
  have ab : -9223372036854775808 ≤ r30 (E * sinV c + N * cosV c) ∧ r30 (E * sinV c + N * cosV c) ≤ 9223372036854775807 := by unfold r30; omega
  obtain ⟨X, hX⟩ : ∃ A, r30 (E * cosV c - N * sinV c) = A := ⟨_, rfl⟩
  obtain ⟨Y, hY⟩ : ∃ A, r30 (E * sinV c + N * cosV c) = A := ⟨_, rfl⟩
  rw [hX] at rb
  rw [hY] at ab
  obtain ⟨rb0, rb1⟩ := rb
  obtain ⟨ab0, ab1⟩ := ab
  obtain ⟨hy0, hy1⟩ := hyV_bd Y U
  rw [hX, hY]
  go_enter Try.func33, Try.ntmps33
  go_wp2_with fail
  with_reducible refine (KL.out _).mono ?_
  rintro e w1 ⟨rfl, hk1⟩
  refine kuse (b := w.heap.size) hk1 (by first | (simp; done) | (simp; omega) | omega) ?_
  intro ha hb
  have hz1_0 : w.heap.size < w1.heap.size := by have := hk1.size; (try simp at this); omega
  have hn1_0 : ¬ w.heap.size = w1.heap.size := by omega
  have hm1_0 : ¬ w1.heap.size = w.heap.size := by omega
  have hf1_0_0 : w1.cell? ⟨w.heap.size, 0, none⟩ = some (.int .i64 la) := by first | (rw [ha]; with_reducible assumption) | (simp (maxDischargeDepth := 7) [go_sem, ha]; done) | (rw [ha]; assumption) | (simp (maxDischargeDepth := 7) [go_sem, ha, *]; done)
  have hf1_0_1 : w1.cell? ⟨w.heap.size, 1, none⟩ = some (.int .i64 lo) := by first | (rw [ha]; with_reducible assumption) | (simp (maxDischargeDepth := 7) [go_sem, ha]; done) | (rw [ha]; assumption) | (simp (maxDischargeDepth := 7) [go_sem, ha, *]; done)
  try have hg1_0 : ∀ o, w1.frozen? ⟨w.heap.size, o, none⟩ = false := by intro o; first | (simp (maxDischargeDepth := 7) [go_sem, hb]; done) | (rw [hb]; simp (maxDischargeDepth := 7) [go_sem, *]; done)
  clear ha hb
  refine kuse (b := w.heap.size + 1) hk1 (by first | (simp; done) | (simp; omega) | omega) ?_
  intro ha hb
  have hz1_1 : w.heap.size + 1 < w1.heap.size := by have := hk1.size; (try simp at this); omega
  have hn1_1 : ¬ w.heap.size + 1 = w1.heap.size := by omega
  have hm1_1 : ¬ w1.heap.size = w.heap.size + 1 := by omega
  have hf1_1_0 : w1.cell? ⟨w.heap.size + 1, 0, none⟩ = some (.int .i64 ma) := by first | (rw [ha]; with_reducible assumption) | (simp (maxDischargeDepth := 7) [go_sem, ha]; done) | (rw [ha]; assumption) | (simp (maxDischargeDepth := 7) [go_sem, ha, *]; done)
  have hf1_1_1 : w1.cell? ⟨w.heap.size + 1, 1, none⟩ = some (.int .i64 mo) := by first | (rw [ha]; with_reducible assumption) | (simp (maxDischargeDepth := 7) [go_sem, ha]; done) | (rw [ha]; assumption) | (simp (maxDischargeDepth := 7) [go_sem, ha, *]; done)
  try have hg1_1 : ∀ o, w1.frozen? ⟨w.heap.size + 1, o, none⟩ = false := by intro o; first | (simp (maxDischargeDepth := 7) [go_sem, hb]; done) | (rw [hb]; simp (maxDischargeDepth := 7) [go_sem, *]; done)
  clear ha hb
  go_wp2_with fail
  with_reducible refine (sin_w c (by omega) (by omega) _).mono ?_
  rintro e w2 ⟨rfl, hk2⟩
  refine kuse (b := w.heap.size) hk2 (by first | (simp; done) | (simp; omega) | omega) ?_
  intro ha hb
  have hz2_0 : w.heap.size < w2.heap.size := by have := hk2.size; (try simp at this); omega
  have hn2_0 : ¬ w.heap.size = w2.heap.size := by omega
  have hm2_0 : ¬ w2.heap.size = w.heap.size := by omega
  have hf2_0_0 : w2.cell? ⟨w.heap.size, 0, none⟩ = some (.int .i64 la) := by first | (rw [ha]; with_reducible assumption) | (simp (maxDischargeDepth := 7) [go_sem, ha]; done) | (rw [ha]; assumption) | (simp (maxDischargeDepth := 7) [go_sem, ha, *]; done)
  have hf2_0_1 : w2.cell? ⟨w.heap.size, 1, none⟩ = some (.int .i64 lo) := by first | (rw [ha]; with_reducible assumption) | (simp (maxDischargeDepth := 7) [go_sem, ha]; done) | (rw [ha]; assumption) | (simp (maxDischargeDepth := 7) [go_sem, ha, *]; done)
  try have hg2_0 : ∀ o, w2.frozen? ⟨w.heap.size, o, none⟩ = false := by intro o; first | (simp (maxDischargeDepth := 7) [go_sem, hb]; done) | (rw [hb]; simp (maxDischargeDepth := 7) [go_sem, *]; done)
  clear ha hb
  refine kuse (b := w.heap.size + 1) hk2 (by first | (simp; done) | (simp; omega) | omega) ?_
  intro ha hb
  have hz2_1 : w.heap.size + 1 < w2.heap.size := by have := hk2.size; (try simp at this); omega
  have hn2_1 : ¬ w.heap.size + 1 = w2.heap.size := by omega
  have hm2_1 : ¬ w2.heap.size = w.heap.size + 1 := by omega
  have hf2_1_0 : w2.cell? ⟨w.heap.size + 1, 0, none⟩ = some (.int .i64 ma) := by first | (rw [ha]; with_reducible assumption) | (simp (maxDischargeDepth := 7) [go_sem, ha]; done) | (rw [ha]; assumption) | (simp (maxDischargeDepth := 7) [go_sem, ha, *]; done)
  have hf2_1_1 : w2.cell? ⟨w.heap.size + 1, 1, none⟩ = some (.int .i64 mo) := by first | (rw [ha]; with_reducible assumption) | (simp (maxDischargeDepth := 7) [go_sem, ha]; done) | (rw [ha]; assumption) | (simp (maxDischargeDepth := 7) [go_sem, ha, *]; done)
  try have hg2_1 : ∀ o, w2.frozen? ⟨w.heap.size + 1, o, none⟩ = false := by intro o; first | (simp (maxDischargeDepth := 7) [go_sem, hb]; done) | (rw [hb]; simp (maxDischargeDepth := 7) [go_sem, *]; done)
  clear ha hb
  refine kuse (b := w1.heap.size) hk2 (by first | (simp; done) | (simp; omega) | omega) ?_
  intro ha hb
  have hz2_2 : w1.heap.size < w2.heap.size := by have := hk2.size; (try simp at this); omega
  have hn2_2 : ¬ w1.heap.size = w2.heap.size := by omega
  have hm2_2 : ¬ w2.heap.size = w1.heap.size := by omega
  have hf2_2_0 : w2.cell? ⟨w1.heap.size, 0, none⟩ = some (.int .i64 (E)) := by first | (rw [ha]; with_reducible assumption) | (simp (maxDischargeDepth := 7) [go_sem, ha]; done) | (rw [ha]; assumption) | (simp (maxDischargeDepth := 7) [go_sem, ha, *]; done)
  have hf2_2_1 : w2.cell? ⟨w1.heap.size, 1, none⟩ = some (.int .i64 (N)) := by first | (rw [ha]; with_reducible assumption) | (simp (maxDischargeDepth := 7) [go_sem, ha]; done) | (rw [ha]; assumption) | (simp (maxDischargeDepth := 7) [go_sem, ha, *]; done)
  have hf2_2_2 : w2.cell? ⟨w1.heap.size, 2, none⟩ = some (.int .i64 (U)) := by first | (rw [ha]; with_reducible assumption) | (simp (maxDischargeDepth := 7) [go_sem, ha]; done) | (rw [ha]; assumption) | (simp (maxDischargeDepth := 7) [go_sem, ha, *]; done)
  try have hg2_2 : ∀ o, w2.frozen? ⟨w1.heap.size, o, none⟩ = false := by intro o; first | (simp (maxDischargeDepth := 7) [go_sem, hb]; done) | (rw [hb]; simp (maxDischargeDepth := 7) [go_sem, *]; done)
  clear ha hb
  try clear hf1_0_0
  try clear hf1_0_1
  try clear hf1_1_0
  try clear hf1_1_1
  try clear hg1_0
  try clear hg1_1
  try clear hz1_1
  go_wp2_with fail
  with_reducible refine (cos_w c (by omega) (by omega) _).mono ?_
  rintro e w3 ⟨rfl, hk3⟩
  refine kuse (b := w.heap.size) hk3 (by first | (simp; done) | (simp; omega) | omega) ?_
  intro ha hb
  have hz3_0 : w.heap.size < w3.heap.size := by have := hk3.size; (try simp at this); omega
  have hn3_0 : ¬ w.heap.size = w3.heap.size := by omega
  have hm3_0 : ¬ w3.heap.size = w.heap.size := by omega
  have hf3_0_0 : w3.cell? ⟨w.heap.size, 0, none⟩ = some (.int .i64 la) := by first | (rw [ha]; with_reducible assumption) | (simp (maxDischargeDepth := 7) [go_sem, ha]; done) | (rw [ha]; assumption) | (simp (maxDischargeDepth := 7) [go_sem, ha, *]; done)
  have hf3_0_1 : w3.cell? ⟨w.heap.size, 1, none⟩ = some (.int .i64 lo) := by first | (rw [ha]; with_reducible assumption) | (simp (maxDischargeDepth := 7) [go_sem, ha]; done) | (rw [ha]; assumption) | (simp (maxDischargeDepth := 7) [go_sem, ha, *]; done)
  try have hg3_0 : ∀ o, w3.frozen? ⟨w.heap.size, o, none⟩ = false := by intro o; first | (simp (maxDischargeDepth := 7) [go_sem, hb]; done) | (rw [hb]; simp (maxDischargeDepth := 7) [go_sem, *]; done)
  clear ha hb
  refine kuse (b := w.heap.size + 1) hk3 (by first | (simp; done) | (simp; omega) | omega) ?_
  intro ha hb
  have hz3_1 : w.heap.size + 1 < w3.heap.size := by have := hk3.size; (try simp at this); omega
  have hn3_1 : ¬ w.heap.size + 1 = w3.heap.size := by omega
  have hm3_1 : ¬ w3.heap.size = w.heap.size + 1 := by omega
  have hf3_1_0 : w3.cell? ⟨w.heap.size + 1, 0, none⟩ = some (.int .i64 ma) := by first | (rw [ha]; with_reducible assumption) | (simp (maxDischargeDepth := 7) [go_sem, ha]; done) | (rw [ha]; assumption) | (simp (maxDischargeDepth := 7) [go_sem, ha, *]; done)
  have hf3_1_1 : w3.cell? ⟨w.heap.size + 1, 1, none⟩ = some (.int .i64 mo) := by first | (rw [ha]; with_reducible assumption) | (simp (maxDischargeDepth := 7) [go_sem, ha]; done) | (rw [ha]; assumption) | (simp (maxDischargeDepth := 7) [go_sem, ha, *]; done)
  try have hg3_1 : ∀ o, w3.frozen? ⟨w.heap.size + 1, o, none⟩ = false := by intro o; first | (simp (maxDischargeDepth := 7) [go_sem, hb]; done) | (rw [hb]; simp (maxDischargeDepth := 7) [go_sem, *]; done)
  clear ha hb
  refine kuse (b := w1.heap.size) hk3 (by first | (simp; done) | (simp; omega) | omega) ?_
  intro ha hb
  have hz3_2 : w1.heap.size < w3.heap.size := by have := hk3.size; (try simp at this); omega
  have hn3_2 : ¬ w1.heap.size = w3.heap.size := by omega
  have hm3_2 : ¬ w3.heap.size = w1.heap.size := by omega
  have hf3_2_0 : w3.cell? ⟨w1.heap.size, 0, none⟩ = some (.int .i64 (E)) := by first | (rw [ha]; with_reducible assumption) | (simp (maxDischargeDepth := 7) [go_sem, ha]; done) | (rw [ha]; assumption) | (simp (maxDischargeDepth := 7) [go_sem, ha, *]; done)
  have hf3_2_1 : w3.cell? ⟨w1.heap.size, 1, none⟩ = some (.int .i64 (N)) := by first | (rw [ha]; with_reducible assumption) | (simp (maxDischargeDepth := 7) [go_sem, ha]; done) | (rw [ha]; assumption) | (simp (maxDischargeDepth := 7) [go_sem, ha, *]; done)
  have hf3_2_2 : w3.cell? ⟨w1.heap.size, 2, none⟩ = some (.int .i64 (U)) := by first | (rw [ha]; with_reducible assumption) | (simp (maxDischargeDepth := 7) [go_sem, ha]; done) | (rw [ha]; assumption) | (simp (maxDischargeDepth := 7) [go_sem, ha, *]; done)
  try have hg3_2 : ∀ o, w3.frozen? ⟨w1.heap.size, o, none⟩ = false := by intro o; first | (simp (maxDischargeDepth := 7) [go_sem, hb]; done) | (rw [hb]; simp (maxDischargeDepth := 7) [go_sem, *]; done)
  clear ha hb
  try clear hf2_0_0
  try clear hf2_0_1
  try clear hf2_1_0
  try clear hf2_1_1
  try clear hf2_2_0
  try clear hf2_2_1
  try clear hf2_2_2
  try clear hg2_0
  try clear hg2_1
  try clear hg2_2
  try clear hz2_1
  try clear hz2_2
  go_wp2_with fail
  with_reducible refine (round_w _ (by omega) (by omega) _).mono ?_
  rintro e w' ⟨rfl, rfl⟩
  go_wp2_with fail
  with_reducible refine (round_w _ (by omega) (by omega) _).mono ?_
  rintro e w' ⟨rfl, rfl⟩
  go_wp2_with fail
  with_reducible refine (hypot_w Y U (by omega) (by omega) (by omega) (by omega) _).mono ?_
  rintro e w' ⟨rfl, rfl⟩
  go_wp2_with fail
  go_region_held3 (fun W => W.cell? ⟨w1.heap.size, 0, none⟩ = some (.int .i64 (E)) ∧ W.cell? ⟨w1.heap.size, 1, none⟩ = some (.int .i64 (N)) ∧ W.cell? ⟨w1.heap.size, 2, none⟩ = some (.int .i64 (U))) (first | (go_keep; done) | (simp (maxDischargeDepth := 9) [*, World.cell?_alloc_some, World.cell?_setCell_far]; done) | (simp (maxDischargeDepth := 9) [go_sem, *]; done)) (first | (go_at_call 40; (first | with_reducible refine (direction_w _ _ (by omega) (by omega) (by omega) (by omega) _).mono ?_); rintro e w' ⟨rfl, hk⟩; have hz := hk.size; (try (refine kuse (b := w1.heap.size) hk (by first | (simp; done) | (simp; omega) | omega) ?_; intro hq0 hg0; have hy0 : w1.heap.size < w'.heap.size := (by (try simp at hz); omega); have hn0 : ¬ w1.heap.size = w'.heap.size := (by omega); have hm0 : ¬ w1.heap.size = w'.heap.size + 1 := (by omega); refine withF (p := w'.cell? ⟨w1.heap.size, 0, none⟩ = some (.int .i64 (E))) (by first | (rw [hq0]; with_reducible assumption) | (simp (maxDischargeDepth := 7) [go_sem, hq0]; done) | (simp (maxDischargeDepth := 7) [go_sem, hq0, *]; done) | fail) ?_; intro ff00; refine withF (p := w'.cell? ⟨w1.heap.size, 1, none⟩ = some (.int .i64 (N))) (by first | (rw [hq0]; with_reducible assumption) | (simp (maxDischargeDepth := 7) [go_sem, hq0]; done) | (simp (maxDischargeDepth := 7) [go_sem, hq0, *]; done) | fail) ?_; intro ff01; refine withF (p := w'.cell? ⟨w1.heap.size, 2, none⟩ = some (.int .i64 (U))) (by first | (rw [hq0]; with_reducible assumption) | (simp (maxDischargeDepth := 7) [go_sem, hq0]; done) | (simp (maxDischargeDepth := 7) [go_sem, hq0, *]; done) | fail) ?_; intro ff02)); (try (refine kuse (b := w.heap.size) hk (by first | (simp; done) | (simp; omega) | omega) ?_; intro hq1 hg1; have hy1 : w.heap.size < w'.heap.size := (by (try simp at hz); omega); have hn1 : ¬ w.heap.size = w'.heap.size := (by omega); have hm1 : ¬ w.heap.size = w'.heap.size + 1 := (by omega); refine withF (p := w'.cell? ⟨w.heap.size, 0, none⟩ = some (.int .i64 la)) (by first | (rw [hq1]; with_reducible assumption) | (simp (maxDischargeDepth := 7) [go_sem, hq1]; done) | (simp (maxDischargeDepth := 7) [go_sem, hq1, *]; done) | fail) ?_; intro ff10; refine withF (p := w'.cell? ⟨w.heap.size, 1, none⟩ = some (.int .i64 lo)) (by first | (rw [hq1]; with_reducible assumption) | (simp (maxDischargeDepth := 7) [go_sem, hq1]; done) | (simp (maxDischargeDepth := 7) [go_sem, hq1, *]; done) | fail) ?_; intro ff11)); (try (refine kuse (b := w.heap.size + 1) hk (by first | (simp; done) | (simp; omega) | omega) ?_; intro hq2 hg2; have hy2 : w.heap.size + 1 < w'.heap.size := (by (try simp at hz); omega); have hn2 : ¬ w.heap.size + 1 = w'.heap.size := (by omega); have hm2 : ¬ w.heap.size + 1 = w'.heap.size + 1 := (by omega); refine withF (p := w'.cell? ⟨w.heap.size + 1, 0, none⟩ = some (.int .i64 ma)) (by first | (rw [hq2]; with_reducible assumption) | (simp (maxDischargeDepth := 7) [go_sem, hq2]; done) | (simp (maxDischargeDepth := 7) [go_sem, hq2, *]; done) | fail) ?_; intro ff20; refine withF (p := w'.cell? ⟨w.heap.size + 1, 1, none⟩ = some (.int .i64 mo)) (by first | (rw [hq2]; with_reducible assumption) | (simp (maxDischargeDepth := 7) [go_sem, hq2]; done) | (simp (maxDischargeDepth := 7) [go_sem, hq2, *]; done) | fail) ?_; intro ff21))))
  all_goals go_wp2_with fail
  all_goals go_ret3
  all_goals exact ⟨rfl, (by repeat (first | with_reducible exact Kept.refl _ | with_reducible assumption | with_reducible refine Kept.setCell ?_ (by first | (simp; done) | (simp; omega) | omega) _ | with_reducible refine Kept.alloc ?_ _ | with_reducible refine Kept.drewN ?_ _ | with_reducible refine Kept.drew ?_ | with_reducible refine Kept.trans ?_ (by with_reducible assumption) | with_reducible refine Kept.dr ?_ (by with_reducible assumption)))⟩
set_option maxHeartbeats 2000000 in
set_option maxRecDepth 100000 in
theorem ref_cross_ok (la lo : Int) (la0 : -32400000 ≤ la) (la1 : la ≤ 32400000) (lo0 : -64800000 < lo) (lo1 : lo ≤ 64800000) (c : Int) (c_0 : -9223372036854775808 ≤ c) (c_1 : c ≤ 9223372036854775807) (ma mo : Int) (ma0 : -32400000 ≤ ma) (ma1 : ma ≤ 32400000) (mo0 : -64800000 < mo) (mo1 : mo ≤ 64800000) (w : World) : Calls Try.prog 34 #[.agg #[.int .i64 la, .int .i64 lo], .int .i64 c, .agg #[.int .i64 ma, .int .i64 mo]] w fun e w' => e = .returned (.tuple #[.int .i64 (crO la lo c ma mo), .int .i64 (crA la lo c ma mo), .int .i64 0]) ∧ Kept w w' := by
  have bd0 := sinV_bd lo
  obtain ⟨bd00, bd01⟩ := bd0
  have bd1 := cosV_bd lo
  obtain ⟨bd10, bd11⟩ := bd1
  have bd2 := cosV_bd la
  obtain ⟨bd20, bd21⟩ := bd2
  have bd3 := fA_bd la lo
  obtain ⟨bd30, bd31⟩ := bd3
  have bd4 := fB_bd la lo
  obtain ⟨bd40, bd41⟩ := bd4
  have bd5 := uX_bd la lo
  obtain ⟨bd50, bd51⟩ := bd5
  have bd6 := uY_bd la lo
  obtain ⟨bd60, bd61⟩ := bd6
  have bd7 := uZ_bd la lo
  obtain ⟨bd70, bd71⟩ := bd7
  have bd8 := uX_bd ma mo
  obtain ⟨bd80, bd81⟩ := bd8
  have bd9 := uY_bd ma mo
  obtain ⟨bd90, bd91⟩ := bd9
  have bd10 := uZ_bd ma mo
  obtain ⟨bd100, bd101⟩ := bd10
  obtain ⟨m00, m01⟩ := mul_sb (cosV lo) (uY ma mo) (by omega) (by omega) (by omega) (by omega)
  obtain ⟨m10, m11⟩ := mul_sb (sinV lo) (uX ma mo) (by omega) (by omega) (by omega) (by omega)
  obtain ⟨m20, m21⟩ := mul_sb (cosV la) (uZ ma mo) (by omega) (by omega) (by omega) (by omega)
  obtain ⟨m30, m31⟩ := mul_sb (fA la lo) (uX ma mo) (by omega) (by omega) (by omega) (by omega)
  obtain ⟨m40, m41⟩ := mul_sb (fB la lo) (uY ma mo) (by omega) (by omega) (by omega) (by omega)
  obtain ⟨m50, m51⟩ := mul_sb (uX la lo) (uX ma mo) (by omega) (by omega) (by omega) (by omega)
  obtain ⟨m60, m61⟩ := mul_sb (uY la lo) (uY ma mo) (by omega) (by omega) (by omega) (by omega)
  obtain ⟨m70, m71⟩ := mul_sb (uZ la lo) (uZ ma mo) (by omega) (by omega) (by omega) (by omega)
  have eb : -2147483648 ≤ lcE la lo (uX ma mo) (uY ma mo) (uZ ma mo) ∧ lcE la lo (uX ma mo) (uY ma mo) (uZ ma mo) ≤ 2147483648 := by unfold lcE r30; omega
  have nb : -3221225472 ≤ lcN la lo (uX ma mo) (uY ma mo) (uZ ma mo) ∧ lcN la lo (uX ma mo) (uY ma mo) (uZ ma mo) ≤ 3221225472 := by unfold lcN r30; omega
  have ub : -3221225472 ≤ lcU la lo (uX ma mo) (uY ma mo) (uZ ma mo) ∧ lcU la lo (uX ma mo) (uY ma mo) (uZ ma mo) ≤ 3221225472 := by unfold lcU dot3 r30; omega
  obtain ⟨E, hE⟩ : ∃ A, lcE la lo (uX ma mo) (uY ma mo) (uZ ma mo) = A := ⟨_, rfl⟩
  obtain ⟨N, hN⟩ : ∃ A, lcN la lo (uX ma mo) (uY ma mo) (uZ ma mo) = A := ⟨_, rfl⟩
  obtain ⟨U, hU⟩ : ∃ A, lcU la lo (uX ma mo) (uY ma mo) (uZ ma mo) = A := ⟨_, rfl⟩
  have LK := fun w => ref_local_ok la lo la0 la1 lo0 lo1 ma mo ma0 ma1 mo0 mo1 w
  rw [hE] at eb LK
  rw [hN] at nb LK
  rw [hU] at ub LK
  obtain ⟨eb0, eb1⟩ := eb
  obtain ⟨nb0, nb1⟩ := nb
  obtain ⟨ub0, ub1⟩ := ub
  unfold crO crA
  rw [hE, hN, hU]
  have KL := Lib.hid LK
  clear LK hE hN hU
  have bd0_ := sinV_bd c
  obtain ⟨bd0_0, bd0_1⟩ := bd0_
  have bd1_ := cosV_bd c
  obtain ⟨bd1_0, bd1_1⟩ := bd1_
  obtain ⟨j0, j1⟩ := mul_sb' E (cosV c) 2147483648 1073741824 (by omega) (by omega) (by omega) (by omega)
  obtain ⟨j2, j3⟩ := mul_sb' E (sinV c) 2147483648 1073741824 (by omega) (by omega) (by omega) (by omega)
  obtain ⟨j4, j5⟩ := mul_sb' N (sinV c) 3221225472 1073741824 (by omega) (by omega) (by omega) (by omega)
  obtain ⟨j6, j7⟩ := mul_sb' N (cosV c) 3221225472 1073741824 (by omega) (by omega) (by omega) (by omega)
  have rb : -9223372036854775808 ≤ r30 (E * cosV c - N * sinV c) ∧ r30 (E * cosV c - N * sinV c) ≤ 9223372036854775807 := by unfold r30; omega
  have ab : -9223372036854775808 ≤ r30 (E * sinV c + N * cosV c) ∧ r30 (E * sinV c + N * cosV c) ≤ 9223372036854775807 := by unfold r30; omega
  obtain ⟨X, hX⟩ : ∃ A, r30 (E * cosV c - N * sinV c) = A := ⟨_, rfl⟩
  obtain ⟨Y, hY⟩ : ∃ A, r30 (E * sinV c + N * cosV c) = A := ⟨_, rfl⟩
  rw [hX] at rb
  rw [hY] at ab
  obtain ⟨rb0, rb1⟩ := rb
  obtain ⟨ab0, ab1⟩ := ab
  obtain ⟨hy0, hy1⟩ := hyV_bd Y U
  rw [hX, hY]
  have wr0 : IntKind.i64.wrap (E * cosV c) = E * cosV c := IntWalk.i64_in _ (by omega)
  have wr1 : IntKind.i64.wrap (N * sinV c) = N * sinV c := IntWalk.i64_in _ (by omega)
  have wr2 : IntKind.i64.wrap (E * sinV c) = E * sinV c := IntWalk.i64_in _ (by omega)
  have wr3 : IntKind.i64.wrap (N * cosV c) = N * cosV c := IntWalk.i64_in _ (by omega)
  have wr4 : IntKind.i64.wrap (E * cosV c - N * sinV c) = E * cosV c - N * sinV c := IntWalk.i64_in _ (by omega)
  have wr5 : IntKind.i64.wrap (E * sinV c + N * cosV c) = E * sinV c + N * cosV c := IntWalk.i64_in _ (by omega)
  have a1 := at2V_bd X (hyV Y U)
  have a2 := at2V_bd Y U
  go_enter Try.func34, Try.ntmps34
  go_wp2_with fail
  with_reducible refine (KL.out _).mono ?_
  rintro e w1 ⟨rfl, hk1⟩
  refine kuse (b := w.heap.size) hk1 (by first | (simp; done) | (simp; omega) | omega) ?_
  intro ha hb
  have hz1_0 : w.heap.size < w1.heap.size := by have := hk1.size; (try simp at this); omega
  have hn1_0 : ¬ w.heap.size = w1.heap.size := by omega
  have hm1_0 : ¬ w1.heap.size = w.heap.size := by omega
  have hf1_0_0 : w1.cell? ⟨w.heap.size, 0, none⟩ = some (.int .i64 la) := by first | (rw [ha]; with_reducible assumption) | (simp (maxDischargeDepth := 7) [go_sem, ha]; done) | (rw [ha]; assumption) | (simp (maxDischargeDepth := 7) [go_sem, ha, *]; done)
  have hf1_0_1 : w1.cell? ⟨w.heap.size, 1, none⟩ = some (.int .i64 lo) := by first | (rw [ha]; with_reducible assumption) | (simp (maxDischargeDepth := 7) [go_sem, ha]; done) | (rw [ha]; assumption) | (simp (maxDischargeDepth := 7) [go_sem, ha, *]; done)
  try have hg1_0 : ∀ o, w1.frozen? ⟨w.heap.size, o, none⟩ = false := by intro o; first | (simp (maxDischargeDepth := 7) [go_sem, hb]; done) | (rw [hb]; simp (maxDischargeDepth := 7) [go_sem, *]; done)
  clear ha hb
  refine kuse (b := w.heap.size + 1) hk1 (by first | (simp; done) | (simp; omega) | omega) ?_
  intro ha hb
  have hz1_1 : w.heap.size + 1 < w1.heap.size := by have := hk1.size; (try simp at this); omega
  have hn1_1 : ¬ w.heap.size + 1 = w1.heap.size := by omega
  have hm1_1 : ¬ w1.heap.size = w.heap.size + 1 := by omega
  have hf1_1_0 : w1.cell? ⟨w.heap.size + 1, 0, none⟩ = some (.int .i64 ma) := by first | (rw [ha]; with_reducible assumption) | (simp (maxDischargeDepth := 7) [go_sem, ha]; done) | (rw [ha]; assumption) | (simp (maxDischargeDepth := 7) [go_sem, ha, *]; done)
  have hf1_1_1 : w1.cell? ⟨w.heap.size + 1, 1, none⟩ = some (.int .i64 mo) := by first | (rw [ha]; with_reducible assumption) | (simp (maxDischargeDepth := 7) [go_sem, ha]; done) | (rw [ha]; assumption) | (simp (maxDischargeDepth := 7) [go_sem, ha, *]; done)
  try have hg1_1 : ∀ o, w1.frozen? ⟨w.heap.size + 1, o, none⟩ = false := by intro o; first | (simp (maxDischargeDepth := 7) [go_sem, hb]; done) | (rw [hb]; simp (maxDischargeDepth := 7) [go_sem, *]; done)
  clear ha hb
  go_wp2_with fail
  with_reducible refine (ref_sin_w c (by omega) (by omega) _).mono ?_
  rintro e w' ⟨rfl, rfl⟩
  go_wp2_with fail
  with_reducible refine (ref_cos_w c (by omega) (by omega) _).mono ?_
  rintro e w' ⟨rfl, rfl⟩
  go_wp2_with fail
  go_region_held3 (fun W => W.cell? ⟨w1.heap.size, 0, none⟩ = some (.int .i64 (E)) ∧ W.cell? ⟨w1.heap.size, 1, none⟩ = some (.int .i64 (N)) ∧ W.cell? ⟨w1.heap.size, 2, none⟩ = some (.int .i64 (U))) (first | (go_keep; done) | (simp (maxDischargeDepth := 9) [*, World.cell?_alloc_some, World.cell?_setCell_far]; done) | (simp (maxDischargeDepth := 9) [go_sem, *]; done)) (first | (go_at_call 37; with_reducible refine (ref_round_w _ (by omega) (by omega) _).mono ?_; rintro e w' ⟨rfl, rfl⟩))
  all_goals go_wp2_with fail
  with_reducible refine (ref_hypot_w Y U (by omega) (by omega) (by omega) (by omega) _).mono ?_
  rintro e w' ⟨rfl, rfl⟩
  go_wp2_with fail
  with_reducible refine (ref_atan2_w X (hyV Y U) (by omega) (by omega) (by omega) (by omega) _).mono ?_
  rintro e w' ⟨rfl, rfl⟩
  go_wp2_with fail
  with_reducible refine (ref_atan2_w Y U (by omega) (by omega) (by omega) (by omega) _).mono ?_
  rintro e w' ⟨rfl, rfl⟩
  go_wp2_with fail
  with_reducible refine (ref_signed_w (at2V X (hyV Y U)) (by omega) (by omega) _).mono ?_
  rintro e w' ⟨rfl, rfl⟩
  go_wp2_with fail
  with_reducible refine (ref_signed_w (at2V Y U) (by omega) (by omega) _).mono ?_
  rintro e w' ⟨rfl, rfl⟩
  go_wp2_with fail
  all_goals go_ret3
  all_goals exact ⟨rfl, (by repeat (first | with_reducible exact Kept.refl _ | with_reducible assumption | with_reducible refine Kept.setCell ?_ (by first | (simp; done) | (simp; omega) | omega) _ | with_reducible refine Kept.alloc ?_ _ | with_reducible refine Kept.drewN ?_ _ | with_reducible refine Kept.drew ?_ | with_reducible refine Kept.trans ?_ (by with_reducible assumption) | with_reducible refine Kept.dr ?_ (by with_reducible assumption)))⟩
set_option maxHeartbeats 2000000 in
set_option maxRecDepth 100000 in
theorem cross_badp (la lo : Int) (h : la < -32400000 ∨ 32400000 < la ∨ lo ≤ -64800000 ∨ 64800000 < lo) (c ma mo : Int) (w : World) : Calls Try.prog 33 #[.agg #[.int .i64 la, .int .i64 lo], .int .i64 c, .agg #[.int .i64 ma, .int .i64 mo]] w fun e w' => e = .returned (.tuple #[.int .i64 0, .int .i64 0, .int .i64 1]) ∧ Kept w w' := by
  go_enter Try.func33, Try.ntmps33
  go_wp2_with fail
  with_reducible refine (local_badp la lo ma mo h _).mono ?_
  rintro e w1 ⟨rfl, hk1⟩
  refine kuse (b := w.heap.size) hk1 (by first | (simp; done) | (simp; omega) | omega) ?_
  intro ha hb
  have hz1_0 : w.heap.size < w1.heap.size := by have := hk1.size; (try simp at this); omega
  have hn1_0 : ¬ w.heap.size = w1.heap.size := by omega
  have hm1_0 : ¬ w1.heap.size = w.heap.size := by omega
  have hf1_0_0 : w1.cell? ⟨w.heap.size, 0, none⟩ = some (.int .i64 la) := by first | (rw [ha]; with_reducible assumption) | (simp (maxDischargeDepth := 7) [go_sem, ha]; done) | (rw [ha]; assumption) | (simp (maxDischargeDepth := 7) [go_sem, ha, *]; done)
  have hf1_0_1 : w1.cell? ⟨w.heap.size, 1, none⟩ = some (.int .i64 lo) := by first | (rw [ha]; with_reducible assumption) | (simp (maxDischargeDepth := 7) [go_sem, ha]; done) | (rw [ha]; assumption) | (simp (maxDischargeDepth := 7) [go_sem, ha, *]; done)
  try have hg1_0 : ∀ o, w1.frozen? ⟨w.heap.size, o, none⟩ = false := by intro o; first | (simp (maxDischargeDepth := 7) [go_sem, hb]; done) | (rw [hb]; simp (maxDischargeDepth := 7) [go_sem, *]; done)
  clear ha hb
  refine kuse (b := w.heap.size + 1) hk1 (by first | (simp; done) | (simp; omega) | omega) ?_
  intro ha hb
  have hz1_1 : w.heap.size + 1 < w1.heap.size := by have := hk1.size; (try simp at this); omega
  have hn1_1 : ¬ w.heap.size + 1 = w1.heap.size := by omega
  have hm1_1 : ¬ w1.heap.size = w.heap.size + 1 := by omega
  have hf1_1_0 : w1.cell? ⟨w.heap.size + 1, 0, none⟩ = some (.int .i64 ma) := by first | (rw [ha]; with_reducible assumption) | (simp (maxDischargeDepth := 7) [go_sem, ha]; done) | (rw [ha]; assumption) | (simp (maxDischargeDepth := 7) [go_sem, ha, *]; done)
  have hf1_1_1 : w1.cell? ⟨w.heap.size + 1, 1, none⟩ = some (.int .i64 mo) := by first | (rw [ha]; with_reducible assumption) | (simp (maxDischargeDepth := 7) [go_sem, ha]; done) | (rw [ha]; assumption) | (simp (maxDischargeDepth := 7) [go_sem, ha, *]; done)
  try have hg1_1 : ∀ o, w1.frozen? ⟨w.heap.size + 1, o, none⟩ = false := by intro o; first | (simp (maxDischargeDepth := 7) [go_sem, hb]; done) | (rw [hb]; simp (maxDischargeDepth := 7) [go_sem, *]; done)
  clear ha hb
  go_wp2_with fail
  all_goals go_ret3
  all_goals exact ⟨rfl, (by repeat (first | with_reducible exact Kept.refl _ | with_reducible assumption | with_reducible refine Kept.setCell ?_ (by first | (simp; done) | (simp; omega) | omega) _ | with_reducible refine Kept.alloc ?_ _ | with_reducible refine Kept.drewN ?_ _ | with_reducible refine Kept.drew ?_ | with_reducible refine Kept.trans ?_ (by with_reducible assumption) | with_reducible refine Kept.dr ?_ (by with_reducible assumption)))⟩
set_option maxHeartbeats 2000000 in
set_option maxRecDepth 100000 in
theorem cross_badq (la lo : Int) (la0 : -32400000 ≤ la) (la1 : la ≤ 32400000) (lo0 : -64800000 < lo) (lo1 : lo ≤ 64800000) (c ma mo : Int) (h : ma < -32400000 ∨ 32400000 < ma ∨ mo ≤ -64800000 ∨ 64800000 < mo) (w : World) : Calls Try.prog 33 #[.agg #[.int .i64 la, .int .i64 lo], .int .i64 c, .agg #[.int .i64 ma, .int .i64 mo]] w fun e w' => e = .returned (.tuple #[.int .i64 0, .int .i64 0, .int .i64 1]) ∧ Kept w w' := by
  go_enter Try.func33, Try.ntmps33
  go_wp2_with fail
  with_reducible refine (local_badq la lo la0 la1 lo0 lo1 ma mo h _).mono ?_
  rintro e w1 ⟨rfl, hk1⟩
  refine kuse (b := w.heap.size) hk1 (by first | (simp; done) | (simp; omega) | omega) ?_
  intro ha hb
  have hz1_0 : w.heap.size < w1.heap.size := by have := hk1.size; (try simp at this); omega
  have hn1_0 : ¬ w.heap.size = w1.heap.size := by omega
  have hm1_0 : ¬ w1.heap.size = w.heap.size := by omega
  have hf1_0_0 : w1.cell? ⟨w.heap.size, 0, none⟩ = some (.int .i64 la) := by first | (rw [ha]; with_reducible assumption) | (simp (maxDischargeDepth := 7) [go_sem, ha]; done) | (rw [ha]; assumption) | (simp (maxDischargeDepth := 7) [go_sem, ha, *]; done)
  have hf1_0_1 : w1.cell? ⟨w.heap.size, 1, none⟩ = some (.int .i64 lo) := by first | (rw [ha]; with_reducible assumption) | (simp (maxDischargeDepth := 7) [go_sem, ha]; done) | (rw [ha]; assumption) | (simp (maxDischargeDepth := 7) [go_sem, ha, *]; done)
  try have hg1_0 : ∀ o, w1.frozen? ⟨w.heap.size, o, none⟩ = false := by intro o; first | (simp (maxDischargeDepth := 7) [go_sem, hb]; done) | (rw [hb]; simp (maxDischargeDepth := 7) [go_sem, *]; done)
  clear ha hb
  refine kuse (b := w.heap.size + 1) hk1 (by first | (simp; done) | (simp; omega) | omega) ?_
  intro ha hb
  have hz1_1 : w.heap.size + 1 < w1.heap.size := by have := hk1.size; (try simp at this); omega
  have hn1_1 : ¬ w.heap.size + 1 = w1.heap.size := by omega
  have hm1_1 : ¬ w1.heap.size = w.heap.size + 1 := by omega
  have hf1_1_0 : w1.cell? ⟨w.heap.size + 1, 0, none⟩ = some (.int .i64 ma) := by first | (rw [ha]; with_reducible assumption) | (simp (maxDischargeDepth := 7) [go_sem, ha]; done) | (rw [ha]; assumption) | (simp (maxDischargeDepth := 7) [go_sem, ha, *]; done)
  have hf1_1_1 : w1.cell? ⟨w.heap.size + 1, 1, none⟩ = some (.int .i64 mo) := by first | (rw [ha]; with_reducible assumption) | (simp (maxDischargeDepth := 7) [go_sem, ha]; done) | (rw [ha]; assumption) | (simp (maxDischargeDepth := 7) [go_sem, ha, *]; done)
  try have hg1_1 : ∀ o, w1.frozen? ⟨w.heap.size + 1, o, none⟩ = false := by intro o; first | (simp (maxDischargeDepth := 7) [go_sem, hb]; done) | (rw [hb]; simp (maxDischargeDepth := 7) [go_sem, *]; done)
  clear ha hb
  go_wp2_with fail
  all_goals go_ret3
  all_goals exact ⟨rfl, (by repeat (first | with_reducible exact Kept.refl _ | with_reducible assumption | with_reducible refine Kept.setCell ?_ (by first | (simp; done) | (simp; omega) | omega) _ | with_reducible refine Kept.alloc ?_ _ | with_reducible refine Kept.drewN ?_ _ | with_reducible refine Kept.drew ?_ | with_reducible refine Kept.trans ?_ (by with_reducible assumption) | with_reducible refine Kept.dr ?_ (by with_reducible assumption)))⟩
set_option maxHeartbeats 2000000 in
set_option maxRecDepth 100000 in
theorem ref_cross_badp (la lo : Int) (h : la < -32400000 ∨ 32400000 < la ∨ lo ≤ -64800000 ∨ 64800000 < lo) (c ma mo : Int) (w : World) : Calls Try.prog 34 #[.agg #[.int .i64 la, .int .i64 lo], .int .i64 c, .agg #[.int .i64 ma, .int .i64 mo]] w fun e w' => e = .returned (.tuple #[.int .i64 0, .int .i64 0, .int .i64 1]) ∧ Kept w w' := by
  go_enter Try.func34, Try.ntmps34
  go_wp2_with fail
  with_reducible refine (ref_local_badp la lo ma mo h _).mono ?_
  rintro e w1 ⟨rfl, hk1⟩
  refine kuse (b := w.heap.size) hk1 (by first | (simp; done) | (simp; omega) | omega) ?_
  intro ha hb
  have hz1_0 : w.heap.size < w1.heap.size := by have := hk1.size; (try simp at this); omega
  have hn1_0 : ¬ w.heap.size = w1.heap.size := by omega
  have hm1_0 : ¬ w1.heap.size = w.heap.size := by omega
  have hf1_0_0 : w1.cell? ⟨w.heap.size, 0, none⟩ = some (.int .i64 la) := by first | (rw [ha]; with_reducible assumption) | (simp (maxDischargeDepth := 7) [go_sem, ha]; done) | (rw [ha]; assumption) | (simp (maxDischargeDepth := 7) [go_sem, ha, *]; done)
  have hf1_0_1 : w1.cell? ⟨w.heap.size, 1, none⟩ = some (.int .i64 lo) := by first | (rw [ha]; with_reducible assumption) | (simp (maxDischargeDepth := 7) [go_sem, ha]; done) | (rw [ha]; assumption) | (simp (maxDischargeDepth := 7) [go_sem, ha, *]; done)
  try have hg1_0 : ∀ o, w1.frozen? ⟨w.heap.size, o, none⟩ = false := by intro o; first | (simp (maxDischargeDepth := 7) [go_sem, hb]; done) | (rw [hb]; simp (maxDischargeDepth := 7) [go_sem, *]; done)
  clear ha hb
  refine kuse (b := w.heap.size + 1) hk1 (by first | (simp; done) | (simp; omega) | omega) ?_
  intro ha hb
  have hz1_1 : w.heap.size + 1 < w1.heap.size := by have := hk1.size; (try simp at this); omega
  have hn1_1 : ¬ w.heap.size + 1 = w1.heap.size := by omega
  have hm1_1 : ¬ w1.heap.size = w.heap.size + 1 := by omega
  have hf1_1_0 : w1.cell? ⟨w.heap.size + 1, 0, none⟩ = some (.int .i64 ma) := by first | (rw [ha]; with_reducible assumption) | (simp (maxDischargeDepth := 7) [go_sem, ha]; done) | (rw [ha]; assumption) | (simp (maxDischargeDepth := 7) [go_sem, ha, *]; done)
  have hf1_1_1 : w1.cell? ⟨w.heap.size + 1, 1, none⟩ = some (.int .i64 mo) := by first | (rw [ha]; with_reducible assumption) | (simp (maxDischargeDepth := 7) [go_sem, ha]; done) | (rw [ha]; assumption) | (simp (maxDischargeDepth := 7) [go_sem, ha, *]; done)
  try have hg1_1 : ∀ o, w1.frozen? ⟨w.heap.size + 1, o, none⟩ = false := by intro o; first | (simp (maxDischargeDepth := 7) [go_sem, hb]; done) | (rw [hb]; simp (maxDischargeDepth := 7) [go_sem, *]; done)
  clear ha hb
  go_wp2_with fail
  all_goals go_ret3
  all_goals exact ⟨rfl, (by repeat (first | with_reducible exact Kept.refl _ | with_reducible assumption | with_reducible refine Kept.setCell ?_ (by first | (simp; done) | (simp; omega) | omega) _ | with_reducible refine Kept.alloc ?_ _ | with_reducible refine Kept.drewN ?_ _ | with_reducible refine Kept.drew ?_ | with_reducible refine Kept.trans ?_ (by with_reducible assumption) | with_reducible refine Kept.dr ?_ (by with_reducible assumption)))⟩
set_option maxHeartbeats 2000000 in
set_option maxRecDepth 100000 in
theorem ref_cross_badq (la lo : Int) (la0 : -32400000 ≤ la) (la1 : la ≤ 32400000) (lo0 : -64800000 < lo) (lo1 : lo ≤ 64800000) (c ma mo : Int) (h : ma < -32400000 ∨ 32400000 < ma ∨ mo ≤ -64800000 ∨ 64800000 < mo) (w : World) : Calls Try.prog 34 #[.agg #[.int .i64 la, .int .i64 lo], .int .i64 c, .agg #[.int .i64 ma, .int .i64 mo]] w fun e w' => e = .returned (.tuple #[.int .i64 0, .int .i64 0, .int .i64 1]) ∧ Kept w w' := by
  go_enter Try.func34, Try.ntmps34
  go_wp2_with fail
  with_reducible refine (ref_local_badq la lo la0 la1 lo0 lo1 ma mo h _).mono ?_
  rintro e w1 ⟨rfl, hk1⟩
  refine kuse (b := w.heap.size) hk1 (by first | (simp; done) | (simp; omega) | omega) ?_
  intro ha hb
  have hz1_0 : w.heap.size < w1.heap.size := by have := hk1.size; (try simp at this); omega
  have hn1_0 : ¬ w.heap.size = w1.heap.size := by omega
  have hm1_0 : ¬ w1.heap.size = w.heap.size := by omega
  have hf1_0_0 : w1.cell? ⟨w.heap.size, 0, none⟩ = some (.int .i64 la) := by first | (rw [ha]; with_reducible assumption) | (simp (maxDischargeDepth := 7) [go_sem, ha]; done) | (rw [ha]; assumption) | (simp (maxDischargeDepth := 7) [go_sem, ha, *]; done)
  have hf1_0_1 : w1.cell? ⟨w.heap.size, 1, none⟩ = some (.int .i64 lo) := by first | (rw [ha]; with_reducible assumption) | (simp (maxDischargeDepth := 7) [go_sem, ha]; done) | (rw [ha]; assumption) | (simp (maxDischargeDepth := 7) [go_sem, ha, *]; done)
  try have hg1_0 : ∀ o, w1.frozen? ⟨w.heap.size, o, none⟩ = false := by intro o; first | (simp (maxDischargeDepth := 7) [go_sem, hb]; done) | (rw [hb]; simp (maxDischargeDepth := 7) [go_sem, *]; done)
  clear ha hb
  refine kuse (b := w.heap.size + 1) hk1 (by first | (simp; done) | (simp; omega) | omega) ?_
  intro ha hb
  have hz1_1 : w.heap.size + 1 < w1.heap.size := by have := hk1.size; (try simp at this); omega
  have hn1_1 : ¬ w.heap.size + 1 = w1.heap.size := by omega
  have hm1_1 : ¬ w1.heap.size = w.heap.size + 1 := by omega
  have hf1_1_0 : w1.cell? ⟨w.heap.size + 1, 0, none⟩ = some (.int .i64 ma) := by first | (rw [ha]; with_reducible assumption) | (simp (maxDischargeDepth := 7) [go_sem, ha]; done) | (rw [ha]; assumption) | (simp (maxDischargeDepth := 7) [go_sem, ha, *]; done)
  have hf1_1_1 : w1.cell? ⟨w.heap.size + 1, 1, none⟩ = some (.int .i64 mo) := by first | (rw [ha]; with_reducible assumption) | (simp (maxDischargeDepth := 7) [go_sem, ha]; done) | (rw [ha]; assumption) | (simp (maxDischargeDepth := 7) [go_sem, ha, *]; done)
  try have hg1_1 : ∀ o, w1.frozen? ⟨w.heap.size + 1, o, none⟩ = false := by intro o; first | (simp (maxDischargeDepth := 7) [go_sem, hb]; done) | (rw [hb]; simp (maxDischargeDepth := 7) [go_sem, *]; done)
  clear ha hb
  go_wp2_with fail
  all_goals go_ret3
  all_goals exact ⟨rfl, (by repeat (first | with_reducible exact Kept.refl _ | with_reducible assumption | with_reducible refine Kept.setCell ?_ (by first | (simp; done) | (simp; omega) | omega) _ | with_reducible refine Kept.alloc ?_ _ | with_reducible refine Kept.drewN ?_ _ | with_reducible refine Kept.drew ?_ | with_reducible refine Kept.trans ?_ (by with_reducible assumption) | with_reducible refine Kept.dr ?_ (by with_reducible assumption)))⟩

end Go.Proofs.Ytjnodchmamlcpaa
