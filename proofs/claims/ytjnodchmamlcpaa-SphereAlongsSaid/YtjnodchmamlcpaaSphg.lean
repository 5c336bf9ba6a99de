/-
  Own contracts: package sphere and the document's answers of layer 9: the document's distances, positions along.
-/
import Derived.Test.YtjnodchmamlcpaaSphf
import Derived.Test.YtjnodchmamlcpaaSphe
import Derived.Test.YtjnodchmamlcpaaSphm
import Derived.WalkKit
import Derived.ProofKit
import Derived.OpenShut
import Derived.WalkLawsBesides
import Derived.WalkSpells
import Derived.Lib.Hide
import Derived.Deep.DeepCutAuto
import Derived.Deep.CutBlock
import Derived.Deep.QuietTactic
import Derived.BigQuiet
import Derived.Handy
import Derived.StillTailTactics
import Derived.IntWalk
import Derived.LoopN
import Derived.Deep.RegionHeld3
namespace Go.Proofs.Ytjnodchmamlcpaa
open Go.ChangeShapes Go.WideShapes Go.ChangeAt Go.RowKit
set_option linter.unusedVariables false
set_option linter.unusedSimpArgs false
set_option maxHeartbeats 2000000 in
set_option maxRecDepth 100000 in
theorem ref_dist_ok (la lo : Int) (la0 : -32400000 ≤ la) (la1 : la ≤ 32400000) (lo0 : -64800000 < lo) (lo1 : lo ≤ 64800000) (ma mo : Int) (ma0 : -32400000 ≤ ma) (ma1 : ma ≤ 32400000) (mo0 : -64800000 < mo) (mo1 : mo ≤ 64800000) (w : World) : Calls Try.prog 25 #[.agg #[.int .i64 la, .int .i64 lo], .agg #[.int .i64 ma, .int .i64 mo]] w fun e w' => e = .returned (.tuple #[.int .i64 (dstV la lo ma mo), .int .i64 0]) ∧ Kept w w' := by
  have bd0 := sinV_bd lo
  obtain ⟨bd00, bd01⟩ := bd0
  have bd1 := cosV_bd lo
  obtain ⟨bd10, bd11⟩ := bd1
  have bd2 := cosV_bd la
  obtain ⟨bd20, bd21⟩ := bd2
  have bd3 := fA_bd la lo
  obtain ⟨bd30, bd31⟩ := bd3
  have bd4 := fB_bd la lo
  obtain ⟨bd40, bd41⟩ := bd4
  have bd5 := uX_bd la lo
  obtain ⟨bd50, bd51⟩ := bd5
  have bd6 := uY_bd la lo
  obtain ⟨bd60, bd61⟩ := bd6
  have bd7 := uZ_bd la lo
  obtain ⟨bd70, bd71⟩ := bd7
  have bd8 := uX_bd ma mo
  obtain ⟨bd80, bd81⟩ := bd8
  have bd9 := uY_bd ma mo
  obtain ⟨bd90, bd91⟩ := bd9
  have bd10 := uZ_bd ma mo
  obtain ⟨bd100, bd101⟩ := bd10
  obtain ⟨m00, m01⟩ := mul_sb (uY la lo) (uZ ma mo) (by omega) (by omega) (by omega) (by omega)
  obtain ⟨m10, m11⟩ := mul_sb (uZ la lo) (uY ma mo) (by omega) (by omega) (by omega) (by omega)
  obtain ⟨m20, m21⟩ := mul_sb (uZ la lo) (uX ma mo) (by omega) (by omega) (by omega) (by omega)
  obtain ⟨m30, m31⟩ := mul_sb (uX la lo) (uZ ma mo) (by omega) (by omega) (by omega) (by omega)
  obtain ⟨m40, m41⟩ := mul_sb (uX la lo) (uY ma mo) (by omega) (by omega) (by omega) (by omega)
  obtain ⟨m50, m51⟩ := mul_sb (uY la lo) (uX ma mo) (by omega) (by omega) (by omega) (by omega)
  have us := unit_sq la lo
  have ut := unit_sq ma mo
  obtain ⟨c1, c2, c3, c4, _⟩ := cross_bd (uX la lo) (uY la lo) (uZ la lo) (uX ma mo) (uY ma mo) (uZ ma mo) us ut
  obtain ⟨sb0, sb1⟩ := dS_bd (uX la lo) (uY la lo) (uZ la lo) (uX ma mo) (uY ma mo) (uZ ma mo) us ut
  obtain ⟨c10, c11⟩ := c1
  obtain ⟨c20, c21⟩ := c2
  obtain ⟨c30, c31⟩ := c3
  have p1 := r30_iabs_bd _ _ c10 c11 (by omega)
  have p2 := r30_iabs_bd _ _ c20 c21 (by omega)
  have p3 := r30_iabs_bd _ _ c30 c31 (by omega)
  have q1 := sq_le _ _ p1.1 p1.2
  have q2 := sq_le _ _ p2.1 p2.2
  have q3 := sq_le _ _ p3.1 p3.2
  have r1 := sq_nn (r30 (iabs (uY la lo * uZ ma mo - uZ la lo * uY ma mo)))
  have r2 := sq_nn (r30 (iabs (uZ la lo * uX ma mo - uX la lo * uZ ma mo)))
  have r3 := sq_nn (r30 (iabs (uX la lo * uY ma mo - uY la lo * uX ma mo)))
  have A1 := Lib.hid (sat_iabs2 (uY la lo * uZ ma mo - uZ la lo * uY ma mo) (by omega) (by omega))
  have A2 := Lib.hid (sat_iabs2 (uZ la lo * uX ma mo - uX la lo * uZ ma mo) (by omega) (by omega))
  have A3 := Lib.hid (sat_iabs2 (uX la lo * uY ma mo - uY la lo * uX ma mo) (by omega) (by omega))
  have ia1 : 0 ≤ iabs (uY la lo * uZ ma mo - uZ la lo * uY ma mo) ∧ iabs (uY la lo * uZ ma mo - uZ la lo * uY ma mo) ≤ 1671736181679928115 := by unfold iabs; split <;> omega
  have ia2 : 0 ≤ iabs (uZ la lo * uX ma mo - uX la lo * uZ ma mo) ∧ iabs (uZ la lo * uX ma mo - uX la lo * uZ ma mo) ≤ 1671736181679928115 := by unfold iabs; split <;> omega
  have ia3 : 0 ≤ iabs (uX la lo * uY ma mo - uY la lo * uX ma mo) ∧ iabs (uX la lo * uY ma mo - uY la lo * uX ma mo) ≤ 1671736181679928115 := by unfold iabs; split <;> omega
  have DSE : Hid (dS (uX la lo) (uY la lo) (uZ la lo) (uX ma mo) (uY ma mo) (uZ ma mo) = r30 (iabs (uY la lo * uZ ma mo - uZ la lo * uY ma mo)) * r30 (iabs (uY la lo * uZ ma mo - uZ la lo * uY ma mo)) + r30 (iabs (uZ la lo * uX ma mo - uX la lo * uZ ma mo)) * r30 (iabs (uZ la lo * uX ma mo - uX la lo * uZ ma mo)) + r30 (iabs (uX la lo * uY ma mo - uY la lo * uX ma mo)) * r30 (iabs (uX la lo * uY ma mo - uY la lo * uX ma mo))) := Lib.hid rfl
  have sd : dot3 (uX la lo) (uY la lo) (uZ la lo) (uX ma mo) (uY ma mo) (uZ ma mo) = uX la lo * (uX ma mo) + uY la lo * (uY ma mo) + uZ la lo * (uZ ma mo) := rfl
  rw [← sd] at c4
  clear sd us ut
  obtain ⟨i0_, i1_, i2_, i3_⟩ := isq_ok (dS (uX la lo) (uY la lo) (uZ la lo) (uX ma mo) (uY ma mo) (uZ ma mo)) (by omega) (by omega)
  clear i1_ i2_
  have DSU : dS (uX la lo) (uY la lo) (uZ la lo) (uX ma mo) (uY ma mo) (uZ ma mo) = r30 (iabs (uY la lo * uZ ma mo - uZ la lo * uY ma mo)) * r30 (iabs (uY la lo * uZ ma mo - uZ la lo * uY ma mo)) + r30 (iabs (uZ la lo * uX ma mo - uX la lo * uZ ma mo)) * r30 (iabs (uZ la lo * uX ma mo - uX la lo * uZ ma mo)) + r30 (iabs (uX la lo * uY ma mo - uY la lo * uX ma mo)) * r30 (iabs (uX la lo * uY ma mo - uY la lo * uX ma mo)) := rfl
  rw [DSU] at i0_ i3_ sb0 sb1
  clear DSU
  have rb : -1556925645 ≤ r30 (dot3 (uX la lo) (uY la lo) (uZ la lo) (uX ma mo) (uY ma mo) (uZ ma mo)) ∧ r30 (dot3 (uX la lo) (uY la lo) (uZ la lo) (uX ma mo) (uY ma mo) (uZ ma mo)) ≤ 1556925645 := by unfold r30; omega
  obtain ⟨rb0, rb1⟩ := rb
  have HVD : Hid (dstV la lo ma mo = at2V (isq (r30 (iabs (uY la lo * uZ ma mo - uZ la lo * uY ma mo)) * r30 (iabs (uY la lo * uZ ma mo - uZ la lo * uY ma mo)) + r30 (iabs (uZ la lo * uX ma mo - uX la lo * uZ ma mo)) * r30 (iabs (uZ la lo * uX ma mo - uX la lo * uZ ma mo)) + r30 (iabs (uX la lo * uY ma mo - uY la lo * uX ma mo)) * r30 (iabs (uX la lo * uY ma mo - uY la lo * uX ma mo)))) (r30 (dot3 (uX la lo) (uY la lo) (uZ la lo) (uX ma mo) (uY ma mo) (uZ ma mo)))) := Lib.hid rfl
  rw [HVD.out]
  have DE := dist_def (uX la lo) (uY la lo) (uZ la lo) (uX ma mo) (uY ma mo) (uZ ma mo) (unit_sq la lo) (unit_sq ma mo) (unit_big la lo) (unit_big ma mo)
  have DE2 : Hid (at2E (isq (r30 (iabs (uY la lo * uZ ma mo - uZ la lo * uY ma mo)) * r30 (iabs (uY la lo * uZ ma mo - uZ la lo * uY ma mo)) + r30 (iabs (uZ la lo * uX ma mo - uX la lo * uZ ma mo)) * r30 (iabs (uZ la lo * uX ma mo - uX la lo * uZ ma mo)) + r30 (iabs (uX la lo * uY ma mo - uY la lo * uX ma mo)) * r30 (iabs (uX la lo * uY ma mo - uY la lo * uX ma mo)))) (r30 (dot3 (uX la lo) (uY la lo) (uZ la lo) (uX ma mo) (uY ma mo) (uZ ma mo))) = 0) := Lib.hid DE
  clear DE
  have wr0 : IntKind.i64.wrap (r30 (iabs (uY la lo * uZ ma mo - uZ la lo * uY ma mo)) * r30 (iabs (uY la lo * uZ ma mo - uZ la lo * uY ma mo))) = r30 (iabs (uY la lo * uZ ma mo - uZ la lo * uY ma mo)) * r30 (iabs (uY la lo * uZ ma mo - uZ la lo * uY ma mo)) := IntWalk.i64_in _ (by omega)
  have wr1 : IntKind.i64.wrap (r30 (iabs (uZ la lo * uX ma mo - uX la lo * uZ ma mo)) * r30 (iabs (uZ la lo * uX ma mo - uX la lo * uZ ma mo))) = r30 (iabs (uZ la lo * uX ma mo - uX la lo * uZ ma mo)) * r30 (iabs (uZ la lo * uX ma mo - uX la lo * uZ ma mo)) := IntWalk.i64_in _ (by omega)
  have wr2 : IntKind.i64.wrap (r30 (iabs (uX la lo * uY ma mo - uY la lo * uX ma mo)) * r30 (iabs (uX la lo * uY ma mo - uY la lo * uX ma mo))) = r30 (iabs (uX la lo * uY ma mo - uY la lo * uX ma mo)) * r30 (iabs (uX la lo * uY ma mo - uY la lo * uX ma mo)) := IntWalk.i64_in _ (by omega)
  have wr3 : IntKind.i64.wrap (r30 (iabs (uY la lo * uZ ma mo - uZ la lo * uY ma mo)) * r30 (iabs (uY la lo * uZ ma mo - uZ la lo * uY ma mo)) + r30 (iabs (uZ la lo * uX ma mo - uX la lo * uZ ma mo)) * r30 (iabs (uZ la lo * uX ma mo - uX la lo * uZ ma mo))) = r30 (iabs (uY la lo * uZ ma mo - uZ la lo * uY ma mo)) * r30 (iabs (uY la lo * uZ ma mo - uZ la lo * uY ma mo)) + r30 (iabs (uZ la lo * uX ma mo - uX la lo * uZ ma mo)) * r30 (iabs (uZ la lo * uX ma mo - uX la lo * uZ ma mo)) := IntWalk.i64_in _ (by omega)
  have wr4 : IntKind.i64.wrap (r30 (iabs (uY la lo * uZ ma mo - uZ la lo * uY ma mo)) * r30 (iabs (uY la lo * uZ ma mo - uZ la lo * uY ma mo)) + r30 (iabs (uZ la lo * uX ma mo - uX la lo * uZ ma mo)) * r30 (iabs (uZ la lo * uX ma mo - uX la lo * uZ ma mo)) + r30 (iabs (uX la lo * uY ma mo - uY la lo * uX ma mo)) * r30 (iabs (uX la lo * uY ma mo - uY la lo * uX ma mo))) = r30 (iabs (uY la lo * uZ ma mo - uZ la lo * uY ma mo)) * r30 (iabs (uY la lo * uZ ma mo - uZ la lo * uY ma mo)) + r30 (iabs (uZ la lo * uX ma mo - uX la lo * uZ ma mo)) * r30 (iabs (uZ la lo * uX ma mo - uX la lo * uZ ma mo)) + r30 (iabs (uX la lo * uY ma mo - uY la lo * uX ma mo)) * r30 (iabs (uX la lo * uY ma mo - uY la lo * uX ma mo)) := IntWalk.i64_in _ (by omega)
  go_enter Try.func25, Try.ntmps25
  go_wp2_with fail
  with_reducible refine (ref_of_ok la lo la0 la1 lo0 lo1 _).mono ?_
  rintro e w1 ⟨rfl, hk1⟩
  refine kuse (b := w.heap.size) hk1 (by first | (simp; done) | (simp; omega) | omega) ?_
  intro ha hb
  have hz1_0 : w.heap.size < w1.heap.size := by have := hk1.size; (try simp at this); omega
  have hn1_0 : ¬ w.heap.size = w1.heap.size := by omega
  have hm1_0 : ¬ w1.heap.size = w.heap.size := by omega
  have hf1_0_0 : w1.cell? ⟨w.heap.size, 0, none⟩ = some (.int .i64 la) := by first | (rw [ha]; with_reducible assumption) | (simp (maxDischargeDepth := 7) [go_sem, ha]; done) | (rw [ha]; assumption) | (simp (maxDischargeDepth := 7) [go_sem, ha, *]; done)
  have hf1_0_1 : w1.cell? ⟨w.heap.size, 1, none⟩ = some (.int .i64 lo) := by first | (rw [ha]; with_reducible assumption) | (simp (maxDischargeDepth := 7) [go_sem, ha]; done) | (rw [ha]; assumption) | (simp (maxDischargeDepth := 7) [go_sem, ha, *]; done)
  try have hg1_0 : ∀ o, w1.frozen? ⟨w.heap.size, o, none⟩ = false := by intro o; first | (simp (maxDischargeDepth := 7) [go_sem, hb]; done) | (rw [hb]; simp (maxDischargeDepth := 7) [go_sem, *]; done)
  clear ha hb
  refine kuse (b := w.heap.size + 1) hk1 (by first | (simp; done) | (simp; omega) | omega) ?_
  intro ha hb
  have hz1_1 : w.heap.size + 1 < w1.heap.size := by have := hk1.size; (try simp at this); omega
  have hn1_1 : ¬ w.heap.size + 1 = w1.heap.size := by omega
  have hm1_1 : ¬ w1.heap.size = w.heap.size + 1 := by omega
  have hf1_1_0 : w1.cell? ⟨w.heap.size + 1, 0, none⟩ = some (.int .i64 ma) := by first | (rw [ha]; with_reducible assumption) | (simp (maxDischargeDepth := 7) [go_sem, ha]; done) | (rw [ha]; assumption) | (simp (maxDischargeDepth := 7) [go_sem, ha, *]; done)
  have hf1_1_1 : w1.cell? ⟨w.heap.size + 1, 1, none⟩ = some (.int .i64 mo) := by first | (rw [ha]; with_reducible assumption) | (simp (maxDischargeDepth := 7) [go_sem, ha]; done) | (rw [ha]; assumption) | (simp (maxDischargeDepth := 7) [go_sem, ha, *]; done)
  try have hg1_1 : ∀ o, w1.frozen? ⟨w.heap.size + 1, o, none⟩ = false := by intro o; first | (simp (maxDischargeDepth := 7) [go_sem, hb]; done) | (rw [hb]; simp (maxDischargeDepth := 7) [go_sem, *]; done)
  clear ha hb
  go_wp2_with fail
  with_reducible refine (ref_of_ok ma mo ma0 ma1 mo0 mo1 _).mono ?_
  rintro e w2 ⟨rfl, hk2⟩
  refine kuse (b := w.heap.size) hk2 (by first | (simp; done) | (simp; omega) | omega) ?_
  intro ha hb
  have hz2_0 : w.heap.size < w2.heap.size := by have := hk2.size; (try simp at this); omega
  have hn2_0 : ¬ w.heap.size = w2.heap.size := by omega
  have hm2_0 : ¬ w2.heap.size = w.heap.size := by omega
  have hf2_0_0 : w2.cell? ⟨w.heap.size, 0, none⟩ = some (.int .i64 la) := by first | (rw [ha]; with_reducible assumption) | (simp (maxDischargeDepth := 7) [go_sem, ha]; done) | (rw [ha]; assumption) | (simp (maxDischargeDepth := 7) [go_sem, ha, *]; done)
  have hf2_0_1 : w2.cell? ⟨w.heap.size, 1, none⟩ = some (.int .i64 lo) := by first | (rw [ha]; with_reducible assumption) | (simp (maxDischargeDepth := 7) [go_sem, ha]; done) | (rw [ha]; assumption) | (simp (maxDischargeDepth := 7) [go_sem, ha, *]; done)
  try have hg2_0 : ∀ o, w2.frozen? ⟨w.heap.size, o, none⟩ = false := by intro o; first | (simp (maxDischargeDepth := 7) [go_sem, hb]; done) | (rw [hb]; simp (maxDischargeDepth := 7) [go_sem, *]; done)
  clear ha hb
  refine kuse (b := w.heap.size + 1) hk2 (by first | (simp; done) | (simp; omega) | omega) ?_
  intro ha hb
  have hz2_1 : w.heap.size + 1 < w2.heap.size := by have := hk2.size; (try simp at this); omega
  have hn2_1 : ¬ w.heap.size + 1 = w2.heap.size := by omega
  have hm2_1 : ¬ w2.heap.size = w.heap.size + 1 := by omega
  have hf2_1_0 : w2.cell? ⟨w.heap.size + 1, 0, none⟩ = some (.int .i64 ma) := by first | (rw [ha]; with_reducible assumption) | (simp (maxDischargeDepth := 7) [go_sem, ha]; done) | (rw [ha]; assumption) | (simp (maxDischargeDepth := 7) [go_sem, ha, *]; done)
  have hf2_1_1 : w2.cell? ⟨w.heap.size + 1, 1, none⟩ = some (.int .i64 mo) := by first | (rw [ha]; with_reducible assumption) | (simp (maxDischargeDepth := 7) [go_sem, ha]; done) | (rw [ha]; assumption) | (simp (maxDischargeDepth := 7) [go_sem, ha, *]; done)
  try have hg2_1 : ∀ o, w2.frozen? ⟨w.heap.size + 1, o, none⟩ = false := by intro o; first | (simp (maxDischargeDepth := 7) [go_sem, hb]; done) | (rw [hb]; simp (maxDischargeDepth := 7) [go_sem, *]; done)
  clear ha hb
  refine kuse (b := w1.heap.size) hk2 (by first | (simp; done) | (simp; omega) | omega) ?_
  intro ha hb
  have hz2_2 : w1.heap.size < w2.heap.size := by have := hk2.size; (try simp at this); omega
  have hn2_2 : ¬ w1.heap.size = w2.heap.size := by omega
  have hm2_2 : ¬ w2.heap.size = w1.heap.size := by omega
  have hf2_2_0 : w2.cell? ⟨w1.heap.size, 0, none⟩ = some (.int .i64 (uX la lo)) := by first | (rw [ha]; with_reducible assumption) | (simp (maxDischargeDepth := 7) [go_sem, ha]; done) | (rw [ha]; assumption) | (simp (maxDischargeDepth := 7) [go_sem, ha, *]; done)
  have hf2_2_1 : w2.cell? ⟨w1.heap.size, 1, none⟩ = some (.int .i64 (uY la lo)) := by first | (rw [ha]; with_reducible assumption) | (simp (maxDischargeDepth := 7) [go_sem, ha]; done) | (rw [ha]; assumption) | (simp (maxDischargeDepth := 7) [go_sem, ha, *]; done)
  have hf2_2_2 : w2.cell? ⟨w1.heap.size, 2, none⟩ = some (.int .i64 (uZ la lo)) := by first | (rw [ha]; with_reducible assumption) | (simp (maxDischargeDepth := 7) [go_sem, ha]; done) | (rw [ha]; assumption) | (simp (maxDischargeDepth := 7) [go_sem, ha, *]; done)
  try have hg2_2 : ∀ o, w2.frozen? ⟨w1.heap.size, o, none⟩ = false := by intro o; first | (simp (maxDischargeDepth := 7) [go_sem, hb]; done) | (rw [hb]; simp (maxDischargeDepth := 7) [go_sem, *]; done)
  clear ha hb
  try clear hf1_0_0
  try clear hf1_0_1
  try clear hf1_1_0
  try clear hf1_1_1
  try clear hg1_0
  try clear hg1_1
  try clear hz1_1
  go_wp2_with fail
  with_reducible refine (ref_part_w (uY la lo * uZ ma mo - uZ la lo * uY ma mo) (by omega) (by omega) _).mono ?_
  rintro e w' ⟨rfl, rfl⟩
  go_wp2_with fail
  with_reducible refine (ref_part_w (uZ la lo * uX ma mo - uX la lo * uZ ma mo) (by omega) (by omega) _).mono ?_
  rintro e w' ⟨rfl, rfl⟩
  go_wp2_with fail
  with_reducible refine (ref_part_w (uX la lo * uY ma mo - uY la lo * uX ma mo) (by omega) (by omega) _).mono ?_
  rintro e w' ⟨rfl, rfl⟩
  go_wp2_with fail
  go_region_held3 (fun W => W.cell? ⟨w1.heap.size, 0, none⟩ = some (.int .i64 (uX la lo)) ∧ W.cell? ⟨w1.heap.size, 1, none⟩ = some (.int .i64 (uY la lo)) ∧ W.cell? ⟨w1.heap.size, 2, none⟩ = some (.int .i64 (uZ la lo)) ∧ W.cell? ⟨w2.heap.size, 0, none⟩ = some (.int .i64 (uX ma mo)) ∧ W.cell? ⟨w2.heap.size, 1, none⟩ = some (.int .i64 (uY ma mo)) ∧ W.cell? ⟨w2.heap.size, 2, none⟩ = some (.int .i64 (uZ ma mo))) (first | (go_keep; done) | (simp (maxDischargeDepth := 9) [*, World.cell?_alloc_some, World.cell?_setCell_far]; done) | (simp (maxDischargeDepth := 9) [go_sem, *]; done)) (first | (go_at_call 52; (first | with_reducible refine (ref_dot_w _ _ _ _ _ _ (by omega) (by omega) (by omega) (by omega) (by omega) (by omega) (by omega) (by omega) (by omega) (by omega) (by omega) (by omega) _).mono ?_); rintro e w' ⟨rfl, hk⟩; have hz := hk.size; (try (refine kuse (b := w1.heap.size) hk (by first | (simp; done) | (simp; omega) | omega) ?_; intro hq0 hg0; have hy0 : w1.heap.size < w'.heap.size := (by (try simp at hz); omega); have hn0 : ¬ w1.heap.size = w'.heap.size := (by omega); have hm0 : ¬ w1.heap.size = w'.heap.size + 1 := (by omega); refine withF (p := w'.cell? ⟨w1.heap.size, 0, none⟩ = some (.int .i64 (uX la lo))) (by first | (rw [hq0]; with_reducible assumption) | (simp (maxDischargeDepth := 7) [go_sem, hq0]; done) | (simp (maxDischargeDepth := 7) [go_sem, hq0, *]; done) | fail) ?_; intro ff00; refine withF (p := w'.cell? ⟨w1.heap.size, 1, none⟩ = some (.int .i64 (uY la lo))) (by first | (rw [hq0]; with_reducible assumption) | (simp (maxDischargeDepth := 7) [go_sem, hq0]; done) | (simp (maxDischargeDepth := 7) [go_sem, hq0, *]; done) | fail) ?_; intro ff01; refine withF (p := w'.cell? ⟨w1.heap.size, 2, none⟩ = some (.int .i64 (uZ la lo))) (by first | (rw [hq0]; with_reducible assumption) | (simp (maxDischargeDepth := 7) [go_sem, hq0]; done) | (simp (maxDischargeDepth := 7) [go_sem, hq0, *]; done) | fail) ?_; intro ff02)); (try (refine kuse (b := w2.heap.size) hk (by first | (simp; done) | (simp; omega) | omega) ?_; intro hq1 hg1; have hy1 : w2.heap.size < w'.heap.size := (by (try simp at hz); omega); have hn1 : ¬ w2.heap.size = w'.heap.size := (by omega); have hm1 : ¬ w2.heap.size = w'.heap.size + 1 := (by omega); refine withF (p := w'.cell? ⟨w2.heap.size, 0, none⟩ = some (.int .i64 (uX ma mo))) (by first | (rw [hq1]; with_reducible assumption) | (simp (maxDischargeDepth := 7) [go_sem, hq1]; done) | (simp (maxDischargeDepth := 7) [go_sem, hq1, *]; done) | fail) ?_; intro ff10; refine withF (p := w'.cell? ⟨w2.heap.size, 1, none⟩ = some (.int .i64 (uY ma mo))) (by first | (rw [hq1]; with_reducible assumption) | (simp (maxDischargeDepth := 7) [go_sem, hq1]; done) | (simp (maxDischargeDepth := 7) [go_sem, hq1, *]; done) | fail) ?_; intro ff11; refine withF (p := w'.cell? ⟨w2.heap.size, 2, none⟩ = some (.int .i64 (uZ ma mo))) (by first | (rw [hq1]; with_reducible assumption) | (simp (maxDischargeDepth := 7) [go_sem, hq1]; done) | (simp (maxDischargeDepth := 7) [go_sem, hq1, *]; done) | fail) ?_; intro ff12)); (try (refine kuse (b := w.heap.size) hk (by first | (simp; done) | (simp; omega) | omega) ?_; intro hq2 hg2; have hy2 : w.heap.size < w'.heap.size := (by (try simp at hz); omega); have hn2 : ¬ w.heap.size = w'.heap.size := (by omega); have hm2 : ¬ w.heap.size = w'.heap.size + 1 := (by omega); refine withF (p := w'.cell? ⟨w.heap.size, 0, none⟩ = some (.int .i64 la)) (by first | (rw [hq2]; with_reducible assumption) | (simp (maxDischargeDepth := 7) [go_sem, hq2]; done) | (simp (maxDischargeDepth := 7) [go_sem, hq2, *]; done) | fail) ?_; intro ff20; refine withF (p := w'.cell? ⟨w.heap.size, 1, none⟩ = some (.int .i64 lo)) (by first | (rw [hq2]; with_reducible assumption) | (simp (maxDischargeDepth := 7) [go_sem, hq2]; done) | (simp (maxDischargeDepth := 7) [go_sem, hq2, *]; done) | fail) ?_; intro ff21)); (try (refine kuse (b := w.heap.size + 1) hk (by first | (simp; done) | (simp; omega) | omega) ?_; intro hq3 hg3; have hy3 : w.heap.size + 1 < w'.heap.size := (by (try simp at hz); omega); have hn3 : ¬ w.heap.size + 1 = w'.heap.size := (by omega); have hm3 : ¬ w.heap.size + 1 = w'.heap.size + 1 := (by omega); refine withF (p := w'.cell? ⟨w.heap.size + 1, 0, none⟩ = some (.int .i64 ma)) (by first | (rw [hq3]; with_reducible assumption) | (simp (maxDischargeDepth := 7) [go_sem, hq3]; done) | (simp (maxDischargeDepth := 7) [go_sem, hq3, *]; done) | fail) ?_; intro ff30; refine withF (p := w'.cell? ⟨w.heap.size + 1, 1, none⟩ = some (.int .i64 mo)) (by first | (rw [hq3]; with_reducible assumption) | (simp (maxDischargeDepth := 7) [go_sem, hq3]; done) | (simp (maxDischargeDepth := 7) [go_sem, hq3, *]; done) | fail) ?_; intro ff31))) | (go_at_call 54; with_reducible refine (ref_sqrt_w _ (by omega) (by omega) _).mono ?_; rintro e w' ⟨rfl, rfl⟩) | (go_at_call 48; with_reducible refine (ref_atan2_w _ _ (by omega) (by omega) (by omega) (by omega) _).mono ?_; rintro e w' ⟨rfl, rfl⟩))
  all_goals go_wp2_with fail
  all_goals go_ret2
  all_goals rw [DE2.out]
  all_goals exact ⟨rfl, (by repeat (first | with_reducible exact Kept.refl _ | with_reducible assumption | with_reducible refine Kept.setCell ?_ (by first | (simp; done) | (simp; omega) | omega) _ | with_reducible refine Kept.alloc ?_ _ | with_reducible refine Kept.drewN ?_ _ | with_reducible refine Kept.drew ?_ | with_reducible refine Kept.trans ?_ (by with_reducible assumption) | with_reducible refine Kept.dr ?_ (by with_reducible assumption)))⟩
set_option maxHeartbeats 2000000 in
set_option maxRecDepth 100000 in
theorem ref_dist_badp (la lo ma mo : Int) (h : la < -32400000 ∨ 32400000 < la ∨ lo ≤ -64800000 ∨ 64800000 < lo) (w : World) : Calls Try.prog 25 #[.agg #[.int .i64 la, .int .i64 lo], .agg #[.int .i64 ma, .int .i64 mo]] w fun e w' => e = .returned (.tuple #[.int .i64 0, .int .i64 1]) ∧ Kept w w' := by
  by_cases hq : -32400000 ≤ ma ∧ ma ≤ 32400000 ∧ -64800000 < mo ∧ mo ≤ 64800000
  · obtain ⟨ma0, ma1, mo0, mo1⟩ := hq
    go_enter Try.func25, Try.ntmps25
    go_wp2_with fail
    with_reducible refine (ref_of_bad la lo h _).mono ?_
    rintro e w1 ⟨rfl, hk1⟩
    refine kuse (b := w.heap.size) hk1 (by first | (simp; done) | (simp; omega) | omega) ?_
    intro ha hb
    have hz1_0 : w.heap.size < w1.heap.size := by have := hk1.size; (try simp at this); omega
    have hn1_0 : ¬ w.heap.size = w1.heap.size := by omega
    have hm1_0 : ¬ w1.heap.size = w.heap.size := by omega
    have hf1_0_0 : w1.cell? ⟨w.heap.size, 0, none⟩ = some (.int .i64 la) := by first | (rw [ha]; with_reducible assumption) | (simp (maxDischargeDepth := 7) [go_sem, ha]; done) | (rw [ha]; assumption) | (simp (maxDischargeDepth := 7) [go_sem, ha, *]; done)
    have hf1_0_1 : w1.cell? ⟨w.heap.size, 1, none⟩ = some (.int .i64 lo) := by first | (rw [ha]; with_reducible assumption) | (simp (maxDischargeDepth := 7) [go_sem, ha]; done) | (rw [ha]; assumption) | (simp (maxDischargeDepth := 7) [go_sem, ha, *]; done)
    try have hg1_0 : ∀ o, w1.frozen? ⟨w.heap.size, o, none⟩ = false := by intro o; first | (simp (maxDischargeDepth := 7) [go_sem, hb]; done) | (rw [hb]; simp (maxDischargeDepth := 7) [go_sem, *]; done)
    clear ha hb
    refine kuse (b := w.heap.size + 1) hk1 (by first | (simp; done) | (simp; omega) | omega) ?_
    intro ha hb
    have hz1_1 : w.heap.size + 1 < w1.heap.size := by have := hk1.size; (try simp at this); omega
    have hn1_1 : ¬ w.heap.size + 1 = w1.heap.size := by omega
    have hm1_1 : ¬ w1.heap.size = w.heap.size + 1 := by omega
    have hf1_1_0 : w1.cell? ⟨w.heap.size + 1, 0, none⟩ = some (.int .i64 ma) := by first | (rw [ha]; with_reducible assumption) | (simp (maxDischargeDepth := 7) [go_sem, ha]; done) | (rw [ha]; assumption) | (simp (maxDischargeDepth := 7) [go_sem, ha, *]; done)
    have hf1_1_1 : w1.cell? ⟨w.heap.size + 1, 1, none⟩ = some (.int .i64 mo) := by first | (rw [ha]; with_reducible assumption) | (simp (maxDischargeDepth := 7) [go_sem, ha]; done) | (rw [ha]; assumption) | (simp (maxDischargeDepth := 7) [go_sem, ha, *]; done)
    try have hg1_1 : ∀ o, w1.frozen? ⟨w.heap.size + 1, o, none⟩ = false := by intro o; first | (simp (maxDischargeDepth := 7) [go_sem, hb]; done) | (rw [hb]; simp (maxDischargeDepth := 7) [go_sem, *]; done)
    clear ha hb
    go_wp2_with fail
    with_reducible refine (ref_of_ok ma mo ma0 ma1 mo0 mo1 _).mono ?_
    rintro e w2 ⟨rfl, hk2⟩
    refine kuse (b := w.heap.size) hk2 (by first | (simp; done) | (simp; omega) | omega) ?_
    intro ha hb
    have hz2_0 : w.heap.size < w2.heap.size := by have := hk2.size; (try simp at this); omega
    have hn2_0 : ¬ w.heap.size = w2.heap.size := by omega
    have hm2_0 : ¬ w2.heap.size = w.heap.size := by omega
    have hf2_0_0 : w2.cell? ⟨w.heap.size, 0, none⟩ = some (.int .i64 la) := by first | (rw [ha]; with_reducible assumption) | (simp (maxDischargeDepth := 7) [go_sem, ha]; done) | (rw [ha]; assumption) | (simp (maxDischargeDepth := 7) [go_sem, ha, *]; done)
    have hf2_0_1 : w2.cell? ⟨w.heap.size, 1, none⟩ = some (.int .i64 lo) := by first | (rw [ha]; with_reducible assumption) | (simp (maxDischargeDepth := 7) [go_sem, ha]; done) | (rw [ha]; assumption) | (simp (maxDischargeDepth := 7) [go_sem, ha, *]; done)
    try have hg2_0 : ∀ o, w2.frozen? ⟨w.heap.size, o, none⟩ = false := by intro o; first | (simp (maxDischargeDepth := 7) [go_sem, hb]; done) | (rw [hb]; simp (maxDischargeDepth := 7) [go_sem, *]; done)
    clear ha hb
    refine kuse (b := w.heap.size + 1) hk2 (by first | (simp; done) | (simp; omega) | omega) ?_
    intro ha hb
    have hz2_1 : w.heap.size + 1 < w2.heap.size := by have := hk2.size; (try simp at this); omega
    have hn2_1 : ¬ w.heap.size + 1 = w2.heap.size := by omega
    have hm2_1 : ¬ w2.heap.size = w.heap.size + 1 := by omega
    have hf2_1_0 : w2.cell? ⟨w.heap.size + 1, 0, none⟩ = some (.int .i64 ma) := by first | (rw [ha]; with_reducible assumption) | (simp (maxDischargeDepth := 7) [go_sem, ha]; done) | (rw [ha]; assumption) | (simp (maxDischargeDepth := 7) [go_sem, ha, *]; done)
    have hf2_1_1 : w2.cell? ⟨w.heap.size + 1, 1, none⟩ = some (.int .i64 mo) := by first | (rw [ha]; with_reducible assumption) | (simp (maxDischargeDepth := 7) [go_sem, ha]; done) | (rw [ha]; assumption) | (simp (maxDischargeDepth := 7) [go_sem, ha, *]; done)
    try have hg2_1 : ∀ o, w2.frozen? ⟨w.heap.size + 1, o, none⟩ = false := by intro o; first | (simp (maxDischargeDepth := 7) [go_sem, hb]; done) | (rw [hb]; simp (maxDischargeDepth := 7) [go_sem, *]; done)
    clear ha hb
    refine kuse (b := w1.heap.size) hk2 (by first | (simp; done) | (simp; omega) | omega) ?_
    intro ha hb
    have hz2_2 : w1.heap.size < w2.heap.size := by have := hk2.size; (try simp at this); omega
    have hn2_2 : ¬ w1.heap.size = w2.heap.size := by omega
    have hm2_2 : ¬ w2.heap.size = w1.heap.size := by omega
    have hf2_2_0 : w2.cell? ⟨w1.heap.size, 0, none⟩ = some (.int .i64 (0)) := by first | (rw [ha]; with_reducible assumption) | (simp (maxDischargeDepth := 7) [go_sem, ha]; done) | (rw [ha]; assumption) | (simp (maxDischargeDepth := 7) [go_sem, ha, *]; done)
    have hf2_2_1 : w2.cell? ⟨w1.heap.size, 1, none⟩ = some (.int .i64 (0)) := by first | (rw [ha]; with_reducible assumption) | (simp (maxDischargeDepth := 7) [go_sem, ha]; done) | (rw [ha]; assumption) | (simp (maxDischargeDepth := 7) [go_sem, ha, *]; done)
    have hf2_2_2 : w2.cell? ⟨w1.heap.size, 2, none⟩ = some (.int .i64 (0)) := by first | (rw [ha]; with_reducible assumption) | (simp (maxDischargeDepth := 7) [go_sem, ha]; done) | (rw [ha]; assumption) | (simp (maxDischargeDepth := 7) [go_sem, ha, *]; done)
    try have hg2_2 : ∀ o, w2.frozen? ⟨w1.heap.size, o, none⟩ = false := by intro o; first | (simp (maxDischargeDepth := 7) [go_sem, hb]; done) | (rw [hb]; simp (maxDischargeDepth := 7) [go_sem, *]; done)
    clear ha hb
    try clear hf1_0_0
    try clear hf1_0_1
    try clear hf1_1_0
    try clear hf1_1_1
    try clear hg1_0
    try clear hg1_1
    try clear hz1_1
    go_wp2_with fail
    all_goals go_ret2
    all_goals exact ⟨rfl, (by repeat (first | with_reducible exact Kept.refl _ | with_reducible assumption | with_reducible refine Kept.setCell ?_ (by first | (simp; done) | (simp; omega) | omega) _ | with_reducible refine Kept.alloc ?_ _ | with_reducible refine Kept.drewN ?_ _ | with_reducible refine Kept.drew ?_ | with_reducible refine Kept.trans ?_ (by with_reducible assumption) | with_reducible refine Kept.dr ?_ (by with_reducible assumption)))⟩
  · have h' : ma < -32400000 ∨ 32400000 < ma ∨ mo ≤ -64800000 ∨ 64800000 < mo := by omega
    clear hq
    go_enter Try.func25, Try.ntmps25
    go_wp2_with fail
    with_reducible refine (ref_of_bad la lo h _).mono ?_
    rintro e w1 ⟨rfl, hk1⟩
    refine kuse (b := w.heap.size) hk1 (by first | (simp; done) | (simp; omega) | omega) ?_
    intro ha hb
    have hz1_0 : w.heap.size < w1.heap.size := by have := hk1.size; (try simp at this); omega
    have hn1_0 : ¬ w.heap.size = w1.heap.size := by omega
    have hm1_0 : ¬ w1.heap.size = w.heap.size := by omega
    have hf1_0_0 : w1.cell? ⟨w.heap.size, 0, none⟩ = some (.int .i64 la) := by first | (rw [ha]; with_reducible assumption) | (simp (maxDischargeDepth := 7) [go_sem, ha]; done) | (rw [ha]; assumption) | (simp (maxDischargeDepth := 7) [go_sem, ha, *]; done)
    have hf1_0_1 : w1.cell? ⟨w.heap.size, 1, none⟩ = some (.int .i64 lo) := by first | (rw [ha]; with_reducible assumption) | (simp (maxDischargeDepth := 7) [go_sem, ha]; done) | (rw [ha]; assumption) | (simp (maxDischargeDepth := 7) [go_sem, ha, *]; done)
    try have hg1_0 : ∀ o, w1.frozen? ⟨w.heap.size, o, none⟩ = false := by intro o; first | (simp (maxDischargeDepth := 7) [go_sem, hb]; done) | (rw [hb]; simp (maxDischargeDepth := 7) [go_sem, *]; done)
    clear ha hb
    refine kuse (b := w.heap.size + 1) hk1 (by first | (simp; done) | (simp; omega) | omega) ?_
    intro ha hb
    have hz1_1 : w.heap.size + 1 < w1.heap.size := by have := hk1.size; (try simp at this); omega
    have hn1_1 : ¬ w.heap.size + 1 = w1.heap.size := by omega
    have hm1_1 : ¬ w1.heap.size = w.heap.size + 1 := by omega
    have hf1_1_0 : w1.cell? ⟨w.heap.size + 1, 0, none⟩ = some (.int .i64 ma) := by first | (rw [ha]; with_reducible assumption) | (simp (maxDischargeDepth := 7) [go_sem, ha]; done) | (rw [ha]; assumption) | (simp (maxDischargeDepth := 7) [go_sem, ha, *]; done)
    have hf1_1_1 : w1.cell? ⟨w.heap.size + 1, 1, none⟩ = some (.int .i64 mo) := by first | (rw [ha]; with_reducible assumption) | (simp (maxDischargeDepth := 7) [go_sem, ha]; done) | (rw [ha]; assumption) | (simp (maxDischargeDepth := 7) [go_sem, ha, *]; done)
    try have hg1_1 : ∀ o, w1.frozen? ⟨w.heap.size + 1, o, none⟩ = false := by intro o; first | (simp (maxDischargeDepth := 7) [go_sem, hb]; done) | (rw [hb]; simp (maxDischargeDepth := 7) [go_sem, *]; done)
    clear ha hb
    go_wp2_with fail
    with_reducible refine (ref_of_bad ma mo h' _).mono ?_
    rintro e w2 ⟨rfl, hk2⟩
    refine kuse (b := w.heap.size) hk2 (by first | (simp; done) | (simp; omega) | omega) ?_
    intro ha hb
    have hz2_0 : w.heap.size < w2.heap.size := by have := hk2.size; (try simp at this); omega
    have hn2_0 : ¬ w.heap.size = w2.heap.size := by omega
    have hm2_0 : ¬ w2.heap.size = w.heap.size := by omega
    have hf2_0_0 : w2.cell? ⟨w.heap.size, 0, none⟩ = some (.int .i64 la) := by first | (rw [ha]; with_reducible assumption) | (simp (maxDischargeDepth := 7) [go_sem, ha]; done) | (rw [ha]; assumption) | (simp (maxDischargeDepth := 7) [go_sem, ha, *]; done)
    have hf2_0_1 : w2.cell? ⟨w.heap.size, 1, none⟩ = some (.int .i64 lo) := by first | (rw [ha]; with_reducible assumption) | (simp (maxDischargeDepth := 7) [go_sem, ha]; done) | (rw [ha]; assumption) | (simp (maxDischargeDepth := 7) [go_sem, ha, *]; done)
    try have hg2_0 : ∀ o, w2.frozen? ⟨w.heap.size, o, none⟩ = false := by intro o; first | (simp (maxDischargeDepth := 7) [go_sem, hb]; done) | (rw [hb]; simp (maxDischargeDepth := 7) [go_sem, *]; done)
    clear ha hb
    refine kuse (b := w.heap.size + 1) hk2 (by first | (simp; done) | (simp; omega) | omega) ?_
    intro ha hb
    have hz2_1 : w.heap.size + 1 < w2.heap.size := by have := hk2.size; (try simp at this); omega
    have hn2_1 : ¬ w.heap.size + 1 = w2.heap.size := by omega
    have hm2_1 : ¬ w2.heap.size = w.heap.size + 1 := by omega
    have hf2_1_0 : w2.cell? ⟨w.heap.size + 1, 0, none⟩ = some (.int .i64 ma) := by first | (rw [ha]; with_reducible assumption) | (simp (maxDischargeDepth := 7) [go_sem, ha]; done) | (rw [ha]; assumption) | (simp (maxDischargeDepth := 7) [go_sem, ha, *]; done)
    have hf2_1_1 : w2.cell? ⟨w.heap.size + 1, 1, none⟩ = some (.int .i64 mo) := by first | (rw [ha]; with_reducible assumption) | (simp (maxDischargeDepth := 7) [go_sem, ha]; done) | (rw [ha]; assumption) | (simp (maxDischargeDepth := 7) [go_sem, ha, *]; done)
    try have hg2_1 : ∀ o, w2.frozen? ⟨w.heap.size + 1, o, none⟩ = false := by intro o; first | (simp (maxDischargeDepth := 7) [go_sem, hb]; done) | (rw [hb]; simp (maxDischargeDepth := 7) [go_sem, *]; done)
    clear ha hb
    refine kuse (b := w1.heap.size) hk2 (by first | (simp; done) | (simp; omega) | omega) ?_
    intro ha hb
    have hz2_2 : w1.heap.size < w2.heap.size := by have := hk2.size; (try simp at this); omega
    have hn2_2 : ¬ w1.heap.size = w2.heap.size := by omega
    have hm2_2 : ¬ w2.heap.size = w1.heap.size := by omega
    have hf2_2_0 : w2.cell? ⟨w1.heap.size, 0, none⟩ = some (.int .i64 (0)) := by first | (rw [ha]; with_reducible assumption) | (simp (maxDischargeDepth := 7) [go_sem, ha]; done) | (rw [ha]; assumption) | (simp (maxDischargeDepth := 7) [go_sem, ha, *]; done)
    have hf2_2_1 : w2.cell? ⟨w1.heap.size, 1, none⟩ = some (.int .i64 (0)) := by first | (rw [ha]; with_reducible assumption) | (simp (maxDischargeDepth := 7) [go_sem, ha]; done) | (rw [ha]; assumption) | (simp (maxDischargeDepth := 7) [go_sem, ha, *]; done)
    have hf2_2_2 : w2.cell? ⟨w1.heap.size, 2, none⟩ = some (.int .i64 (0)) := by first | (rw [ha]; with_reducible assumption) | (simp (maxDischargeDepth := 7) [go_sem, ha]; done) | (rw [ha]; assumption) | (simp (maxDischargeDepth := 7) [go_sem, ha, *]; done)
    try have hg2_2 : ∀ o, w2.frozen? ⟨w1.heap.size, o, none⟩ = false := by intro o; first | (simp (maxDischargeDepth := 7) [go_sem, hb]; done) | (rw [hb]; simp (maxDischargeDepth := 7) [go_sem, *]; done)
    clear ha hb
    try clear hf1_0_0
    try clear hf1_0_1
    try clear hf1_1_0
    try clear hf1_1_1
    try clear hg1_0
    try clear hg1_1
    try clear hz1_1
    go_wp2_with fail
    all_goals go_ret2
    all_goals exact ⟨rfl, (by repeat (first | with_reducible exact Kept.refl _ | with_reducible assumption | with_reducible refine Kept.setCell ?_ (by first | (simp; done) | (simp; omega) | omega) _ | with_reducible refine Kept.alloc ?_ _ | with_reducible refine Kept.drewN ?_ _ | with_reducible refine Kept.drew ?_ | with_reducible refine Kept.trans ?_ (by with_reducible assumption) | with_reducible refine Kept.dr ?_ (by with_reducible assumption)))⟩
set_option maxHeartbeats 2000000 in
set_option maxRecDepth 100000 in
theorem ref_dist_badq (la lo : Int) (la0 : -32400000 ≤ la) (la1 : la ≤ 32400000) (lo0 : -64800000 < lo) (lo1 : lo ≤ 64800000) (ma mo : Int) (h : ma < -32400000 ∨ 32400000 < ma ∨ mo ≤ -64800000 ∨ 64800000 < mo) (w : World) : Calls Try.prog 25 #[.agg #[.int .i64 la, .int .i64 lo], .agg #[.int .i64 ma, .int .i64 mo]] w fun e w' => e = .returned (.tuple #[.int .i64 0, .int .i64 1]) ∧ Kept w w' := by
  go_enter Try.func25, Try.ntmps25
  go_wp2_with fail
  with_reducible refine (ref_of_ok la lo la0 la1 lo0 lo1 _).mono ?_
  rintro e w1 ⟨rfl, hk1⟩
  refine kuse (b := w.heap.size) hk1 (by first | (simp; done) | (simp; omega) | omega) ?_
  intro ha hb
  have hz1_0 : w.heap.size < w1.heap.size := by have := hk1.size; (try simp at this); omega
  have hn1_0 : ¬ w.heap.size = w1.heap.size := by omega
  have hm1_0 : ¬ w1.heap.size = w.heap.size := by omega
  have hf1_0_0 : w1.cell? ⟨w.heap.size, 0, none⟩ = some (.int .i64 la) := by first | (rw [ha]; with_reducible assumption) | (simp (maxDischargeDepth := 7) [go_sem, ha]; done) | (rw [ha]; assumption) | (simp (maxDischargeDepth := 7) [go_sem, ha, *]; done)
  have hf1_0_1 : w1.cell? ⟨w.heap.size, 1, none⟩ = some (.int .i64 lo) := by first | (rw [ha]; with_reducible assumption) | (simp (maxDischargeDepth := 7) [go_sem, ha]; done) | (rw [ha]; assumption) | (simp (maxDischargeDepth := 7) [go_sem, ha, *]; done)
  try have hg1_0 : ∀ o, w1.frozen? ⟨w.heap.size, o, none⟩ = false := by intro o; first | (simp (maxDischargeDepth := 7) [go_sem, hb]; done) | (rw [hb]; simp (maxDischargeDepth := 7) [go_sem, *]; done)
  clear ha hb
  refine kuse (b := w.heap.size + 1) hk1 (by first | (simp; done) | (simp; omega) | omega) ?_
  intro ha hb
  have hz1_1 : w.heap.size + 1 < w1.heap.size := by have := hk1.size; (try simp at this); omega
  have hn1_1 : ¬ w.heap.size + 1 = w1.heap.size := by omega
  have hm1_1 : ¬ w1.heap.size = w.heap.size + 1 := by omega
  have hf1_1_0 : w1.cell? ⟨w.heap.size + 1, 0, none⟩ = some (.int .i64 ma) := by first | (rw [ha]; with_reducible assumption) | (simp (maxDischargeDepth := 7) [go_sem, ha]; done) | (rw [ha]; assumption) | (simp (maxDischargeDepth := 7) [go_sem, ha, *]; done)
  have hf1_1_1 : w1.cell? ⟨w.heap.size + 1, 1, none⟩ = some (.int .i64 mo) := by first | (rw [ha]; with_reducible assumption) | (simp (maxDischargeDepth := 7) [go_sem, ha]; done) | (rw [ha]; assumption) | (simp (maxDischargeDepth := 7) [go_sem, ha, *]; done)
  try have hg1_1 : ∀ o, w1.frozen? ⟨w.heap.size + 1, o, none⟩ = false := by intro o; first | (simp (maxDischargeDepth := 7) [go_sem, hb]; done) | (rw [hb]; simp (maxDischargeDepth := 7) [go_sem, *]; done)
  clear ha hb
  go_wp2_with fail
  with_reducible refine (ref_of_bad ma mo h _).mono ?_
  rintro e w2 ⟨rfl, hk2⟩
  refine kuse (b := w.heap.size) hk2 (by first | (simp; done) | (simp; omega) | omega) ?_
  intro ha hb
  have hz2_0 : w.heap.size < w2.heap.size := by have := hk2.size; (try simp at this); omega
  have hn2_0 : ¬ w.heap.size = w2.heap.size := by omega
  have hm2_0 : ¬ w2.heap.size = w.heap.size := by omega
  have hf2_0_0 : w2.cell? ⟨w.heap.size, 0, none⟩ = some (.int .i64 la) := by first | (rw [ha]; with_reducible assumption) | (simp (maxDischargeDepth := 7) [go_sem, ha]; done) | (rw [ha]; assumption) | (simp (maxDischargeDepth := 7) [go_sem, ha, *]; done)
  have hf2_0_1 : w2.cell? ⟨w.heap.size, 1, none⟩ = some (.int .i64 lo) := by first | (rw [ha]; with_reducible assumption) | (simp (maxDischargeDepth := 7) [go_sem, ha]; done) | (rw [ha]; assumption) | (simp (maxDischargeDepth := 7) [go_sem, ha, *]; done)
  try have hg2_0 : ∀ o, w2.frozen? ⟨w.heap.size, o, none⟩ = false := by intro o; first | (simp (maxDischargeDepth := 7) [go_sem, hb]; done) | (rw [hb]; simp (maxDischargeDepth := 7) [go_sem, *]; done)
  clear ha hb
  refine kuse (b := w.heap.size + 1) hk2 (by first | (simp; done) | (simp; omega) | omega) ?_
  intro ha hb
  have hz2_1 : w.heap.size + 1 < w2.heap.size := by have := hk2.size; (try simp at this); omega
  have hn2_1 : ¬ w.heap.size + 1 = w2.heap.size := by omega
  have hm2_1 : ¬ w2.heap.size = w.heap.size + 1 := by omega
  have hf2_1_0 : w2.cell? ⟨w.heap.size + 1, 0, none⟩ = some (.int .i64 ma) := by first | (rw [ha]; with_reducible assumption) | (simp (maxDischargeDepth := 7) [go_sem, ha]; done) | (rw [ha]; assumption) | (simp (maxDischargeDepth := 7) [go_sem, ha, *]; done)
  have hf2_1_1 : w2.cell? ⟨w.heap.size + 1, 1, none⟩ = some (.int .i64 mo) := by first | (rw [ha]; with_reducible assumption) | (simp (maxDischargeDepth := 7) [go_sem, ha]; done) | (rw [ha]; assumption) | (simp (maxDischargeDepth := 7) [go_sem, ha, *]; done)
  try have hg2_1 : ∀ o, w2.frozen? ⟨w.heap.size + 1, o, none⟩ = false := by intro o; first | (simp (maxDischargeDepth := 7) [go_sem, hb]; done) | (rw [hb]; simp (maxDischargeDepth := 7) [go_sem, *]; done)
  clear ha hb
  refine kuse (b := w1.heap.size) hk2 (by first | (simp; done) | (simp; omega) | omega) ?_
  intro ha hb
  have hz2_2 : w1.heap.size < w2.heap.size := by have := hk2.size; (try simp at this); omega
  have hn2_2 : ¬ w1.heap.size = w2.heap.size := by omega
  have hm2_2 : ¬ w2.heap.size = w1.heap.size := by omega
  have hf2_2_0 : w2.cell? ⟨w1.heap.size, 0, none⟩ = some (.int .i64 (uX la lo)) := by first | (rw [ha]; with_reducible assumption) | (simp (maxDischargeDepth := 7) [go_sem, ha]; done) | (rw [ha]; assumption) | (simp (maxDischargeDepth := 7) [go_sem, ha, *]; done)
  have hf2_2_1 : w2.cell? ⟨w1.heap.size, 1, none⟩ = some (.int .i64 (uY la lo)) := by first | (rw [ha]; with_reducible assumption) | (simp (maxDischargeDepth := 7) [go_sem, ha]; done) | (rw [ha]; assumption) | (simp (maxDischargeDepth := 7) [go_sem, ha, *]; done)
  have hf2_2_2 : w2.cell? ⟨w1.heap.size, 2, none⟩ = some (.int .i64 (uZ la lo)) := by first | (rw [ha]; with_reducible assumption) | (simp (maxDischargeDepth := 7) [go_sem, ha]; done) | (rw [ha]; assumption) | (simp (maxDischargeDepth := 7) [go_sem, ha, *]; done)
  try have hg2_2 : ∀ o, w2.frozen? ⟨w1.heap.size, o, none⟩ = false := by intro o; first | (simp (maxDischargeDepth := 7) [go_sem, hb]; done) | (rw [hb]; simp (maxDischargeDepth := 7) [go_sem, *]; done)
  clear ha hb
  try clear hf1_0_0
  try clear hf1_0_1
  try clear hf1_1_0
  try clear hf1_1_1
  try clear hg1_0
  try clear hg1_1
  try clear hz1_1
  go_wp2_with fail
  all_goals go_ret2
  all_goals exact ⟨rfl, (by repeat (first | with_reducible exact Kept.refl _ | with_reducible assumption | with_reducible refine Kept.setCell ?_ (by first | (simp; done) | (simp; omega) | omega) _ | with_reducible refine Kept.alloc ?_ _ | with_reducible refine Kept.drewN ?_ _ | with_reducible refine Kept.drew ?_ | with_reducible refine Kept.trans ?_ (by with_reducible assumption) | with_reducible refine Kept.dr ?_ (by with_reducible assumption)))⟩

end Go.Proofs.Ytjnodchmamlcpaa
