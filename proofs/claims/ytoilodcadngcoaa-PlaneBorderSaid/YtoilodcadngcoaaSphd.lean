/-
  Own contracts: package sphere and the document's answers of layer 9: local components.
-/
import Derived.Test.YtoilodcadngcoaaSphc
import Derived.WalkKit
import Derived.ProofKit
import Derived.OpenShut
import Derived.WalkLawsBesides
import Derived.WalkSpells
import Derived.Lib.Hide
import Derived.Deep.DeepCutAuto
import Derived.Deep.CutBlock
import Derived.Deep.QuietTactic
import Derived.BigQuiet
import Derived.Handy
import Derived.StillTailTactics
import Derived.IntWalk
import Derived.LoopN
import Derived.Deep.RegionHeld3
namespace Go.Proofs.Ytoilodcadngcoaa
open Go.ChangeShapes Go.WideShapes Go.ChangeAt Go.RowKit
set_option linter.unusedVariables false
set_option linter.unusedSimpArgs false
set_option maxHeartbeats 2000000 in
set_option maxRecDepth 100000 in
theorem local_ok (la lo : Int) (la0 : -32400000 ≤ la) (la1 : la ≤ 32400000) (lo0 : -64800000 < lo) (lo1 : lo ≤ 64800000) (ma mo : Int) (ma0 : -32400000 ≤ ma) (ma1 : ma ≤ 32400000) (mo0 : -64800000 < mo) (mo1 : mo ≤ 64800000) (w : World) : Calls Try.prog 25 #[.agg #[.int .i64 la, .int .i64 lo], .agg #[.int .i64 ma, .int .i64 mo]] w fun e w' => e = .returned (.tuple #[.agg #[.int .i64 (lcE la lo (uX ma mo) (uY ma mo) (uZ ma mo)), .int .i64 (lcN la lo (uX ma mo) (uY ma mo) (uZ ma mo)), .int .i64 (lcU la lo (uX ma mo) (uY ma mo) (uZ ma mo))], .int .i64 0]) ∧ Kept w w' := by
  have bd0 := sinV_bd lo
  obtain ⟨bd00, bd01⟩ := bd0
  have bd1 := cosV_bd lo
  obtain ⟨bd10, bd11⟩ := bd1
  have bd2 := cosV_bd la
  obtain ⟨bd20, bd21⟩ := bd2
  have bd3 := fA_bd la lo
  obtain ⟨bd30, bd31⟩ := bd3
  have bd4 := fB_bd la lo
  obtain ⟨bd40, bd41⟩ := bd4
  have bd5 := uX_bd la lo
  obtain ⟨bd50, bd51⟩ := bd5
  have bd6 := uY_bd la lo
  obtain ⟨bd60, bd61⟩ := bd6
  have bd7 := uZ_bd la lo
  obtain ⟨bd70, bd71⟩ := bd7
  have bd8 := uX_bd ma mo
  obtain ⟨bd80, bd81⟩ := bd8
  have bd9 := uY_bd ma mo
  obtain ⟨bd90, bd91⟩ := bd9
  have bd10 := uZ_bd ma mo
  obtain ⟨bd100, bd101⟩ := bd10
  obtain ⟨m00, m01⟩ := mul_sb (cosV lo) (uY ma mo) (by omega) (by omega) (by omega) (by omega)
  obtain ⟨m10, m11⟩ := mul_sb (sinV lo) (uX ma mo) (by omega) (by omega) (by omega) (by omega)
  obtain ⟨m20, m21⟩ := mul_sb (cosV la) (uZ ma mo) (by omega) (by omega) (by omega) (by omega)
  obtain ⟨m30, m31⟩ := mul_sb (fA la lo) (uX ma mo) (by omega) (by omega) (by omega) (by omega)
  obtain ⟨m40, m41⟩ := mul_sb (fB la lo) (uY ma mo) (by omega) (by omega) (by omega) (by omega)
  obtain ⟨m50, m51⟩ := mul_sb (uX la lo) (uX ma mo) (by omega) (by omega) (by omega) (by omega)
  obtain ⟨m60, m61⟩ := mul_sb (uY la lo) (uY ma mo) (by omega) (by omega) (by omega) (by omega)
  obtain ⟨m70, m71⟩ := mul_sb (uZ la lo) (uZ ma mo) (by omega) (by omega) (by omega) (by omega)
  have db : -3458764513820540928 ≤ dot3 (uX la lo) (uY la lo) (uZ la lo) (uX ma mo) (uY ma mo) (uZ ma mo) ∧ dot3 (uX la lo) (uY la lo) (uZ la lo) (uX ma mo) (uY ma mo) (uZ ma mo) ≤ 3458764513820540928 := by unfold dot3; omega
  obtain ⟨db0, db1⟩ := db
  go_enter Try.func25, Try.ntmps25
  go_wp2_with fail
  with_reducible refine (valid_ok la lo la0 la1 lo0 lo1 _).mono ?_
  rintro e w1 ⟨rfl, hk1⟩
  refine kuse (b := w.heap.size) hk1 (by first | (simp; done) | (simp; omega) | omega) ?_
  intro ha hb
  have hz1_0 : w.heap.size < w1.heap.size := by have := hk1.size; (try simp at this); omega
  have hn1_0 : ¬ w.heap.size = w1.heap.size := by omega
  have hm1_0 : ¬ w1.heap.size = w.heap.size := by omega
  have hf1_0_0 : w1.cell? ⟨w.heap.size, 0, none⟩ = some (.int .i64 la) := by first | (rw [ha]; with_reducible assumption) | (simp (maxDischargeDepth := 7) [go_sem, ha]; done) | (rw [ha]; assumption) | (simp (maxDischargeDepth := 7) [go_sem, ha, *]; done)
  have hf1_0_1 : w1.cell? ⟨w.heap.size, 1, none⟩ = some (.int .i64 lo) := by first | (rw [ha]; with_reducible assumption) | (simp (maxDischargeDepth := 7) [go_sem, ha]; done) | (rw [ha]; assumption) | (simp (maxDischargeDepth := 7) [go_sem, ha, *]; done)
  try have hg1_0 : ∀ o, w1.frozen? ⟨w.heap.size, o, none⟩ = false := by intro o; first | (simp (maxDischargeDepth := 7) [go_sem, hb]; done) | (rw [hb]; simp (maxDischargeDepth := 7) [go_sem, *]; done)
  clear ha hb
  refine kuse (b := w.heap.size + 1) hk1 (by first | (simp; done) | (simp; omega) | omega) ?_
  intro ha hb
  have hz1_1 : w.heap.size + 1 < w1.heap.size := by have := hk1.size; (try simp at this); omega
  have hn1_1 : ¬ w.heap.size + 1 = w1.heap.size := by omega
  have hm1_1 : ¬ w1.heap.size = w.heap.size + 1 := by omega
  have hf1_1_0 : w1.cell? ⟨w.heap.size + 1, 0, none⟩ = some (.int .i64 ma) := by first | (rw [ha]; with_reducible assumption) | (simp (maxDischargeDepth := 7) [go_sem, ha]; done) | (rw [ha]; assumption) | (simp (maxDischargeDepth := 7) [go_sem, ha, *]; done)
  have hf1_1_1 : w1.cell? ⟨w.heap.size + 1, 1, none⟩ = some (.int .i64 mo) := by first | (rw [ha]; with_reducible assumption) | (simp (maxDischargeDepth := 7) [go_sem, ha]; done) | (rw [ha]; assumption) | (simp (maxDischargeDepth := 7) [go_sem, ha, *]; done)
  try have hg1_1 : ∀ o, w1.frozen? ⟨w.heap.size + 1, o, none⟩ = false := by intro o; first | (simp (maxDischargeDepth := 7) [go_sem, hb]; done) | (rw [hb]; simp (maxDischargeDepth := 7) [go_sem, *]; done)
  clear ha hb
  refine kuse (b := w.heap.size + 2) hk1 (by first | (simp; done) | (simp; omega) | omega) ?_
  intro ha hb
  have hz1_2 : w.heap.size + 2 < w1.heap.size := by have := hk1.size; (try simp at this); omega
  have hn1_2 : ¬ w.heap.size + 2 = w1.heap.size := by omega
  have hm1_2 : ¬ w1.heap.size = w.heap.size + 2 := by omega
  have hf1_2_0 : w1.cell? ⟨w.heap.size + 2, 0, none⟩ = some (.int .i64 0) := by first | (rw [ha]; with_reducible assumption) | (simp (maxDischargeDepth := 7) [go_sem, ha]; done) | (rw [ha]; assumption) | (simp (maxDischargeDepth := 7) [go_sem, ha, *]; done)
  have hf1_2_1 : w1.cell? ⟨w.heap.size + 2, 1, none⟩ = some (.int .i64 0) := by first | (rw [ha]; with_reducible assumption) | (simp (maxDischargeDepth := 7) [go_sem, ha]; done) | (rw [ha]; assumption) | (simp (maxDischargeDepth := 7) [go_sem, ha, *]; done)
  have hf1_2_2 : w1.cell? ⟨w.heap.size + 2, 2, none⟩ = some (.int .i64 0) := by first | (rw [ha]; with_reducible assumption) | (simp (maxDischargeDepth := 7) [go_sem, ha]; done) | (rw [ha]; assumption) | (simp (maxDischargeDepth := 7) [go_sem, ha, *]; done)
  try have hg1_2 : ∀ o, w1.frozen? ⟨w.heap.size + 2, o, none⟩ = false := by intro o; first | (simp (maxDischargeDepth := 7) [go_sem, hb]; done) | (rw [hb]; simp (maxDischargeDepth := 7) [go_sem, *]; done)
  clear ha hb
  go_wp2_with fail
  with_reducible refine (valid_ok ma mo ma0 ma1 mo0 mo1 _).mono ?_
  rintro e w2 ⟨rfl, hk2⟩
  refine kuse (b := w.heap.size) hk2 (by first | (simp; done) | (simp; omega) | omega) ?_
  intro ha hb
  have hz2_0 : w.heap.size < w2.heap.size := by have := hk2.size; (try simp at this); omega
  have hn2_0 : ¬ w.heap.size = w2.heap.size := by omega
  have hm2_0 : ¬ w2.heap.size = w.heap.size := by omega
  have hf2_0_0 : w2.cell? ⟨w.heap.size, 0, none⟩ = some (.int .i64 la) := by first | (rw [ha]; with_reducible assumption) | (simp (maxDischargeDepth := 7) [go_sem, ha]; done) | (rw [ha]; assumption) | (simp (maxDischargeDepth := 7) [go_sem, ha, *]; done)
  have hf2_0_1 : w2.cell? ⟨w.heap.size, 1, none⟩ = some (.int .i64 lo) := by first | (rw [ha]; with_reducible assumption) | (simp (maxDischargeDepth := 7) [go_sem, ha]; done) | (rw [ha]; assumption) | (simp (maxDischargeDepth := 7) [go_sem, ha, *]; done)
  try have hg2_0 : ∀ o, w2.frozen? ⟨w.heap.size, o, none⟩ = false := by intro o; first | (simp (maxDischargeDepth := 7) [go_sem, hb]; done) | (rw [hb]; simp (maxDischargeDepth := 7) [go_sem, *]; done)
  clear ha hb
  refine kuse (b := w.heap.size + 1) hk2 (by first | (simp; done) | (simp; omega) | omega) ?_
  intro ha hb
  have hz2_1 : w.heap.size + 1 < w2.heap.size := by have := hk2.size; (try simp at this); omega
  have hn2_1 : ¬ w.heap.size + 1 = w2.heap.size := by omega
  have hm2_1 : ¬ w2.heap.size = w.heap.size + 1 := by omega
  have hf2_1_0 : w2.cell? ⟨w.heap.size + 1, 0, none⟩ = some (.int .i64 ma) := by first | (rw [ha]; with_reducible assumption) | (simp (maxDischargeDepth := 7) [go_sem, ha]; done) | (rw [ha]; assumption) | (simp (maxDischargeDepth := 7) [go_sem, ha, *]; done)
  have hf2_1_1 : w2.cell? ⟨w.heap.size + 1, 1, none⟩ = some (.int .i64 mo) := by first | (rw [ha]; with_reducible assumption) | (simp (maxDischargeDepth := 7) [go_sem, ha]; done) | (rw [ha]; assumption) | (simp (maxDischargeDepth := 7) [go_sem, ha, *]; done)
  try have hg2_1 : ∀ o, w2.frozen? ⟨w.heap.size + 1, o, none⟩ = false := by intro o; first | (simp (maxDischargeDepth := 7) [go_sem, hb]; done) | (rw [hb]; simp (maxDischargeDepth := 7) [go_sem, *]; done)
  clear ha hb
  refine kuse (b := w.heap.size + 2) hk2 (by first | (simp; done) | (simp; omega) | omega) ?_
  intro ha hb
  have hz2_2 : w.heap.size + 2 < w2.heap.size := by have := hk2.size; (try simp at this); omega
  have hn2_2 : ¬ w.heap.size + 2 = w2.heap.size := by omega
  have hm2_2 : ¬ w2.heap.size = w.heap.size + 2 := by omega
  have hf2_2_0 : w2.cell? ⟨w.heap.size + 2, 0, none⟩ = some (.int .i64 0) := by first | (rw [ha]; with_reducible assumption) | (simp (maxDischargeDepth := 7) [go_sem, ha]; done) | (rw [ha]; assumption) | (simp (maxDischargeDepth := 7) [go_sem, ha, *]; done)
  have hf2_2_1 : w2.cell? ⟨w.heap.size + 2, 1, none⟩ = some (.int .i64 0) := by first | (rw [ha]; with_reducible assumption) | (simp (maxDischargeDepth := 7) [go_sem, ha]; done) | (rw [ha]; assumption) | (simp (maxDischargeDepth := 7) [go_sem, ha, *]; done)
  have hf2_2_2 : w2.cell? ⟨w.heap.size + 2, 2, none⟩ = some (.int .i64 0) := by first | (rw [ha]; with_reducible assumption) | (simp (maxDischargeDepth := 7) [go_sem, ha]; done) | (rw [ha]; assumption) | (simp (maxDischargeDepth := 7) [go_sem, ha, *]; done)
  try have hg2_2 : ∀ o, w2.frozen? ⟨w.heap.size + 2, o, none⟩ = false := by intro o; first | (simp (maxDischargeDepth := 7) [go_sem, hb]; done) | (rw [hb]; simp (maxDischargeDepth := 7) [go_sem, *]; done)
  clear ha hb
  try clear hf1_0_0
  try clear hf1_0_1
  try clear hf1_1_0
  try clear hf1_1_1
  try clear hf1_2_0
  try clear hf1_2_1
  try clear hf1_2_2
  try clear hg1_0
  try clear hg1_1
  try clear hg1_2
  try clear hz1_1
  try clear hz1_2
  go_wp2_with fail
  have B0 : OwnB w2 (w.heap.size) [.int .i64 la, .int .i64 lo] := ⟨hz2_0, hg2_0, hf2_0_0, hf2_0_1, trivial⟩
  have HB0_0 := Lib.hid B0
  clear B0
  have B1 : OwnB w2 (w.heap.size + 1) [.int .i64 ma, .int .i64 mo] := ⟨hz2_1, hg2_1, hf2_1_0, hf2_1_1, trivial⟩
  have HB0_1 := Lib.hid B1
  clear B1
  have B2 : OwnB w2 (w.heap.size + 2) [.int .i64 0, .int .i64 0, .int .i64 0] := ⟨hz2_2, hg2_2, hf2_2_0, hf2_2_1, hf2_2_2, trivial⟩
  have HB0_2 := Lib.hid B2
  clear B2
  go_upto_region 3 with (fail)
  go_cut [6, 7] (fun p0 p1 wx => ∃ b0 b1 : Nat, p0 = .pointer (some ⟨b0, 0, none⟩) ∧ p1 = .pointer (some ⟨b1, 0, none⟩) ∧ w.heap.size + 1 + 1 < b0 ∧ w.heap.size + 1 + 1 < b1 ∧ b1 ≠ b0 ∧ OwnB wx (b0) [.int .i64 (sinV lo), .int .i64 (cosV lo), .int .i64 (fA la lo), .int .i64 (fB la lo), .int .i64 (cosV la), .int .i64 (uX la lo), .int .i64 (uY la lo), .int .i64 (uZ la lo)] ∧ OwnB wx (b1) [.int .i64 (uX ma mo), .int .i64 (uY ma mo), .int .i64 (uZ ma mo)] ∧ OwnB wx (w.heap.size) [.int .i64 la, .int .i64 lo] ∧ OwnB wx (w.heap.size + 1) [.int .i64 ma, .int .i64 mo] ∧ OwnB wx (w.heap.size + 2) [.int .i64 0, .int .i64 0, .int .i64 0] ∧ Kept w2 wx)
  case first =>
    go_region_held3 (fun W => W.cell? ⟨w.heap.size, 0, none⟩ = some (.int .i64 la) ∧ W.cell? ⟨w.heap.size, 1, none⟩ = some (.int .i64 lo) ∧ W.cell? ⟨w.heap.size + 1, 0, none⟩ = some (.int .i64 ma) ∧ W.cell? ⟨w.heap.size + 1, 1, none⟩ = some (.int .i64 mo)) (first | (go_keep; done) | (simp (maxDischargeDepth := 9) [*, World.cell?_alloc_some, World.cell?_setCell_far]; done) | (simp (maxDischargeDepth := 9) [go_sem, *]; done)) (first | (go_at_call 50; (with_reducible refine (frame_w _ _ la0 la1 lo0 lo1 _).mono ?_); rintro e v0 ⟨rfl, hk⟩; have hz := hk.size; (try (refine kuse (b := w.heap.size) hk (by first | (simp; done) | (simp; omega) | omega) ?_; intro hq hg; have hy : w.heap.size < v0.heap.size := (by (try simp at hz); omega); have hn : ¬ w.heap.size = v0.heap.size := (by omega); have hm : ¬ w.heap.size = v0.heap.size + 1 := (by omega); have hn' : ¬ v0.heap.size = w.heap.size := (by omega); have hm' : ¬ v0.heap.size + 1 = w.heap.size := (by omega))); (try (refine kuse (b := w.heap.size + 1) hk (by first | (simp; done) | (simp; omega) | omega) ?_; intro hq hg; have hy : w.heap.size + 1 < v0.heap.size := (by (try simp at hz); omega); have hn : ¬ w.heap.size + 1 = v0.heap.size := (by omega); have hm : ¬ w.heap.size + 1 = v0.heap.size + 1 := (by omega); have hn' : ¬ v0.heap.size = w.heap.size + 1 := (by omega); have hm' : ¬ v0.heap.size + 1 = w.heap.size + 1 := (by omega))); (try (refine kuse (b := w.heap.size + 2) hk (by first | (simp; done) | (simp; omega) | omega) ?_; intro hq hg; have hy : w.heap.size + 2 < v0.heap.size := (by (try simp at hz); omega); have hn : ¬ w.heap.size + 2 = v0.heap.size := (by omega); have hm : ¬ w.heap.size + 2 = v0.heap.size + 1 := (by omega); have hn' : ¬ v0.heap.size = w.heap.size + 2 := (by omega); have hm' : ¬ v0.heap.size + 1 = w.heap.size + 2 := (by omega))); (try (have hle : w1.heap.size ≤ v0.heap.size := (by (try simp at hz); omega))); (try (have hle : w2.heap.size ≤ v0.heap.size := (by (try simp at hz); omega))); (try (refine kuse (b := w2.heap.size) hk (by first | (simp; done) | (simp; omega) | omega) ?_; intro hq hg; have hy : w2.heap.size < v0.heap.size := (by (try simp at hz); omega))); (try (refine kuse (b := w2.heap.size + 1) hk (by first | (simp; done) | (simp; omega) | omega) ?_; intro hq hg; have hy : w2.heap.size + 1 < v0.heap.size := (by (try simp at hz); omega))); (try (refine withF (p := v0.cell? ⟨w.heap.size, 0, none⟩ = some (.int .i64 la)) (by first | (simp (maxDischargeDepth := 7) [go_sem, *]; done) | fail) ?_; intro ff)); (try (refine withF (p := v0.cell? ⟨w.heap.size, 1, none⟩ = some (.int .i64 lo)) (by first | (simp (maxDischargeDepth := 7) [go_sem, *]; done) | fail) ?_; intro ff)); (try (refine withF (p := v0.cell? ⟨w.heap.size + 1, 0, none⟩ = some (.int .i64 ma)) (by first | (simp (maxDischargeDepth := 7) [go_sem, *]; done) | fail) ?_; intro ff)); (try (refine withF (p := v0.cell? ⟨w.heap.size + 1, 1, none⟩ = some (.int .i64 mo)) (by first | (simp (maxDischargeDepth := 7) [go_sem, *]; done) | fail) ?_; intro ff))) | (go_at_call 42; (with_reducible refine (unit_w _ _ ma0 ma1 mo0 mo1 _).mono ?_); rintro e v1 ⟨rfl, hk⟩; have hz := hk.size; (try (refine kuse (b := w.heap.size) hk (by first | (simp; done) | (simp; omega) | omega) ?_; intro hq hg; have hy : w.heap.size < v1.heap.size := (by (try simp at hz); omega); have hn : ¬ w.heap.size = v1.heap.size := (by omega); have hm : ¬ w.heap.size = v1.heap.size + 1 := (by omega); have hn' : ¬ v1.heap.size = w.heap.size := (by omega); have hm' : ¬ v1.heap.size + 1 = w.heap.size := (by omega))); (try (refine kuse (b := w.heap.size + 1) hk (by first | (simp; done) | (simp; omega) | omega) ?_; intro hq hg; have hy : w.heap.size + 1 < v1.heap.size := (by (try simp at hz); omega); have hn : ¬ w.heap.size + 1 = v1.heap.size := (by omega); have hm : ¬ w.heap.size + 1 = v1.heap.size + 1 := (by omega); have hn' : ¬ v1.heap.size = w.heap.size + 1 := (by omega); have hm' : ¬ v1.heap.size + 1 = w.heap.size + 1 := (by omega))); (try (refine kuse (b := w.heap.size + 2) hk (by first | (simp; done) | (simp; omega) | omega) ?_; intro hq hg; have hy : w.heap.size + 2 < v1.heap.size := (by (try simp at hz); omega); have hn : ¬ w.heap.size + 2 = v1.heap.size := (by omega); have hm : ¬ w.heap.size + 2 = v1.heap.size + 1 := (by omega); have hn' : ¬ v1.heap.size = w.heap.size + 2 := (by omega); have hm' : ¬ v1.heap.size + 1 = w.heap.size + 2 := (by omega))); (try (have hle : w1.heap.size ≤ v1.heap.size := (by (try simp at hz); omega))); (try (have hle : w2.heap.size ≤ v1.heap.size := (by (try simp at hz); omega))); (try (have hle : v0.heap.size ≤ v1.heap.size := (by (try simp at hz); omega))); (try (refine kuse (b := v0.heap.size) hk (by first | (simp; done) | (simp; omega) | omega) ?_; intro hq hg; have hy : v0.heap.size < v1.heap.size := (by (try simp at hz); omega))); (try (refine kuse (b := v0.heap.size + 1) hk (by first | (simp; done) | (simp; omega) | omega) ?_; intro hq hg; have hy : v0.heap.size + 1 < v1.heap.size := (by (try simp at hz); omega))); (try (refine kuse (b := w2.heap.size) hk (by first | (simp; done) | (simp; omega) | omega) ?_; intro hq hg; have hy : w2.heap.size < v1.heap.size := (by (try simp at hz); omega))); (try (refine kuse (b := w2.heap.size + 1) hk (by first | (simp; done) | (simp; omega) | omega) ?_; intro hq hg; have hy : w2.heap.size + 1 < v1.heap.size := (by (try simp at hz); omega))); (try (refine withF (p := v1.cell? ⟨w.heap.size, 0, none⟩ = some (.int .i64 la)) (by first | (simp (maxDischargeDepth := 7) [go_sem, *]; done) | fail) ?_; intro ff)); (try (refine withF (p := v1.cell? ⟨w.heap.size, 1, none⟩ = some (.int .i64 lo)) (by first | (simp (maxDischargeDepth := 7) [go_sem, *]; done) | fail) ?_; intro ff)); (try (refine withF (p := v1.cell? ⟨w.heap.size + 1, 0, none⟩ = some (.int .i64 ma)) (by first | (simp (maxDischargeDepth := 7) [go_sem, *]; done) | fail) ?_; intro ff)); (try (refine withF (p := v1.cell? ⟨w.heap.size + 1, 1, none⟩ = some (.int .i64 mo)) (by first | (simp (maxDischargeDepth := 7) [go_sem, *]; done) | fail) ?_; intro ff))))
    all_goals (try go_wp2_with fail)
    all_goals (go_meet; case rel => refine (fun (hkx : Kept w2 _) => ⟨_, _, rfl, rfl, (by first | with_reducible assumption | omega | (simp; omega)), (by first | with_reducible assumption | omega | (simp; omega)), (by first | with_reducible assumption | omega | (simp; omega)), (by repeat (first | with_reducible exact own_alloc _ [.int .i64 (sinV lo), .int .i64 (cosV lo), .int .i64 (fA la lo), .int .i64 (fB la lo), .int .i64 (cosV la), .int .i64 (uX la lo), .int .i64 (uY la lo), .int .i64 (uZ la lo)] 58 | with_reducible exact own_alloc _ [.int .i64 0, .int .i64 0, .int .i64 0, .int .i64 0, .int .i64 0, .int .i64 0, .int .i64 0, .int .i64 0] 58 | with_reducible refine own_allocE _ [.int .i64 (sinV lo), .int .i64 (cosV lo), .int .i64 (fA la lo), .int .i64 (fB la lo), .int .i64 (cosV la), .int .i64 (uX la lo), .int .i64 (uY la lo), .int .i64 (uZ la lo)] 58 _ (by simp; done) | with_reducible refine own_allocE _ [.int .i64 0, .int .i64 0, .int .i64 0, .int .i64 0, .int .i64 0, .int .i64 0, .int .i64 0, .int .i64 0] 58 _ (by simp; done) | with_reducible refine own_set8 (us := [.int .i64 0, .int .i64 0, .int .i64 0, .int .i64 0, .int .i64 0, .int .i64 0, .int .i64 0, .int .i64 0]) ?_ rfl | with_reducible refine OwnB.other3 ?_ (by first | with_reducible assumption | omega | (simp; done) | (simp; omega)) | with_reducible refine OwnB.other8 ?_ (by first | with_reducible assumption | omega | (simp; done) | (simp; omega)) | with_reducible refine OwnB.alloc ?_ _ | with_reducible refine OwnB.drew ?_ | with_reducible refine OwnB.drewN ?_ _ | with_reducible refine OwnB.kept (by with_reducible assumption) ?_)), (by repeat (first | with_reducible exact own_alloc _ [.int .i64 (uX ma mo), .int .i64 (uY ma mo), .int .i64 (uZ ma mo)] 44 | with_reducible exact own_alloc _ [.int .i64 0, .int .i64 0, .int .i64 0] 44 | with_reducible refine own_allocE _ [.int .i64 (uX ma mo), .int .i64 (uY ma mo), .int .i64 (uZ ma mo)] 44 _ (by simp; done) | with_reducible refine own_allocE _ [.int .i64 0, .int .i64 0, .int .i64 0] 44 _ (by simp; done) | with_reducible refine own_set3 (us := [.int .i64 0, .int .i64 0, .int .i64 0]) ?_ rfl | with_reducible refine OwnB.other3 ?_ (by first | with_reducible assumption | omega | (simp; done) | (simp; omega)) | with_reducible refine OwnB.other8 ?_ (by first | with_reducible assumption | omega | (simp; done) | (simp; omega)) | with_reducible refine OwnB.alloc ?_ _ | with_reducible refine OwnB.drew ?_ | with_reducible refine OwnB.drewN ?_ _ | with_reducible refine OwnB.kept (by with_reducible assumption) ?_)), OwnB.kept hkx HB0_0.out, OwnB.kept hkx HB0_1.out, OwnB.kept hkx HB0_2.out, hkx⟩) ?_; exact (by repeat (first | with_reducible exact Kept.refl _ | with_reducible assumption | with_reducible refine Kept.set12 ?_ (by first | with_reducible assumption | omega | (simp; done) | (simp; omega)) | with_reducible refine Kept.set11 ?_ (by first | with_reducible assumption | omega | (simp; done) | (simp; omega)) | with_reducible refine Kept.set10 ?_ (by first | with_reducible assumption | omega | (simp; done) | (simp; omega)) | with_reducible refine Kept.set9 ?_ (by first | with_reducible assumption | omega | (simp; done) | (simp; omega)) | with_reducible refine Kept.set8 ?_ (by first | with_reducible assumption | omega | (simp; done) | (simp; omega)) | with_reducible refine Kept.set7 ?_ (by first | with_reducible assumption | omega | (simp; done) | (simp; omega)) | with_reducible refine Kept.set6 ?_ (by first | with_reducible assumption | omega | (simp; done) | (simp; omega)) | with_reducible refine Kept.set5 ?_ (by first | with_reducible assumption | omega | (simp; done) | (simp; omega)) | with_reducible refine Kept.set4 ?_ (by first | with_reducible assumption | omega | (simp; done) | (simp; omega)) | with_reducible refine Kept.set3 ?_ (by first | with_reducible assumption | omega | (simp; done) | (simp; omega)) | with_reducible refine Kept.set2 ?_ (by first | with_reducible assumption | omega | (simp; done) | (simp; omega)) | with_reducible refine Kept.setCell ?_ (by first | with_reducible assumption | omega | (simp; done) | (simp; omega)) _ | with_reducible refine Kept.alloc ?_ _ | with_reducible refine Kept.drewN ?_ _ | with_reducible refine Kept.drew ?_ | with_reducible refine Kept.trans ?_ (by with_reducible assumption) | with_reducible refine Kept.dr ?_ (by with_reducible assumption))))
  case rest =>
  obtain ⟨b1_0, b1_1, rfl, rfl, lt1_0, lt1_1, ne1_1_0, O1_0, O1_1, O1_2, O1_3, O1_4, hkc1⟩ := hcut
  obtain ⟨hz_c1_0, hg_c1_0, hf_c1_0_0, hf_c1_0_1, hf_c1_0_2, hf_c1_0_3, hf_c1_0_4, hf_c1_0_5, hf_c1_0_6, hf_c1_0_7, _⟩ := O1_0
  obtain ⟨hz_c1_1, hg_c1_1, hf_c1_1_0, hf_c1_1_1, hf_c1_1_2, _⟩ := O1_1
  obtain ⟨hz_c1_2, hg_c1_2, hf_c1_2_0, hf_c1_2_1, _⟩ := O1_2
  obtain ⟨hz_c1_3, hg_c1_3, hf_c1_3_0, hf_c1_3_1, _⟩ := O1_3
  obtain ⟨hz_c1_4, hg_c1_4, hf_c1_4_0, hf_c1_4_1, hf_c1_4_2, _⟩ := O1_4
  try clear hf2_0_0
  try clear hf2_0_1
  try clear hf2_1_0
  try clear hf2_1_1
  try clear hf2_2_0
  try clear hf2_2_1
  try clear hf2_2_2
  try clear hg2_0
  try clear hg2_1
  try clear hg2_2
  try clear hz2_1
  try clear hz2_2
  go_wp2_with fail
  with_reducible refine (sround_w _ (by omega) (by omega) _).mono ?_
  rintro e w' ⟨rfl, rfl⟩
  go_wp2_with fail
  with_reducible refine (sround_w _ (by omega) (by omega) _).mono ?_
  rintro e w' ⟨rfl, rfl⟩
  go_wp2_with fail
  with_reducible refine (dot_w _ _ _ _ _ _ (by omega) (by omega) (by omega) (by omega) (by omega) (by omega) (by omega) (by omega) (by omega) (by omega) (by omega) (by omega) _).mono ?_
  rintro e w5 ⟨rfl, hk5⟩
  refine kuse (b := b1_0) hk5 (by first | (simp; done) | (simp; omega) | omega) ?_
  intro ha hb
  have hz5_0 : b1_0 < w5.heap.size := by have := hk5.size; (try simp at this); omega
  have hn5_0 : ¬ b1_0 = w5.heap.size := by omega
  have hm5_0 : ¬ w5.heap.size = b1_0 := by omega
  have hf5_0_0 : w5.cell? ⟨b1_0, 0, none⟩ = some (.int .i64 (sinV lo)) := by first | (rw [ha]; with_reducible assumption) | (simp (maxDischargeDepth := 7) [go_sem, ha]; done) | (rw [ha]; assumption) | (simp (maxDischargeDepth := 7) [go_sem, ha, *]; done)
  have hf5_0_1 : w5.cell? ⟨b1_0, 1, none⟩ = some (.int .i64 (cosV lo)) := by first | (rw [ha]; with_reducible assumption) | (simp (maxDischargeDepth := 7) [go_sem, ha]; done) | (rw [ha]; assumption) | (simp (maxDischargeDepth := 7) [go_sem, ha, *]; done)
  have hf5_0_2 : w5.cell? ⟨b1_0, 2, none⟩ = some (.int .i64 (fA la lo)) := by first | (rw [ha]; with_reducible assumption) | (simp (maxDischargeDepth := 7) [go_sem, ha]; done) | (rw [ha]; assumption) | (simp (maxDischargeDepth := 7) [go_sem, ha, *]; done)
  have hf5_0_3 : w5.cell? ⟨b1_0, 3, none⟩ = some (.int .i64 (fB la lo)) := by first | (rw [ha]; with_reducible assumption) | (simp (maxDischargeDepth := 7) [go_sem, ha]; done) | (rw [ha]; assumption) | (simp (maxDischargeDepth := 7) [go_sem, ha, *]; done)
  have hf5_0_4 : w5.cell? ⟨b1_0, 4, none⟩ = some (.int .i64 (cosV la)) := by first | (rw [ha]; with_reducible assumption) | (simp (maxDischargeDepth := 7) [go_sem, ha]; done) | (rw [ha]; assumption) | (simp (maxDischargeDepth := 7) [go_sem, ha, *]; done)
  have hf5_0_5 : w5.cell? ⟨b1_0, 5, none⟩ = some (.int .i64 (uX la lo)) := by first | (rw [ha]; with_reducible assumption) | (simp (maxDischargeDepth := 7) [go_sem, ha]; done) | (rw [ha]; assumption) | (simp (maxDischargeDepth := 7) [go_sem, ha, *]; done)
  have hf5_0_6 : w5.cell? ⟨b1_0, 6, none⟩ = some (.int .i64 (uY la lo)) := by first | (rw [ha]; with_reducible assumption) | (simp (maxDischargeDepth := 7) [go_sem, ha]; done) | (rw [ha]; assumption) | (simp (maxDischargeDepth := 7) [go_sem, ha, *]; done)
  have hf5_0_7 : w5.cell? ⟨b1_0, 7, none⟩ = some (.int .i64 (uZ la lo)) := by first | (rw [ha]; with_reducible assumption) | (simp (maxDischargeDepth := 7) [go_sem, ha]; done) | (rw [ha]; assumption) | (simp (maxDischargeDepth := 7) [go_sem, ha, *]; done)
  try have hg5_0 : ∀ o, w5.frozen? ⟨b1_0, o, none⟩ = false := by intro o; first | (simp (maxDischargeDepth := 7) [go_sem, hb]; done) | (rw [hb]; simp (maxDischargeDepth := 7) [go_sem, *]; done)
  clear ha hb
  refine kuse (b := b1_1) hk5 (by first | (simp; done) | (simp; omega) | omega) ?_
  intro ha hb
  have hz5_1 : b1_1 < w5.heap.size := by have := hk5.size; (try simp at this); omega
  have hn5_1 : ¬ b1_1 = w5.heap.size := by omega
  have hm5_1 : ¬ w5.heap.size = b1_1 := by omega
  have hf5_1_0 : w5.cell? ⟨b1_1, 0, none⟩ = some (.int .i64 (uX ma mo)) := by first | (rw [ha]; with_reducible assumption) | (simp (maxDischargeDepth := 7) [go_sem, ha]; done) | (rw [ha]; assumption) | (simp (maxDischargeDepth := 7) [go_sem, ha, *]; done)
  have hf5_1_1 : w5.cell? ⟨b1_1, 1, none⟩ = some (.int .i64 (uY ma mo)) := by first | (rw [ha]; with_reducible assumption) | (simp (maxDischargeDepth := 7) [go_sem, ha]; done) | (rw [ha]; assumption) | (simp (maxDischargeDepth := 7) [go_sem, ha, *]; done)
  have hf5_1_2 : w5.cell? ⟨b1_1, 2, none⟩ = some (.int .i64 (uZ ma mo)) := by first | (rw [ha]; with_reducible assumption) | (simp (maxDischargeDepth := 7) [go_sem, ha]; done) | (rw [ha]; assumption) | (simp (maxDischargeDepth := 7) [go_sem, ha, *]; done)
  try have hg5_1 : ∀ o, w5.frozen? ⟨b1_1, o, none⟩ = false := by intro o; first | (simp (maxDischargeDepth := 7) [go_sem, hb]; done) | (rw [hb]; simp (maxDischargeDepth := 7) [go_sem, *]; done)
  clear ha hb
  refine kuse (b := w.heap.size) hk5 (by first | (simp; done) | (simp; omega) | omega) ?_
  intro ha hb
  have hz5_2 : w.heap.size < w5.heap.size := by have := hk5.size; (try simp at this); omega
  have hn5_2 : ¬ w.heap.size = w5.heap.size := by omega
  have hm5_2 : ¬ w5.heap.size = w.heap.size := by omega
  have hf5_2_0 : w5.cell? ⟨w.heap.size, 0, none⟩ = some (.int .i64 la) := by first | (rw [ha]; with_reducible assumption) | (simp (maxDischargeDepth := 7) [go_sem, ha]; done) | (rw [ha]; assumption) | (simp (maxDischargeDepth := 7) [go_sem, ha, *]; done)
  have hf5_2_1 : w5.cell? ⟨w.heap.size, 1, none⟩ = some (.int .i64 lo) := by first | (rw [ha]; with_reducible assumption) | (simp (maxDischargeDepth := 7) [go_sem, ha]; done) | (rw [ha]; assumption) | (simp (maxDischargeDepth := 7) [go_sem, ha, *]; done)
  try have hg5_2 : ∀ o, w5.frozen? ⟨w.heap.size, o, none⟩ = false := by intro o; first | (simp (maxDischargeDepth := 7) [go_sem, hb]; done) | (rw [hb]; simp (maxDischargeDepth := 7) [go_sem, *]; done)
  clear ha hb
  refine kuse (b := w.heap.size + 1) hk5 (by first | (simp; done) | (simp; omega) | omega) ?_
  intro ha hb
  have hz5_3 : w.heap.size + 1 < w5.heap.size := by have := hk5.size; (try simp at this); omega
  have hn5_3 : ¬ w.heap.size + 1 = w5.heap.size := by omega
  have hm5_3 : ¬ w5.heap.size = w.heap.size + 1 := by omega
  have hf5_3_0 : w5.cell? ⟨w.heap.size + 1, 0, none⟩ = some (.int .i64 ma) := by first | (rw [ha]; with_reducible assumption) | (simp (maxDischargeDepth := 7) [go_sem, ha]; done) | (rw [ha]; assumption) | (simp (maxDischargeDepth := 7) [go_sem, ha, *]; done)
  have hf5_3_1 : w5.cell? ⟨w.heap.size + 1, 1, none⟩ = some (.int .i64 mo) := by first | (rw [ha]; with_reducible assumption) | (simp (maxDischargeDepth := 7) [go_sem, ha]; done) | (rw [ha]; assumption) | (simp (maxDischargeDepth := 7) [go_sem, ha, *]; done)
  try have hg5_3 : ∀ o, w5.frozen? ⟨w.heap.size + 1, o, none⟩ = false := by intro o; first | (simp (maxDischargeDepth := 7) [go_sem, hb]; done) | (rw [hb]; simp (maxDischargeDepth := 7) [go_sem, *]; done)
  clear ha hb
  refine kuse (b := w.heap.size + 2) hk5 (by first | (simp; done) | (simp; omega) | omega) ?_
  intro ha hb
  have hz5_4 : w.heap.size + 2 < w5.heap.size := by have := hk5.size; (try simp at this); omega
  have hn5_4 : ¬ w.heap.size + 2 = w5.heap.size := by omega
  have hm5_4 : ¬ w5.heap.size = w.heap.size + 2 := by omega
  have hf5_4_0 : w5.cell? ⟨w.heap.size + 2, 0, none⟩ = some (.int .i64 0) := by first | (rw [ha]; with_reducible assumption) | (simp (maxDischargeDepth := 7) [go_sem, ha]; done) | (rw [ha]; assumption) | (simp (maxDischargeDepth := 7) [go_sem, ha, *]; done)
  have hf5_4_1 : w5.cell? ⟨w.heap.size + 2, 1, none⟩ = some (.int .i64 0) := by first | (rw [ha]; with_reducible assumption) | (simp (maxDischargeDepth := 7) [go_sem, ha]; done) | (rw [ha]; assumption) | (simp (maxDischargeDepth := 7) [go_sem, ha, *]; done)
  have hf5_4_2 : w5.cell? ⟨w.heap.size + 2, 2, none⟩ = some (.int .i64 0) := by first | (rw [ha]; with_reducible assumption) | (simp (maxDischargeDepth := 7) [go_sem, ha]; done) | (rw [ha]; assumption) | (simp (maxDischargeDepth := 7) [go_sem, ha, *]; done)
  try have hg5_4 : ∀ o, w5.frozen? ⟨w.heap.size + 2, o, none⟩ = false := by intro o; first | (simp (maxDischargeDepth := 7) [go_sem, hb]; done) | (rw [hb]; simp (maxDischargeDepth := 7) [go_sem, *]; done)
  clear ha hb
  try clear hf_c1_0_0
  try clear hf_c1_0_1
  try clear hf_c1_0_2
  try clear hf_c1_0_3
  try clear hf_c1_0_4
  try clear hf_c1_0_5
  try clear hf_c1_0_6
  try clear hf_c1_0_7
  try clear hf_c1_1_0
  try clear hf_c1_1_1
  try clear hf_c1_1_2
  try clear hf_c1_2_0
  try clear hf_c1_2_1
  try clear hf_c1_3_0
  try clear hf_c1_3_1
  try clear hf_c1_4_0
  try clear hf_c1_4_1
  try clear hf_c1_4_2
  try clear hg_c1_0
  try clear hg_c1_1
  try clear hg_c1_2
  try clear hg_c1_3
  try clear hg_c1_4
  go_wp2_with fail
  with_reducible refine (sround_w _ (by omega) (by omega) _).mono ?_
  rintro e w' ⟨rfl, rfl⟩
  go_wp2_with fail
  all_goals exact bodyPost_ret (v := .tuple #[.agg #[.int .i64 (r30 (cosV lo * uY ma mo - sinV lo * uX ma mo)), .int .i64 (r30 (cosV la * uZ ma mo - fA la lo * uX ma mo - fB la lo * uY ma mo)), .int .i64 (r30 (dot3 (uX la lo) (uY la lo) (uZ la lo) (uX ma mo) (uY ma mo) (uZ ma mo)))], .int .i64 0]) (by first | (simp [results, Try.results25, go_sem]; done) | (simp (maxDischargeDepth := 7) [results, Try.results25, go_sem, *]; done)) rfl ⟨rfl, (by repeat (first | with_reducible exact Kept.refl _ | with_reducible assumption | with_reducible refine Kept.setCell ?_ (by first | (simp; done) | (simp; omega) | omega) _ | with_reducible refine Kept.alloc ?_ _ | with_reducible refine Kept.drewN ?_ _ | with_reducible refine Kept.drew ?_ | with_reducible refine Kept.trans ?_ (by with_reducible assumption) | with_reducible refine Kept.dr ?_ (by with_reducible assumption)))⟩
set_option maxHeartbeats 2000000 in
set_option maxRecDepth 100000 in
theorem local_badp (la lo ma mo : Int) (h : la < -32400000 ∨ 32400000 < la ∨ lo ≤ -64800000 ∨ 64800000 < lo) (w : World) : Calls Try.prog 25 #[.agg #[.int .i64 la, .int .i64 lo], .agg #[.int .i64 ma, .int .i64 mo]] w fun e w' => e = .returned (.tuple #[.agg #[.int .i64 0, .int .i64 0, .int .i64 0], .int .i64 1]) ∧ Kept w w' := by
  go_enter Try.func25, Try.ntmps25
  go_wp2_with fail
  with_reducible refine (valid_bad la lo h _).mono ?_
  rintro e w1 ⟨rfl, hk1⟩
  refine kuse (b := w.heap.size) hk1 (by first | (simp; done) | (simp; omega) | omega) ?_
  intro ha hb
  have hz1_0 : w.heap.size < w1.heap.size := by have := hk1.size; (try simp at this); omega
  have hn1_0 : ¬ w.heap.size = w1.heap.size := by omega
  have hm1_0 : ¬ w1.heap.size = w.heap.size := by omega
  have hf1_0_0 : w1.cell? ⟨w.heap.size, 0, none⟩ = some (.int .i64 la) := by first | (rw [ha]; with_reducible assumption) | (simp (maxDischargeDepth := 7) [go_sem, ha]; done) | (rw [ha]; assumption) | (simp (maxDischargeDepth := 7) [go_sem, ha, *]; done)
  have hf1_0_1 : w1.cell? ⟨w.heap.size, 1, none⟩ = some (.int .i64 lo) := by first | (rw [ha]; with_reducible assumption) | (simp (maxDischargeDepth := 7) [go_sem, ha]; done) | (rw [ha]; assumption) | (simp (maxDischargeDepth := 7) [go_sem, ha, *]; done)
  try have hg1_0 : ∀ o, w1.frozen? ⟨w.heap.size, o, none⟩ = false := by intro o; first | (simp (maxDischargeDepth := 7) [go_sem, hb]; done) | (rw [hb]; simp (maxDischargeDepth := 7) [go_sem, *]; done)
  clear ha hb
  refine kuse (b := w.heap.size + 1) hk1 (by first | (simp; done) | (simp; omega) | omega) ?_
  intro ha hb
  have hz1_1 : w.heap.size + 1 < w1.heap.size := by have := hk1.size; (try simp at this); omega
  have hn1_1 : ¬ w.heap.size + 1 = w1.heap.size := by omega
  have hm1_1 : ¬ w1.heap.size = w.heap.size + 1 := by omega
  have hf1_1_0 : w1.cell? ⟨w.heap.size + 1, 0, none⟩ = some (.int .i64 ma) := by first | (rw [ha]; with_reducible assumption) | (simp (maxDischargeDepth := 7) [go_sem, ha]; done) | (rw [ha]; assumption) | (simp (maxDischargeDepth := 7) [go_sem, ha, *]; done)
  have hf1_1_1 : w1.cell? ⟨w.heap.size + 1, 1, none⟩ = some (.int .i64 mo) := by first | (rw [ha]; with_reducible assumption) | (simp (maxDischargeDepth := 7) [go_sem, ha]; done) | (rw [ha]; assumption) | (simp (maxDischargeDepth := 7) [go_sem, ha, *]; done)
  try have hg1_1 : ∀ o, w1.frozen? ⟨w.heap.size + 1, o, none⟩ = false := by intro o; first | (simp (maxDischargeDepth := 7) [go_sem, hb]; done) | (rw [hb]; simp (maxDischargeDepth := 7) [go_sem, *]; done)
  clear ha hb
  refine kuse (b := w.heap.size + 2) hk1 (by first | (simp; done) | (simp; omega) | omega) ?_
  intro ha hb
  have hz1_2 : w.heap.size + 2 < w1.heap.size := by have := hk1.size; (try simp at this); omega
  have hn1_2 : ¬ w.heap.size + 2 = w1.heap.size := by omega
  have hm1_2 : ¬ w1.heap.size = w.heap.size + 2 := by omega
  have hf1_2_0 : w1.cell? ⟨w.heap.size + 2, 0, none⟩ = some (.int .i64 0) := by first | (rw [ha]; with_reducible assumption) | (simp (maxDischargeDepth := 7) [go_sem, ha]; done) | (rw [ha]; assumption) | (simp (maxDischargeDepth := 7) [go_sem, ha, *]; done)
  have hf1_2_1 : w1.cell? ⟨w.heap.size + 2, 1, none⟩ = some (.int .i64 0) := by first | (rw [ha]; with_reducible assumption) | (simp (maxDischargeDepth := 7) [go_sem, ha]; done) | (rw [ha]; assumption) | (simp (maxDischargeDepth := 7) [go_sem, ha, *]; done)
  have hf1_2_2 : w1.cell? ⟨w.heap.size + 2, 2, none⟩ = some (.int .i64 0) := by first | (rw [ha]; with_reducible assumption) | (simp (maxDischargeDepth := 7) [go_sem, ha]; done) | (rw [ha]; assumption) | (simp (maxDischargeDepth := 7) [go_sem, ha, *]; done)
  try have hg1_2 : ∀ o, w1.frozen? ⟨w.heap.size + 2, o, none⟩ = false := by intro o; first | (simp (maxDischargeDepth := 7) [go_sem, hb]; done) | (rw [hb]; simp (maxDischargeDepth := 7) [go_sem, *]; done)
  clear ha hb
  go_wp2_with fail
  all_goals exact bodyPost_ret (v := .tuple #[.agg #[.int .i64 0, .int .i64 0, .int .i64 0], .int .i64 1]) (by first | (simp [results, Try.results25, go_sem]; done) | (simp (maxDischargeDepth := 7) [results, Try.results25, go_sem, *]; done)) rfl ⟨rfl, (by repeat (first | with_reducible exact Kept.refl _ | with_reducible assumption | with_reducible refine Kept.setCell ?_ (by first | (simp; done) | (simp; omega) | omega) _ | with_reducible refine Kept.alloc ?_ _ | with_reducible refine Kept.drewN ?_ _ | with_reducible refine Kept.drew ?_ | with_reducible refine Kept.trans ?_ (by with_reducible assumption) | with_reducible refine Kept.dr ?_ (by with_reducible assumption)))⟩
set_option maxHeartbeats 2000000 in
set_option maxRecDepth 100000 in
theorem local_badq (la lo : Int) (la0 : -32400000 ≤ la) (la1 : la ≤ 32400000) (lo0 : -64800000 < lo) (lo1 : lo ≤ 64800000) (ma mo : Int) (h : ma < -32400000 ∨ 32400000 < ma ∨ mo ≤ -64800000 ∨ 64800000 < mo) (w : World) : Calls Try.prog 25 #[.agg #[.int .i64 la, .int .i64 lo], .agg #[.int .i64 ma, .int .i64 mo]] w fun e w' => e = .returned (.tuple #[.agg #[.int .i64 0, .int .i64 0, .int .i64 0], .int .i64 1]) ∧ Kept w w' := by
  go_enter Try.func25, Try.ntmps25
  go_wp2_with fail
  with_reducible refine (valid_ok la lo la0 la1 lo0 lo1 _).mono ?_
  rintro e w1 ⟨rfl, hk1⟩
  refine kuse (b := w.heap.size) hk1 (by first | (simp; done) | (simp; omega) | omega) ?_
  intro ha hb
  have hz1_0 : w.heap.size < w1.heap.size := by have := hk1.size; (try simp at this); omega
  have hn1_0 : ¬ w.heap.size = w1.heap.size := by omega
  have hm1_0 : ¬ w1.heap.size = w.heap.size := by omega
  have hf1_0_0 : w1.cell? ⟨w.heap.size, 0, none⟩ = some (.int .i64 la) := by first | (rw [ha]; with_reducible assumption) | (simp (maxDischargeDepth := 7) [go_sem, ha]; done) | (rw [ha]; assumption) | (simp (maxDischargeDepth := 7) [go_sem, ha, *]; done)
  have hf1_0_1 : w1.cell? ⟨w.heap.size, 1, none⟩ = some (.int .i64 lo) := by first | (rw [ha]; with_reducible assumption) | (simp (maxDischargeDepth := 7) [go_sem, ha]; done) | (rw [ha]; assumption) | (simp (maxDischargeDepth := 7) [go_sem, ha, *]; done)
  try have hg1_0 : ∀ o, w1.frozen? ⟨w.heap.size, o, none⟩ = false := by intro o; first | (simp (maxDischargeDepth := 7) [go_sem, hb]; done) | (rw [hb]; simp (maxDischargeDepth := 7) [go_sem, *]; done)
  clear ha hb
  refine kuse (b := w.heap.size + 1) hk1 (by first | (simp; done) | (simp; omega) | omega) ?_
  intro ha hb
  have hz1_1 : w.heap.size + 1 < w1.heap.size := by have := hk1.size; (try simp at this); omega
  have hn1_1 : ¬ w.heap.size + 1 = w1.heap.size := by omega
  have hm1_1 : ¬ w1.heap.size = w.heap.size + 1 := by omega
  have hf1_1_0 : w1.cell? ⟨w.heap.size + 1, 0, none⟩ = some (.int .i64 ma) := by first | (rw [ha]; with_reducible assumption) | (simp (maxDischargeDepth := 7) [go_sem, ha]; done) | (rw [ha]; assumption) | (simp (maxDischargeDepth := 7) [go_sem, ha, *]; done)
  have hf1_1_1 : w1.cell? ⟨w.heap.size + 1, 1, none⟩ = some (.int .i64 mo) := by first | (rw [ha]; with_reducible assumption) | (simp (maxDischargeDepth := 7) [go_sem, ha]; done) | (rw [ha]; assumption) | (simp (maxDischargeDepth := 7) [go_sem, ha, *]; done)
  try have hg1_1 : ∀ o, w1.frozen? ⟨w.heap.size + 1, o, none⟩ = false := by intro o; first | (simp (maxDischargeDepth := 7) [go_sem, hb]; done) | (rw [hb]; simp (maxDischargeDepth := 7) [go_sem, *]; done)
  clear ha hb
  refine kuse (b := w.heap.size + 2) hk1 (by first | (simp; done) | (simp; omega) | omega) ?_
  intro ha hb
  have hz1_2 : w.heap.size + 2 < w1.heap.size := by have := hk1.size; (try simp at this); omega
  have hn1_2 : ¬ w.heap.size + 2 = w1.heap.size := by omega
  have hm1_2 : ¬ w1.heap.size = w.heap.size + 2 := by omega
  have hf1_2_0 : w1.cell? ⟨w.heap.size + 2, 0, none⟩ = some (.int .i64 0) := by first | (rw [ha]; with_reducible assumption) | (simp (maxDischargeDepth := 7) [go_sem, ha]; done) | (rw [ha]; assumption) | (simp (maxDischargeDepth := 7) [go_sem, ha, *]; done)
  have hf1_2_1 : w1.cell? ⟨w.heap.size + 2, 1, none⟩ = some (.int .i64 0) := by first | (rw [ha]; with_reducible assumption) | (simp (maxDischargeDepth := 7) [go_sem, ha]; done) | (rw [ha]; assumption) | (simp (maxDischargeDepth := 7) [go_sem, ha, *]; done)
  have hf1_2_2 : w1.cell? ⟨w.heap.size + 2, 2, none⟩ = some (.int .i64 0) := by first | (rw [ha]; with_reducible assumption) | (simp (maxDischargeDepth := 7) [go_sem, ha]; done) | (rw [ha]; assumption) | (simp (maxDischargeDepth := 7) [go_sem, ha, *]; done)
  try have hg1_2 : ∀ o, w1.frozen? ⟨w.heap.size + 2, o, none⟩ = false := by intro o; first | (simp (maxDischargeDepth := 7) [go_sem, hb]; done) | (rw [hb]; simp (maxDischargeDepth := 7) [go_sem, *]; done)
  clear ha hb
  go_wp2_with fail
  with_reducible refine (valid_bad ma mo h _).mono ?_
  rintro e w2 ⟨rfl, hk2⟩
  refine kuse (b := w.heap.size) hk2 (by first | (simp; done) | (simp; omega) | omega) ?_
  intro ha hb
  have hz2_0 : w.heap.size < w2.heap.size := by have := hk2.size; (try simp at this); omega
  have hn2_0 : ¬ w.heap.size = w2.heap.size := by omega
  have hm2_0 : ¬ w2.heap.size = w.heap.size := by omega
  have hf2_0_0 : w2.cell? ⟨w.heap.size, 0, none⟩ = some (.int .i64 la) := by first | (rw [ha]; with_reducible assumption) | (simp (maxDischargeDepth := 7) [go_sem, ha]; done) | (rw [ha]; assumption) | (simp (maxDischargeDepth := 7) [go_sem, ha, *]; done)
  have hf2_0_1 : w2.cell? ⟨w.heap.size, 1, none⟩ = some (.int .i64 lo) := by first | (rw [ha]; with_reducible assumption) | (simp (maxDischargeDepth := 7) [go_sem, ha]; done) | (rw [ha]; assumption) | (simp (maxDischargeDepth := 7) [go_sem, ha, *]; done)
  try have hg2_0 : ∀ o, w2.frozen? ⟨w.heap.size, o, none⟩ = false := by intro o; first | (simp (maxDischargeDepth := 7) [go_sem, hb]; done) | (rw [hb]; simp (maxDischargeDepth := 7) [go_sem, *]; done)
  clear ha hb
  refine kuse (b := w.heap.size + 1) hk2 (by first | (simp; done) | (simp; omega) | omega) ?_
  intro ha hb
  have hz2_1 : w.heap.size + 1 < w2.heap.size := by have := hk2.size; (try simp at this); omega
  have hn2_1 : ¬ w.heap.size + 1 = w2.heap.size := by omega
  have hm2_1 : ¬ w2.heap.size = w.heap.size + 1 := by omega
  have hf2_1_0 : w2.cell? ⟨w.heap.size + 1, 0, none⟩ = some (.int .i64 ma) := by first | (rw [ha]; with_reducible assumption) | (simp (maxDischargeDepth := 7) [go_sem, ha]; done) | (rw [ha]; assumption) | (simp (maxDischargeDepth := 7) [go_sem, ha, *]; done)
  have hf2_1_1 : w2.cell? ⟨w.heap.size + 1, 1, none⟩ = some (.int .i64 mo) := by first | (rw [ha]; with_reducible assumption) | (simp (maxDischargeDepth := 7) [go_sem, ha]; done) | (rw [ha]; assumption) | (simp (maxDischargeDepth := 7) [go_sem, ha, *]; done)
  try have hg2_1 : ∀ o, w2.frozen? ⟨w.heap.size + 1, o, none⟩ = false := by intro o; first | (simp (maxDischargeDepth := 7) [go_sem, hb]; done) | (rw [hb]; simp (maxDischargeDepth := 7) [go_sem, *]; done)
  clear ha hb
  refine kuse (b := w.heap.size + 2) hk2 (by first | (simp; done) | (simp; omega) | omega) ?_
  intro ha hb
  have hz2_2 : w.heap.size + 2 < w2.heap.size := by have := hk2.size; (try simp at this); omega
  have hn2_2 : ¬ w.heap.size + 2 = w2.heap.size := by omega
  have hm2_2 : ¬ w2.heap.size = w.heap.size + 2 := by omega
  have hf2_2_0 : w2.cell? ⟨w.heap.size + 2, 0, none⟩ = some (.int .i64 0) := by first | (rw [ha]; with_reducible assumption) | (simp (maxDischargeDepth := 7) [go_sem, ha]; done) | (rw [ha]; assumption) | (simp (maxDischargeDepth := 7) [go_sem, ha, *]; done)
  have hf2_2_1 : w2.cell? ⟨w.heap.size + 2, 1, none⟩ = some (.int .i64 0) := by first | (rw [ha]; with_reducible assumption) | (simp (maxDischargeDepth := 7) [go_sem, ha]; done) | (rw [ha]; assumption) | (simp (maxDischargeDepth := 7) [go_sem, ha, *]; done)
  have hf2_2_2 : w2.cell? ⟨w.heap.size + 2, 2, none⟩ = some (.int .i64 0) := by first | (rw [ha]; with_reducible assumption) | (simp (maxDischargeDepth := 7) [go_sem, ha]; done) | (rw [ha]; assumption) | (simp (maxDischargeDepth := 7) [go_sem, ha, *]; done)
  try have hg2_2 : ∀ o, w2.frozen? ⟨w.heap.size + 2, o, none⟩ = false := by intro o; first | (simp (maxDischargeDepth := 7) [go_sem, hb]; done) | (rw [hb]; simp (maxDischargeDepth := 7) [go_sem, *]; done)
  clear ha hb
  try clear hf1_0_0
  try clear hf1_0_1
  try clear hf1_1_0
  try clear hf1_1_1
  try clear hf1_2_0
  try clear hf1_2_1
  try clear hf1_2_2
  try clear hg1_0
  try clear hg1_1
  try clear hg1_2
  try clear hz1_1
  try clear hz1_2
  go_wp2_with fail
  all_goals exact bodyPost_ret (v := .tuple #[.agg #[.int .i64 0, .int .i64 0, .int .i64 0], .int .i64 1]) (by first | (simp [results, Try.results25, go_sem]; done) | (simp (maxDischargeDepth := 7) [results, Try.results25, go_sem, *]; done)) rfl ⟨rfl, (by repeat (first | with_reducible exact Kept.refl _ | with_reducible assumption | with_reducible refine Kept.setCell ?_ (by first | (simp; done) | (simp; omega) | omega) _ | with_reducible refine Kept.alloc ?_ _ | with_reducible refine Kept.drewN ?_ _ | with_reducible refine Kept.drew ?_ | with_reducible refine Kept.trans ?_ (by with_reducible assumption) | with_reducible refine Kept.dr ?_ (by with_reducible assumption)))⟩
set_option maxHeartbeats 2000000 in
set_option maxRecDepth 100000 in
theorem ref_local_ok (la lo : Int) (la0 : -32400000 ≤ la) (la1 : la ≤ 32400000) (lo0 : -64800000 < lo) (lo1 : lo ≤ 64800000) (ma mo : Int) (ma0 : -32400000 ≤ ma) (ma1 : ma ≤ 32400000) (mo0 : -64800000 < mo) (mo1 : mo ≤ 64800000) (w : World) : Calls Try.prog 29 #[.agg #[.int .i64 la, .int .i64 lo], .agg #[.int .i64 ma, .int .i64 mo]] w fun e w' => e = .returned (.tuple #[.agg #[.int .i64 (lcE la lo (uX ma mo) (uY ma mo) (uZ ma mo)), .int .i64 (lcN la lo (uX ma mo) (uY ma mo) (uZ ma mo)), .int .i64 (lcU la lo (uX ma mo) (uY ma mo) (uZ ma mo))], .int .i64 0]) ∧ Kept w w' := by
  have bd0 := sinV_bd lo
  obtain ⟨bd00, bd01⟩ := bd0
  have bd1 := cosV_bd lo
  obtain ⟨bd10, bd11⟩ := bd1
  have bd2 := cosV_bd la
  obtain ⟨bd20, bd21⟩ := bd2
  have bd3 := fA_bd la lo
  obtain ⟨bd30, bd31⟩ := bd3
  have bd4 := fB_bd la lo
  obtain ⟨bd40, bd41⟩ := bd4
  have bd5 := uX_bd la lo
  obtain ⟨bd50, bd51⟩ := bd5
  have bd6 := uY_bd la lo
  obtain ⟨bd60, bd61⟩ := bd6
  have bd7 := uZ_bd la lo
  obtain ⟨bd70, bd71⟩ := bd7
  have bd8 := uX_bd ma mo
  obtain ⟨bd80, bd81⟩ := bd8
  have bd9 := uY_bd ma mo
  obtain ⟨bd90, bd91⟩ := bd9
  have bd10 := uZ_bd ma mo
  obtain ⟨bd100, bd101⟩ := bd10
  obtain ⟨m00, m01⟩ := mul_sb (cosV lo) (uY ma mo) (by omega) (by omega) (by omega) (by omega)
  obtain ⟨m10, m11⟩ := mul_sb (sinV lo) (uX ma mo) (by omega) (by omega) (by omega) (by omega)
  obtain ⟨m20, m21⟩ := mul_sb (cosV la) (uZ ma mo) (by omega) (by omega) (by omega) (by omega)
  obtain ⟨m30, m31⟩ := mul_sb (fA la lo) (uX ma mo) (by omega) (by omega) (by omega) (by omega)
  obtain ⟨m40, m41⟩ := mul_sb (fB la lo) (uY ma mo) (by omega) (by omega) (by omega) (by omega)
  obtain ⟨m50, m51⟩ := mul_sb (uX la lo) (uX ma mo) (by omega) (by omega) (by omega) (by omega)
  obtain ⟨m60, m61⟩ := mul_sb (uY la lo) (uY ma mo) (by omega) (by omega) (by omega) (by omega)
  obtain ⟨m70, m71⟩ := mul_sb (uZ la lo) (uZ ma mo) (by omega) (by omega) (by omega) (by omega)
  have db : -3458764513820540928 ≤ dot3 (uX la lo) (uY la lo) (uZ la lo) (uX ma mo) (uY ma mo) (uZ ma mo) ∧ dot3 (uX la lo) (uY la lo) (uZ la lo) (uX ma mo) (uY ma mo) (uZ ma mo) ≤ 3458764513820540928 := by unfold dot3; omega
  obtain ⟨db0, db1⟩ := db
  have wr0 : IntKind.i64.wrap (cosV lo * uY ma mo) = cosV lo * uY ma mo := IntWalk.i64_in _ (by omega)
  have wr1 : IntKind.i64.wrap (sinV lo * uX ma mo) = sinV lo * uX ma mo := IntWalk.i64_in _ (by omega)
  have wr2 : IntKind.i64.wrap (cosV la * uZ ma mo) = cosV la * uZ ma mo := IntWalk.i64_in _ (by omega)
  have wr3 : IntKind.i64.wrap (fA la lo * uX ma mo) = fA la lo * uX ma mo := IntWalk.i64_in _ (by omega)
  have wr4 : IntKind.i64.wrap (fB la lo * uY ma mo) = fB la lo * uY ma mo := IntWalk.i64_in _ (by omega)
  have wr5 : IntKind.i64.wrap (cosV lo * uY ma mo - sinV lo * uX ma mo) = cosV lo * uY ma mo - sinV lo * uX ma mo := IntWalk.i64_in _ (by omega)
  have wr6 : IntKind.i64.wrap (cosV la * uZ ma mo - fA la lo * uX ma mo) = cosV la * uZ ma mo - fA la lo * uX ma mo := IntWalk.i64_in _ (by omega)
  have wr7 : IntKind.i64.wrap (cosV la * uZ ma mo - fA la lo * uX ma mo - fB la lo * uY ma mo) = cosV la * uZ ma mo - fA la lo * uX ma mo - fB la lo * uY ma mo := IntWalk.i64_in _ (by omega)
  go_enter Try.func29, Try.ntmps29
  go_wp2_with fail
  with_reducible refine (ref_of_ok la lo la0 la1 lo0 lo1 _).mono ?_
  rintro e w1 ⟨rfl, hk1⟩
  refine kuse (b := w.heap.size) hk1 (by first | (simp; done) | (simp; omega) | omega) ?_
  intro ha hb
  have hz1_0 : w.heap.size < w1.heap.size := by have := hk1.size; (try simp at this); omega
  have hn1_0 : ¬ w.heap.size = w1.heap.size := by omega
  have hm1_0 : ¬ w1.heap.size = w.heap.size := by omega
  have hf1_0_0 : w1.cell? ⟨w.heap.size, 0, none⟩ = some (.int .i64 la) := by first | (rw [ha]; with_reducible assumption) | (simp (maxDischargeDepth := 7) [go_sem, ha]; done) | (rw [ha]; assumption) | (simp (maxDischargeDepth := 7) [go_sem, ha, *]; done)
  have hf1_0_1 : w1.cell? ⟨w.heap.size, 1, none⟩ = some (.int .i64 lo) := by first | (rw [ha]; with_reducible assumption) | (simp (maxDischargeDepth := 7) [go_sem, ha]; done) | (rw [ha]; assumption) | (simp (maxDischargeDepth := 7) [go_sem, ha, *]; done)
  try have hg1_0 : ∀ o, w1.frozen? ⟨w.heap.size, o, none⟩ = false := by intro o; first | (simp (maxDischargeDepth := 7) [go_sem, hb]; done) | (rw [hb]; simp (maxDischargeDepth := 7) [go_sem, *]; done)
  clear ha hb
  refine kuse (b := w.heap.size + 1) hk1 (by first | (simp; done) | (simp; omega) | omega) ?_
  intro ha hb
  have hz1_1 : w.heap.size + 1 < w1.heap.size := by have := hk1.size; (try simp at this); omega
  have hn1_1 : ¬ w.heap.size + 1 = w1.heap.size := by omega
  have hm1_1 : ¬ w1.heap.size = w.heap.size + 1 := by omega
  have hf1_1_0 : w1.cell? ⟨w.heap.size + 1, 0, none⟩ = some (.int .i64 ma) := by first | (rw [ha]; with_reducible assumption) | (simp (maxDischargeDepth := 7) [go_sem, ha]; done) | (rw [ha]; assumption) | (simp (maxDischargeDepth := 7) [go_sem, ha, *]; done)
  have hf1_1_1 : w1.cell? ⟨w.heap.size + 1, 1, none⟩ = some (.int .i64 mo) := by first | (rw [ha]; with_reducible assumption) | (simp (maxDischargeDepth := 7) [go_sem, ha]; done) | (rw [ha]; assumption) | (simp (maxDischargeDepth := 7) [go_sem, ha, *]; done)
  try have hg1_1 : ∀ o, w1.frozen? ⟨w.heap.size + 1, o, none⟩ = false := by intro o; first | (simp (maxDischargeDepth := 7) [go_sem, hb]; done) | (rw [hb]; simp (maxDischargeDepth := 7) [go_sem, *]; done)
  clear ha hb
  refine kuse (b := w.heap.size + 2) hk1 (by first | (simp; done) | (simp; omega) | omega) ?_
  intro ha hb
  have hz1_2 : w.heap.size + 2 < w1.heap.size := by have := hk1.size; (try simp at this); omega
  have hn1_2 : ¬ w.heap.size + 2 = w1.heap.size := by omega
  have hm1_2 : ¬ w1.heap.size = w.heap.size + 2 := by omega
  have hf1_2_0 : w1.cell? ⟨w.heap.size + 2, 0, none⟩ = some (.int .i64 0) := by first | (rw [ha]; with_reducible assumption) | (simp (maxDischargeDepth := 7) [go_sem, ha]; done) | (rw [ha]; assumption) | (simp (maxDischargeDepth := 7) [go_sem, ha, *]; done)
  have hf1_2_1 : w1.cell? ⟨w.heap.size + 2, 1, none⟩ = some (.int .i64 0) := by first | (rw [ha]; with_reducible assumption) | (simp (maxDischargeDepth := 7) [go_sem, ha]; done) | (rw [ha]; assumption) | (simp (maxDischargeDepth := 7) [go_sem, ha, *]; done)
  have hf1_2_2 : w1.cell? ⟨w.heap.size + 2, 2, none⟩ = some (.int .i64 0) := by first | (rw [ha]; with_reducible assumption) | (simp (maxDischargeDepth := 7) [go_sem, ha]; done) | (rw [ha]; assumption) | (simp (maxDischargeDepth := 7) [go_sem, ha, *]; done)
  try have hg1_2 : ∀ o, w1.frozen? ⟨w.heap.size + 2, o, none⟩ = false := by intro o; first | (simp (maxDischargeDepth := 7) [go_sem, hb]; done) | (rw [hb]; simp (maxDischargeDepth := 7) [go_sem, *]; done)
  clear ha hb
  go_wp2_with fail
  with_reducible refine (ref_of_ok ma mo ma0 ma1 mo0 mo1 _).mono ?_
  rintro e w2 ⟨rfl, hk2⟩
  refine kuse (b := w.heap.size) hk2 (by first | (simp; done) | (simp; omega) | omega) ?_
  intro ha hb
  have hz2_0 : w.heap.size < w2.heap.size := by have := hk2.size; (try simp at this); omega
  have hn2_0 : ¬ w.heap.size = w2.heap.size := by omega
  have hm2_0 : ¬ w2.heap.size = w.heap.size := by omega
  have hf2_0_0 : w2.cell? ⟨w.heap.size, 0, none⟩ = some (.int .i64 la) := by first | (rw [ha]; with_reducible assumption) | (simp (maxDischargeDepth := 7) [go_sem, ha]; done) | (rw [ha]; assumption) | (simp (maxDischargeDepth := 7) [go_sem, ha, *]; done)
  have hf2_0_1 : w2.cell? ⟨w.heap.size, 1, none⟩ = some (.int .i64 lo) := by first | (rw [ha]; with_reducible assumption) | (simp (maxDischargeDepth := 7) [go_sem, ha]; done) | (rw [ha]; assumption) | (simp (maxDischargeDepth := 7) [go_sem, ha, *]; done)
  try have hg2_0 : ∀ o, w2.frozen? ⟨w.heap.size, o, none⟩ = false := by intro o; first | (simp (maxDischargeDepth := 7) [go_sem, hb]; done) | (rw [hb]; simp (maxDischargeDepth := 7) [go_sem, *]; done)
  clear ha hb
  refine kuse (b := w.heap.size + 1) hk2 (by first | (simp; done) | (simp; omega) | omega) ?_
  intro ha hb
  have hz2_1 : w.heap.size + 1 < w2.heap.size := by have := hk2.size; (try simp at this); omega
  have hn2_1 : ¬ w.heap.size + 1 = w2.heap.size := by omega
  have hm2_1 : ¬ w2.heap.size = w.heap.size + 1 := by omega
  have hf2_1_0 : w2.cell? ⟨w.heap.size + 1, 0, none⟩ = some (.int .i64 ma) := by first | (rw [ha]; with_reducible assumption) | (simp (maxDischargeDepth := 7) [go_sem, ha]; done) | (rw [ha]; assumption) | (simp (maxDischargeDepth := 7) [go_sem, ha, *]; done)
  have hf2_1_1 : w2.cell? ⟨w.heap.size + 1, 1, none⟩ = some (.int .i64 mo) := by first | (rw [ha]; with_reducible assumption) | (simp (maxDischargeDepth := 7) [go_sem, ha]; done) | (rw [ha]; assumption) | (simp (maxDischargeDepth := 7) [go_sem, ha, *]; done)
  try have hg2_1 : ∀ o, w2.frozen? ⟨w.heap.size + 1, o, none⟩ = false := by intro o; first | (simp (maxDischargeDepth := 7) [go_sem, hb]; done) | (rw [hb]; simp (maxDischargeDepth := 7) [go_sem, *]; done)
  clear ha hb
  refine kuse (b := w.heap.size + 2) hk2 (by first | (simp; done) | (simp; omega) | omega) ?_
  intro ha hb
  have hz2_2 : w.heap.size + 2 < w2.heap.size := by have := hk2.size; (try simp at this); omega
  have hn2_2 : ¬ w.heap.size + 2 = w2.heap.size := by omega
  have hm2_2 : ¬ w2.heap.size = w.heap.size + 2 := by omega
  have hf2_2_0 : w2.cell? ⟨w.heap.size + 2, 0, none⟩ = some (.int .i64 0) := by first | (rw [ha]; with_reducible assumption) | (simp (maxDischargeDepth := 7) [go_sem, ha]; done) | (rw [ha]; assumption) | (simp (maxDischargeDepth := 7) [go_sem, ha, *]; done)
  have hf2_2_1 : w2.cell? ⟨w.heap.size + 2, 1, none⟩ = some (.int .i64 0) := by first | (rw [ha]; with_reducible assumption) | (simp (maxDischargeDepth := 7) [go_sem, ha]; done) | (rw [ha]; assumption) | (simp (maxDischargeDepth := 7) [go_sem, ha, *]; done)
  have hf2_2_2 : w2.cell? ⟨w.heap.size + 2, 2, none⟩ = some (.int .i64 0) := by first | (rw [ha]; with_reducible assumption) | (simp (maxDischargeDepth := 7) [go_sem, ha]; done) | (rw [ha]; assumption) | (simp (maxDischargeDepth := 7) [go_sem, ha, *]; done)
  try have hg2_2 : ∀ o, w2.frozen? ⟨w.heap.size + 2, o, none⟩ = false := by intro o; first | (simp (maxDischargeDepth := 7) [go_sem, hb]; done) | (rw [hb]; simp (maxDischargeDepth := 7) [go_sem, *]; done)
  clear ha hb
  refine kuse (b := w1.heap.size) hk2 (by first | (simp; done) | (simp; omega) | omega) ?_
  intro ha hb
  have hz2_3 : w1.heap.size < w2.heap.size := by have := hk2.size; (try simp at this); omega
  have hn2_3 : ¬ w1.heap.size = w2.heap.size := by omega
  have hm2_3 : ¬ w2.heap.size = w1.heap.size := by omega
  have hf2_3_0 : w2.cell? ⟨w1.heap.size, 0, none⟩ = some (.int .i64 (uX la lo)) := by first | (rw [ha]; with_reducible assumption) | (simp (maxDischargeDepth := 7) [go_sem, ha]; done) | (rw [ha]; assumption) | (simp (maxDischargeDepth := 7) [go_sem, ha, *]; done)
  have hf2_3_1 : w2.cell? ⟨w1.heap.size, 1, none⟩ = some (.int .i64 (uY la lo)) := by first | (rw [ha]; with_reducible assumption) | (simp (maxDischargeDepth := 7) [go_sem, ha]; done) | (rw [ha]; assumption) | (simp (maxDischargeDepth := 7) [go_sem, ha, *]; done)
  have hf2_3_2 : w2.cell? ⟨w1.heap.size, 2, none⟩ = some (.int .i64 (uZ la lo)) := by first | (rw [ha]; with_reducible assumption) | (simp (maxDischargeDepth := 7) [go_sem, ha]; done) | (rw [ha]; assumption) | (simp (maxDischargeDepth := 7) [go_sem, ha, *]; done)
  try have hg2_3 : ∀ o, w2.frozen? ⟨w1.heap.size, o, none⟩ = false := by intro o; first | (simp (maxDischargeDepth := 7) [go_sem, hb]; done) | (rw [hb]; simp (maxDischargeDepth := 7) [go_sem, *]; done)
  clear ha hb
  try clear hf1_0_0
  try clear hf1_0_1
  try clear hf1_1_0
  try clear hf1_1_1
  try clear hf1_2_0
  try clear hf1_2_1
  try clear hf1_2_2
  try clear hg1_0
  try clear hg1_1
  try clear hg1_2
  try clear hz1_1
  try clear hz1_2
  go_wp2_with fail
  with_reducible refine (ref_slopes_w la lo la0 la1 lo0 lo1 _).mono ?_
  rintro e w3 ⟨rfl, hk3⟩
  refine kuse (b := w.heap.size) hk3 (by first | (simp; done) | (simp; omega) | omega) ?_
  intro ha hb
  have hz3_0 : w.heap.size < w3.heap.size := by have := hk3.size; (try simp at this); omega
  have hn3_0 : ¬ w.heap.size = w3.heap.size := by omega
  have hm3_0 : ¬ w3.heap.size = w.heap.size := by omega
  have hf3_0_0 : w3.cell? ⟨w.heap.size, 0, none⟩ = some (.int .i64 la) := by first | (rw [ha]; with_reducible assumption) | (simp (maxDischargeDepth := 7) [go_sem, ha]; done) | (rw [ha]; assumption) | (simp (maxDischargeDepth := 7) [go_sem, ha, *]; done)
  have hf3_0_1 : w3.cell? ⟨w.heap.size, 1, none⟩ = some (.int .i64 lo) := by first | (rw [ha]; with_reducible assumption) | (simp (maxDischargeDepth := 7) [go_sem, ha]; done) | (rw [ha]; assumption) | (simp (maxDischargeDepth := 7) [go_sem, ha, *]; done)
  try have hg3_0 : ∀ o, w3.frozen? ⟨w.heap.size, o, none⟩ = false := by intro o; first | (simp (maxDischargeDepth := 7) [go_sem, hb]; done) | (rw [hb]; simp (maxDischargeDepth := 7) [go_sem, *]; done)
  clear ha hb
  refine kuse (b := w.heap.size + 1) hk3 (by first | (simp; done) | (simp; omega) | omega) ?_
  intro ha hb
  have hz3_1 : w.heap.size + 1 < w3.heap.size := by have := hk3.size; (try simp at this); omega
  have hn3_1 : ¬ w.heap.size + 1 = w3.heap.size := by omega
  have hm3_1 : ¬ w3.heap.size = w.heap.size + 1 := by omega
  have hf3_1_0 : w3.cell? ⟨w.heap.size + 1, 0, none⟩ = some (.int .i64 ma) := by first | (rw [ha]; with_reducible assumption) | (simp (maxDischargeDepth := 7) [go_sem, ha]; done) | (rw [ha]; assumption) | (simp (maxDischargeDepth := 7) [go_sem, ha, *]; done)
  have hf3_1_1 : w3.cell? ⟨w.heap.size + 1, 1, none⟩ = some (.int .i64 mo) := by first | (rw [ha]; with_reducible assumption) | (simp (maxDischargeDepth := 7) [go_sem, ha]; done) | (rw [ha]; assumption) | (simp (maxDischargeDepth := 7) [go_sem, ha, *]; done)
  try have hg3_1 : ∀ o, w3.frozen? ⟨w.heap.size + 1, o, none⟩ = false := by intro o; first | (simp (maxDischargeDepth := 7) [go_sem, hb]; done) | (rw [hb]; simp (maxDischargeDepth := 7) [go_sem, *]; done)
  clear ha hb
  refine kuse (b := w.heap.size + 2) hk3 (by first | (simp; done) | (simp; omega) | omega) ?_
  intro ha hb
  have hz3_2 : w.heap.size + 2 < w3.heap.size := by have := hk3.size; (try simp at this); omega
  have hn3_2 : ¬ w.heap.size + 2 = w3.heap.size := by omega
  have hm3_2 : ¬ w3.heap.size = w.heap.size + 2 := by omega
  have hf3_2_0 : w3.cell? ⟨w.heap.size + 2, 0, none⟩ = some (.int .i64 0) := by first | (rw [ha]; with_reducible assumption) | (simp (maxDischargeDepth := 7) [go_sem, ha]; done) | (rw [ha]; assumption) | (simp (maxDischargeDepth := 7) [go_sem, ha, *]; done)
  have hf3_2_1 : w3.cell? ⟨w.heap.size + 2, 1, none⟩ = some (.int .i64 0) := by first | (rw [ha]; with_reducible assumption) | (simp (maxDischargeDepth := 7) [go_sem, ha]; done) | (rw [ha]; assumption) | (simp (maxDischargeDepth := 7) [go_sem, ha, *]; done)
  have hf3_2_2 : w3.cell? ⟨w.heap.size + 2, 2, none⟩ = some (.int .i64 0) := by first | (rw [ha]; with_reducible assumption) | (simp (maxDischargeDepth := 7) [go_sem, ha]; done) | (rw [ha]; assumption) | (simp (maxDischargeDepth := 7) [go_sem, ha, *]; done)
  try have hg3_2 : ∀ o, w3.frozen? ⟨w.heap.size + 2, o, none⟩ = false := by intro o; first | (simp (maxDischargeDepth := 7) [go_sem, hb]; done) | (rw [hb]; simp (maxDischargeDepth := 7) [go_sem, *]; done)
  clear ha hb
  refine kuse (b := w1.heap.size) hk3 (by first | (simp; done) | (simp; omega) | omega) ?_
  intro ha hb
  have hz3_3 : w1.heap.size < w3.heap.size := by have := hk3.size; (try simp at this); omega
  have hn3_3 : ¬ w1.heap.size = w3.heap.size := by omega
  have hm3_3 : ¬ w3.heap.size = w1.heap.size := by omega
  have hf3_3_0 : w3.cell? ⟨w1.heap.size, 0, none⟩ = some (.int .i64 (uX la lo)) := by first | (rw [ha]; with_reducible assumption) | (simp (maxDischargeDepth := 7) [go_sem, ha]; done) | (rw [ha]; assumption) | (simp (maxDischargeDepth := 7) [go_sem, ha, *]; done)
  have hf3_3_1 : w3.cell? ⟨w1.heap.size, 1, none⟩ = some (.int .i64 (uY la lo)) := by first | (rw [ha]; with_reducible assumption) | (simp (maxDischargeDepth := 7) [go_sem, ha]; done) | (rw [ha]; assumption) | (simp (maxDischargeDepth := 7) [go_sem, ha, *]; done)
  have hf3_3_2 : w3.cell? ⟨w1.heap.size, 2, none⟩ = some (.int .i64 (uZ la lo)) := by first | (rw [ha]; with_reducible assumption) | (simp (maxDischargeDepth := 7) [go_sem, ha]; done) | (rw [ha]; assumption) | (simp (maxDischargeDepth := 7) [go_sem, ha, *]; done)
  try have hg3_3 : ∀ o, w3.frozen? ⟨w1.heap.size, o, none⟩ = false := by intro o; first | (simp (maxDischargeDepth := 7) [go_sem, hb]; done) | (rw [hb]; simp (maxDischargeDepth := 7) [go_sem, *]; done)
  clear ha hb
  refine kuse (b := w2.heap.size) hk3 (by first | (simp; done) | (simp; omega) | omega) ?_
  intro ha hb
  have hz3_4 : w2.heap.size < w3.heap.size := by have := hk3.size; (try simp at this); omega
  have hn3_4 : ¬ w2.heap.size = w3.heap.size := by omega
  have hm3_4 : ¬ w3.heap.size = w2.heap.size := by omega
  have hf3_4_0 : w3.cell? ⟨w2.heap.size, 0, none⟩ = some (.int .i64 (uX ma mo)) := by first | (rw [ha]; with_reducible assumption) | (simp (maxDischargeDepth := 7) [go_sem, ha]; done) | (rw [ha]; assumption) | (simp (maxDischargeDepth := 7) [go_sem, ha, *]; done)
  have hf3_4_1 : w3.cell? ⟨w2.heap.size, 1, none⟩ = some (.int .i64 (uY ma mo)) := by first | (rw [ha]; with_reducible assumption) | (simp (maxDischargeDepth := 7) [go_sem, ha]; done) | (rw [ha]; assumption) | (simp (maxDischargeDepth := 7) [go_sem, ha, *]; done)
  have hf3_4_2 : w3.cell? ⟨w2.heap.size, 2, none⟩ = some (.int .i64 (uZ ma mo)) := by first | (rw [ha]; with_reducible assumption) | (simp (maxDischargeDepth := 7) [go_sem, ha]; done) | (rw [ha]; assumption) | (simp (maxDischargeDepth := 7) [go_sem, ha, *]; done)
  try have hg3_4 : ∀ o, w3.frozen? ⟨w2.heap.size, o, none⟩ = false := by intro o; first | (simp (maxDischargeDepth := 7) [go_sem, hb]; done) | (rw [hb]; simp (maxDischargeDepth := 7) [go_sem, *]; done)
  clear ha hb
  try clear hf2_0_0
  try clear hf2_0_1
  try clear hf2_1_0
  try clear hf2_1_1
  try clear hf2_2_0
  try clear hf2_2_1
  try clear hf2_2_2
  try clear hf2_3_0
  try clear hf2_3_1
  try clear hf2_3_2
  try clear hg2_0
  try clear hg2_1
  try clear hg2_2
  try clear hg2_3
  try clear hz2_1
  try clear hz2_2
  try clear hz2_3
  go_wp2_with fail
  go_region_held3 (fun W => W.cell? ⟨w.heap.size, 0, none⟩ = some (.int .i64 la) ∧ W.cell? ⟨w.heap.size, 1, none⟩ = some (.int .i64 lo) ∧ W.cell? ⟨w2.heap.size, 0, none⟩ = some (.int .i64 (uX ma mo)) ∧ W.cell? ⟨w2.heap.size, 1, none⟩ = some (.int .i64 (uY ma mo)) ∧ W.cell? ⟨w2.heap.size, 2, none⟩ = some (.int .i64 (uZ ma mo))) (first | (go_keep; done) | (simp (maxDischargeDepth := 9) [*, World.cell?_alloc_some, World.cell?_setCell_far]; done) | (simp (maxDischargeDepth := 9) [go_sem, *]; done)) (first | (go_at_call 40; with_reducible refine (ref_cos_w _ (by omega) (by omega) _).mono ?_; rintro e w' ⟨rfl, rfl⟩) | (go_at_call 39; with_reducible refine (ref_sin_w _ (by omega) (by omega) _).mono ?_; rintro e w' ⟨rfl, rfl⟩) | (go_at_call 52; with_reducible refine (sref_round_w _ (by omega) (by omega) _).mono ?_; rintro e w' ⟨rfl, rfl⟩))
  all_goals go_wp2_with fail
  go_region_held3 (fun W => W.cell? ⟨w.heap.size, 0, none⟩ = some (.int .i64 la) ∧ W.cell? ⟨w.heap.size, 1, none⟩ = some (.int .i64 lo) ∧ W.cell? ⟨w2.heap.size, 0, none⟩ = some (.int .i64 (uX ma mo)) ∧ W.cell? ⟨w2.heap.size, 1, none⟩ = some (.int .i64 (uY ma mo)) ∧ W.cell? ⟨w2.heap.size, 2, none⟩ = some (.int .i64 (uZ ma mo))) (first | (go_keep; done) | (simp (maxDischargeDepth := 9) [*, World.cell?_alloc_some, World.cell?_setCell_far]; done) | (simp (maxDischargeDepth := 9) [go_sem, *]; done)) (first | (go_at_call 40; with_reducible refine (ref_cos_w _ (by omega) (by omega) _).mono ?_; rintro e w' ⟨rfl, rfl⟩) | (go_at_call 39; with_reducible refine (ref_sin_w _ (by omega) (by omega) _).mono ?_; rintro e w' ⟨rfl, rfl⟩) | (go_at_call 52; with_reducible refine (sref_round_w _ (by omega) (by omega) _).mono ?_; rintro e w' ⟨rfl, rfl⟩))
  all_goals go_wp2_with fail
  all_goals (with_reducible refine (ref_dot_w _ _ _ _ _ _ (by omega) (by omega) (by omega) (by omega) (by omega) (by omega) (by omega) (by omega) (by omega) (by omega) (by omega) (by omega) _).mono ?_; rintro e w9 ⟨rfl, hk9⟩; refine kuse (b := w.heap.size + 2) hk9 (by first | (simp; done) | (simp; omega) | omega) ?_; intro ha hb; go_wp2_with fail)
  all_goals exact bodyPost_ret (v := .tuple #[.agg #[.int .i64 (r30 (cosV lo * uY ma mo - sinV lo * uX ma mo)), .int .i64 (r30 (cosV la * uZ ma mo - fA la lo * uX ma mo - fB la lo * uY ma mo)), .int .i64 (r30 (dot3 (uX la lo) (uY la lo) (uZ la lo) (uX ma mo) (uY ma mo) (uZ ma mo)))], .int .i64 0]) (by first | (simp [results, Try.results29, go_sem]; done) | (simp (maxDischargeDepth := 7) [results, Try.results29, go_sem, *]; done)) rfl ⟨rfl, (by repeat (first | with_reducible exact Kept.refl _ | with_reducible assumption | with_reducible refine Kept.setCell ?_ (by first | (simp; done) | (simp; omega) | omega) _ | with_reducible refine Kept.alloc ?_ _ | with_reducible refine Kept.drewN ?_ _ | with_reducible refine Kept.drew ?_ | with_reducible refine Kept.trans ?_ (by with_reducible assumption) | with_reducible refine Kept.dr ?_ (by with_reducible assumption)))⟩
set_option maxHeartbeats 2000000 in
set_option maxRecDepth 100000 in
theorem ref_local_badp (la lo ma mo : Int) (h : la < -32400000 ∨ 32400000 < la ∨ lo ≤ -64800000 ∨ 64800000 < lo) (w : World) : Calls Try.prog 29 #[.agg #[.int .i64 la, .int .i64 lo], .agg #[.int .i64 ma, .int .i64 mo]] w fun e w' => e = .returned (.tuple #[.agg #[.int .i64 0, .int .i64 0, .int .i64 0], .int .i64 1]) ∧ Kept w w' := by
  by_cases hq : -32400000 ≤ ma ∧ ma ≤ 32400000 ∧ -64800000 < mo ∧ mo ≤ 64800000
  · obtain ⟨ma0, ma1, mo0, mo1⟩ := hq
    go_enter Try.func29, Try.ntmps29
    go_wp2_with fail
    with_reducible refine (ref_of_bad la lo h _).mono ?_
    rintro e w1 ⟨rfl, hk1⟩
    refine kuse (b := w.heap.size) hk1 (by first | (simp; done) | (simp; omega) | omega) ?_
    intro ha hb
    have hz1_0 : w.heap.size < w1.heap.size := by have := hk1.size; (try simp at this); omega
    have hn1_0 : ¬ w.heap.size = w1.heap.size := by omega
    have hm1_0 : ¬ w1.heap.size = w.heap.size := by omega
    have hf1_0_0 : w1.cell? ⟨w.heap.size, 0, none⟩ = some (.int .i64 la) := by first | (rw [ha]; with_reducible assumption) | (simp (maxDischargeDepth := 7) [go_sem, ha]; done) | (rw [ha]; assumption) | (simp (maxDischargeDepth := 7) [go_sem, ha, *]; done)
    have hf1_0_1 : w1.cell? ⟨w.heap.size, 1, none⟩ = some (.int .i64 lo) := by first | (rw [ha]; with_reducible assumption) | (simp (maxDischargeDepth := 7) [go_sem, ha]; done) | (rw [ha]; assumption) | (simp (maxDischargeDepth := 7) [go_sem, ha, *]; done)
    try have hg1_0 : ∀ o, w1.frozen? ⟨w.heap.size, o, none⟩ = false := by intro o; first | (simp (maxDischargeDepth := 7) [go_sem, hb]; done) | (rw [hb]; simp (maxDischargeDepth := 7) [go_sem, *]; done)
    clear ha hb
    refine kuse (b := w.heap.size + 1) hk1 (by first | (simp; done) | (simp; omega) | omega) ?_
    intro ha hb
    have hz1_1 : w.heap.size + 1 < w1.heap.size := by have := hk1.size; (try simp at this); omega
    have hn1_1 : ¬ w.heap.size + 1 = w1.heap.size := by omega
    have hm1_1 : ¬ w1.heap.size = w.heap.size + 1 := by omega
    have hf1_1_0 : w1.cell? ⟨w.heap.size + 1, 0, none⟩ = some (.int .i64 ma) := by first | (rw [ha]; with_reducible assumption) | (simp (maxDischargeDepth := 7) [go_sem, ha]; done) | (rw [ha]; assumption) | (simp (maxDischargeDepth := 7) [go_sem, ha, *]; done)
    have hf1_1_1 : w1.cell? ⟨w.heap.size + 1, 1, none⟩ = some (.int .i64 mo) := by first | (rw [ha]; with_reducible assumption) | (simp (maxDischargeDepth := 7) [go_sem, ha]; done) | (rw [ha]; assumption) | (simp (maxDischargeDepth := 7) [go_sem, ha, *]; done)
    try have hg1_1 : ∀ o, w1.frozen? ⟨w.heap.size + 1, o, none⟩ = false := by intro o; first | (simp (maxDischargeDepth := 7) [go_sem, hb]; done) | (rw [hb]; simp (maxDischargeDepth := 7) [go_sem, *]; done)
    clear ha hb
    refine kuse (b := w.heap.size + 2) hk1 (by first | (simp; done) | (simp; omega) | omega) ?_
    intro ha hb
    have hz1_2 : w.heap.size + 2 < w1.heap.size := by have := hk1.size; (try simp at this); omega
    have hn1_2 : ¬ w.heap.size + 2 = w1.heap.size := by omega
    have hm1_2 : ¬ w1.heap.size = w.heap.size + 2 := by omega
    have hf1_2_0 : w1.cell? ⟨w.heap.size + 2, 0, none⟩ = some (.int .i64 0) := by first | (rw [ha]; with_reducible assumption) | (simp (maxDischargeDepth := 7) [go_sem, ha]; done) | (rw [ha]; assumption) | (simp (maxDischargeDepth := 7) [go_sem, ha, *]; done)
    have hf1_2_1 : w1.cell? ⟨w.heap.size + 2, 1, none⟩ = some (.int .i64 0) := by first | (rw [ha]; with_reducible assumption) | (simp (maxDischargeDepth := 7) [go_sem, ha]; done) | (rw [ha]; assumption) | (simp (maxDischargeDepth := 7) [go_sem, ha, *]; done)
    have hf1_2_2 : w1.cell? ⟨w.heap.size + 2, 2, none⟩ = some (.int .i64 0) := by first | (rw [ha]; with_reducible assumption) | (simp (maxDischargeDepth := 7) [go_sem, ha]; done) | (rw [ha]; assumption) | (simp (maxDischargeDepth := 7) [go_sem, ha, *]; done)
    try have hg1_2 : ∀ o, w1.frozen? ⟨w.heap.size + 2, o, none⟩ = false := by intro o; first | (simp (maxDischargeDepth := 7) [go_sem, hb]; done) | (rw [hb]; simp (maxDischargeDepth := 7) [go_sem, *]; done)
    clear ha hb
    go_wp2_with fail
    with_reducible refine (ref_of_ok ma mo ma0 ma1 mo0 mo1 _).mono ?_
    rintro e w2 ⟨rfl, hk2⟩
    refine kuse (b := w.heap.size) hk2 (by first | (simp; done) | (simp; omega) | omega) ?_
    intro ha hb
    have hz2_0 : w.heap.size < w2.heap.size := by have := hk2.size; (try simp at this); omega
    have hn2_0 : ¬ w.heap.size = w2.heap.size := by omega
    have hm2_0 : ¬ w2.heap.size = w.heap.size := by omega
    have hf2_0_0 : w2.cell? ⟨w.heap.size, 0, none⟩ = some (.int .i64 la) := by first | (rw [ha]; with_reducible assumption) | (simp (maxDischargeDepth := 7) [go_sem, ha]; done) | (rw [ha]; assumption) | (simp (maxDischargeDepth := 7) [go_sem, ha, *]; done)
    have hf2_0_1 : w2.cell? ⟨w.heap.size, 1, none⟩ = some (.int .i64 lo) := by first | (rw [ha]; with_reducible assumption) | (simp (maxDischargeDepth := 7) [go_sem, ha]; done) | (rw [ha]; assumption) | (simp (maxDischargeDepth := 7) [go_sem, ha, *]; done)
    try have hg2_0 : ∀ o, w2.frozen? ⟨w.heap.size, o, none⟩ = false := by intro o; first | (simp (maxDischargeDepth := 7) [go_sem, hb]; done) | (rw [hb]; simp (maxDischargeDepth := 7) [go_sem, *]; done)
    clear ha hb
    refine kuse (b := w.heap.size + 1) hk2 (by first | (simp; done) | (simp; omega) | omega) ?_
    intro ha hb
    have hz2_1 : w.heap.size + 1 < w2.heap.size := by have := hk2.size; (try simp at this); omega
    have hn2_1 : ¬ w.heap.size + 1 = w2.heap.size := by omega
    have hm2_1 : ¬ w2.heap.size = w.heap.size + 1 := by omega
    have hf2_1_0 : w2.cell? ⟨w.heap.size + 1, 0, none⟩ = some (.int .i64 ma) := by first | (rw [ha]; with_reducible assumption) | (simp (maxDischargeDepth := 7) [go_sem, ha]; done) | (rw [ha]; assumption) | (simp (maxDischargeDepth := 7) [go_sem, ha, *]; done)
    have hf2_1_1 : w2.cell? ⟨w.heap.size + 1, 1, none⟩ = some (.int .i64 mo) := by first | (rw [ha]; with_reducible assumption) | (simp (maxDischargeDepth := 7) [go_sem, ha]; done) | (rw [ha]; assumption) | (simp (maxDischargeDepth := 7) [go_sem, ha, *]; done)
    try have hg2_1 : ∀ o, w2.frozen? ⟨w.heap.size + 1, o, none⟩ = false := by intro o; first | (simp (maxDischargeDepth := 7) [go_sem, hb]; done) | (rw [hb]; simp (maxDischargeDepth := 7) [go_sem, *]; done)
    clear ha hb
    refine kuse (b := w.heap.size + 2) hk2 (by first | (simp; done) | (simp; omega) | omega) ?_
    intro ha hb
    have hz2_2 : w.heap.size + 2 < w2.heap.size := by have := hk2.size; (try simp at this); omega
    have hn2_2 : ¬ w.heap.size + 2 = w2.heap.size := by omega
    have hm2_2 : ¬ w2.heap.size = w.heap.size + 2 := by omega
    have hf2_2_0 : w2.cell? ⟨w.heap.size + 2, 0, none⟩ = some (.int .i64 0) := by first | (rw [ha]; with_reducible assumption) | (simp (maxDischargeDepth := 7) [go_sem, ha]; done) | (rw [ha]; assumption) | (simp (maxDischargeDepth := 7) [go_sem, ha, *]; done)
    have hf2_2_1 : w2.cell? ⟨w.heap.size + 2, 1, none⟩ = some (.int .i64 0) := by first | (rw [ha]; with_reducible assumption) | (simp (maxDischargeDepth := 7) [go_sem, ha]; done) | (rw [ha]; assumption) | (simp (maxDischargeDepth := 7) [go_sem, ha, *]; done)
    have hf2_2_2 : w2.cell? ⟨w.heap.size + 2, 2, none⟩ = some (.int .i64 0) := by first | (rw [ha]; with_reducible assumption) | (simp (maxDischargeDepth := 7) [go_sem, ha]; done) | (rw [ha]; assumption) | (simp (maxDischargeDepth := 7) [go_sem, ha, *]; done)
    try have hg2_2 : ∀ o, w2.frozen? ⟨w.heap.size + 2, o, none⟩ = false := by intro o; first | (simp (maxDischargeDepth := 7) [go_sem, hb]; done) | (rw [hb]; simp (maxDischargeDepth := 7) [go_sem, *]; done)
    clear ha hb
    refine kuse (b := w1.heap.size) hk2 (by first | (simp; done) | (simp; omega) | omega) ?_
    intro ha hb
    have hz2_3 : w1.heap.size < w2.heap.size := by have := hk2.size; (try simp at this); omega
    have hn2_3 : ¬ w1.heap.size = w2.heap.size := by omega
    have hm2_3 : ¬ w2.heap.size = w1.heap.size := by omega
    have hf2_3_0 : w2.cell? ⟨w1.heap.size, 0, none⟩ = some (.int .i64 (0)) := by first | (rw [ha]; with_reducible assumption) | (simp (maxDischargeDepth := 7) [go_sem, ha]; done) | (rw [ha]; assumption) | (simp (maxDischargeDepth := 7) [go_sem, ha, *]; done)
    have hf2_3_1 : w2.cell? ⟨w1.heap.size, 1, none⟩ = some (.int .i64 (0)) := by first | (rw [ha]; with_reducible assumption) | (simp (maxDischargeDepth := 7) [go_sem, ha]; done) | (rw [ha]; assumption) | (simp (maxDischargeDepth := 7) [go_sem, ha, *]; done)
    have hf2_3_2 : w2.cell? ⟨w1.heap.size, 2, none⟩ = some (.int .i64 (0)) := by first | (rw [ha]; with_reducible assumption) | (simp (maxDischargeDepth := 7) [go_sem, ha]; done) | (rw [ha]; assumption) | (simp (maxDischargeDepth := 7) [go_sem, ha, *]; done)
    try have hg2_3 : ∀ o, w2.frozen? ⟨w1.heap.size, o, none⟩ = false := by intro o; first | (simp (maxDischargeDepth := 7) [go_sem, hb]; done) | (rw [hb]; simp (maxDischargeDepth := 7) [go_sem, *]; done)
    clear ha hb
    try clear hf1_0_0
    try clear hf1_0_1
    try clear hf1_1_0
    try clear hf1_1_1
    try clear hf1_2_0
    try clear hf1_2_1
    try clear hf1_2_2
    try clear hg1_0
    try clear hg1_1
    try clear hg1_2
    try clear hz1_1
    try clear hz1_2
    go_wp2_with fail
    all_goals exact bodyPost_ret (v := .tuple #[.agg #[.int .i64 0, .int .i64 0, .int .i64 0], .int .i64 1]) (by first | (simp [results, Try.results29, go_sem]; done) | (simp (maxDischargeDepth := 7) [results, Try.results29, go_sem, *]; done)) rfl ⟨rfl, (by repeat (first | with_reducible exact Kept.refl _ | with_reducible assumption | with_reducible refine Kept.setCell ?_ (by first | (simp; done) | (simp; omega) | omega) _ | with_reducible refine Kept.alloc ?_ _ | with_reducible refine Kept.drewN ?_ _ | with_reducible refine Kept.drew ?_ | with_reducible refine Kept.trans ?_ (by with_reducible assumption) | with_reducible refine Kept.dr ?_ (by with_reducible assumption)))⟩
  · have h' : ma < -32400000 ∨ 32400000 < ma ∨ mo ≤ -64800000 ∨ 64800000 < mo := by omega
    clear hq
    go_enter Try.func29, Try.ntmps29
    go_wp2_with fail
    with_reducible refine (ref_of_bad la lo h _).mono ?_
    rintro e w1 ⟨rfl, hk1⟩
    refine kuse (b := w.heap.size) hk1 (by first | (simp; done) | (simp; omega) | omega) ?_
    intro ha hb
    have hz1_0 : w.heap.size < w1.heap.size := by have := hk1.size; (try simp at this); omega
    have hn1_0 : ¬ w.heap.size = w1.heap.size := by omega
    have hm1_0 : ¬ w1.heap.size = w.heap.size := by omega
    have hf1_0_0 : w1.cell? ⟨w.heap.size, 0, none⟩ = some (.int .i64 la) := by first | (rw [ha]; with_reducible assumption) | (simp (maxDischargeDepth := 7) [go_sem, ha]; done) | (rw [ha]; assumption) | (simp (maxDischargeDepth := 7) [go_sem, ha, *]; done)
    have hf1_0_1 : w1.cell? ⟨w.heap.size, 1, none⟩ = some (.int .i64 lo) := by first | (rw [ha]; with_reducible assumption) | (simp (maxDischargeDepth := 7) [go_sem, ha]; done) | (rw [ha]; assumption) | (simp (maxDischargeDepth := 7) [go_sem, ha, *]; done)
    try have hg1_0 : ∀ o, w1.frozen? ⟨w.heap.size, o, none⟩ = false := by intro o; first | (simp (maxDischargeDepth := 7) [go_sem, hb]; done) | (rw [hb]; simp (maxDischargeDepth := 7) [go_sem, *]; done)
    clear ha hb
    refine kuse (b := w.heap.size + 1) hk1 (by first | (simp; done) | (simp; omega) | omega) ?_
    intro ha hb
    have hz1_1 : w.heap.size + 1 < w1.heap.size := by have := hk1.size; (try simp at this); omega
    have hn1_1 : ¬ w.heap.size + 1 = w1.heap.size := by omega
    have hm1_1 : ¬ w1.heap.size = w.heap.size + 1 := by omega
    have hf1_1_0 : w1.cell? ⟨w.heap.size + 1, 0, none⟩ = some (.int .i64 ma) := by first | (rw [ha]; with_reducible assumption) | (simp (maxDischargeDepth := 7) [go_sem, ha]; done) | (rw [ha]; assumption) | (simp (maxDischargeDepth := 7) [go_sem, ha, *]; done)
    have hf1_1_1 : w1.cell? ⟨w.heap.size + 1, 1, none⟩ = some (.int .i64 mo) := by first | (rw [ha]; with_reducible assumption) | (simp (maxDischargeDepth := 7) [go_sem, ha]; done) | (rw [ha]; assumption) | (simp (maxDischargeDepth := 7) [go_sem, ha, *]; done)
    try have hg1_1 : ∀ o, w1.frozen? ⟨w.heap.size + 1, o, none⟩ = false := by intro o; first | (simp (maxDischargeDepth := 7) [go_sem, hb]; done) | (rw [hb]; simp (maxDischargeDepth := 7) [go_sem, *]; done)
    clear ha hb
    refine kuse (b := w.heap.size + 2) hk1 (by first | (simp; done) | (simp; omega) | omega) ?_
    intro ha hb
    have hz1_2 : w.heap.size + 2 < w1.heap.size := by have := hk1.size; (try simp at this); omega
    have hn1_2 : ¬ w.heap.size + 2 = w1.heap.size := by omega
    have hm1_2 : ¬ w1.heap.size = w.heap.size + 2 := by omega
    have hf1_2_0 : w1.cell? ⟨w.heap.size + 2, 0, none⟩ = some (.int .i64 0) := by first | (rw [ha]; with_reducible assumption) | (simp (maxDischargeDepth := 7) [go_sem, ha]; done) | (rw [ha]; assumption) | (simp (maxDischargeDepth := 7) [go_sem, ha, *]; done)
    have hf1_2_1 : w1.cell? ⟨w.heap.size + 2, 1, none⟩ = some (.int .i64 0) := by first | (rw [ha]; with_reducible assumption) | (simp (maxDischargeDepth := 7) [go_sem, ha]; done) | (rw [ha]; assumption) | (simp (maxDischargeDepth := 7) [go_sem, ha, *]; done)
    have hf1_2_2 : w1.cell? ⟨w.heap.size + 2, 2, none⟩ = some (.int .i64 0) := by first | (rw [ha]; with_reducible assumption) | (simp (maxDischargeDepth := 7) [go_sem, ha]; done) | (rw [ha]; assumption) | (simp (maxDischargeDepth := 7) [go_sem, ha, *]; done)
    try have hg1_2 : ∀ o, w1.frozen? ⟨w.heap.size + 2, o, none⟩ = false := by intro o; first | (simp (maxDischargeDepth := 7) [go_sem, hb]; done) | (rw [hb]; simp (maxDischargeDepth := 7) [go_sem, *]; done)
    clear ha hb
    go_wp2_with fail
    with_reducible refine (ref_of_bad ma mo h' _).mono ?_
    rintro e w2 ⟨rfl, hk2⟩
    refine kuse (b := w.heap.size) hk2 (by first | (simp; done) | (simp; omega) | omega) ?_
    intro ha hb
    have hz2_0 : w.heap.size < w2.heap.size := by have := hk2.size; (try simp at this); omega
    have hn2_0 : ¬ w.heap.size = w2.heap.size := by omega
    have hm2_0 : ¬ w2.heap.size = w.heap.size := by omega
    have hf2_0_0 : w2.cell? ⟨w.heap.size, 0, none⟩ = some (.int .i64 la) := by first | (rw [ha]; with_reducible assumption) | (simp (maxDischargeDepth := 7) [go_sem, ha]; done) | (rw [ha]; assumption) | (simp (maxDischargeDepth := 7) [go_sem, ha, *]; done)
    have hf2_0_1 : w2.cell? ⟨w.heap.size, 1, none⟩ = some (.int .i64 lo) := by first | (rw [ha]; with_reducible assumption) | (simp (maxDischargeDepth := 7) [go_sem, ha]; done) | (rw [ha]; assumption) | (simp (maxDischargeDepth := 7) [go_sem, ha, *]; done)
    try have hg2_0 : ∀ o, w2.frozen? ⟨w.heap.size, o, none⟩ = false := by intro o; first | (simp (maxDischargeDepth := 7) [go_sem, hb]; done) | (rw [hb]; simp (maxDischargeDepth := 7) [go_sem, *]; done)
    clear ha hb
    refine kuse (b := w.heap.size + 1) hk2 (by first | (simp; done) | (simp; omega) | omega) ?_
    intro ha hb
    have hz2_1 : w.heap.size + 1 < w2.heap.size := by have := hk2.size; (try simp at this); omega
    have hn2_1 : ¬ w.heap.size + 1 = w2.heap.size := by omega
    have hm2_1 : ¬ w2.heap.size = w.heap.size + 1 := by omega
    have hf2_1_0 : w2.cell? ⟨w.heap.size + 1, 0, none⟩ = some (.int .i64 ma) := by first | (rw [ha]; with_reducible assumption) | (simp (maxDischargeDepth := 7) [go_sem, ha]; done) | (rw [ha]; assumption) | (simp (maxDischargeDepth := 7) [go_sem, ha, *]; done)
    have hf2_1_1 : w2.cell? ⟨w.heap.size + 1, 1, none⟩ = some (.int .i64 mo) := by first | (rw [ha]; with_reducible assumption) | (simp (maxDischargeDepth := 7) [go_sem, ha]; done) | (rw [ha]; assumption) | (simp (maxDischargeDepth := 7) [go_sem, ha, *]; done)
    try have hg2_1 : ∀ o, w2.frozen? ⟨w.heap.size + 1, o, none⟩ = false := by intro o; first | (simp (maxDischargeDepth := 7) [go_sem, hb]; done) | (rw [hb]; simp (maxDischargeDepth := 7) [go_sem, *]; done)
    clear ha hb
    refine kuse (b := w.heap.size + 2) hk2 (by first | (simp; done) | (simp; omega) | omega) ?_
    intro ha hb
    have hz2_2 : w.heap.size + 2 < w2.heap.size := by have := hk2.size; (try simp at this); omega
    have hn2_2 : ¬ w.heap.size + 2 = w2.heap.size := by omega
    have hm2_2 : ¬ w2.heap.size = w.heap.size + 2 := by omega
    have hf2_2_0 : w2.cell? ⟨w.heap.size + 2, 0, none⟩ = some (.int .i64 0) := by first | (rw [ha]; with_reducible assumption) | (simp (maxDischargeDepth := 7) [go_sem, ha]; done) | (rw [ha]; assumption) | (simp (maxDischargeDepth := 7) [go_sem, ha, *]; done)
    have hf2_2_1 : w2.cell? ⟨w.heap.size + 2, 1, none⟩ = some (.int .i64 0) := by first | (rw [ha]; with_reducible assumption) | (simp (maxDischargeDepth := 7) [go_sem, ha]; done) | (rw [ha]; assumption) | (simp (maxDischargeDepth := 7) [go_sem, ha, *]; done)
    have hf2_2_2 : w2.cell? ⟨w.heap.size + 2, 2, none⟩ = some (.int .i64 0) := by first | (rw [ha]; with_reducible assumption) | (simp (maxDischargeDepth := 7) [go_sem, ha]; done) | (rw [ha]; assumption) | (simp (maxDischargeDepth := 7) [go_sem, ha, *]; done)
    try have hg2_2 : ∀ o, w2.frozen? ⟨w.heap.size + 2, o, none⟩ = false := by intro o; first | (simp (maxDischargeDepth := 7) [go_sem, hb]; done) | (rw [hb]; simp (maxDischargeDepth := 7) [go_sem, *]; done)
    clear ha hb
    refine kuse (b := w1.heap.size) hk2 (by first | (simp; done) | (simp; omega) | omega) ?_
    intro ha hb
    have hz2_3 : w1.heap.size < w2.heap.size := by have := hk2.size; (try simp at this); omega
    have hn2_3 : ¬ w1.heap.size = w2.heap.size := by omega
    have hm2_3 : ¬ w2.heap.size = w1.heap.size := by omega
    have hf2_3_0 : w2.cell? ⟨w1.heap.size, 0, none⟩ = some (.int .i64 (0)) := by first | (rw [ha]; with_reducible assumption) | (simp (maxDischargeDepth := 7) [go_sem, ha]; done) | (rw [ha]; assumption) | (simp (maxDischargeDepth := 7) [go_sem, ha, *]; done)
    have hf2_3_1 : w2.cell? ⟨w1.heap.size, 1, none⟩ = some (.int .i64 (0)) := by first | (rw [ha]; with_reducible assumption) | (simp (maxDischargeDepth := 7) [go_sem, ha]; done) | (rw [ha]; assumption) | (simp (maxDischargeDepth := 7) [go_sem, ha, *]; done)
    have hf2_3_2 : w2.cell? ⟨w1.heap.size, 2, none⟩ = some (.int .i64 (0)) := by first | (rw [ha]; with_reducible assumption) | (simp (maxDischargeDepth := 7) [go_sem, ha]; done) | (rw [ha]; assumption) | (simp (maxDischargeDepth := 7) [go_sem, ha, *]; done)
    try have hg2_3 : ∀ o, w2.frozen? ⟨w1.heap.size, o, none⟩ = false := by intro o; first | (simp (maxDischargeDepth := 7) [go_sem, hb]; done) | (rw [hb]; simp (maxDischargeDepth := 7) [go_sem, *]; done)
    clear ha hb
    try clear hf1_0_0
    try clear hf1_0_1
    try clear hf1_1_0
    try clear hf1_1_1
    try clear hf1_2_0
    try clear hf1_2_1
    try clear hf1_2_2
    try clear hg1_0
    try clear hg1_1
    try clear hg1_2
    try clear hz1_1
    try clear hz1_2
    go_wp2_with fail
    all_goals exact bodyPost_ret (v := .tuple #[.agg #[.int .i64 0, .int .i64 0, .int .i64 0], .int .i64 1]) (by first | (simp [results, Try.results29, go_sem]; done) | (simp (maxDischargeDepth := 7) [results, Try.results29, go_sem, *]; done)) rfl ⟨rfl, (by repeat (first | with_reducible exact Kept.refl _ | with_reducible assumption | with_reducible refine Kept.setCell ?_ (by first | (simp; done) | (simp; omega) | omega) _ | with_reducible refine Kept.alloc ?_ _ | with_reducible refine Kept.drewN ?_ _ | with_reducible refine Kept.drew ?_ | with_reducible refine Kept.trans ?_ (by with_reducible assumption) | with_reducible refine Kept.dr ?_ (by with_reducible assumption)))⟩
set_option maxHeartbeats 2000000 in
set_option maxRecDepth 100000 in
theorem ref_local_badq (la lo : Int) (la0 : -32400000 ≤ la) (la1 : la ≤ 32400000) (lo0 : -64800000 < lo) (lo1 : lo ≤ 64800000) (ma mo : Int) (h : ma < -32400000 ∨ 32400000 < ma ∨ mo ≤ -64800000 ∨ 64800000 < mo) (w : World) : Calls Try.prog 29 #[.agg #[.int .i64 la, .int .i64 lo], .agg #[.int .i64 ma, .int .i64 mo]] w fun e w' => e = .returned (.tuple #[.agg #[.int .i64 0, .int .i64 0, .int .i64 0], .int .i64 1]) ∧ Kept w w' := by
  go_enter Try.func29, Try.ntmps29
  go_wp2_with fail
  with_reducible refine (ref_of_ok la lo la0 la1 lo0 lo1 _).mono ?_
  rintro e w1 ⟨rfl, hk1⟩
  refine kuse (b := w.heap.size) hk1 (by first | (simp; done) | (simp; omega) | omega) ?_
  intro ha hb
  have hz1_0 : w.heap.size < w1.heap.size := by have := hk1.size; (try simp at this); omega
  have hn1_0 : ¬ w.heap.size = w1.heap.size := by omega
  have hm1_0 : ¬ w1.heap.size = w.heap.size := by omega
  have hf1_0_0 : w1.cell? ⟨w.heap.size, 0, none⟩ = some (.int .i64 la) := by first | (rw [ha]; with_reducible assumption) | (simp (maxDischargeDepth := 7) [go_sem, ha]; done) | (rw [ha]; assumption) | (simp (maxDischargeDepth := 7) [go_sem, ha, *]; done)
  have hf1_0_1 : w1.cell? ⟨w.heap.size, 1, none⟩ = some (.int .i64 lo) := by first | (rw [ha]; with_reducible assumption) | (simp (maxDischargeDepth := 7) [go_sem, ha]; done) | (rw [ha]; assumption) | (simp (maxDischargeDepth := 7) [go_sem, ha, *]; done)
  try have hg1_0 : ∀ o, w1.frozen? ⟨w.heap.size, o, none⟩ = false := by intro o; first | (simp (maxDischargeDepth := 7) [go_sem, hb]; done) | (rw [hb]; simp (maxDischargeDepth := 7) [go_sem, *]; done)
  clear ha hb
  refine kuse (b := w.heap.size + 1) hk1 (by first | (simp; done) | (simp; omega) | omega) ?_
  intro ha hb
  have hz1_1 : w.heap.size + 1 < w1.heap.size := by have := hk1.size; (try simp at this); omega
  have hn1_1 : ¬ w.heap.size + 1 = w1.heap.size := by omega
  have hm1_1 : ¬ w1.heap.size = w.heap.size + 1 := by omega
  have hf1_1_0 : w1.cell? ⟨w.heap.size + 1, 0, none⟩ = some (.int .i64 ma) := by first | (rw [ha]; with_reducible assumption) | (simp (maxDischargeDepth := 7) [go_sem, ha]; done) | (rw [ha]; assumption) | (simp (maxDischargeDepth := 7) [go_sem, ha, *]; done)
  have hf1_1_1 : w1.cell? ⟨w.heap.size + 1, 1, none⟩ = some (.int .i64 mo) := by first | (rw [ha]; with_reducible assumption) | (simp (maxDischargeDepth := 7) [go_sem, ha]; done) | (rw [ha]; assumption) | (simp (maxDischargeDepth := 7) [go_sem, ha, *]; done)
  try have hg1_1 : ∀ o, w1.frozen? ⟨w.heap.size + 1, o, none⟩ = false := by intro o; first | (simp (maxDischargeDepth := 7) [go_sem, hb]; done) | (rw [hb]; simp (maxDischargeDepth := 7) [go_sem, *]; done)
  clear ha hb
  refine kuse (b := w.heap.size + 2) hk1 (by first | (simp; done) | (simp; omega) | omega) ?_
  intro ha hb
  have hz1_2 : w.heap.size + 2 < w1.heap.size := by have := hk1.size; (try simp at this); omega
  have hn1_2 : ¬ w.heap.size + 2 = w1.heap.size := by omega
  have hm1_2 : ¬ w1.heap.size = w.heap.size + 2 := by omega
  have hf1_2_0 : w1.cell? ⟨w.heap.size + 2, 0, none⟩ = some (.int .i64 0) := by first | (rw [ha]; with_reducible assumption) | (simp (maxDischargeDepth := 7) [go_sem, ha]; done) | (rw [ha]; assumption) | (simp (maxDischargeDepth := 7) [go_sem, ha, *]; done)
  have hf1_2_1 : w1.cell? ⟨w.heap.size + 2, 1, none⟩ = some (.int .i64 0) := by first | (rw [ha]; with_reducible assumption) | (simp (maxDischargeDepth := 7) [go_sem, ha]; done) | (rw [ha]; assumption) | (simp (maxDischargeDepth := 7) [go_sem, ha, *]; done)
  have hf1_2_2 : w1.cell? ⟨w.heap.size + 2, 2, none⟩ = some (.int .i64 0) := by first | (rw [ha]; with_reducible assumption) | (simp (maxDischargeDepth := 7) [go_sem, ha]; done) | (rw [ha]; assumption) | (simp (maxDischargeDepth := 7) [go_sem, ha, *]; done)
  try have hg1_2 : ∀ o, w1.frozen? ⟨w.heap.size + 2, o, none⟩ = false := by intro o; first | (simp (maxDischargeDepth := 7) [go_sem, hb]; done) | (rw [hb]; simp (maxDischargeDepth := 7) [go_sem, *]; done)
  clear ha hb
  go_wp2_with fail
  with_reducible refine (ref_of_bad ma mo h _).mono ?_
  rintro e w2 ⟨rfl, hk2⟩
  refine kuse (b := w.heap.size) hk2 (by first | (simp; done) | (simp; omega) | omega) ?_
  intro ha hb
  have hz2_0 : w.heap.size < w2.heap.size := by have := hk2.size; (try simp at this); omega
  have hn2_0 : ¬ w.heap.size = w2.heap.size := by omega
  have hm2_0 : ¬ w2.heap.size = w.heap.size := by omega
  have hf2_0_0 : w2.cell? ⟨w.heap.size, 0, none⟩ = some (.int .i64 la) := by first | (rw [ha]; with_reducible assumption) | (simp (maxDischargeDepth := 7) [go_sem, ha]; done) | (rw [ha]; assumption) | (simp (maxDischargeDepth := 7) [go_sem, ha, *]; done)
  have hf2_0_1 : w2.cell? ⟨w.heap.size, 1, none⟩ = some (.int .i64 lo) := by first | (rw [ha]; with_reducible assumption) | (simp (maxDischargeDepth := 7) [go_sem, ha]; done) | (rw [ha]; assumption) | (simp (maxDischargeDepth := 7) [go_sem, ha, *]; done)
  try have hg2_0 : ∀ o, w2.frozen? ⟨w.heap.size, o, none⟩ = false := by intro o; first | (simp (maxDischargeDepth := 7) [go_sem, hb]; done) | (rw [hb]; simp (maxDischargeDepth := 7) [go_sem, *]; done)
  clear ha hb
  refine kuse (b := w.heap.size + 1) hk2 (by first | (simp; done) | (simp; omega) | omega) ?_
  intro ha hb
  have hz2_1 : w.heap.size + 1 < w2.heap.size := by have := hk2.size; (try simp at this); omega
  have hn2_1 : ¬ w.heap.size + 1 = w2.heap.size := by omega
  have hm2_1 : ¬ w2.heap.size = w.heap.size + 1 := by omega
  have hf2_1_0 : w2.cell? ⟨w.heap.size + 1, 0, none⟩ = some (.int .i64 ma) := by first | (rw [ha]; with_reducible assumption) | (simp (maxDischargeDepth := 7) [go_sem, ha]; done) | (rw [ha]; assumption) | (simp (maxDischargeDepth := 7) [go_sem, ha, *]; done)
  have hf2_1_1 : w2.cell? ⟨w.heap.size + 1, 1, none⟩ = some (.int .i64 mo) := by first | (rw [ha]; with_reducible assumption) | (simp (maxDischargeDepth := 7) [go_sem, ha]; done) | (rw [ha]; assumption) | (simp (maxDischargeDepth := 7) [go_sem, ha, *]; done)
  try have hg2_1 : ∀ o, w2.frozen? ⟨w.heap.size + 1, o, none⟩ = false := by intro o; first | (simp (maxDischargeDepth := 7) [go_sem, hb]; done) | (rw [hb]; simp (maxDischargeDepth := 7) [go_sem, *]; done)
  clear ha hb
  refine kuse (b := w.heap.size + 2) hk2 (by first | (simp; done) | (simp; omega) | omega) ?_
  intro ha hb
  have hz2_2 : w.heap.size + 2 < w2.heap.size := by have := hk2.size; (try simp at this); omega
  have hn2_2 : ¬ w.heap.size + 2 = w2.heap.size := by omega
  have hm2_2 : ¬ w2.heap.size = w.heap.size + 2 := by omega
  have hf2_2_0 : w2.cell? ⟨w.heap.size + 2, 0, none⟩ = some (.int .i64 0) := by first | (rw [ha]; with_reducible assumption) | (simp (maxDischargeDepth := 7) [go_sem, ha]; done) | (rw [ha]; assumption) | (simp (maxDischargeDepth := 7) [go_sem, ha, *]; done)
  have hf2_2_1 : w2.cell? ⟨w.heap.size + 2, 1, none⟩ = some (.int .i64 0) := by first | (rw [ha]; with_reducible assumption) | (simp (maxDischargeDepth := 7) [go_sem, ha]; done) | (rw [ha]; assumption) | (simp (maxDischargeDepth := 7) [go_sem, ha, *]; done)
  have hf2_2_2 : w2.cell? ⟨w.heap.size + 2, 2, none⟩ = some (.int .i64 0) := by first | (rw [ha]; with_reducible assumption) | (simp (maxDischargeDepth := 7) [go_sem, ha]; done) | (rw [ha]; assumption) | (simp (maxDischargeDepth := 7) [go_sem, ha, *]; done)
  try have hg2_2 : ∀ o, w2.frozen? ⟨w.heap.size + 2, o, none⟩ = false := by intro o; first | (simp (maxDischargeDepth := 7) [go_sem, hb]; done) | (rw [hb]; simp (maxDischargeDepth := 7) [go_sem, *]; done)
  clear ha hb
  refine kuse (b := w1.heap.size) hk2 (by first | (simp; done) | (simp; omega) | omega) ?_
  intro ha hb
  have hz2_3 : w1.heap.size < w2.heap.size := by have := hk2.size; (try simp at this); omega
  have hn2_3 : ¬ w1.heap.size = w2.heap.size := by omega
  have hm2_3 : ¬ w2.heap.size = w1.heap.size := by omega
  have hf2_3_0 : w2.cell? ⟨w1.heap.size, 0, none⟩ = some (.int .i64 (uX la lo)) := by first | (rw [ha]; with_reducible assumption) | (simp (maxDischargeDepth := 7) [go_sem, ha]; done) | (rw [ha]; assumption) | (simp (maxDischargeDepth := 7) [go_sem, ha, *]; done)
  have hf2_3_1 : w2.cell? ⟨w1.heap.size, 1, none⟩ = some (.int .i64 (uY la lo)) := by first | (rw [ha]; with_reducible assumption) | (simp (maxDischargeDepth := 7) [go_sem, ha]; done) | (rw [ha]; assumption) | (simp (maxDischargeDepth := 7) [go_sem, ha, *]; done)
  have hf2_3_2 : w2.cell? ⟨w1.heap.size, 2, none⟩ = some (.int .i64 (uZ la lo)) := by first | (rw [ha]; with_reducible assumption) | (simp (maxDischargeDepth := 7) [go_sem, ha]; done) | (rw [ha]; assumption) | (simp (maxDischargeDepth := 7) [go_sem, ha, *]; done)
  try have hg2_3 : ∀ o, w2.frozen? ⟨w1.heap.size, o, none⟩ = false := by intro o; first | (simp (maxDischargeDepth := 7) [go_sem, hb]; done) | (rw [hb]; simp (maxDischargeDepth := 7) [go_sem, *]; done)
  clear ha hb
  try clear hf1_0_0
  try clear hf1_0_1
  try clear hf1_1_0
  try clear hf1_1_1
  try clear hf1_2_0
  try clear hf1_2_1
  try clear hf1_2_2
  try clear hg1_0
  try clear hg1_1
  try clear hg1_2
  try clear hz1_1
  try clear hz1_2
  go_wp2_with fail
  all_goals exact bodyPost_ret (v := .tuple #[.agg #[.int .i64 0, .int .i64 0, .int .i64 0], .int .i64 1]) (by first | (simp [results, Try.results29, go_sem]; done) | (simp (maxDischargeDepth := 7) [results, Try.results29, go_sem, *]; done)) rfl ⟨rfl, (by repeat (first | with_reducible exact Kept.refl _ | with_reducible assumption | with_reducible refine Kept.setCell ?_ (by first | (simp; done) | (simp; omega) | omega) _ | with_reducible refine Kept.alloc ?_ _ | with_reducible refine Kept.drewN ?_ _ | with_reducible refine Kept.drew ?_ | with_reducible refine Kept.trans ?_ (by with_reducible assumption) | with_reducible refine Kept.dr ?_ (by with_reducible assumption)))⟩

end Go.Proofs.Ytoilodcadngcoaa
