/-
  Own contracts: package sphere and the document's answers of layer 9: frames, local components.
-/
import Derived.Test.YtoilodcadngcoaaSphb
import Derived.Test.YtoilodcadngcoaaRow
import Derived.WalkKit
import Derived.ProofKit
import Derived.OpenShut
import Derived.WalkLawsBesides
import Derived.WalkSpells
import Derived.Lib.Hide
import Derived.Deep.DeepCutAuto
import Derived.Deep.CutBlock
import Derived.Deep.QuietTactic
import Derived.BigQuiet
import Derived.Handy
import Derived.StillTailTactics
import Derived.IntWalk
import Derived.LoopN
import Derived.Deep.RegionHeld3
namespace Go.Proofs.Ytoilodcadngcoaa
open Go.ChangeShapes Go.WideShapes Go.ChangeAt Go.RowKit
set_option linter.unusedVariables false
set_option linter.unusedSimpArgs false
set_option maxHeartbeats 2000000 in
set_option maxRecDepth 100000 in
theorem frame_w (la lo : Int) (la0 : -32400000 ≤ la) (la1 : la ≤ 32400000) (lo0 : -64800000 < lo) (lo1 : lo ≤ 64800000) (w : World) : Calls Try.prog 50 #[.agg #[.int .i64 la, .int .i64 lo]] w fun e w' => e = .returned (.agg #[.int .i64 (sinV lo), .int .i64 (cosV lo), .int .i64 (fA la lo), .int .i64 (fB la lo), .int .i64 (cosV la), .int .i64 (uX la lo), .int .i64 (uY la lo), .int .i64 (uZ la lo)]) ∧ Kept w w' := by
  obtain ⟨c0, c1⟩ := cosV_bd la
  obtain ⟨d0, d1⟩ := cosV_bd lo
  obtain ⟨s0, s1⟩ := sinV_bd lo
  obtain ⟨t0, t1⟩ := sinV_bd la
  obtain ⟨p0, p1⟩ := mul_sb (cosV la) (cosV lo) c0 c1 d0 d1
  obtain ⟨q0, q1⟩ := mul_sb (cosV la) (sinV lo) c0 c1 s0 s1
  have x1 : IntKind.i64.wrap (cosV la * cosV lo) = cosV la * cosV lo := IntWalk.i64_in _ (by omega)
  have x2 : IntKind.i64.wrap (cosV la * sinV lo) = cosV la * sinV lo := IntWalk.i64_in _ (by omega)
  obtain ⟨a0, a1⟩ := mul_sb (sinV la) (cosV lo) t0 t1 d0 d1
  obtain ⟨b0, b1⟩ := mul_sb (sinV la) (sinV lo) t0 t1 s0 s1
  have x3 : IntKind.i64.wrap (sinV la * cosV lo) = sinV la * cosV lo := IntWalk.i64_in _ (by omega)
  have x4 : IntKind.i64.wrap (sinV la * sinV lo) = sinV la * sinV lo := IntWalk.i64_in _ (by omega)
  go_enter Try.func50, Try.ntmps50
  go_wp2_with fail
  with_reducible refine (sin_w la (by omega) (by omega) _).mono ?_
  rintro e w1 ⟨rfl, hk1⟩
  refine kuse (b := w.heap.size) hk1 (by first | (simp; done) | (simp; omega) | omega) ?_
  intro ha hb
  have hz1_0 : w.heap.size < w1.heap.size := by have := hk1.size; (try simp at this); omega
  have hn1_0 : ¬ w.heap.size = w1.heap.size := by omega
  have hm1_0 : ¬ w1.heap.size = w.heap.size := by omega
  have hf1_0_0 : w1.cell? ⟨w.heap.size, 0, none⟩ = some (.int .i64 la) := by first | (rw [ha]; with_reducible assumption) | (simp (maxDischargeDepth := 7) [go_sem, ha]; done) | (rw [ha]; assumption) | (simp (maxDischargeDepth := 7) [go_sem, ha, *]; done)
  have hf1_0_1 : w1.cell? ⟨w.heap.size, 1, none⟩ = some (.int .i64 lo) := by first | (rw [ha]; with_reducible assumption) | (simp (maxDischargeDepth := 7) [go_sem, ha]; done) | (rw [ha]; assumption) | (simp (maxDischargeDepth := 7) [go_sem, ha, *]; done)
  try have hg1_0 : ∀ o, w1.frozen? ⟨w.heap.size, o, none⟩ = false := by intro o; first | (simp (maxDischargeDepth := 7) [go_sem, hb]; done) | (rw [hb]; simp (maxDischargeDepth := 7) [go_sem, *]; done)
  clear ha hb
  refine kuse (b := w.heap.size + 1) hk1 (by first | (simp; done) | (simp; omega) | omega) ?_
  intro ha hb
  have hz1_1 : w.heap.size + 1 < w1.heap.size := by have := hk1.size; (try simp at this); omega
  have hn1_1 : ¬ w.heap.size + 1 = w1.heap.size := by omega
  have hm1_1 : ¬ w1.heap.size = w.heap.size + 1 := by omega
  have hf1_1_0 : w1.cell? ⟨w.heap.size + 1, 0, none⟩ = some (.int .i64 0) := by first | (rw [ha]; with_reducible assumption) | (simp (maxDischargeDepth := 7) [go_sem, ha]; done) | (rw [ha]; assumption) | (simp (maxDischargeDepth := 7) [go_sem, ha, *]; done)
  have hf1_1_1 : w1.cell? ⟨w.heap.size + 1, 1, none⟩ = some (.int .i64 0) := by first | (rw [ha]; with_reducible assumption) | (simp (maxDischargeDepth := 7) [go_sem, ha]; done) | (rw [ha]; assumption) | (simp (maxDischargeDepth := 7) [go_sem, ha, *]; done)
  have hf1_1_2 : w1.cell? ⟨w.heap.size + 1, 2, none⟩ = some (.int .i64 0) := by first | (rw [ha]; with_reducible assumption) | (simp (maxDischargeDepth := 7) [go_sem, ha]; done) | (rw [ha]; assumption) | (simp (maxDischargeDepth := 7) [go_sem, ha, *]; done)
  have hf1_1_3 : w1.cell? ⟨w.heap.size + 1, 3, none⟩ = some (.int .i64 0) := by first | (rw [ha]; with_reducible assumption) | (simp (maxDischargeDepth := 7) [go_sem, ha]; done) | (rw [ha]; assumption) | (simp (maxDischargeDepth := 7) [go_sem, ha, *]; done)
  have hf1_1_4 : w1.cell? ⟨w.heap.size + 1, 4, none⟩ = some (.int .i64 0) := by first | (rw [ha]; with_reducible assumption) | (simp (maxDischargeDepth := 7) [go_sem, ha]; done) | (rw [ha]; assumption) | (simp (maxDischargeDepth := 7) [go_sem, ha, *]; done)
  have hf1_1_5 : w1.cell? ⟨w.heap.size + 1, 5, none⟩ = some (.int .i64 0) := by first | (rw [ha]; with_reducible assumption) | (simp (maxDischargeDepth := 7) [go_sem, ha]; done) | (rw [ha]; assumption) | (simp (maxDischargeDepth := 7) [go_sem, ha, *]; done)
  have hf1_1_6 : w1.cell? ⟨w.heap.size + 1, 6, none⟩ = some (.int .i64 0) := by first | (rw [ha]; with_reducible assumption) | (simp (maxDischargeDepth := 7) [go_sem, ha]; done) | (rw [ha]; assumption) | (simp (maxDischargeDepth := 7) [go_sem, ha, *]; done)
  have hf1_1_7 : w1.cell? ⟨w.heap.size + 1, 7, none⟩ = some (.int .i64 0) := by first | (rw [ha]; with_reducible assumption) | (simp (maxDischargeDepth := 7) [go_sem, ha]; done) | (rw [ha]; assumption) | (simp (maxDischargeDepth := 7) [go_sem, ha, *]; done)
  try have hg1_1 : ∀ o, w1.frozen? ⟨w.heap.size + 1, o, none⟩ = false := by intro o; first | (simp (maxDischargeDepth := 7) [go_sem, hb]; done) | (rw [hb]; simp (maxDischargeDepth := 7) [go_sem, *]; done)
  clear ha hb
  go_wp2_with fail
  have B0 : OwnB w1 (w.heap.size) [.int .i64 la, .int .i64 lo] := ⟨hz1_0, hg1_0, hf1_0_0, hf1_0_1, trivial⟩
  have HB0_0 := Lib.hid B0
  clear B0
  have B1 : OwnB w1 (w.heap.size + 1) [.int .i64 0, .int .i64 0, .int .i64 0, .int .i64 0, .int .i64 0, .int .i64 0, .int .i64 0, .int .i64 0] := ⟨hz1_1, hg1_1, hf1_1_0, hf1_1_1, hf1_1_2, hf1_1_3, hf1_1_4, hf1_1_5, hf1_1_6, hf1_1_7, trivial⟩
  have HB0_1 := Lib.hid B1
  clear B1
  go_upto_region 2 with (fail)
  go_cut [4] (fun p0 wx => ∃ b0 : Nat, p0 = .pointer (some ⟨b0, 0, none⟩) ∧ w.heap.size + 1 < b0 ∧ OwnB wx (b0) [.int .i64 (sinV lo), .int .i64 (cosV lo), .int .i64 (0), .int .i64 (0), .int .i64 (cosV la), .int .i64 (uX la lo), .int .i64 (uY la lo), .int .i64 (uZ la lo)] ∧ OwnB wx (w.heap.size) [.int .i64 la, .int .i64 lo] ∧ OwnB wx (w.heap.size + 1) [.int .i64 0, .int .i64 0, .int .i64 0, .int .i64 0, .int .i64 0, .int .i64 0, .int .i64 0, .int .i64 0] ∧ Kept w1 wx)
  case first =>
    go_region_held3 (fun W => W.cell? ⟨w.heap.size, 0, none⟩ = some (.int .i64 la) ∧ W.cell? ⟨w.heap.size, 1, none⟩ = some (.int .i64 lo)) (first | (go_keep; done) | (simp (maxDischargeDepth := 9) [*, World.cell?_alloc_some, World.cell?_setCell_far]; done) | (simp (maxDischargeDepth := 9) [go_sem, *]; done)) (first | (go_at_call 32; (with_reducible refine (sin_w lo (by omega) (by omega) _).mono ?_); rintro e v0 ⟨rfl, hk⟩; have hz := hk.size; (try (refine kuse (b := w.heap.size) hk (by first | (simp; done) | (simp; omega) | omega) ?_; intro hq hg; have hy : w.heap.size < v0.heap.size := (by (try simp at hz); omega); have hn : ¬ w.heap.size = v0.heap.size := (by omega); have hm : ¬ w.heap.size = v0.heap.size + 1 := (by omega); have hn' : ¬ v0.heap.size = w.heap.size := (by omega); have hm' : ¬ v0.heap.size + 1 = w.heap.size := (by omega))); (try (refine kuse (b := w.heap.size + 1) hk (by first | (simp; done) | (simp; omega) | omega) ?_; intro hq hg; have hy : w.heap.size + 1 < v0.heap.size := (by (try simp at hz); omega); have hn : ¬ w.heap.size + 1 = v0.heap.size := (by omega); have hm : ¬ w.heap.size + 1 = v0.heap.size + 1 := (by omega); have hn' : ¬ v0.heap.size = w.heap.size + 1 := (by omega); have hm' : ¬ v0.heap.size + 1 = w.heap.size + 1 := (by omega))); (try (have hle : w1.heap.size ≤ v0.heap.size := (by (try simp at hz); omega))); (try (refine kuse (b := w1.heap.size) hk (by first | (simp; done) | (simp; omega) | omega) ?_; intro hq hg; have hy : w1.heap.size < v0.heap.size := (by (try simp at hz); omega))); (try (refine withF (p := v0.cell? ⟨w.heap.size, 0, none⟩ = some (.int .i64 la)) (by first | (simp (maxDischargeDepth := 7) [go_sem, *]; done) | fail) ?_; intro ff)); (try (refine withF (p := v0.cell? ⟨w.heap.size, 1, none⟩ = some (.int .i64 lo)) (by first | (simp (maxDischargeDepth := 7) [go_sem, *]; done) | fail) ?_; intro ff))) | (go_at_call 33; (with_reducible refine (cos_w lo (by omega) (by omega) _).mono ?_); rintro e v1 ⟨rfl, hk⟩; have hz := hk.size; (try (refine kuse (b := w.heap.size) hk (by first | (simp; done) | (simp; omega) | omega) ?_; intro hq hg; have hy : w.heap.size < v1.heap.size := (by (try simp at hz); omega); have hn : ¬ w.heap.size = v1.heap.size := (by omega); have hm : ¬ w.heap.size = v1.heap.size + 1 := (by omega); have hn' : ¬ v1.heap.size = w.heap.size := (by omega); have hm' : ¬ v1.heap.size + 1 = w.heap.size := (by omega))); (try (refine kuse (b := w.heap.size + 1) hk (by first | (simp; done) | (simp; omega) | omega) ?_; intro hq hg; have hy : w.heap.size + 1 < v1.heap.size := (by (try simp at hz); omega); have hn : ¬ w.heap.size + 1 = v1.heap.size := (by omega); have hm : ¬ w.heap.size + 1 = v1.heap.size + 1 := (by omega); have hn' : ¬ v1.heap.size = w.heap.size + 1 := (by omega); have hm' : ¬ v1.heap.size + 1 = w.heap.size + 1 := (by omega))); (try (have hle : w1.heap.size ≤ v1.heap.size := (by (try simp at hz); omega))); (try (have hle : v0.heap.size ≤ v1.heap.size := (by (try simp at hz); omega))); (try (refine kuse (b := v0.heap.size) hk (by first | (simp; done) | (simp; omega) | omega) ?_; intro hq hg; have hy : v0.heap.size < v1.heap.size := (by (try simp at hz); omega))); (try (refine kuse (b := w1.heap.size) hk (by first | (simp; done) | (simp; omega) | omega) ?_; intro hq hg; have hy : w1.heap.size < v1.heap.size := (by (try simp at hz); omega))); (try (refine withF (p := v1.cell? ⟨w.heap.size, 0, none⟩ = some (.int .i64 la)) (by first | (simp (maxDischargeDepth := 7) [go_sem, *]; done) | fail) ?_; intro ff)); (try (refine withF (p := v1.cell? ⟨w.heap.size, 1, none⟩ = some (.int .i64 lo)) (by first | (simp (maxDischargeDepth := 7) [go_sem, *]; done) | fail) ?_; intro ff))) | (go_at_call 33; (with_reducible refine (cos_w la (by omega) (by omega) _).mono ?_); rintro e v2 ⟨rfl, hk⟩; have hz := hk.size; (try (refine kuse (b := w.heap.size) hk (by first | (simp; done) | (simp; omega) | omega) ?_; intro hq hg; have hy : w.heap.size < v2.heap.size := (by (try simp at hz); omega); have hn : ¬ w.heap.size = v2.heap.size := (by omega); have hm : ¬ w.heap.size = v2.heap.size + 1 := (by omega); have hn' : ¬ v2.heap.size = w.heap.size := (by omega); have hm' : ¬ v2.heap.size + 1 = w.heap.size := (by omega))); (try (refine kuse (b := w.heap.size + 1) hk (by first | (simp; done) | (simp; omega) | omega) ?_; intro hq hg; have hy : w.heap.size + 1 < v2.heap.size := (by (try simp at hz); omega); have hn : ¬ w.heap.size + 1 = v2.heap.size := (by omega); have hm : ¬ w.heap.size + 1 = v2.heap.size + 1 := (by omega); have hn' : ¬ v2.heap.size = w.heap.size + 1 := (by omega); have hm' : ¬ v2.heap.size + 1 = w.heap.size + 1 := (by omega))); (try (have hle : w1.heap.size ≤ v2.heap.size := (by (try simp at hz); omega))); (try (have hle : v0.heap.size ≤ v2.heap.size := (by (try simp at hz); omega))); (try (have hle : v1.heap.size ≤ v2.heap.size := (by (try simp at hz); omega))); (try (refine kuse (b := v0.heap.size) hk (by first | (simp; done) | (simp; omega) | omega) ?_; intro hq hg; have hy : v0.heap.size < v2.heap.size := (by (try simp at hz); omega))); (try (refine kuse (b := v1.heap.size) hk (by first | (simp; done) | (simp; omega) | omega) ?_; intro hq hg; have hy : v1.heap.size < v2.heap.size := (by (try simp at hz); omega))); (try (refine kuse (b := w1.heap.size) hk (by first | (simp; done) | (simp; omega) | omega) ?_; intro hq hg; have hy : w1.heap.size < v2.heap.size := (by (try simp at hz); omega))); (try (refine withF (p := v2.cell? ⟨w.heap.size, 0, none⟩ = some (.int .i64 la)) (by first | (simp (maxDischargeDepth := 7) [go_sem, *]; done) | fail) ?_; intro ff)); (try (refine withF (p := v2.cell? ⟨w.heap.size, 1, none⟩ = some (.int .i64 lo)) (by first | (simp (maxDischargeDepth := 7) [go_sem, *]; done) | fail) ?_; intro ff))) | (go_at_call 42; (with_reducible refine (unit_w _ _ la0 la1 lo0 lo1 _).mono ?_); rintro e v3 ⟨rfl, hk⟩; have hz := hk.size; (try (refine kuse (b := w.heap.size) hk (by first | (simp; done) | (simp; omega) | omega) ?_; intro hq hg; have hy : w.heap.size < v3.heap.size := (by (try simp at hz); omega); have hn : ¬ w.heap.size = v3.heap.size := (by omega); have hm : ¬ w.heap.size = v3.heap.size + 1 := (by omega); have hn' : ¬ v3.heap.size = w.heap.size := (by omega); have hm' : ¬ v3.heap.size + 1 = w.heap.size := (by omega))); (try (refine kuse (b := w.heap.size + 1) hk (by first | (simp; done) | (simp; omega) | omega) ?_; intro hq hg; have hy : w.heap.size + 1 < v3.heap.size := (by (try simp at hz); omega); have hn : ¬ w.heap.size + 1 = v3.heap.size := (by omega); have hm : ¬ w.heap.size + 1 = v3.heap.size + 1 := (by omega); have hn' : ¬ v3.heap.size = w.heap.size + 1 := (by omega); have hm' : ¬ v3.heap.size + 1 = w.heap.size + 1 := (by omega))); (try (have hle : w1.heap.size ≤ v3.heap.size := (by (try simp at hz); omega))); (try (have hle : v0.heap.size ≤ v3.heap.size := (by (try simp at hz); omega))); (try (have hle : v1.heap.size ≤ v3.heap.size := (by (try simp at hz); omega))); (try (have hle : v2.heap.size ≤ v3.heap.size := (by (try simp at hz); omega))); (try (refine kuse (b := v0.heap.size) hk (by first | (simp; done) | (simp; omega) | omega) ?_; intro hq hg; have hy : v0.heap.size < v3.heap.size := (by (try simp at hz); omega))); (try (refine kuse (b := v1.heap.size) hk (by first | (simp; done) | (simp; omega) | omega) ?_; intro hq hg; have hy : v1.heap.size < v3.heap.size := (by (try simp at hz); omega))); (try (refine kuse (b := v2.heap.size) hk (by first | (simp; done) | (simp; omega) | omega) ?_; intro hq hg; have hy : v2.heap.size < v3.heap.size := (by (try simp at hz); omega))); (try (refine kuse (b := w1.heap.size) hk (by first | (simp; done) | (simp; omega) | omega) ?_; intro hq hg; have hy : w1.heap.size < v3.heap.size := (by (try simp at hz); omega))); (try (refine withF (p := v3.cell? ⟨w.heap.size, 0, none⟩ = some (.int .i64 la)) (by first | (simp (maxDischargeDepth := 7) [go_sem, *]; done) | fail) ?_; intro ff)); (try (refine withF (p := v3.cell? ⟨w.heap.size, 1, none⟩ = some (.int .i64 lo)) (by first | (simp (maxDischargeDepth := 7) [go_sem, *]; done) | fail) ?_; intro ff))))
    all_goals (try go_wp2_with fail)
    all_goals (go_meet; case rel => refine (fun (hkx : Kept w1 _) => ⟨_, rfl, (by first | with_reducible assumption | omega | (simp; omega)), (by first | with_reducible exact own_alloc _ [.int .i64 (sinV lo), .int .i64 (cosV lo), .int .i64 (0), .int .i64 (0), .int .i64 (cosV la), .int .i64 (uX la lo), .int .i64 (uY la lo), .int .i64 (uZ la lo)] 58 | (with_reducible refine own_set8 (us := [.int .i64 0, .int .i64 0, .int .i64 0, .int .i64 0, .int .i64 0, .int .i64 0, .int .i64 0, .int .i64 0]) ?_ rfl; first | with_reducible exact own_alloc _ [.int .i64 0, .int .i64 0, .int .i64 0, .int .i64 0, .int .i64 0, .int .i64 0, .int .i64 0, .int .i64 0] 58 | (with_reducible refine OwnB.kept ?_ (own_alloc _ [.int .i64 0, .int .i64 0, .int .i64 0, .int .i64 0, .int .i64 0, .int .i64 0, .int .i64 0, .int .i64 0] 58); exact (by repeat (first | with_reducible exact Kept.refl _ | with_reducible assumption | with_reducible refine Kept.set12 ?_ (by first | with_reducible assumption | omega | (simp; done) | (simp; omega)) | with_reducible refine Kept.set11 ?_ (by first | with_reducible assumption | omega | (simp; done) | (simp; omega)) | with_reducible refine Kept.set10 ?_ (by first | with_reducible assumption | omega | (simp; done) | (simp; omega)) | with_reducible refine Kept.set9 ?_ (by first | with_reducible assumption | omega | (simp; done) | (simp; omega)) | with_reducible refine Kept.set8 ?_ (by first | with_reducible assumption | omega | (simp; done) | (simp; omega)) | with_reducible refine Kept.set7 ?_ (by first | with_reducible assumption | omega | (simp; done) | (simp; omega)) | with_reducible refine Kept.set6 ?_ (by first | with_reducible assumption | omega | (simp; done) | (simp; omega)) | with_reducible refine Kept.set5 ?_ (by first | with_reducible assumption | omega | (simp; done) | (simp; omega)) | with_reducible refine Kept.set4 ?_ (by first | with_reducible assumption | omega | (simp; done) | (simp; omega)) | with_reducible refine Kept.set3 ?_ (by first | with_reducible assumption | omega | (simp; done) | (simp; omega)) | with_reducible refine Kept.set2 ?_ (by first | with_reducible assumption | omega | (simp; done) | (simp; omega)) | with_reducible refine Kept.setCell ?_ (by first | with_reducible assumption | omega | (simp; done) | (simp; omega)) _ | with_reducible refine Kept.alloc ?_ _ | with_reducible refine Kept.drewN ?_ _ | with_reducible refine Kept.drew ?_ | with_reducible refine Kept.trans ?_ (by with_reducible assumption) | with_reducible refine Kept.dr ?_ (by with_reducible assumption)))))), OwnB.kept hkx HB0_0.out, OwnB.kept hkx HB0_1.out, hkx⟩) ?_; exact (by repeat (first | with_reducible exact Kept.refl _ | with_reducible assumption | with_reducible refine Kept.set12 ?_ (by first | with_reducible assumption | omega | (simp; done) | (simp; omega)) | with_reducible refine Kept.set11 ?_ (by first | with_reducible assumption | omega | (simp; done) | (simp; omega)) | with_reducible refine Kept.set10 ?_ (by first | with_reducible assumption | omega | (simp; done) | (simp; omega)) | with_reducible refine Kept.set9 ?_ (by first | with_reducible assumption | omega | (simp; done) | (simp; omega)) | with_reducible refine Kept.set8 ?_ (by first | with_reducible assumption | omega | (simp; done) | (simp; omega)) | with_reducible refine Kept.set7 ?_ (by first | with_reducible assumption | omega | (simp; done) | (simp; omega)) | with_reducible refine Kept.set6 ?_ (by first | with_reducible assumption | omega | (simp; done) | (simp; omega)) | with_reducible refine Kept.set5 ?_ (by first | with_reducible assumption | omega | (simp; done) | (simp; omega)) | with_reducible refine Kept.set4 ?_ (by first | with_reducible assumption | omega | (simp; done) | (simp; omega)) | with_reducible refine Kept.set3 ?_ (by first | with_reducible assumption | omega | (simp; done) | (simp; omega)) | with_reducible refine Kept.set2 ?_ (by first | with_reducible assumption | omega | (simp; done) | (simp; omega)) | with_reducible refine Kept.setCell ?_ (by first | with_reducible assumption | omega | (simp; done) | (simp; omega)) _ | with_reducible refine Kept.alloc ?_ _ | with_reducible refine Kept.drewN ?_ _ | with_reducible refine Kept.drew ?_ | with_reducible refine Kept.trans ?_ (by with_reducible assumption) | with_reducible refine Kept.dr ?_ (by with_reducible assumption))))
  case rest =>
  obtain ⟨b1_0, rfl, lt1_0, O1_0, O1_1, O1_2, hkc1⟩ := hcut
  obtain ⟨hz_c1_0, hg_c1_0, hf_c1_0_0, hf_c1_0_1, hf_c1_0_2, hf_c1_0_3, hf_c1_0_4, hf_c1_0_5, hf_c1_0_6, hf_c1_0_7, _⟩ := O1_0
  obtain ⟨hz_c1_1, hg_c1_1, hf_c1_1_0, hf_c1_1_1, _⟩ := O1_1
  obtain ⟨hz_c1_2, hg_c1_2, hf_c1_2_0, hf_c1_2_1, hf_c1_2_2, hf_c1_2_3, hf_c1_2_4, hf_c1_2_5, hf_c1_2_6, hf_c1_2_7, _⟩ := O1_2
  try clear hf1_0_0
  try clear hf1_0_1
  try clear hf1_1_0
  try clear hf1_1_1
  try clear hf1_1_2
  try clear hf1_1_3
  try clear hf1_1_4
  try clear hf1_1_5
  try clear hf1_1_6
  try clear hf1_1_7
  try clear hg1_0
  try clear hg1_1
  try clear hz1_1
  go_wp2_with fail
  go_region_held3 (fun W => W.cell? ⟨b1_0, 0, none⟩ = some (.int .i64 (sinV lo)) ∧ W.cell? ⟨b1_0, 1, none⟩ = some (.int .i64 (cosV lo))) (first | (go_keep; done) | (simp (maxDischargeDepth := 9) [*, World.cell?_alloc_some, World.cell?_setCell_far]; done) | (simp (maxDischargeDepth := 9) [go_sem, *]; done)) (first | (go_at_call 44; with_reducible refine (sround_w _ (by omega) (by omega) _).mono ?_; rintro e w' ⟨rfl, rfl⟩))
  all_goals go_wp2_with fail
  all_goals exact bodyPost_ret (v := .agg #[.int .i64 (sinV lo), .int .i64 (cosV lo), .int .i64 (r30 (sinV la * cosV lo)), .int .i64 (r30 (sinV la * sinV lo)), .int .i64 (cosV la), .int .i64 (uX la lo), .int .i64 (uY la lo), .int .i64 (uZ la lo)]) (by first | (simp [results, Try.results50, go_sem]; done) | (simp (maxDischargeDepth := 7) [results, Try.results50, go_sem, *]; done)) rfl ⟨rfl, (by repeat (first | with_reducible exact Kept.refl _ | with_reducible assumption | with_reducible refine Kept.setCell ?_ (by first | (simp; done) | (simp; omega) | omega) _ | with_reducible refine Kept.alloc ?_ _ | with_reducible refine Kept.drewN ?_ _ | with_reducible refine Kept.drew ?_ | with_reducible refine Kept.trans ?_ (by with_reducible assumption) | with_reducible refine Kept.dr ?_ (by with_reducible assumption)))⟩
set_option maxHeartbeats 2000000 in
set_option maxRecDepth 100000 in
theorem ref_slopes_w (la lo : Int) (la0 : -32400000 ≤ la) (la1 : la ≤ 32400000) (lo0 : -64800000 < lo) (lo1 : lo ≤ 64800000) (w : World) : Calls Try.prog 38 #[.agg #[.int .i64 la, .int .i64 lo]] w fun e w' => e = .returned (.tuple #[.int .i64 (fA la lo), .int .i64 (fB la lo)]) ∧ Kept w w' := by
  obtain ⟨c0, c1⟩ := cosV_bd la
  obtain ⟨d0, d1⟩ := cosV_bd lo
  obtain ⟨s0, s1⟩ := sinV_bd lo
  obtain ⟨t0, t1⟩ := sinV_bd la
  obtain ⟨p0, p1⟩ := mul_sb (cosV la) (cosV lo) c0 c1 d0 d1
  obtain ⟨q0, q1⟩ := mul_sb (cosV la) (sinV lo) c0 c1 s0 s1
  have x1 : IntKind.i64.wrap (cosV la * cosV lo) = cosV la * cosV lo := IntWalk.i64_in _ (by omega)
  have x2 : IntKind.i64.wrap (cosV la * sinV lo) = cosV la * sinV lo := IntWalk.i64_in _ (by omega)
  obtain ⟨a0, a1⟩ := mul_sb (sinV la) (cosV lo) t0 t1 d0 d1
  obtain ⟨b0, b1⟩ := mul_sb (sinV la) (sinV lo) t0 t1 s0 s1
  have x3 : IntKind.i64.wrap (sinV la * cosV lo) = sinV la * cosV lo := IntWalk.i64_in _ (by omega)
  have x4 : IntKind.i64.wrap (sinV la * sinV lo) = sinV la * sinV lo := IntWalk.i64_in _ (by omega)
  go_enter Try.func38, Try.ntmps38
  go_wp2_with fail
  with_reducible refine (ref_sin_w la (by omega) (by omega) _).mono ?_
  rintro e w' ⟨rfl, rfl⟩
  go_wp2_with fail
  go_region_held3 (fun W => W.cell? ⟨w.heap.size, 0, none⟩ = some (.int .i64 la) ∧ W.cell? ⟨w.heap.size, 1, none⟩ = some (.int .i64 lo)) (first | (go_keep; done) | (simp (maxDischargeDepth := 9) [*, World.cell?_alloc_some, World.cell?_setCell_far]; done) | (simp (maxDischargeDepth := 9) [go_sem, *]; done)) (first | (go_at_call 40; with_reducible refine (ref_cos_w _ (by omega) (by omega) _).mono ?_; rintro e w' ⟨rfl, rfl⟩) | (go_at_call 39; with_reducible refine (ref_sin_w _ (by omega) (by omega) _).mono ?_; rintro e w' ⟨rfl, rfl⟩) | (go_at_call 52; with_reducible refine (sref_round_w _ (by omega) (by omega) _).mono ?_; rintro e w' ⟨rfl, rfl⟩))
  all_goals go_wp2_with fail
  all_goals go_ret2
  all_goals exact ⟨rfl, (by repeat (first | with_reducible exact Kept.refl _ | with_reducible assumption | with_reducible refine Kept.setCell ?_ (by first | (simp; done) | (simp; omega) | omega) _ | with_reducible refine Kept.alloc ?_ _ | with_reducible refine Kept.drewN ?_ _ | with_reducible refine Kept.drew ?_ | with_reducible refine Kept.trans ?_ (by with_reducible assumption) | with_reducible refine Kept.dr ?_ (by with_reducible assumption)))⟩
set_option maxHeartbeats 2000000 in
set_option maxRecDepth 100000 in
theorem dot_w (a b c x y z : Int) (a_0 : -1073741824 ≤ a) (a_1 : a ≤ 1073741824) (b_0 : -1073741824 ≤ b) (b_1 : b ≤ 1073741824) (c_0 : -1073741824 ≤ c) (c_1 : c ≤ 1073741824) (x_0 : -1073741824 ≤ x) (x_1 : x ≤ 1073741824) (y_0 : -1073741824 ≤ y) (y_1 : y ≤ 1073741824) (z_0 : -1073741824 ≤ z) (z_1 : z ≤ 1073741824) (w : World) : Calls Try.prog 48 #[.agg #[.int .i64 a, .int .i64 b, .int .i64 c], .agg #[.int .i64 x, .int .i64 y, .int .i64 z]] w fun e w' => e = .returned (.int .i64 (dot3 a b c x y z)) ∧ Kept w w' := by
  obtain ⟨m00, m01⟩ := mul_sb (a) (x) (by omega) (by omega) (by omega) (by omega)
  obtain ⟨m10, m11⟩ := mul_sb (b) (y) (by omega) (by omega) (by omega) (by omega)
  obtain ⟨m20, m21⟩ := mul_sb (c) (z) (by omega) (by omega) (by omega) (by omega)
  go_enter Try.func48, Try.ntmps48
  go_wp2_with fail
  all_goals go_ret
  all_goals exact ⟨rfl, (by repeat (first | with_reducible exact Kept.refl _ | with_reducible assumption | with_reducible refine Kept.setCell ?_ (by first | (simp; done) | (simp; omega) | omega) _ | with_reducible refine Kept.alloc ?_ _ | with_reducible refine Kept.drewN ?_ _ | with_reducible refine Kept.drew ?_ | with_reducible refine Kept.trans ?_ (by with_reducible assumption) | with_reducible refine Kept.dr ?_ (by with_reducible assumption)))⟩
set_option maxHeartbeats 2000000 in
set_option maxRecDepth 100000 in
theorem ref_dot_w (a b c x y z : Int) (a_0 : -1073741824 ≤ a) (a_1 : a ≤ 1073741824) (b_0 : -1073741824 ≤ b) (b_1 : b ≤ 1073741824) (c_0 : -1073741824 ≤ c) (c_1 : c ≤ 1073741824) (x_0 : -1073741824 ≤ x) (x_1 : x ≤ 1073741824) (y_0 : -1073741824 ≤ y) (y_1 : y ≤ 1073741824) (z_0 : -1073741824 ≤ z) (z_1 : z ≤ 1073741824) (w : World) : Calls Try.prog 53 #[.agg #[.int .i64 a, .int .i64 b, .int .i64 c], .agg #[.int .i64 x, .int .i64 y, .int .i64 z]] w fun e w' => e = .returned (.int .i64 (r30 (dot3 a b c x y z))) ∧ Kept w w' := by
  obtain ⟨m00, m01⟩ := mul_sb (a) (x) (by omega) (by omega) (by omega) (by omega)
  obtain ⟨m10, m11⟩ := mul_sb (b) (y) (by omega) (by omega) (by omega) (by omega)
  obtain ⟨m20, m21⟩ := mul_sb (c) (z) (by omega) (by omega) (by omega) (by omega)
  go_enter Try.func53, Try.ntmps53
  go_wp2_with fail
  with_reducible refine (sref_round_w _ (by omega) (by omega) _).mono ?_
  rintro e w' ⟨rfl, rfl⟩
  go_wp2_with fail
  all_goals go_ret
  all_goals exact ⟨rfl, (by repeat (first | with_reducible exact Kept.refl _ | with_reducible assumption | with_reducible refine Kept.setCell ?_ (by first | (simp; done) | (simp; omega) | omega) _ | with_reducible refine Kept.alloc ?_ _ | with_reducible refine Kept.drewN ?_ _ | with_reducible refine Kept.drew ?_ | with_reducible refine Kept.trans ?_ (by with_reducible assumption) | with_reducible refine Kept.dr ?_ (by with_reducible assumption)))⟩
set_option maxHeartbeats 2000000 in
set_option maxRecDepth 100000 in
theorem cross_w (a b c x y z : Int) (a_0 : -1073741824 ≤ a) (a_1 : a ≤ 1073741824) (b_0 : -1073741824 ≤ b) (b_1 : b ≤ 1073741824) (c_0 : -1073741824 ≤ c) (c_1 : c ≤ 1073741824) (x_0 : -1073741824 ≤ x) (x_1 : x ≤ 1073741824) (y_0 : -1073741824 ≤ y) (y_1 : y ≤ 1073741824) (z_0 : -1073741824 ≤ z) (z_1 : z ≤ 1073741824) (w : World) : Calls Try.prog 43 #[.agg #[.int .i64 a, .int .i64 b, .int .i64 c], .agg #[.int .i64 x, .int .i64 y, .int .i64 z]] w fun e w' => e = .returned (.agg #[.int .i64 (b * z - c * y), .int .i64 (c * x - a * z), .int .i64 (a * y - b * x)]) ∧ Kept w w' := by
  obtain ⟨m00, m01⟩ := mul_sb (b) (z) (by omega) (by omega) (by omega) (by omega)
  obtain ⟨m10, m11⟩ := mul_sb (c) (y) (by omega) (by omega) (by omega) (by omega)
  obtain ⟨m20, m21⟩ := mul_sb (c) (x) (by omega) (by omega) (by omega) (by omega)
  obtain ⟨m30, m31⟩ := mul_sb (a) (z) (by omega) (by omega) (by omega) (by omega)
  obtain ⟨m40, m41⟩ := mul_sb (a) (y) (by omega) (by omega) (by omega) (by omega)
  obtain ⟨m50, m51⟩ := mul_sb (b) (x) (by omega) (by omega) (by omega) (by omega)
  go_enter Try.func43, Try.ntmps43
  go_wp2_with fail
  all_goals exact bodyPost_ret (v := .agg #[.int .i64 (b * z - c * y), .int .i64 (c * x - a * z), .int .i64 (a * y - b * x)]) (by first | (simp [results, Try.results43, go_sem]; done) | (simp (maxDischargeDepth := 7) [results, Try.results43, go_sem, *]; done)) rfl ⟨rfl, (by repeat (first | with_reducible exact Kept.refl _ | with_reducible assumption | with_reducible refine Kept.setCell ?_ (by first | (simp; done) | (simp; omega) | omega) _ | with_reducible refine Kept.alloc ?_ _ | with_reducible refine Kept.drewN ?_ _ | with_reducible refine Kept.drew ?_ | with_reducible refine Kept.trans ?_ (by with_reducible assumption) | with_reducible refine Kept.dr ?_ (by with_reducible assumption)))⟩
end Go.Proofs.Ytoilodcadngcoaa
