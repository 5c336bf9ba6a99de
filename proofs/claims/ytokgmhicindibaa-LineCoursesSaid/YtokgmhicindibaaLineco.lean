/-
  Own contracts: package line and the document's answers of layer 11: the law courses.
-/
import Derived.Test.YtokgmhicindibaaLine0r
import Derived.Test.YtokgmhicindibaaLincr
import Derived.WalkKit
import Derived.ProofKit
import Derived.OpenShut
import Derived.WalkLawsBesides
import Derived.WalkSpells
import Derived.Lib.Hide
import Derived.Deep.DeepCutAuto
import Derived.Deep.CutBlock
import Derived.Deep.QuietTactic
import Derived.BigQuiet
import Derived.Handy
import Derived.StillTailTactics
import Derived.IntWalk
import Derived.LoopN
import Derived.Deep.RegionHeld3
namespace Go.Proofs.Ytokgmhicindibaa
open Go.ChangeShapes Go.WideShapes Go.ChangeAt Go.RowKit
set_option linter.unusedVariables false
set_option linter.unusedSimpArgs false
set_option maxHeartbeats 4000000 in
set_option maxRecDepth 100000 in
theorem law_courses (aX aY bX bY : Int) (aX_0 : -9223372036854775808 ≤ aX) (aX_1 : aX ≤ 9223372036854775807) (aY_0 : -9223372036854775808 ≤ aY) (aY_1 : aY ≤ 9223372036854775807) (bX_0 : -9223372036854775808 ≤ bX) (bX_1 : bX ≤ 9223372036854775807) (bY_0 : -9223372036854775808 ≤ bY) (bY_1 : bY ≤ 9223372036854775807) (w : World) : Calls Try.prog 5 #[.agg #[.int .i64 aX, .int .i64 aY], .agg #[.int .i64 bX, .int .i64 bY]] w fun e w' => e = .returned (.bool true) ∧ Kept w w' := by
  by_cases hE : csE aX aY bX bY = 0
  · have C1 := fun w => course_w aX aY bX bY w
    have C2 := fun w => ref_course_w aX aY bX bY w
    have C3 := fun w => course_w bX bY aX aY w
    obtain ⟨cb0, cb1⟩ := cs_back aX aY bX bY
    rw [cb0] at C3
    obtain ⟨vb0, vb1⟩ := csV_bd aX aY bX bY
    rw [cb1 hE] at C3
    rw [hE] at C1 C2 C3
    generalize csV aX aY bX bY = C at *
    have OP := fun w => opp_w C (by omega) (by omega) w
    have ob := trn_bd C 64800000
    generalize trn C 64800000 = O at *
    obtain ⟨ob0, ob1⟩ := ob
    have HOP := Lib.hid OP
    clear OP
    have D1 := fun w => dist_t aX aY bX bY w
    have D2 := fun w => ref_dist_t aX aY bX bY w
    have D3 := fun w => dist_t bX bY aX aY w
    rw [dsT_sym] at D3
    obtain ⟨db0, db1⟩ := dsT_bd aX aY bX bY
    generalize dsT aX aY bX bY = DD at *
    clear cb0 cb1
    have HC1 := Lib.hid C1
    have HC2 := Lib.hid C2
    have HC3 := Lib.hid C3
    have HD1 := Lib.hid D1
    have HD2 := Lib.hid D2
    have HD3 := Lib.hid D3
    clear C1 C2 C3 D1 D2 D3
    go_enter Try.func5, Try.ntmps5
    go_wp2_with fail
    with_reducible refine (awake_w _).mono ?_
    rintro e w1 ⟨rfl, hk1⟩
    refine kuz (b := w.heap.size) hk1 (by first | (simp; done) | (simp; omega) | omega) ?_
    intro ha hb hz1_0 hn1_0 hm1_0
    have hf1_0_0 : w1.cell? ⟨w.heap.size, 0, none⟩ = some (.int .i64 aX) := (ha _).trans (by first | with_reducible assumption | (simp (maxDischargeDepth := 7) [go_sem]; done) | (simp (maxDischargeDepth := 7) [go_sem, *]; done))
    have hf1_0_1 : w1.cell? ⟨w.heap.size, 1, none⟩ = some (.int .i64 aY) := (ha _).trans (by first | with_reducible assumption | (simp (maxDischargeDepth := 7) [go_sem]; done) | (simp (maxDischargeDepth := 7) [go_sem, *]; done))
    try have hg1_0 : ∀ o, w1.frozen? ⟨w.heap.size, o, none⟩ = false := by intro o; rw [hb]; first | (simp (maxDischargeDepth := 7) [go_sem]; done) | (simp (maxDischargeDepth := 7) [go_sem, *]; done)
    clear ha hb
    refine kuz (b := w.heap.size + 1) hk1 (by first | (simp; done) | (simp; omega) | omega) ?_
    intro ha hb hz1_1 hn1_1 hm1_1
    have hf1_1_0 : w1.cell? ⟨w.heap.size + 1, 0, none⟩ = some (.int .i64 bX) := (ha _).trans (by first | with_reducible assumption | (simp (maxDischargeDepth := 7) [go_sem]; done) | (simp (maxDischargeDepth := 7) [go_sem, *]; done))
    have hf1_1_1 : w1.cell? ⟨w.heap.size + 1, 1, none⟩ = some (.int .i64 bY) := (ha _).trans (by first | with_reducible assumption | (simp (maxDischargeDepth := 7) [go_sem]; done) | (simp (maxDischargeDepth := 7) [go_sem, *]; done))
    try have hg1_1 : ∀ o, w1.frozen? ⟨w.heap.size + 1, o, none⟩ = false := by intro o; rw [hb]; first | (simp (maxDischargeDepth := 7) [go_sem]; done) | (simp (maxDischargeDepth := 7) [go_sem, *]; done)
    clear ha hb
    go_wp2_with fail
    with_reducible refine (HC1.out _).mono ?_
    rintro e w2 ⟨rfl, hk2⟩
    refine kuz (b := w.heap.size) hk2 (by first | (simp; done) | (simp; omega) | omega) ?_
    intro ha hb hz2_0 hn2_0 hm2_0
    have hf2_0_0 : w2.cell? ⟨w.heap.size, 0, none⟩ = some (.int .i64 aX) := (ha _).trans (by first | with_reducible assumption | (simp (maxDischargeDepth := 7) [go_sem]; done) | (simp (maxDischargeDepth := 7) [go_sem, *]; done))
    have hf2_0_1 : w2.cell? ⟨w.heap.size, 1, none⟩ = some (.int .i64 aY) := (ha _).trans (by first | with_reducible assumption | (simp (maxDischargeDepth := 7) [go_sem]; done) | (simp (maxDischargeDepth := 7) [go_sem, *]; done))
    try have hg2_0 : ∀ o, w2.frozen? ⟨w.heap.size, o, none⟩ = false := by intro o; rw [hb]; first | (simp (maxDischargeDepth := 7) [go_sem]; done) | (simp (maxDischargeDepth := 7) [go_sem, *]; done)
    clear ha hb
    refine kuz (b := w.heap.size + 1) hk2 (by first | (simp; done) | (simp; omega) | omega) ?_
    intro ha hb hz2_1 hn2_1 hm2_1
    have hf2_1_0 : w2.cell? ⟨w.heap.size + 1, 0, none⟩ = some (.int .i64 bX) := (ha _).trans (by first | with_reducible assumption | (simp (maxDischargeDepth := 7) [go_sem]; done) | (simp (maxDischargeDepth := 7) [go_sem, *]; done))
    have hf2_1_1 : w2.cell? ⟨w.heap.size + 1, 1, none⟩ = some (.int .i64 bY) := (ha _).trans (by first | with_reducible assumption | (simp (maxDischargeDepth := 7) [go_sem]; done) | (simp (maxDischargeDepth := 7) [go_sem, *]; done))
    try have hg2_1 : ∀ o, w2.frozen? ⟨w.heap.size + 1, o, none⟩ = false := by intro o; rw [hb]; first | (simp (maxDischargeDepth := 7) [go_sem]; done) | (simp (maxDischargeDepth := 7) [go_sem, *]; done)
    clear ha hb
    (try clear hf1_0_0); (try clear hf1_0_1); (try clear hf1_1_0); (try clear hf1_1_1); (try clear hg1_0); (try clear hg1_1); (try clear hz1_1)
    go_wp2_with fail
    with_reducible refine (HC2.out _).mono ?_
    rintro e w3 ⟨rfl, hk3⟩
    refine kuz (b := w.heap.size) hk3 (by first | (simp; done) | (simp; omega) | omega) ?_
    intro ha hb hz3_0 hn3_0 hm3_0
    have hf3_0_0 : w3.cell? ⟨w.heap.size, 0, none⟩ = some (.int .i64 aX) := (ha _).trans (by first | with_reducible assumption | (simp (maxDischargeDepth := 7) [go_sem]; done) | (simp (maxDischargeDepth := 7) [go_sem, *]; done))
    have hf3_0_1 : w3.cell? ⟨w.heap.size, 1, none⟩ = some (.int .i64 aY) := (ha _).trans (by first | with_reducible assumption | (simp (maxDischargeDepth := 7) [go_sem]; done) | (simp (maxDischargeDepth := 7) [go_sem, *]; done))
    try have hg3_0 : ∀ o, w3.frozen? ⟨w.heap.size, o, none⟩ = false := by intro o; rw [hb]; first | (simp (maxDischargeDepth := 7) [go_sem]; done) | (simp (maxDischargeDepth := 7) [go_sem, *]; done)
    clear ha hb
    refine kuz (b := w.heap.size + 1) hk3 (by first | (simp; done) | (simp; omega) | omega) ?_
    intro ha hb hz3_1 hn3_1 hm3_1
    have hf3_1_0 : w3.cell? ⟨w.heap.size + 1, 0, none⟩ = some (.int .i64 bX) := (ha _).trans (by first | with_reducible assumption | (simp (maxDischargeDepth := 7) [go_sem]; done) | (simp (maxDischargeDepth := 7) [go_sem, *]; done))
    have hf3_1_1 : w3.cell? ⟨w.heap.size + 1, 1, none⟩ = some (.int .i64 bY) := (ha _).trans (by first | with_reducible assumption | (simp (maxDischargeDepth := 7) [go_sem]; done) | (simp (maxDischargeDepth := 7) [go_sem, *]; done))
    try have hg3_1 : ∀ o, w3.frozen? ⟨w.heap.size + 1, o, none⟩ = false := by intro o; rw [hb]; first | (simp (maxDischargeDepth := 7) [go_sem]; done) | (simp (maxDischargeDepth := 7) [go_sem, *]; done)
    clear ha hb
    (try clear hf2_0_0); (try clear hf2_0_1); (try clear hf2_1_0); (try clear hf2_1_1); (try clear hg2_0); (try clear hg2_1); (try clear hz2_1)
    go_wp2_with fail
    with_reducible refine (HC3.out _).mono ?_
    rintro e w4 ⟨rfl, hk4⟩
    refine kuz (b := w.heap.size) hk4 (by first | (simp; done) | (simp; omega) | omega) ?_
    intro ha hb hz4_0 hn4_0 hm4_0
    have hf4_0_0 : w4.cell? ⟨w.heap.size, 0, none⟩ = some (.int .i64 aX) := (ha _).trans (by first | with_reducible assumption | (simp (maxDischargeDepth := 7) [go_sem]; done) | (simp (maxDischargeDepth := 7) [go_sem, *]; done))
    have hf4_0_1 : w4.cell? ⟨w.heap.size, 1, none⟩ = some (.int .i64 aY) := (ha _).trans (by first | with_reducible assumption | (simp (maxDischargeDepth := 7) [go_sem]; done) | (simp (maxDischargeDepth := 7) [go_sem, *]; done))
    try have hg4_0 : ∀ o, w4.frozen? ⟨w.heap.size, o, none⟩ = false := by intro o; rw [hb]; first | (simp (maxDischargeDepth := 7) [go_sem]; done) | (simp (maxDischargeDepth := 7) [go_sem, *]; done)
    clear ha hb
    refine kuz (b := w.heap.size + 1) hk4 (by first | (simp; done) | (simp; omega) | omega) ?_
    intro ha hb hz4_1 hn4_1 hm4_1
    have hf4_1_0 : w4.cell? ⟨w.heap.size + 1, 0, none⟩ = some (.int .i64 bX) := (ha _).trans (by first | with_reducible assumption | (simp (maxDischargeDepth := 7) [go_sem]; done) | (simp (maxDischargeDepth := 7) [go_sem, *]; done))
    have hf4_1_1 : w4.cell? ⟨w.heap.size + 1, 1, none⟩ = some (.int .i64 bY) := (ha _).trans (by first | with_reducible assumption | (simp (maxDischargeDepth := 7) [go_sem]; done) | (simp (maxDischargeDepth := 7) [go_sem, *]; done))
    try have hg4_1 : ∀ o, w4.frozen? ⟨w.heap.size + 1, o, none⟩ = false := by intro o; rw [hb]; first | (simp (maxDischargeDepth := 7) [go_sem]; done) | (simp (maxDischargeDepth := 7) [go_sem, *]; done)
    clear ha hb
    (try clear hf3_0_0); (try clear hf3_0_1); (try clear hf3_1_0); (try clear hf3_1_1); (try clear hg3_0); (try clear hg3_1); (try clear hz3_1)
    go_wp2_with fail
    go_region_held3 (fun W => W.cell? ⟨w.heap.size, 0, none⟩ = some (.int .i64 aX) ∧ W.cell? ⟨w.heap.size, 1, none⟩ = some (.int .i64 aY) ∧ W.cell? ⟨w.heap.size + 1, 0, none⟩ = some (.int .i64 bX) ∧ W.cell? ⟨w.heap.size + 1, 1, none⟩ = some (.int .i64 bY)) (first | (go_keep; done) | (simp (maxDischargeDepth := 9) [*, World.cell?_alloc_some, World.cell?_setCell_far]; done) | (simp (maxDischargeDepth := 9) [go_sem, *]; done)) (first | (go_at_call 21; (first | with_reducible refine (HD1.out _).mono ?_); rintro e w' ⟨rfl, hk⟩; have hz := hk.size; (try (refine kuse (b := w.heap.size) hk (by first | (simp; done) | (simp; omega) | omega) ?_; intro hq0 hg0; have hy0 : w.heap.size < w'.heap.size := (by (try simp at hz); omega); have hn0 : ¬ w.heap.size = w'.heap.size := (by omega); have hm0 : ¬ w.heap.size = w'.heap.size + 1 := (by omega); refine withF (p := w'.cell? ⟨w.heap.size, 0, none⟩ = some (.int .i64 aX)) (by first | (rw [hq0]; with_reducible assumption) | (simp (maxDischargeDepth := 7) [go_sem, hq0]; done) | (simp (maxDischargeDepth := 7) [go_sem, hq0, *]; done) | fail) ?_; intro ff00; refine withF (p := w'.cell? ⟨w.heap.size, 1, none⟩ = some (.int .i64 aY)) (by first | (rw [hq0]; with_reducible assumption) | (simp (maxDischargeDepth := 7) [go_sem, hq0]; done) | (simp (maxDischargeDepth := 7) [go_sem, hq0, *]; done) | fail) ?_; intro ff01)); (try (refine kuse (b := w.heap.size + 1) hk (by first | (simp; done) | (simp; omega) | omega) ?_; intro hq1 hg1; have hy1 : w.heap.size + 1 < w'.heap.size := (by (try simp at hz); omega); have hn1 : ¬ w.heap.size + 1 = w'.heap.size := (by omega); have hm1 : ¬ w.heap.size + 1 = w'.heap.size + 1 := (by omega); refine withF (p := w'.cell? ⟨w.heap.size + 1, 0, none⟩ = some (.int .i64 bX)) (by first | (rw [hq1]; with_reducible assumption) | (simp (maxDischargeDepth := 7) [go_sem, hq1]; done) | (simp (maxDischargeDepth := 7) [go_sem, hq1, *]; done) | fail) ?_; intro ff10; refine withF (p := w'.cell? ⟨w.heap.size + 1, 1, none⟩ = some (.int .i64 bY)) (by first | (rw [hq1]; with_reducible assumption) | (simp (maxDischargeDepth := 7) [go_sem, hq1]; done) | (simp (maxDischargeDepth := 7) [go_sem, hq1, *]; done) | fail) ?_; intro ff11))) | (go_at_call 22; (first | with_reducible refine (HD2.out _).mono ?_); rintro e w' ⟨rfl, hk⟩; have hz := hk.size; (try (refine kuse (b := w.heap.size) hk (by first | (simp; done) | (simp; omega) | omega) ?_; intro hq0 hg0; have hy0 : w.heap.size < w'.heap.size := (by (try simp at hz); omega); have hn0 : ¬ w.heap.size = w'.heap.size := (by omega); have hm0 : ¬ w.heap.size = w'.heap.size + 1 := (by omega); refine withF (p := w'.cell? ⟨w.heap.size, 0, none⟩ = some (.int .i64 aX)) (by first | (rw [hq0]; with_reducible assumption) | (simp (maxDischargeDepth := 7) [go_sem, hq0]; done) | (simp (maxDischargeDepth := 7) [go_sem, hq0, *]; done) | fail) ?_; intro ff00; refine withF (p := w'.cell? ⟨w.heap.size, 1, none⟩ = some (.int .i64 aY)) (by first | (rw [hq0]; with_reducible assumption) | (simp (maxDischargeDepth := 7) [go_sem, hq0]; done) | (simp (maxDischargeDepth := 7) [go_sem, hq0, *]; done) | fail) ?_; intro ff01)); (try (refine kuse (b := w.heap.size + 1) hk (by first | (simp; done) | (simp; omega) | omega) ?_; intro hq1 hg1; have hy1 : w.heap.size + 1 < w'.heap.size := (by (try simp at hz); omega); have hn1 : ¬ w.heap.size + 1 = w'.heap.size := (by omega); have hm1 : ¬ w.heap.size + 1 = w'.heap.size + 1 := (by omega); refine withF (p := w'.cell? ⟨w.heap.size + 1, 0, none⟩ = some (.int .i64 bX)) (by first | (rw [hq1]; with_reducible assumption) | (simp (maxDischargeDepth := 7) [go_sem, hq1]; done) | (simp (maxDischargeDepth := 7) [go_sem, hq1, *]; done) | fail) ?_; intro ff10; refine withF (p := w'.cell? ⟨w.heap.size + 1, 1, none⟩ = some (.int .i64 bY)) (by first | (rw [hq1]; with_reducible assumption) | (simp (maxDischargeDepth := 7) [go_sem, hq1]; done) | (simp (maxDischargeDepth := 7) [go_sem, hq1, *]; done) | fail) ?_; intro ff11))) | (go_at_call 21; (first | with_reducible refine (HD3.out _).mono ?_); rintro e w' ⟨rfl, hk⟩; have hz := hk.size; (try (refine kuse (b := w.heap.size) hk (by first | (simp; done) | (simp; omega) | omega) ?_; intro hq0 hg0; have hy0 : w.heap.size < w'.heap.size := (by (try simp at hz); omega); have hn0 : ¬ w.heap.size = w'.heap.size := (by omega); have hm0 : ¬ w.heap.size = w'.heap.size + 1 := (by omega); refine withF (p := w'.cell? ⟨w.heap.size, 0, none⟩ = some (.int .i64 aX)) (by first | (rw [hq0]; with_reducible assumption) | (simp (maxDischargeDepth := 7) [go_sem, hq0]; done) | (simp (maxDischargeDepth := 7) [go_sem, hq0, *]; done) | fail) ?_; intro ff00; refine withF (p := w'.cell? ⟨w.heap.size, 1, none⟩ = some (.int .i64 aY)) (by first | (rw [hq0]; with_reducible assumption) | (simp (maxDischargeDepth := 7) [go_sem, hq0]; done) | (simp (maxDischargeDepth := 7) [go_sem, hq0, *]; done) | fail) ?_; intro ff01)); (try (refine kuse (b := w.heap.size + 1) hk (by first | (simp; done) | (simp; omega) | omega) ?_; intro hq1 hg1; have hy1 : w.heap.size + 1 < w'.heap.size := (by (try simp at hz); omega); have hn1 : ¬ w.heap.size + 1 = w'.heap.size := (by omega); have hm1 : ¬ w.heap.size + 1 = w'.heap.size + 1 := (by omega); refine withF (p := w'.cell? ⟨w.heap.size + 1, 0, none⟩ = some (.int .i64 bX)) (by first | (rw [hq1]; with_reducible assumption) | (simp (maxDischargeDepth := 7) [go_sem, hq1]; done) | (simp (maxDischargeDepth := 7) [go_sem, hq1, *]; done) | fail) ?_; intro ff10; refine withF (p := w'.cell? ⟨w.heap.size + 1, 1, none⟩ = some (.int .i64 bY)) (by first | (rw [hq1]; with_reducible assumption) | (simp (maxDischargeDepth := 7) [go_sem, hq1]; done) | (simp (maxDischargeDepth := 7) [go_sem, hq1, *]; done) | fail) ?_; intro ff11))))
    all_goals go_wp2_with fail
    with_reducible refine (HOP.out _).mono ?_
    rintro e w' ⟨rfl, rfl⟩
    all_goals go_wp2_with fail
    all_goals first | (go_ret; refine ⟨?_, (by repeat (first | with_reducible exact Kept.refl _ | with_reducible assumption | with_reducible refine Kept.setCell ?_ (by first | (simp; done) | (simp; omega) | omega) _ | with_reducible refine Kept.alloc ?_ _ | with_reducible refine Kept.drewN ?_ _ | with_reducible refine Kept.drew ?_ | with_reducible refine Kept.trans ?_ (by with_reducible assumption) | with_reducible refine Kept.dr ?_ (by with_reducible assumption)))⟩; first | rfl | (refine retb ?_; simp; done) | (refine retb ?_; simp; omega)) | (exfalso; omega)
  · have C1 := fun w => course_w aX aY bX bY w
    have C2 := fun w => ref_course_w aX aY bX bY w
    have C3 := fun w => course_w bX bY aX aY w
    obtain ⟨cb0, cb1⟩ := cs_back aX aY bX bY
    rw [cb0] at C3
    obtain ⟨vb0, vb1⟩ := csV_bd aX aY bX bY
    rw [csV_no (by rw [cb0]; exact hE)] at C3
    rw [csV_no hE] at C1 C2
    generalize csE aX aY bX bY = E at *
    have D1 := fun w => dist_t aX aY bX bY w
    have D2 := fun w => ref_dist_t aX aY bX bY w
    have D3 := fun w => dist_t bX bY aX aY w
    rw [dsT_sym] at D3
    obtain ⟨db0, db1⟩ := dsT_bd aX aY bX bY
    generalize dsT aX aY bX bY = DD at *
    clear cb0 cb1
    have HC1 := Lib.hid C1
    have HC2 := Lib.hid C2
    have HC3 := Lib.hid C3
    have HD1 := Lib.hid D1
    have HD2 := Lib.hid D2
    have HD3 := Lib.hid D3
    clear C1 C2 C3 D1 D2 D3
    go_enter Try.func5, Try.ntmps5
    go_wp2_with fail
    with_reducible refine (awake_w _).mono ?_
    rintro e w1 ⟨rfl, hk1⟩
    refine kuz (b := w.heap.size) hk1 (by first | (simp; done) | (simp; omega) | omega) ?_
    intro ha hb hz1_0 hn1_0 hm1_0
    have hf1_0_0 : w1.cell? ⟨w.heap.size, 0, none⟩ = some (.int .i64 aX) := (ha _).trans (by first | with_reducible assumption | (simp (maxDischargeDepth := 7) [go_sem]; done) | (simp (maxDischargeDepth := 7) [go_sem, *]; done))
    have hf1_0_1 : w1.cell? ⟨w.heap.size, 1, none⟩ = some (.int .i64 aY) := (ha _).trans (by first | with_reducible assumption | (simp (maxDischargeDepth := 7) [go_sem]; done) | (simp (maxDischargeDepth := 7) [go_sem, *]; done))
    try have hg1_0 : ∀ o, w1.frozen? ⟨w.heap.size, o, none⟩ = false := by intro o; rw [hb]; first | (simp (maxDischargeDepth := 7) [go_sem]; done) | (simp (maxDischargeDepth := 7) [go_sem, *]; done)
    clear ha hb
    refine kuz (b := w.heap.size + 1) hk1 (by first | (simp; done) | (simp; omega) | omega) ?_
    intro ha hb hz1_1 hn1_1 hm1_1
    have hf1_1_0 : w1.cell? ⟨w.heap.size + 1, 0, none⟩ = some (.int .i64 bX) := (ha _).trans (by first | with_reducible assumption | (simp (maxDischargeDepth := 7) [go_sem]; done) | (simp (maxDischargeDepth := 7) [go_sem, *]; done))
    have hf1_1_1 : w1.cell? ⟨w.heap.size + 1, 1, none⟩ = some (.int .i64 bY) := (ha _).trans (by first | with_reducible assumption | (simp (maxDischargeDepth := 7) [go_sem]; done) | (simp (maxDischargeDepth := 7) [go_sem, *]; done))
    try have hg1_1 : ∀ o, w1.frozen? ⟨w.heap.size + 1, o, none⟩ = false := by intro o; rw [hb]; first | (simp (maxDischargeDepth := 7) [go_sem]; done) | (simp (maxDischargeDepth := 7) [go_sem, *]; done)
    clear ha hb
    go_wp2_with fail
    with_reducible refine (HC1.out _).mono ?_
    rintro e w2 ⟨rfl, hk2⟩
    refine kuz (b := w.heap.size) hk2 (by first | (simp; done) | (simp; omega) | omega) ?_
    intro ha hb hz2_0 hn2_0 hm2_0
    have hf2_0_0 : w2.cell? ⟨w.heap.size, 0, none⟩ = some (.int .i64 aX) := (ha _).trans (by first | with_reducible assumption | (simp (maxDischargeDepth := 7) [go_sem]; done) | (simp (maxDischargeDepth := 7) [go_sem, *]; done))
    have hf2_0_1 : w2.cell? ⟨w.heap.size, 1, none⟩ = some (.int .i64 aY) := (ha _).trans (by first | with_reducible assumption | (simp (maxDischargeDepth := 7) [go_sem]; done) | (simp (maxDischargeDepth := 7) [go_sem, *]; done))
    try have hg2_0 : ∀ o, w2.frozen? ⟨w.heap.size, o, none⟩ = false := by intro o; rw [hb]; first | (simp (maxDischargeDepth := 7) [go_sem]; done) | (simp (maxDischargeDepth := 7) [go_sem, *]; done)
    clear ha hb
    refine kuz (b := w.heap.size + 1) hk2 (by first | (simp; done) | (simp; omega) | omega) ?_
    intro ha hb hz2_1 hn2_1 hm2_1
    have hf2_1_0 : w2.cell? ⟨w.heap.size + 1, 0, none⟩ = some (.int .i64 bX) := (ha _).trans (by first | with_reducible assumption | (simp (maxDischargeDepth := 7) [go_sem]; done) | (simp (maxDischargeDepth := 7) [go_sem, *]; done))
    have hf2_1_1 : w2.cell? ⟨w.heap.size + 1, 1, none⟩ = some (.int .i64 bY) := (ha _).trans (by first | with_reducible assumption | (simp (maxDischargeDepth := 7) [go_sem]; done) | (simp (maxDischargeDepth := 7) [go_sem, *]; done))
    try have hg2_1 : ∀ o, w2.frozen? ⟨w.heap.size + 1, o, none⟩ = false := by intro o; rw [hb]; first | (simp (maxDischargeDepth := 7) [go_sem]; done) | (simp (maxDischargeDepth := 7) [go_sem, *]; done)
    clear ha hb
    (try clear hf1_0_0); (try clear hf1_0_1); (try clear hf1_1_0); (try clear hf1_1_1); (try clear hg1_0); (try clear hg1_1); (try clear hz1_1)
    go_wp2_with fail
    with_reducible refine (HC2.out _).mono ?_
    rintro e w3 ⟨rfl, hk3⟩
    refine kuz (b := w.heap.size) hk3 (by first | (simp; done) | (simp; omega) | omega) ?_
    intro ha hb hz3_0 hn3_0 hm3_0
    have hf3_0_0 : w3.cell? ⟨w.heap.size, 0, none⟩ = some (.int .i64 aX) := (ha _).trans (by first | with_reducible assumption | (simp (maxDischargeDepth := 7) [go_sem]; done) | (simp (maxDischargeDepth := 7) [go_sem, *]; done))
    have hf3_0_1 : w3.cell? ⟨w.heap.size, 1, none⟩ = some (.int .i64 aY) := (ha _).trans (by first | with_reducible assumption | (simp (maxDischargeDepth := 7) [go_sem]; done) | (simp (maxDischargeDepth := 7) [go_sem, *]; done))
    try have hg3_0 : ∀ o, w3.frozen? ⟨w.heap.size, o, none⟩ = false := by intro o; rw [hb]; first | (simp (maxDischargeDepth := 7) [go_sem]; done) | (simp (maxDischargeDepth := 7) [go_sem, *]; done)
    clear ha hb
    refine kuz (b := w.heap.size + 1) hk3 (by first | (simp; done) | (simp; omega) | omega) ?_
    intro ha hb hz3_1 hn3_1 hm3_1
    have hf3_1_0 : w3.cell? ⟨w.heap.size + 1, 0, none⟩ = some (.int .i64 bX) := (ha _).trans (by first | with_reducible assumption | (simp (maxDischargeDepth := 7) [go_sem]; done) | (simp (maxDischargeDepth := 7) [go_sem, *]; done))
    have hf3_1_1 : w3.cell? ⟨w.heap.size + 1, 1, none⟩ = some (.int .i64 bY) := (ha _).trans (by first | with_reducible assumption | (simp (maxDischargeDepth := 7) [go_sem]; done) | (simp (maxDischargeDepth := 7) [go_sem, *]; done))
    try have hg3_1 : ∀ o, w3.frozen? ⟨w.heap.size + 1, o, none⟩ = false := by intro o; rw [hb]; first | (simp (maxDischargeDepth := 7) [go_sem]; done) | (simp (maxDischargeDepth := 7) [go_sem, *]; done)
    clear ha hb
    (try clear hf2_0_0); (try clear hf2_0_1); (try clear hf2_1_0); (try clear hf2_1_1); (try clear hg2_0); (try clear hg2_1); (try clear hz2_1)
    go_wp2_with fail
    with_reducible refine (HC3.out _).mono ?_
    rintro e w4 ⟨rfl, hk4⟩
    refine kuz (b := w.heap.size) hk4 (by first | (simp; done) | (simp; omega) | omega) ?_
    intro ha hb hz4_0 hn4_0 hm4_0
    have hf4_0_0 : w4.cell? ⟨w.heap.size, 0, none⟩ = some (.int .i64 aX) := (ha _).trans (by first | with_reducible assumption | (simp (maxDischargeDepth := 7) [go_sem]; done) | (simp (maxDischargeDepth := 7) [go_sem, *]; done))
    have hf4_0_1 : w4.cell? ⟨w.heap.size, 1, none⟩ = some (.int .i64 aY) := (ha _).trans (by first | with_reducible assumption | (simp (maxDischargeDepth := 7) [go_sem]; done) | (simp (maxDischargeDepth := 7) [go_sem, *]; done))
    try have hg4_0 : ∀ o, w4.frozen? ⟨w.heap.size, o, none⟩ = false := by intro o; rw [hb]; first | (simp (maxDischargeDepth := 7) [go_sem]; done) | (simp (maxDischargeDepth := 7) [go_sem, *]; done)
    clear ha hb
    refine kuz (b := w.heap.size + 1) hk4 (by first | (simp; done) | (simp; omega) | omega) ?_
    intro ha hb hz4_1 hn4_1 hm4_1
    have hf4_1_0 : w4.cell? ⟨w.heap.size + 1, 0, none⟩ = some (.int .i64 bX) := (ha _).trans (by first | with_reducible assumption | (simp (maxDischargeDepth := 7) [go_sem]; done) | (simp (maxDischargeDepth := 7) [go_sem, *]; done))
    have hf4_1_1 : w4.cell? ⟨w.heap.size + 1, 1, none⟩ = some (.int .i64 bY) := (ha _).trans (by first | with_reducible assumption | (simp (maxDischargeDepth := 7) [go_sem]; done) | (simp (maxDischargeDepth := 7) [go_sem, *]; done))
    try have hg4_1 : ∀ o, w4.frozen? ⟨w.heap.size + 1, o, none⟩ = false := by intro o; rw [hb]; first | (simp (maxDischargeDepth := 7) [go_sem]; done) | (simp (maxDischargeDepth := 7) [go_sem, *]; done)
    clear ha hb
    (try clear hf3_0_0); (try clear hf3_0_1); (try clear hf3_1_0); (try clear hf3_1_1); (try clear hg3_0); (try clear hg3_1); (try clear hz3_1)
    go_wp2_with fail
    go_region_held3 (fun W => W.cell? ⟨w.heap.size, 0, none⟩ = some (.int .i64 aX) ∧ W.cell? ⟨w.heap.size, 1, none⟩ = some (.int .i64 aY) ∧ W.cell? ⟨w.heap.size + 1, 0, none⟩ = some (.int .i64 bX) ∧ W.cell? ⟨w.heap.size + 1, 1, none⟩ = some (.int .i64 bY)) (first | (go_keep; done) | (simp (maxDischargeDepth := 9) [*, World.cell?_alloc_some, World.cell?_setCell_far]; done) | (simp (maxDischargeDepth := 9) [go_sem, *]; done)) (first | (go_at_call 21; (first | with_reducible refine (HD1.out _).mono ?_); rintro e w' ⟨rfl, hk⟩; have hz := hk.size; (try (refine kuse (b := w.heap.size) hk (by first | (simp; done) | (simp; omega) | omega) ?_; intro hq0 hg0; have hy0 : w.heap.size < w'.heap.size := (by (try simp at hz); omega); have hn0 : ¬ w.heap.size = w'.heap.size := (by omega); have hm0 : ¬ w.heap.size = w'.heap.size + 1 := (by omega); refine withF (p := w'.cell? ⟨w.heap.size, 0, none⟩ = some (.int .i64 aX)) (by first | (rw [hq0]; with_reducible assumption) | (simp (maxDischargeDepth := 7) [go_sem, hq0]; done) | (simp (maxDischargeDepth := 7) [go_sem, hq0, *]; done) | fail) ?_; intro ff00; refine withF (p := w'.cell? ⟨w.heap.size, 1, none⟩ = some (.int .i64 aY)) (by first | (rw [hq0]; with_reducible assumption) | (simp (maxDischargeDepth := 7) [go_sem, hq0]; done) | (simp (maxDischargeDepth := 7) [go_sem, hq0, *]; done) | fail) ?_; intro ff01)); (try (refine kuse (b := w.heap.size + 1) hk (by first | (simp; done) | (simp; omega) | omega) ?_; intro hq1 hg1; have hy1 : w.heap.size + 1 < w'.heap.size := (by (try simp at hz); omega); have hn1 : ¬ w.heap.size + 1 = w'.heap.size := (by omega); have hm1 : ¬ w.heap.size + 1 = w'.heap.size + 1 := (by omega); refine withF (p := w'.cell? ⟨w.heap.size + 1, 0, none⟩ = some (.int .i64 bX)) (by first | (rw [hq1]; with_reducible assumption) | (simp (maxDischargeDepth := 7) [go_sem, hq1]; done) | (simp (maxDischargeDepth := 7) [go_sem, hq1, *]; done) | fail) ?_; intro ff10; refine withF (p := w'.cell? ⟨w.heap.size + 1, 1, none⟩ = some (.int .i64 bY)) (by first | (rw [hq1]; with_reducible assumption) | (simp (maxDischargeDepth := 7) [go_sem, hq1]; done) | (simp (maxDischargeDepth := 7) [go_sem, hq1, *]; done) | fail) ?_; intro ff11))) | (go_at_call 22; (first | with_reducible refine (HD2.out _).mono ?_); rintro e w' ⟨rfl, hk⟩; have hz := hk.size; (try (refine kuse (b := w.heap.size) hk (by first | (simp; done) | (simp; omega) | omega) ?_; intro hq0 hg0; have hy0 : w.heap.size < w'.heap.size := (by (try simp at hz); omega); have hn0 : ¬ w.heap.size = w'.heap.size := (by omega); have hm0 : ¬ w.heap.size = w'.heap.size + 1 := (by omega); refine withF (p := w'.cell? ⟨w.heap.size, 0, none⟩ = some (.int .i64 aX)) (by first | (rw [hq0]; with_reducible assumption) | (simp (maxDischargeDepth := 7) [go_sem, hq0]; done) | (simp (maxDischargeDepth := 7) [go_sem, hq0, *]; done) | fail) ?_; intro ff00; refine withF (p := w'.cell? ⟨w.heap.size, 1, none⟩ = some (.int .i64 aY)) (by first | (rw [hq0]; with_reducible assumption) | (simp (maxDischargeDepth := 7) [go_sem, hq0]; done) | (simp (maxDischargeDepth := 7) [go_sem, hq0, *]; done) | fail) ?_; intro ff01)); (try (refine kuse (b := w.heap.size + 1) hk (by first | (simp; done) | (simp; omega) | omega) ?_; intro hq1 hg1; have hy1 : w.heap.size + 1 < w'.heap.size := (by (try simp at hz); omega); have hn1 : ¬ w.heap.size + 1 = w'.heap.size := (by omega); have hm1 : ¬ w.heap.size + 1 = w'.heap.size + 1 := (by omega); refine withF (p := w'.cell? ⟨w.heap.size + 1, 0, none⟩ = some (.int .i64 bX)) (by first | (rw [hq1]; with_reducible assumption) | (simp (maxDischargeDepth := 7) [go_sem, hq1]; done) | (simp (maxDischargeDepth := 7) [go_sem, hq1, *]; done) | fail) ?_; intro ff10; refine withF (p := w'.cell? ⟨w.heap.size + 1, 1, none⟩ = some (.int .i64 bY)) (by first | (rw [hq1]; with_reducible assumption) | (simp (maxDischargeDepth := 7) [go_sem, hq1]; done) | (simp (maxDischargeDepth := 7) [go_sem, hq1, *]; done) | fail) ?_; intro ff11))) | (go_at_call 21; (first | with_reducible refine (HD3.out _).mono ?_); rintro e w' ⟨rfl, hk⟩; have hz := hk.size; (try (refine kuse (b := w.heap.size) hk (by first | (simp; done) | (simp; omega) | omega) ?_; intro hq0 hg0; have hy0 : w.heap.size < w'.heap.size := (by (try simp at hz); omega); have hn0 : ¬ w.heap.size = w'.heap.size := (by omega); have hm0 : ¬ w.heap.size = w'.heap.size + 1 := (by omega); refine withF (p := w'.cell? ⟨w.heap.size, 0, none⟩ = some (.int .i64 aX)) (by first | (rw [hq0]; with_reducible assumption) | (simp (maxDischargeDepth := 7) [go_sem, hq0]; done) | (simp (maxDischargeDepth := 7) [go_sem, hq0, *]; done) | fail) ?_; intro ff00; refine withF (p := w'.cell? ⟨w.heap.size, 1, none⟩ = some (.int .i64 aY)) (by first | (rw [hq0]; with_reducible assumption) | (simp (maxDischargeDepth := 7) [go_sem, hq0]; done) | (simp (maxDischargeDepth := 7) [go_sem, hq0, *]; done) | fail) ?_; intro ff01)); (try (refine kuse (b := w.heap.size + 1) hk (by first | (simp; done) | (simp; omega) | omega) ?_; intro hq1 hg1; have hy1 : w.heap.size + 1 < w'.heap.size := (by (try simp at hz); omega); have hn1 : ¬ w.heap.size + 1 = w'.heap.size := (by omega); have hm1 : ¬ w.heap.size + 1 = w'.heap.size + 1 := (by omega); refine withF (p := w'.cell? ⟨w.heap.size + 1, 0, none⟩ = some (.int .i64 bX)) (by first | (rw [hq1]; with_reducible assumption) | (simp (maxDischargeDepth := 7) [go_sem, hq1]; done) | (simp (maxDischargeDepth := 7) [go_sem, hq1, *]; done) | fail) ?_; intro ff10; refine withF (p := w'.cell? ⟨w.heap.size + 1, 1, none⟩ = some (.int .i64 bY)) (by first | (rw [hq1]; with_reducible assumption) | (simp (maxDischargeDepth := 7) [go_sem, hq1]; done) | (simp (maxDischargeDepth := 7) [go_sem, hq1, *]; done) | fail) ?_; intro ff11))))
    all_goals go_wp2_with fail
    all_goals first | (go_ret; refine ⟨?_, (by repeat (first | with_reducible exact Kept.refl _ | with_reducible assumption | with_reducible refine Kept.setCell ?_ (by first | (simp; done) | (simp; omega) | omega) _ | with_reducible refine Kept.alloc ?_ _ | with_reducible refine Kept.drewN ?_ _ | with_reducible refine Kept.drew ?_ | with_reducible refine Kept.trans ?_ (by with_reducible assumption) | with_reducible refine Kept.dr ?_ (by with_reducible assumption)))⟩; first | rfl | (refine retb ?_; simp; done) | (refine retb ?_; simp; omega)) | (exfalso; omega)

end Go.Proofs.Ytokgmhicindibaa
