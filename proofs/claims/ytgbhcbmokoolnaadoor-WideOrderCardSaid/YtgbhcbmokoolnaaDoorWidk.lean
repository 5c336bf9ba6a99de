/-
  Own walk: the order of layer 2.
-/
import Derived.Test.YtgbhcbmokoolnaaDoorWidl
import Derived.WalkKit
import Derived.ProofKit
import Derived.OpenShut
import Derived.WalkLawsBesides
import Derived.WalkSpells
import Derived.Lib.Hide
import Derived.Deep.DeepCutAuto
import Derived.Deep.CutBlock
import Derived.Deep.QuietTactic
import Derived.BigQuiet
import Derived.Handy
import Derived.StillTailTactics
import Derived.IntWalk
import Derived.LoopN
import Derived.Deep.RegionHeld3
namespace Go.Proofs.YtgbhcbmokoolnaaDoor
open Go.ChangeShapes Go.WideShapes Go.ChangeAt Go.RowKit
set_option linter.unusedVariables false
set_option linter.unusedSimpArgs false

set_option maxHeartbeats 2000000 in
set_option maxRecDepth 100000 in
theorem lawi_WideOrder (u v z : Int) (u0 : -170141183460469231731687303715884105728 ≤ u) (u1 : u < 170141183460469231731687303715884105728) (v0 : -170141183460469231731687303715884105728 ≤ v) (v1 : v < 170141183460469231731687303715884105728) (z0 : -170141183460469231731687303715884105728 ≤ z) (z1 : z < 170141183460469231731687303715884105728) (w : World) (hT : Hid (Tb w)) : Calls Tryd.prog 11 #[.agg #[.int .i64 (wh u), .int .u64 (wl u)], .agg #[.int .i64 (wh v), .int .u64 (wl v)], .agg #[.int .i64 (wh z), .int .u64 (wl z)]] w fun e w' => e = .returned (.bool true) ∧ Kept w w' := by
  by_cases h : u < v
  · by_cases hz : v < z
    · by_cases hf : -170141183460469231731687303715884105728 ≤ u - v ∧ u - v < 170141183460469231731687303715884105728
      · have sb := wsub_w u v u0 u1 v0 v1
        have cm := cmp_w u v
        have cn := cmp_w v u
        rw [(show wcm u v = -1 by unfold wcm; rw [if_pos (by omega)])] at cm
        rw [(show wcm v u = 1 by unfold wcm; rw [if_neg (by omega), if_neg (by omega)])] at cn
        have fy := wfit_yes (u := u - v) hf.1 hf.2
        rw [fy.1, fy.2] at sb
        clear fy
        have sg := sign_w (u - v)
        rw [(show wcm (u - v) 0 = -1 by unfold wcm; rw [if_pos (by omega)])] at sg
        have c2 := cmp_w v z
        rw [(show wcm v z = -1 by unfold wcm; rw [if_pos (by omega)])] at c2
        have c3 := cmp_w u z
        rw [(show wcm u z = -1 by unfold wcm; rw [if_pos (by omega)])] at c3
        have n0 : (wh u == wh v && wl u == wl v) = false := by
          rw [Bool.and_eq_false_iff]
          by_cases k : wh u = wh v
          · right; rw [beq_eq_false_iff_ne]; intro k2; have := w_ext k k2; omega
          · left; rw [beq_eq_false_iff_ne]; exact k
        have eqs : ∀ w, (Op.equalIn 10000 24 (.agg #[.int .i64 (wh u), .int .u64 (wl u)]) (.agg #[.int .i64 (wh v), .int .u64 (wl v)])).run Tryd.prog w = .ok false w := fun w => by rw [eqW, n0]
        clear n0
        obtain ⟨D, hD⟩ : ∃ D, u - v = D := ⟨_, rfl⟩
        rw [hD] at sb sg
        clear hD
        have Hsb := Lib.hid sb
        clear sb
        have Hcm := Lib.hid cm
        clear cm
        have Hcn := Lib.hid cn
        clear cn
        have Hsg := Lib.hid sg
        clear sg
        have Hc2 := Lib.hid c2
        clear c2
        have Hc3 := Lib.hid c3
        clear c3
        clear hf
        clear h
        clear hz
        generalize wh u = uh at *; generalize wl u = ul at *; generalize wh v = vh at *; generalize wl v = vl at *; generalize wh z = zh at *; generalize wl z = zl at *
        clear u0 u1 v0 v1 z0 z1
        go_enter Tryd.func11, Tryd.ntmps11
        go_wp2_with fail
        refine (awake_w _ (tab_kept hT.out (by repeat (first | with_reducible exact Kept.refl _ | with_reducible assumption | with_reducible refine Kept.setCell ?_ (by first | (simp; done) | (simp; omega) | omega) _ | with_reducible refine Kept.alloc ?_ _ | with_reducible refine Kept.drewN ?_ _ | with_reducible refine Kept.drew ?_ | with_reducible refine Kept.trans ?_ (by with_reducible assumption) | with_reducible refine Kept.dr ?_ (by with_reducible assumption))))).mono ?_
        rintro e w1 ⟨rfl, hk1⟩
        refine kuse (b := w.heap.size) hk1 (by first | (simp; done) | (simp; omega) | omega) ?_
        intro ha hb
        have hz1_0 : w.heap.size < w1.heap.size := by have := hk1.size; (try simp at this); omega
        have hn1_0 : ¬ w.heap.size = w1.heap.size := by omega
        have hm1_0 : ¬ w1.heap.size = w.heap.size := by omega
        have hf1_0_0 : w1.cell? ⟨w.heap.size, 0, none⟩ = some (.int .i64 uh) := by first | (rw [ha]; with_reducible assumption) | (simp (maxDischargeDepth := 7) [go_sem, ha]; done) | (rw [ha]; assumption) | (simp (maxDischargeDepth := 7) [go_sem, ha, *]; done)
        have hf1_0_1 : w1.cell? ⟨w.heap.size, 1, none⟩ = some (.int .u64 ul) := by first | (rw [ha]; with_reducible assumption) | (simp (maxDischargeDepth := 7) [go_sem, ha]; done) | (rw [ha]; assumption) | (simp (maxDischargeDepth := 7) [go_sem, ha, *]; done)
        try have hg1_0 : ∀ o, w1.frozen? ⟨w.heap.size, o, none⟩ = false := by intro o; first | (simp (maxDischargeDepth := 7) [go_sem, hb]; done) | (rw [hb]; simp (maxDischargeDepth := 7) [go_sem, *]; done)
        clear ha hb
        refine kuse (b := w.heap.size + 1) hk1 (by first | (simp; done) | (simp; omega) | omega) ?_
        intro ha hb
        have hz1_1 : w.heap.size + 1 < w1.heap.size := by have := hk1.size; (try simp at this); omega
        have hn1_1 : ¬ w.heap.size + 1 = w1.heap.size := by omega
        have hm1_1 : ¬ w1.heap.size = w.heap.size + 1 := by omega
        have hf1_1_0 : w1.cell? ⟨w.heap.size + 1, 0, none⟩ = some (.int .i64 vh) := by first | (rw [ha]; with_reducible assumption) | (simp (maxDischargeDepth := 7) [go_sem, ha]; done) | (rw [ha]; assumption) | (simp (maxDischargeDepth := 7) [go_sem, ha, *]; done)
        have hf1_1_1 : w1.cell? ⟨w.heap.size + 1, 1, none⟩ = some (.int .u64 vl) := by first | (rw [ha]; with_reducible assumption) | (simp (maxDischargeDepth := 7) [go_sem, ha]; done) | (rw [ha]; assumption) | (simp (maxDischargeDepth := 7) [go_sem, ha, *]; done)
        try have hg1_1 : ∀ o, w1.frozen? ⟨w.heap.size + 1, o, none⟩ = false := by intro o; first | (simp (maxDischargeDepth := 7) [go_sem, hb]; done) | (rw [hb]; simp (maxDischargeDepth := 7) [go_sem, *]; done)
        clear ha hb
        refine kuse (b := w.heap.size + 2) hk1 (by first | (simp; done) | (simp; omega) | omega) ?_
        intro ha hb
        have hz1_2 : w.heap.size + 2 < w1.heap.size := by have := hk1.size; (try simp at this); omega
        have hn1_2 : ¬ w.heap.size + 2 = w1.heap.size := by omega
        have hm1_2 : ¬ w1.heap.size = w.heap.size + 2 := by omega
        have hf1_2_0 : w1.cell? ⟨w.heap.size + 2, 0, none⟩ = some (.int .i64 zh) := by first | (rw [ha]; with_reducible assumption) | (simp (maxDischargeDepth := 7) [go_sem, ha]; done) | (rw [ha]; assumption) | (simp (maxDischargeDepth := 7) [go_sem, ha, *]; done)
        have hf1_2_1 : w1.cell? ⟨w.heap.size + 2, 1, none⟩ = some (.int .u64 zl) := by first | (rw [ha]; with_reducible assumption) | (simp (maxDischargeDepth := 7) [go_sem, ha]; done) | (rw [ha]; assumption) | (simp (maxDischargeDepth := 7) [go_sem, ha, *]; done)
        try have hg1_2 : ∀ o, w1.frozen? ⟨w.heap.size + 2, o, none⟩ = false := by intro o; first | (simp (maxDischargeDepth := 7) [go_sem, hb]; done) | (rw [hb]; simp (maxDischargeDepth := 7) [go_sem, *]; done)
        clear ha hb
        go_wp2_with fail
        with_reducible refine (Hsb.out _).mono ?_
        rintro e w2 ⟨rfl, hk2⟩
        refine kuse (b := w.heap.size) hk2 (by first | (simp; done) | (simp; omega) | omega) ?_
        intro ha hb
        have hz2_0 : w.heap.size < w2.heap.size := by have := hk2.size; (try simp at this); omega
        have hn2_0 : ¬ w.heap.size = w2.heap.size := by omega
        have hm2_0 : ¬ w2.heap.size = w.heap.size := by omega
        have hf2_0_0 : w2.cell? ⟨w.heap.size, 0, none⟩ = some (.int .i64 uh) := by first | (rw [ha]; with_reducible assumption) | (simp (maxDischargeDepth := 7) [go_sem, ha]; done) | (rw [ha]; assumption) | (simp (maxDischargeDepth := 7) [go_sem, ha, *]; done)
        have hf2_0_1 : w2.cell? ⟨w.heap.size, 1, none⟩ = some (.int .u64 ul) := by first | (rw [ha]; with_reducible assumption) | (simp (maxDischargeDepth := 7) [go_sem, ha]; done) | (rw [ha]; assumption) | (simp (maxDischargeDepth := 7) [go_sem, ha, *]; done)
        try have hg2_0 : ∀ o, w2.frozen? ⟨w.heap.size, o, none⟩ = false := by intro o; first | (simp (maxDischargeDepth := 7) [go_sem, hb]; done) | (rw [hb]; simp (maxDischargeDepth := 7) [go_sem, *]; done)
        clear ha hb
        refine kuse (b := w.heap.size + 1) hk2 (by first | (simp; done) | (simp; omega) | omega) ?_
        intro ha hb
        have hz2_1 : w.heap.size + 1 < w2.heap.size := by have := hk2.size; (try simp at this); omega
        have hn2_1 : ¬ w.heap.size + 1 = w2.heap.size := by omega
        have hm2_1 : ¬ w2.heap.size = w.heap.size + 1 := by omega
        have hf2_1_0 : w2.cell? ⟨w.heap.size + 1, 0, none⟩ = some (.int .i64 vh) := by first | (rw [ha]; with_reducible assumption) | (simp (maxDischargeDepth := 7) [go_sem, ha]; done) | (rw [ha]; assumption) | (simp (maxDischargeDepth := 7) [go_sem, ha, *]; done)
        have hf2_1_1 : w2.cell? ⟨w.heap.size + 1, 1, none⟩ = some (.int .u64 vl) := by first | (rw [ha]; with_reducible assumption) | (simp (maxDischargeDepth := 7) [go_sem, ha]; done) | (rw [ha]; assumption) | (simp (maxDischargeDepth := 7) [go_sem, ha, *]; done)
        try have hg2_1 : ∀ o, w2.frozen? ⟨w.heap.size + 1, o, none⟩ = false := by intro o; first | (simp (maxDischargeDepth := 7) [go_sem, hb]; done) | (rw [hb]; simp (maxDischargeDepth := 7) [go_sem, *]; done)
        clear ha hb
        refine kuse (b := w.heap.size + 2) hk2 (by first | (simp; done) | (simp; omega) | omega) ?_
        intro ha hb
        have hz2_2 : w.heap.size + 2 < w2.heap.size := by have := hk2.size; (try simp at this); omega
        have hn2_2 : ¬ w.heap.size + 2 = w2.heap.size := by omega
        have hm2_2 : ¬ w2.heap.size = w.heap.size + 2 := by omega
        have hf2_2_0 : w2.cell? ⟨w.heap.size + 2, 0, none⟩ = some (.int .i64 zh) := by first | (rw [ha]; with_reducible assumption) | (simp (maxDischargeDepth := 7) [go_sem, ha]; done) | (rw [ha]; assumption) | (simp (maxDischargeDepth := 7) [go_sem, ha, *]; done)
        have hf2_2_1 : w2.cell? ⟨w.heap.size + 2, 1, none⟩ = some (.int .u64 zl) := by first | (rw [ha]; with_reducible assumption) | (simp (maxDischargeDepth := 7) [go_sem, ha]; done) | (rw [ha]; assumption) | (simp (maxDischargeDepth := 7) [go_sem, ha, *]; done)
        try have hg2_2 : ∀ o, w2.frozen? ⟨w.heap.size + 2, o, none⟩ = false := by intro o; first | (simp (maxDischargeDepth := 7) [go_sem, hb]; done) | (rw [hb]; simp (maxDischargeDepth := 7) [go_sem, *]; done)
        clear ha hb
        try clear hf1_0_0
        try clear hf1_0_1
        try clear hf1_1_0
        try clear hf1_1_1
        try clear hf1_2_0
        try clear hf1_2_1
        try clear hg1_0
        try clear hg1_1
        try clear hg1_2
        try clear hz1_1
        try clear hz1_2
        go_wp2_with fail
        with_reducible refine (Hcm.out _).mono ?_
        rintro e w3 ⟨rfl, hk3⟩
        refine kuse (b := w.heap.size) hk3 (by first | (simp; done) | (simp; omega) | omega) ?_
        intro ha hb
        have hz3_0 : w.heap.size < w3.heap.size := by have := hk3.size; (try simp at this); omega
        have hn3_0 : ¬ w.heap.size = w3.heap.size := by omega
        have hm3_0 : ¬ w3.heap.size = w.heap.size := by omega
        have hf3_0_0 : w3.cell? ⟨w.heap.size, 0, none⟩ = some (.int .i64 uh) := by first | (rw [ha]; with_reducible assumption) | (simp (maxDischargeDepth := 7) [go_sem, ha]; done) | (rw [ha]; assumption) | (simp (maxDischargeDepth := 7) [go_sem, ha, *]; done)
        have hf3_0_1 : w3.cell? ⟨w.heap.size, 1, none⟩ = some (.int .u64 ul) := by first | (rw [ha]; with_reducible assumption) | (simp (maxDischargeDepth := 7) [go_sem, ha]; done) | (rw [ha]; assumption) | (simp (maxDischargeDepth := 7) [go_sem, ha, *]; done)
        try have hg3_0 : ∀ o, w3.frozen? ⟨w.heap.size, o, none⟩ = false := by intro o; first | (simp (maxDischargeDepth := 7) [go_sem, hb]; done) | (rw [hb]; simp (maxDischargeDepth := 7) [go_sem, *]; done)
        clear ha hb
        refine kuse (b := w.heap.size + 1) hk3 (by first | (simp; done) | (simp; omega) | omega) ?_
        intro ha hb
        have hz3_1 : w.heap.size + 1 < w3.heap.size := by have := hk3.size; (try simp at this); omega
        have hn3_1 : ¬ w.heap.size + 1 = w3.heap.size := by omega
        have hm3_1 : ¬ w3.heap.size = w.heap.size + 1 := by omega
        have hf3_1_0 : w3.cell? ⟨w.heap.size + 1, 0, none⟩ = some (.int .i64 vh) := by first | (rw [ha]; with_reducible assumption) | (simp (maxDischargeDepth := 7) [go_sem, ha]; done) | (rw [ha]; assumption) | (simp (maxDischargeDepth := 7) [go_sem, ha, *]; done)
        have hf3_1_1 : w3.cell? ⟨w.heap.size + 1, 1, none⟩ = some (.int .u64 vl) := by first | (rw [ha]; with_reducible assumption) | (simp (maxDischargeDepth := 7) [go_sem, ha]; done) | (rw [ha]; assumption) | (simp (maxDischargeDepth := 7) [go_sem, ha, *]; done)
        try have hg3_1 : ∀ o, w3.frozen? ⟨w.heap.size + 1, o, none⟩ = false := by intro o; first | (simp (maxDischargeDepth := 7) [go_sem, hb]; done) | (rw [hb]; simp (maxDischargeDepth := 7) [go_sem, *]; done)
        clear ha hb
        refine kuse (b := w.heap.size + 2) hk3 (by first | (simp; done) | (simp; omega) | omega) ?_
        intro ha hb
        have hz3_2 : w.heap.size + 2 < w3.heap.size := by have := hk3.size; (try simp at this); omega
        have hn3_2 : ¬ w.heap.size + 2 = w3.heap.size := by omega
        have hm3_2 : ¬ w3.heap.size = w.heap.size + 2 := by omega
        have hf3_2_0 : w3.cell? ⟨w.heap.size + 2, 0, none⟩ = some (.int .i64 zh) := by first | (rw [ha]; with_reducible assumption) | (simp (maxDischargeDepth := 7) [go_sem, ha]; done) | (rw [ha]; assumption) | (simp (maxDischargeDepth := 7) [go_sem, ha, *]; done)
        have hf3_2_1 : w3.cell? ⟨w.heap.size + 2, 1, none⟩ = some (.int .u64 zl) := by first | (rw [ha]; with_reducible assumption) | (simp (maxDischargeDepth := 7) [go_sem, ha]; done) | (rw [ha]; assumption) | (simp (maxDischargeDepth := 7) [go_sem, ha, *]; done)
        try have hg3_2 : ∀ o, w3.frozen? ⟨w.heap.size + 2, o, none⟩ = false := by intro o; first | (simp (maxDischargeDepth := 7) [go_sem, hb]; done) | (rw [hb]; simp (maxDischargeDepth := 7) [go_sem, *]; done)
        clear ha hb
        refine kuse (b := w2.heap.size) hk3 (by first | (simp; done) | (simp; omega) | omega) ?_
        intro ha hb
        have hz3_3 : w2.heap.size < w3.heap.size := by have := hk3.size; (try simp at this); omega
        have hn3_3 : ¬ w2.heap.size = w3.heap.size := by omega
        have hm3_3 : ¬ w3.heap.size = w2.heap.size := by omega
        have hf3_3_0 : w3.cell? ⟨w2.heap.size, 0, none⟩ = some (.int .i64 (wh D)) := by first | (rw [ha]; with_reducible assumption) | (simp (maxDischargeDepth := 7) [go_sem, ha]; done) | (rw [ha]; assumption) | (simp (maxDischargeDepth := 7) [go_sem, ha, *]; done)
        have hf3_3_1 : w3.cell? ⟨w2.heap.size, 1, none⟩ = some (.int .u64 (wl D)) := by first | (rw [ha]; with_reducible assumption) | (simp (maxDischargeDepth := 7) [go_sem, ha]; done) | (rw [ha]; assumption) | (simp (maxDischargeDepth := 7) [go_sem, ha, *]; done)
        try have hg3_3 : ∀ o, w3.frozen? ⟨w2.heap.size, o, none⟩ = false := by intro o; first | (simp (maxDischargeDepth := 7) [go_sem, hb]; done) | (rw [hb]; simp (maxDischargeDepth := 7) [go_sem, *]; done)
        clear ha hb
        try clear hf2_0_0
        try clear hf2_0_1
        try clear hf2_1_0
        try clear hf2_1_1
        try clear hf2_2_0
        try clear hf2_2_1
        try clear hg2_0
        try clear hg2_1
        try clear hg2_2
        try clear hz2_1
        try clear hz2_2
        go_wp2_with fail
        with_reducible refine (Hsg.out _).mono ?_
        rintro e w4 ⟨rfl, hk4⟩
        refine kuse (b := w.heap.size) hk4 (by first | (simp; done) | (simp; omega) | omega) ?_
        intro ha hb
        have hz4_0 : w.heap.size < w4.heap.size := by have := hk4.size; (try simp at this); omega
        have hn4_0 : ¬ w.heap.size = w4.heap.size := by omega
        have hm4_0 : ¬ w4.heap.size = w.heap.size := by omega
        have hf4_0_0 : w4.cell? ⟨w.heap.size, 0, none⟩ = some (.int .i64 uh) := by first | (rw [ha]; with_reducible assumption) | (simp (maxDischargeDepth := 7) [go_sem, ha]; done) | (rw [ha]; assumption) | (simp (maxDischargeDepth := 7) [go_sem, ha, *]; done)
        have hf4_0_1 : w4.cell? ⟨w.heap.size, 1, none⟩ = some (.int .u64 ul) := by first | (rw [ha]; with_reducible assumption) | (simp (maxDischargeDepth := 7) [go_sem, ha]; done) | (rw [ha]; assumption) | (simp (maxDischargeDepth := 7) [go_sem, ha, *]; done)
        try have hg4_0 : ∀ o, w4.frozen? ⟨w.heap.size, o, none⟩ = false := by intro o; first | (simp (maxDischargeDepth := 7) [go_sem, hb]; done) | (rw [hb]; simp (maxDischargeDepth := 7) [go_sem, *]; done)
        clear ha hb
        refine kuse (b := w.heap.size + 1) hk4 (by first | (simp; done) | (simp; omega) | omega) ?_
        intro ha hb
        have hz4_1 : w.heap.size + 1 < w4.heap.size := by have := hk4.size; (try simp at this); omega
        have hn4_1 : ¬ w.heap.size + 1 = w4.heap.size := by omega
        have hm4_1 : ¬ w4.heap.size = w.heap.size + 1 := by omega
        have hf4_1_0 : w4.cell? ⟨w.heap.size + 1, 0, none⟩ = some (.int .i64 vh) := by first | (rw [ha]; with_reducible assumption) | (simp (maxDischargeDepth := 7) [go_sem, ha]; done) | (rw [ha]; assumption) | (simp (maxDischargeDepth := 7) [go_sem, ha, *]; done)
        have hf4_1_1 : w4.cell? ⟨w.heap.size + 1, 1, none⟩ = some (.int .u64 vl) := by first | (rw [ha]; with_reducible assumption) | (simp (maxDischargeDepth := 7) [go_sem, ha]; done) | (rw [ha]; assumption) | (simp (maxDischargeDepth := 7) [go_sem, ha, *]; done)
        try have hg4_1 : ∀ o, w4.frozen? ⟨w.heap.size + 1, o, none⟩ = false := by intro o; first | (simp (maxDischargeDepth := 7) [go_sem, hb]; done) | (rw [hb]; simp (maxDischargeDepth := 7) [go_sem, *]; done)
        clear ha hb
        refine kuse (b := w.heap.size + 2) hk4 (by first | (simp; done) | (simp; omega) | omega) ?_
        intro ha hb
        have hz4_2 : w.heap.size + 2 < w4.heap.size := by have := hk4.size; (try simp at this); omega
        have hn4_2 : ¬ w.heap.size + 2 = w4.heap.size := by omega
        have hm4_2 : ¬ w4.heap.size = w.heap.size + 2 := by omega
        have hf4_2_0 : w4.cell? ⟨w.heap.size + 2, 0, none⟩ = some (.int .i64 zh) := by first | (rw [ha]; with_reducible assumption) | (simp (maxDischargeDepth := 7) [go_sem, ha]; done) | (rw [ha]; assumption) | (simp (maxDischargeDepth := 7) [go_sem, ha, *]; done)
        have hf4_2_1 : w4.cell? ⟨w.heap.size + 2, 1, none⟩ = some (.int .u64 zl) := by first | (rw [ha]; with_reducible assumption) | (simp (maxDischargeDepth := 7) [go_sem, ha]; done) | (rw [ha]; assumption) | (simp (maxDischargeDepth := 7) [go_sem, ha, *]; done)
        try have hg4_2 : ∀ o, w4.frozen? ⟨w.heap.size + 2, o, none⟩ = false := by intro o; first | (simp (maxDischargeDepth := 7) [go_sem, hb]; done) | (rw [hb]; simp (maxDischargeDepth := 7) [go_sem, *]; done)
        clear ha hb
        refine kuse (b := w2.heap.size) hk4 (by first | (simp; done) | (simp; omega) | omega) ?_
        intro ha hb
        have hz4_3 : w2.heap.size < w4.heap.size := by have := hk4.size; (try simp at this); omega
        have hn4_3 : ¬ w2.heap.size = w4.heap.size := by omega
        have hm4_3 : ¬ w4.heap.size = w2.heap.size := by omega
        have hf4_3_0 : w4.cell? ⟨w2.heap.size, 0, none⟩ = some (.int .i64 (wh D)) := by first | (rw [ha]; with_reducible assumption) | (simp (maxDischargeDepth := 7) [go_sem, ha]; done) | (rw [ha]; assumption) | (simp (maxDischargeDepth := 7) [go_sem, ha, *]; done)
        have hf4_3_1 : w4.cell? ⟨w2.heap.size, 1, none⟩ = some (.int .u64 (wl D)) := by first | (rw [ha]; with_reducible assumption) | (simp (maxDischargeDepth := 7) [go_sem, ha]; done) | (rw [ha]; assumption) | (simp (maxDischargeDepth := 7) [go_sem, ha, *]; done)
        try have hg4_3 : ∀ o, w4.frozen? ⟨w2.heap.size, o, none⟩ = false := by intro o; first | (simp (maxDischargeDepth := 7) [go_sem, hb]; done) | (rw [hb]; simp (maxDischargeDepth := 7) [go_sem, *]; done)
        clear ha hb
        try clear hf3_0_0
        try clear hf3_0_1
        try clear hf3_1_0
        try clear hf3_1_1
        try clear hf3_2_0
        try clear hf3_2_1
        try clear hf3_3_0
        try clear hf3_3_1
        try clear hg3_0
        try clear hg3_1
        try clear hg3_2
        try clear hg3_3
        try clear hz3_1
        try clear hz3_2
        try clear hz3_3
        go_wp2_with fail
        with_reducible refine (Hcn.out _).mono ?_
        rintro e w5 ⟨rfl, hk5⟩
        refine kuse (b := w.heap.size) hk5 (by first | (simp; done) | (simp; omega) | omega) ?_
        intro ha hb
        have hz5_0 : w.heap.size < w5.heap.size := by have := hk5.size; (try simp at this); omega
        have hn5_0 : ¬ w.heap.size = w5.heap.size := by omega
        have hm5_0 : ¬ w5.heap.size = w.heap.size := by omega
        have hf5_0_0 : w5.cell? ⟨w.heap.size, 0, none⟩ = some (.int .i64 uh) := by first | (rw [ha]; with_reducible assumption) | (simp (maxDischargeDepth := 7) [go_sem, ha]; done) | (rw [ha]; assumption) | (simp (maxDischargeDepth := 7) [go_sem, ha, *]; done)
        have hf5_0_1 : w5.cell? ⟨w.heap.size, 1, none⟩ = some (.int .u64 ul) := by first | (rw [ha]; with_reducible assumption) | (simp (maxDischargeDepth := 7) [go_sem, ha]; done) | (rw [ha]; assumption) | (simp (maxDischargeDepth := 7) [go_sem, ha, *]; done)
        try have hg5_0 : ∀ o, w5.frozen? ⟨w.heap.size, o, none⟩ = false := by intro o; first | (simp (maxDischargeDepth := 7) [go_sem, hb]; done) | (rw [hb]; simp (maxDischargeDepth := 7) [go_sem, *]; done)
        clear ha hb
        refine kuse (b := w.heap.size + 1) hk5 (by first | (simp; done) | (simp; omega) | omega) ?_
        intro ha hb
        have hz5_1 : w.heap.size + 1 < w5.heap.size := by have := hk5.size; (try simp at this); omega
        have hn5_1 : ¬ w.heap.size + 1 = w5.heap.size := by omega
        have hm5_1 : ¬ w5.heap.size = w.heap.size + 1 := by omega
        have hf5_1_0 : w5.cell? ⟨w.heap.size + 1, 0, none⟩ = some (.int .i64 vh) := by first | (rw [ha]; with_reducible assumption) | (simp (maxDischargeDepth := 7) [go_sem, ha]; done) | (rw [ha]; assumption) | (simp (maxDischargeDepth := 7) [go_sem, ha, *]; done)
        have hf5_1_1 : w5.cell? ⟨w.heap.size + 1, 1, none⟩ = some (.int .u64 vl) := by first | (rw [ha]; with_reducible assumption) | (simp (maxDischargeDepth := 7) [go_sem, ha]; done) | (rw [ha]; assumption) | (simp (maxDischargeDepth := 7) [go_sem, ha, *]; done)
        try have hg5_1 : ∀ o, w5.frozen? ⟨w.heap.size + 1, o, none⟩ = false := by intro o; first | (simp (maxDischargeDepth := 7) [go_sem, hb]; done) | (rw [hb]; simp (maxDischargeDepth := 7) [go_sem, *]; done)
        clear ha hb
        refine kuse (b := w.heap.size + 2) hk5 (by first | (simp; done) | (simp; omega) | omega) ?_
        intro ha hb
        have hz5_2 : w.heap.size + 2 < w5.heap.size := by have := hk5.size; (try simp at this); omega
        have hn5_2 : ¬ w.heap.size + 2 = w5.heap.size := by omega
        have hm5_2 : ¬ w5.heap.size = w.heap.size + 2 := by omega
        have hf5_2_0 : w5.cell? ⟨w.heap.size + 2, 0, none⟩ = some (.int .i64 zh) := by first | (rw [ha]; with_reducible assumption) | (simp (maxDischargeDepth := 7) [go_sem, ha]; done) | (rw [ha]; assumption) | (simp (maxDischargeDepth := 7) [go_sem, ha, *]; done)
        have hf5_2_1 : w5.cell? ⟨w.heap.size + 2, 1, none⟩ = some (.int .u64 zl) := by first | (rw [ha]; with_reducible assumption) | (simp (maxDischargeDepth := 7) [go_sem, ha]; done) | (rw [ha]; assumption) | (simp (maxDischargeDepth := 7) [go_sem, ha, *]; done)
        try have hg5_2 : ∀ o, w5.frozen? ⟨w.heap.size + 2, o, none⟩ = false := by intro o; first | (simp (maxDischargeDepth := 7) [go_sem, hb]; done) | (rw [hb]; simp (maxDischargeDepth := 7) [go_sem, *]; done)
        clear ha hb
        refine kuse (b := w2.heap.size) hk5 (by first | (simp; done) | (simp; omega) | omega) ?_
        intro ha hb
        have hz5_3 : w2.heap.size < w5.heap.size := by have := hk5.size; (try simp at this); omega
        have hn5_3 : ¬ w2.heap.size = w5.heap.size := by omega
        have hm5_3 : ¬ w5.heap.size = w2.heap.size := by omega
        have hf5_3_0 : w5.cell? ⟨w2.heap.size, 0, none⟩ = some (.int .i64 (wh D)) := by first | (rw [ha]; with_reducible assumption) | (simp (maxDischargeDepth := 7) [go_sem, ha]; done) | (rw [ha]; assumption) | (simp (maxDischargeDepth := 7) [go_sem, ha, *]; done)
        have hf5_3_1 : w5.cell? ⟨w2.heap.size, 1, none⟩ = some (.int .u64 (wl D)) := by first | (rw [ha]; with_reducible assumption) | (simp (maxDischargeDepth := 7) [go_sem, ha]; done) | (rw [ha]; assumption) | (simp (maxDischargeDepth := 7) [go_sem, ha, *]; done)
        try have hg5_3 : ∀ o, w5.frozen? ⟨w2.heap.size, o, none⟩ = false := by intro o; first | (simp (maxDischargeDepth := 7) [go_sem, hb]; done) | (rw [hb]; simp (maxDischargeDepth := 7) [go_sem, *]; done)
        clear ha hb
        try clear hf4_0_0
        try clear hf4_0_1
        try clear hf4_1_0
        try clear hf4_1_1
        try clear hf4_2_0
        try clear hf4_2_1
        try clear hf4_3_0
        try clear hf4_3_1
        try clear hg4_0
        try clear hg4_1
        try clear hg4_2
        try clear hg4_3
        try clear hz4_1
        try clear hz4_2
        try clear hz4_3
        go_wp2_with fail
        with_reducible refine (Hc2.out _).mono ?_
        rintro e w6 ⟨rfl, hk6⟩
        refine kuse (b := w.heap.size) hk6 (by first | (simp; done) | (simp; omega) | omega) ?_
        intro ha hb
        have hz6_0 : w.heap.size < w6.heap.size := by have := hk6.size; (try simp at this); omega
        have hn6_0 : ¬ w.heap.size = w6.heap.size := by omega
        have hm6_0 : ¬ w6.heap.size = w.heap.size := by omega
        have hf6_0_0 : w6.cell? ⟨w.heap.size, 0, none⟩ = some (.int .i64 uh) := by first | (rw [ha]; with_reducible assumption) | (simp (maxDischargeDepth := 7) [go_sem, ha]; done) | (rw [ha]; assumption) | (simp (maxDischargeDepth := 7) [go_sem, ha, *]; done)
        have hf6_0_1 : w6.cell? ⟨w.heap.size, 1, none⟩ = some (.int .u64 ul) := by first | (rw [ha]; with_reducible assumption) | (simp (maxDischargeDepth := 7) [go_sem, ha]; done) | (rw [ha]; assumption) | (simp (maxDischargeDepth := 7) [go_sem, ha, *]; done)
        try have hg6_0 : ∀ o, w6.frozen? ⟨w.heap.size, o, none⟩ = false := by intro o; first | (simp (maxDischargeDepth := 7) [go_sem, hb]; done) | (rw [hb]; simp (maxDischargeDepth := 7) [go_sem, *]; done)
        clear ha hb
        refine kuse (b := w.heap.size + 1) hk6 (by first | (simp; done) | (simp; omega) | omega) ?_
        intro ha hb
        have hz6_1 : w.heap.size + 1 < w6.heap.size := by have := hk6.size; (try simp at this); omega
        have hn6_1 : ¬ w.heap.size + 1 = w6.heap.size := by omega
        have hm6_1 : ¬ w6.heap.size = w.heap.size + 1 := by omega
        have hf6_1_0 : w6.cell? ⟨w.heap.size + 1, 0, none⟩ = some (.int .i64 vh) := by first | (rw [ha]; with_reducible assumption) | (simp (maxDischargeDepth := 7) [go_sem, ha]; done) | (rw [ha]; assumption) | (simp (maxDischargeDepth := 7) [go_sem, ha, *]; done)
        have hf6_1_1 : w6.cell? ⟨w.heap.size + 1, 1, none⟩ = some (.int .u64 vl) := by first | (rw [ha]; with_reducible assumption) | (simp (maxDischargeDepth := 7) [go_sem, ha]; done) | (rw [ha]; assumption) | (simp (maxDischargeDepth := 7) [go_sem, ha, *]; done)
        try have hg6_1 : ∀ o, w6.frozen? ⟨w.heap.size + 1, o, none⟩ = false := by intro o; first | (simp (maxDischargeDepth := 7) [go_sem, hb]; done) | (rw [hb]; simp (maxDischargeDepth := 7) [go_sem, *]; done)
        clear ha hb
        refine kuse (b := w.heap.size + 2) hk6 (by first | (simp; done) | (simp; omega) | omega) ?_
        intro ha hb
        have hz6_2 : w.heap.size + 2 < w6.heap.size := by have := hk6.size; (try simp at this); omega
        have hn6_2 : ¬ w.heap.size + 2 = w6.heap.size := by omega
        have hm6_2 : ¬ w6.heap.size = w.heap.size + 2 := by omega
        have hf6_2_0 : w6.cell? ⟨w.heap.size + 2, 0, none⟩ = some (.int .i64 zh) := by first | (rw [ha]; with_reducible assumption) | (simp (maxDischargeDepth := 7) [go_sem, ha]; done) | (rw [ha]; assumption) | (simp (maxDischargeDepth := 7) [go_sem, ha, *]; done)
        have hf6_2_1 : w6.cell? ⟨w.heap.size + 2, 1, none⟩ = some (.int .u64 zl) := by first | (rw [ha]; with_reducible assumption) | (simp (maxDischargeDepth := 7) [go_sem, ha]; done) | (rw [ha]; assumption) | (simp (maxDischargeDepth := 7) [go_sem, ha, *]; done)
        try have hg6_2 : ∀ o, w6.frozen? ⟨w.heap.size + 2, o, none⟩ = false := by intro o; first | (simp (maxDischargeDepth := 7) [go_sem, hb]; done) | (rw [hb]; simp (maxDischargeDepth := 7) [go_sem, *]; done)
        clear ha hb
        refine kuse (b := w2.heap.size) hk6 (by first | (simp; done) | (simp; omega) | omega) ?_
        intro ha hb
        have hz6_3 : w2.heap.size < w6.heap.size := by have := hk6.size; (try simp at this); omega
        have hn6_3 : ¬ w2.heap.size = w6.heap.size := by omega
        have hm6_3 : ¬ w6.heap.size = w2.heap.size := by omega
        have hf6_3_0 : w6.cell? ⟨w2.heap.size, 0, none⟩ = some (.int .i64 (wh D)) := by first | (rw [ha]; with_reducible assumption) | (simp (maxDischargeDepth := 7) [go_sem, ha]; done) | (rw [ha]; assumption) | (simp (maxDischargeDepth := 7) [go_sem, ha, *]; done)
        have hf6_3_1 : w6.cell? ⟨w2.heap.size, 1, none⟩ = some (.int .u64 (wl D)) := by first | (rw [ha]; with_reducible assumption) | (simp (maxDischargeDepth := 7) [go_sem, ha]; done) | (rw [ha]; assumption) | (simp (maxDischargeDepth := 7) [go_sem, ha, *]; done)
        try have hg6_3 : ∀ o, w6.frozen? ⟨w2.heap.size, o, none⟩ = false := by intro o; first | (simp (maxDischargeDepth := 7) [go_sem, hb]; done) | (rw [hb]; simp (maxDischargeDepth := 7) [go_sem, *]; done)
        clear ha hb
        try clear hf5_0_0
        try clear hf5_0_1
        try clear hf5_1_0
        try clear hf5_1_1
        try clear hf5_2_0
        try clear hf5_2_1
        try clear hf5_3_0
        try clear hf5_3_1
        try clear hg5_0
        try clear hg5_1
        try clear hg5_2
        try clear hg5_3
        try clear hz5_1
        try clear hz5_2
        try clear hz5_3
        go_wp2_with fail
        with_reducible refine (Hc3.out _).mono ?_
        rintro e w7 ⟨rfl, hk7⟩
        refine kuse (b := w.heap.size) hk7 (by first | (simp; done) | (simp; omega) | omega) ?_
        intro ha hb
        have hz7_0 : w.heap.size < w7.heap.size := by have := hk7.size; (try simp at this); omega
        have hn7_0 : ¬ w.heap.size = w7.heap.size := by omega
        have hm7_0 : ¬ w7.heap.size = w.heap.size := by omega
        have hf7_0_0 : w7.cell? ⟨w.heap.size, 0, none⟩ = some (.int .i64 uh) := by first | (rw [ha]; with_reducible assumption) | (simp (maxDischargeDepth := 7) [go_sem, ha]; done) | (rw [ha]; assumption) | (simp (maxDischargeDepth := 7) [go_sem, ha, *]; done)
        have hf7_0_1 : w7.cell? ⟨w.heap.size, 1, none⟩ = some (.int .u64 ul) := by first | (rw [ha]; with_reducible assumption) | (simp (maxDischargeDepth := 7) [go_sem, ha]; done) | (rw [ha]; assumption) | (simp (maxDischargeDepth := 7) [go_sem, ha, *]; done)
        try have hg7_0 : ∀ o, w7.frozen? ⟨w.heap.size, o, none⟩ = false := by intro o; first | (simp (maxDischargeDepth := 7) [go_sem, hb]; done) | (rw [hb]; simp (maxDischargeDepth := 7) [go_sem, *]; done)
        clear ha hb
        refine kuse (b := w.heap.size + 1) hk7 (by first | (simp; done) | (simp; omega) | omega) ?_
        intro ha hb
        have hz7_1 : w.heap.size + 1 < w7.heap.size := by have := hk7.size; (try simp at this); omega
        have hn7_1 : ¬ w.heap.size + 1 = w7.heap.size := by omega
        have hm7_1 : ¬ w7.heap.size = w.heap.size + 1 := by omega
        have hf7_1_0 : w7.cell? ⟨w.heap.size + 1, 0, none⟩ = some (.int .i64 vh) := by first | (rw [ha]; with_reducible assumption) | (simp (maxDischargeDepth := 7) [go_sem, ha]; done) | (rw [ha]; assumption) | (simp (maxDischargeDepth := 7) [go_sem, ha, *]; done)
        have hf7_1_1 : w7.cell? ⟨w.heap.size + 1, 1, none⟩ = some (.int .u64 vl) := by first | (rw [ha]; with_reducible assumption) | (simp (maxDischargeDepth := 7) [go_sem, ha]; done) | (rw [ha]; assumption) | (simp (maxDischargeDepth := 7) [go_sem, ha, *]; done)
        try have hg7_1 : ∀ o, w7.frozen? ⟨w.heap.size + 1, o, none⟩ = false := by intro o; first | (simp (maxDischargeDepth := 7) [go_sem, hb]; done) | (rw [hb]; simp (maxDischargeDepth := 7) [go_sem, *]; done)
        clear ha hb
        refine kuse (b := w.heap.size + 2) hk7 (by first | (simp; done) | (simp; omega) | omega) ?_
        intro ha hb
        have hz7_2 : w.heap.size + 2 < w7.heap.size := by have := hk7.size; (try simp at this); omega
        have hn7_2 : ¬ w.heap.size + 2 = w7.heap.size := by omega
        have hm7_2 : ¬ w7.heap.size = w.heap.size + 2 := by omega
        have hf7_2_0 : w7.cell? ⟨w.heap.size + 2, 0, none⟩ = some (.int .i64 zh) := by first | (rw [ha]; with_reducible assumption) | (simp (maxDischargeDepth := 7) [go_sem, ha]; done) | (rw [ha]; assumption) | (simp (maxDischargeDepth := 7) [go_sem, ha, *]; done)
        have hf7_2_1 : w7.cell? ⟨w.heap.size + 2, 1, none⟩ = some (.int .u64 zl) := by first | (rw [ha]; with_reducible assumption) | (simp (maxDischargeDepth := 7) [go_sem, ha]; done) | (rw [ha]; assumption) | (simp (maxDischargeDepth := 7) [go_sem, ha, *]; done)
        try have hg7_2 : ∀ o, w7.frozen? ⟨w.heap.size + 2, o, none⟩ = false := by intro o; first | (simp (maxDischargeDepth := 7) [go_sem, hb]; done) | (rw [hb]; simp (maxDischargeDepth := 7) [go_sem, *]; done)
        clear ha hb
        refine kuse (b := w2.heap.size) hk7 (by first | (simp; done) | (simp; omega) | omega) ?_
        intro ha hb
        have hz7_3 : w2.heap.size < w7.heap.size := by have := hk7.size; (try simp at this); omega
        have hn7_3 : ¬ w2.heap.size = w7.heap.size := by omega
        have hm7_3 : ¬ w7.heap.size = w2.heap.size := by omega
        have hf7_3_0 : w7.cell? ⟨w2.heap.size, 0, none⟩ = some (.int .i64 (wh D)) := by first | (rw [ha]; with_reducible assumption) | (simp (maxDischargeDepth := 7) [go_sem, ha]; done) | (rw [ha]; assumption) | (simp (maxDischargeDepth := 7) [go_sem, ha, *]; done)
        have hf7_3_1 : w7.cell? ⟨w2.heap.size, 1, none⟩ = some (.int .u64 (wl D)) := by first | (rw [ha]; with_reducible assumption) | (simp (maxDischargeDepth := 7) [go_sem, ha]; done) | (rw [ha]; assumption) | (simp (maxDischargeDepth := 7) [go_sem, ha, *]; done)
        try have hg7_3 : ∀ o, w7.frozen? ⟨w2.heap.size, o, none⟩ = false := by intro o; first | (simp (maxDischargeDepth := 7) [go_sem, hb]; done) | (rw [hb]; simp (maxDischargeDepth := 7) [go_sem, *]; done)
        clear ha hb
        try clear hf6_0_0
        try clear hf6_0_1
        try clear hf6_1_0
        try clear hf6_1_1
        try clear hf6_2_0
        try clear hf6_2_1
        try clear hf6_3_0
        try clear hf6_3_1
        try clear hg6_0
        try clear hg6_1
        try clear hg6_2
        try clear hg6_3
        try clear hz6_1
        try clear hz6_2
        try clear hz6_3
        go_wp2_with fail
        all_goals go_ret
        all_goals exact ⟨rfl, (by repeat (first | with_reducible exact Kept.refl _ | with_reducible assumption | with_reducible refine Kept.setCell ?_ (by first | (simp; done) | (simp; omega) | omega) _ | with_reducible refine Kept.alloc ?_ _ | with_reducible refine Kept.drewN ?_ _ | with_reducible refine Kept.drew ?_ | with_reducible refine Kept.trans ?_ (by with_reducible assumption) | with_reducible refine Kept.dr ?_ (by with_reducible assumption)))⟩
      · have sb := wsub_w u v u0 u1 v0 v1
        have cm := cmp_w u v
        have cn := cmp_w v u
        rw [(show wcm u v = -1 by unfold wcm; rw [if_pos (by omega)])] at cm
        rw [(show wcm v u = 1 by unfold wcm; rw [if_neg (by omega), if_neg (by omega)])] at cn
        have fy := wfit_no (u := u - v) (by omega)
        rw [fy.1, fy.2] at sb
        clear fy
        have z0' : wh 0 = 0 := by decide
        have z1' : wl 0 = 0 := by decide
        rw [z0', z1'] at sb
        clear z0' z1'
        have c2 := cmp_w v z
        rw [(show wcm v z = -1 by unfold wcm; rw [if_pos (by omega)])] at c2
        have c3 := cmp_w u z
        rw [(show wcm u z = -1 by unfold wcm; rw [if_pos (by omega)])] at c3
        have n0 : (wh u == wh v && wl u == wl v) = false := by
          rw [Bool.and_eq_false_iff]
          by_cases k : wh u = wh v
          · right; rw [beq_eq_false_iff_ne]; intro k2; have := w_ext k k2; omega
          · left; rw [beq_eq_false_iff_ne]; exact k
        have eqs : ∀ w, (Op.equalIn 10000 24 (.agg #[.int .i64 (wh u), .int .u64 (wl u)]) (.agg #[.int .i64 (wh v), .int .u64 (wl v)])).run Tryd.prog w = .ok false w := fun w => by rw [eqW, n0]
        clear n0
        obtain ⟨D, hD⟩ : ∃ D, u - v = D := ⟨_, rfl⟩
        clear hD
        have Hsb := Lib.hid sb
        clear sb
        have Hcm := Lib.hid cm
        clear cm
        have Hcn := Lib.hid cn
        clear cn
        have Hc2 := Lib.hid c2
        clear c2
        have Hc3 := Lib.hid c3
        clear c3
        clear hf
        clear h
        clear hz
        generalize wh u = uh at *; generalize wl u = ul at *; generalize wh v = vh at *; generalize wl v = vl at *; generalize wh z = zh at *; generalize wl z = zl at *
        clear u0 u1 v0 v1 z0 z1
        go_enter Tryd.func11, Tryd.ntmps11
        go_wp2_with fail
        refine (awake_w _ (tab_kept hT.out (by repeat (first | with_reducible exact Kept.refl _ | with_reducible assumption | with_reducible refine Kept.setCell ?_ (by first | (simp; done) | (simp; omega) | omega) _ | with_reducible refine Kept.alloc ?_ _ | with_reducible refine Kept.drewN ?_ _ | with_reducible refine Kept.drew ?_ | with_reducible refine Kept.trans ?_ (by with_reducible assumption) | with_reducible refine Kept.dr ?_ (by with_reducible assumption))))).mono ?_
        rintro e w1 ⟨rfl, hk1⟩
        refine kuse (b := w.heap.size) hk1 (by first | (simp; done) | (simp; omega) | omega) ?_
        intro ha hb
        have hz1_0 : w.heap.size < w1.heap.size := by have := hk1.size; (try simp at this); omega
        have hn1_0 : ¬ w.heap.size = w1.heap.size := by omega
        have hm1_0 : ¬ w1.heap.size = w.heap.size := by omega
        have hf1_0_0 : w1.cell? ⟨w.heap.size, 0, none⟩ = some (.int .i64 uh) := by first | (rw [ha]; with_reducible assumption) | (simp (maxDischargeDepth := 7) [go_sem, ha]; done) | (rw [ha]; assumption) | (simp (maxDischargeDepth := 7) [go_sem, ha, *]; done)
        have hf1_0_1 : w1.cell? ⟨w.heap.size, 1, none⟩ = some (.int .u64 ul) := by first | (rw [ha]; with_reducible assumption) | (simp (maxDischargeDepth := 7) [go_sem, ha]; done) | (rw [ha]; assumption) | (simp (maxDischargeDepth := 7) [go_sem, ha, *]; done)
        try have hg1_0 : ∀ o, w1.frozen? ⟨w.heap.size, o, none⟩ = false := by intro o; first | (simp (maxDischargeDepth := 7) [go_sem, hb]; done) | (rw [hb]; simp (maxDischargeDepth := 7) [go_sem, *]; done)
        clear ha hb
        refine kuse (b := w.heap.size + 1) hk1 (by first | (simp; done) | (simp; omega) | omega) ?_
        intro ha hb
        have hz1_1 : w.heap.size + 1 < w1.heap.size := by have := hk1.size; (try simp at this); omega
        have hn1_1 : ¬ w.heap.size + 1 = w1.heap.size := by omega
        have hm1_1 : ¬ w1.heap.size = w.heap.size + 1 := by omega
        have hf1_1_0 : w1.cell? ⟨w.heap.size + 1, 0, none⟩ = some (.int .i64 vh) := by first | (rw [ha]; with_reducible assumption) | (simp (maxDischargeDepth := 7) [go_sem, ha]; done) | (rw [ha]; assumption) | (simp (maxDischargeDepth := 7) [go_sem, ha, *]; done)
        have hf1_1_1 : w1.cell? ⟨w.heap.size + 1, 1, none⟩ = some (.int .u64 vl) := by first | (rw [ha]; with_reducible assumption) | (simp (maxDischargeDepth := 7) [go_sem, ha]; done) | (rw [ha]; assumption) | (simp (maxDischargeDepth := 7) [go_sem, ha, *]; done)
        try have hg1_1 : ∀ o, w1.frozen? ⟨w.heap.size + 1, o, none⟩ = false := by intro o; first | (simp (maxDischargeDepth := 7) [go_sem, hb]; done) | (rw [hb]; simp (maxDischargeDepth := 7) [go_sem, *]; done)
        clear ha hb
        refine kuse (b := w.heap.size + 2) hk1 (by first | (simp; done) | (simp; omega) | omega) ?_
        intro ha hb
        have hz1_2 : w.heap.size + 2 < w1.heap.size := by have := hk1.size; (try simp at this); omega
        have hn1_2 : ¬ w.heap.size + 2 = w1.heap.size := by omega
        have hm1_2 : ¬ w1.heap.size = w.heap.size + 2 := by omega
        have hf1_2_0 : w1.cell? ⟨w.heap.size + 2, 0, none⟩ = some (.int .i64 zh) := by first | (rw [ha]; with_reducible assumption) | (simp (maxDischargeDepth := 7) [go_sem, ha]; done) | (rw [ha]; assumption) | (simp (maxDischargeDepth := 7) [go_sem, ha, *]; done)
        have hf1_2_1 : w1.cell? ⟨w.heap.size + 2, 1, none⟩ = some (.int .u64 zl) := by first | (rw [ha]; with_reducible assumption) | (simp (maxDischargeDepth := 7) [go_sem, ha]; done) | (rw [ha]; assumption) | (simp (maxDischargeDepth := 7) [go_sem, ha, *]; done)
        try have hg1_2 : ∀ o, w1.frozen? ⟨w.heap.size + 2, o, none⟩ = false := by intro o; first | (simp (maxDischargeDepth := 7) [go_sem, hb]; done) | (rw [hb]; simp (maxDischargeDepth := 7) [go_sem, *]; done)
        clear ha hb
        go_wp2_with fail
        with_reducible refine (Hsb.out _).mono ?_
        rintro e w2 ⟨rfl, hk2⟩
        refine kuse (b := w.heap.size) hk2 (by first | (simp; done) | (simp; omega) | omega) ?_
        intro ha hb
        have hz2_0 : w.heap.size < w2.heap.size := by have := hk2.size; (try simp at this); omega
        have hn2_0 : ¬ w.heap.size = w2.heap.size := by omega
        have hm2_0 : ¬ w2.heap.size = w.heap.size := by omega
        have hf2_0_0 : w2.cell? ⟨w.heap.size, 0, none⟩ = some (.int .i64 uh) := by first | (rw [ha]; with_reducible assumption) | (simp (maxDischargeDepth := 7) [go_sem, ha]; done) | (rw [ha]; assumption) | (simp (maxDischargeDepth := 7) [go_sem, ha, *]; done)
        have hf2_0_1 : w2.cell? ⟨w.heap.size, 1, none⟩ = some (.int .u64 ul) := by first | (rw [ha]; with_reducible assumption) | (simp (maxDischargeDepth := 7) [go_sem, ha]; done) | (rw [ha]; assumption) | (simp (maxDischargeDepth := 7) [go_sem, ha, *]; done)
        try have hg2_0 : ∀ o, w2.frozen? ⟨w.heap.size, o, none⟩ = false := by intro o; first | (simp (maxDischargeDepth := 7) [go_sem, hb]; done) | (rw [hb]; simp (maxDischargeDepth := 7) [go_sem, *]; done)
        clear ha hb
        refine kuse (b := w.heap.size + 1) hk2 (by first | (simp; done) | (simp; omega) | omega) ?_
        intro ha hb
        have hz2_1 : w.heap.size + 1 < w2.heap.size := by have := hk2.size; (try simp at this); omega
        have hn2_1 : ¬ w.heap.size + 1 = w2.heap.size := by omega
        have hm2_1 : ¬ w2.heap.size = w.heap.size + 1 := by omega
        have hf2_1_0 : w2.cell? ⟨w.heap.size + 1, 0, none⟩ = some (.int .i64 vh) := by first | (rw [ha]; with_reducible assumption) | (simp (maxDischargeDepth := 7) [go_sem, ha]; done) | (rw [ha]; assumption) | (simp (maxDischargeDepth := 7) [go_sem, ha, *]; done)
        have hf2_1_1 : w2.cell? ⟨w.heap.size + 1, 1, none⟩ = some (.int .u64 vl) := by first | (rw [ha]; with_reducible assumption) | (simp (maxDischargeDepth := 7) [go_sem, ha]; done) | (rw [ha]; assumption) | (simp (maxDischargeDepth := 7) [go_sem, ha, *]; done)
        try have hg2_1 : ∀ o, w2.frozen? ⟨w.heap.size + 1, o, none⟩ = false := by intro o; first | (simp (maxDischargeDepth := 7) [go_sem, hb]; done) | (rw [hb]; simp (maxDischargeDepth := 7) [go_sem, *]; done)
        clear ha hb
        refine kuse (b := w.heap.size + 2) hk2 (by first | (simp; done) | (simp; omega) | omega) ?_
        intro ha hb
        have hz2_2 : w.heap.size + 2 < w2.heap.size := by have := hk2.size; (try simp at this); omega
        have hn2_2 : ¬ w.heap.size + 2 = w2.heap.size := by omega
        have hm2_2 : ¬ w2.heap.size = w.heap.size + 2 := by omega
        have hf2_2_0 : w2.cell? ⟨w.heap.size + 2, 0, none⟩ = some (.int .i64 zh) := by first | (rw [ha]; with_reducible assumption) | (simp (maxDischargeDepth := 7) [go_sem, ha]; done) | (rw [ha]; assumption) | (simp (maxDischargeDepth := 7) [go_sem, ha, *]; done)
        have hf2_2_1 : w2.cell? ⟨w.heap.size + 2, 1, none⟩ = some (.int .u64 zl) := by first | (rw [ha]; with_reducible assumption) | (simp (maxDischargeDepth := 7) [go_sem, ha]; done) | (rw [ha]; assumption) | (simp (maxDischargeDepth := 7) [go_sem, ha, *]; done)
        try have hg2_2 : ∀ o, w2.frozen? ⟨w.heap.size + 2, o, none⟩ = false := by intro o; first | (simp (maxDischargeDepth := 7) [go_sem, hb]; done) | (rw [hb]; simp (maxDischargeDepth := 7) [go_sem, *]; done)
        clear ha hb
        try clear hf1_0_0
        try clear hf1_0_1
        try clear hf1_1_0
        try clear hf1_1_1
        try clear hf1_2_0
        try clear hf1_2_1
        try clear hg1_0
        try clear hg1_1
        try clear hg1_2
        try clear hz1_1
        try clear hz1_2
        go_wp2_with fail
        with_reducible refine (Hcm.out _).mono ?_
        rintro e w3 ⟨rfl, hk3⟩
        refine kuse (b := w.heap.size) hk3 (by first | (simp; done) | (simp; omega) | omega) ?_
        intro ha hb
        have hz3_0 : w.heap.size < w3.heap.size := by have := hk3.size; (try simp at this); omega
        have hn3_0 : ¬ w.heap.size = w3.heap.size := by omega
        have hm3_0 : ¬ w3.heap.size = w.heap.size := by omega
        have hf3_0_0 : w3.cell? ⟨w.heap.size, 0, none⟩ = some (.int .i64 uh) := by first | (rw [ha]; with_reducible assumption) | (simp (maxDischargeDepth := 7) [go_sem, ha]; done) | (rw [ha]; assumption) | (simp (maxDischargeDepth := 7) [go_sem, ha, *]; done)
        have hf3_0_1 : w3.cell? ⟨w.heap.size, 1, none⟩ = some (.int .u64 ul) := by first | (rw [ha]; with_reducible assumption) | (simp (maxDischargeDepth := 7) [go_sem, ha]; done) | (rw [ha]; assumption) | (simp (maxDischargeDepth := 7) [go_sem, ha, *]; done)
        try have hg3_0 : ∀ o, w3.frozen? ⟨w.heap.size, o, none⟩ = false := by intro o; first | (simp (maxDischargeDepth := 7) [go_sem, hb]; done) | (rw [hb]; simp (maxDischargeDepth := 7) [go_sem, *]; done)
        clear ha hb
        refine kuse (b := w.heap.size + 1) hk3 (by first | (simp; done) | (simp; omega) | omega) ?_
        intro ha hb
        have hz3_1 : w.heap.size + 1 < w3.heap.size := by have := hk3.size; (try simp at this); omega
        have hn3_1 : ¬ w.heap.size + 1 = w3.heap.size := by omega
        have hm3_1 : ¬ w3.heap.size = w.heap.size + 1 := by omega
        have hf3_1_0 : w3.cell? ⟨w.heap.size + 1, 0, none⟩ = some (.int .i64 vh) := by first | (rw [ha]; with_reducible assumption) | (simp (maxDischargeDepth := 7) [go_sem, ha]; done) | (rw [ha]; assumption) | (simp (maxDischargeDepth := 7) [go_sem, ha, *]; done)
        have hf3_1_1 : w3.cell? ⟨w.heap.size + 1, 1, none⟩ = some (.int .u64 vl) := by first | (rw [ha]; with_reducible assumption) | (simp (maxDischargeDepth := 7) [go_sem, ha]; done) | (rw [ha]; assumption) | (simp (maxDischargeDepth := 7) [go_sem, ha, *]; done)
        try have hg3_1 : ∀ o, w3.frozen? ⟨w.heap.size + 1, o, none⟩ = false := by intro o; first | (simp (maxDischargeDepth := 7) [go_sem, hb]; done) | (rw [hb]; simp (maxDischargeDepth := 7) [go_sem, *]; done)
        clear ha hb
        refine kuse (b := w.heap.size + 2) hk3 (by first | (simp; done) | (simp; omega) | omega) ?_
        intro ha hb
        have hz3_2 : w.heap.size + 2 < w3.heap.size := by have := hk3.size; (try simp at this); omega
        have hn3_2 : ¬ w.heap.size + 2 = w3.heap.size := by omega
        have hm3_2 : ¬ w3.heap.size = w.heap.size + 2 := by omega
        have hf3_2_0 : w3.cell? ⟨w.heap.size + 2, 0, none⟩ = some (.int .i64 zh) := by first | (rw [ha]; with_reducible assumption) | (simp (maxDischargeDepth := 7) [go_sem, ha]; done) | (rw [ha]; assumption) | (simp (maxDischargeDepth := 7) [go_sem, ha, *]; done)
        have hf3_2_1 : w3.cell? ⟨w.heap.size + 2, 1, none⟩ = some (.int .u64 zl) := by first | (rw [ha]; with_reducible assumption) | (simp (maxDischargeDepth := 7) [go_sem, ha]; done) | (rw [ha]; assumption) | (simp (maxDischargeDepth := 7) [go_sem, ha, *]; done)
        try have hg3_2 : ∀ o, w3.frozen? ⟨w.heap.size + 2, o, none⟩ = false := by intro o; first | (simp (maxDischargeDepth := 7) [go_sem, hb]; done) | (rw [hb]; simp (maxDischargeDepth := 7) [go_sem, *]; done)
        clear ha hb
        refine kuse (b := w2.heap.size) hk3 (by first | (simp; done) | (simp; omega) | omega) ?_
        intro ha hb
        have hz3_3 : w2.heap.size < w3.heap.size := by have := hk3.size; (try simp at this); omega
        have hn3_3 : ¬ w2.heap.size = w3.heap.size := by omega
        have hm3_3 : ¬ w3.heap.size = w2.heap.size := by omega
        have hf3_3_0 : w3.cell? ⟨w2.heap.size, 0, none⟩ = some (.int .i64 0) := by first | (rw [ha]; with_reducible assumption) | (simp (maxDischargeDepth := 7) [go_sem, ha]; done) | (rw [ha]; assumption) | (simp (maxDischargeDepth := 7) [go_sem, ha, *]; done)
        have hf3_3_1 : w3.cell? ⟨w2.heap.size, 1, none⟩ = some (.int .u64 0) := by first | (rw [ha]; with_reducible assumption) | (simp (maxDischargeDepth := 7) [go_sem, ha]; done) | (rw [ha]; assumption) | (simp (maxDischargeDepth := 7) [go_sem, ha, *]; done)
        try have hg3_3 : ∀ o, w3.frozen? ⟨w2.heap.size, o, none⟩ = false := by intro o; first | (simp (maxDischargeDepth := 7) [go_sem, hb]; done) | (rw [hb]; simp (maxDischargeDepth := 7) [go_sem, *]; done)
        clear ha hb
        try clear hf2_0_0
        try clear hf2_0_1
        try clear hf2_1_0
        try clear hf2_1_1
        try clear hf2_2_0
        try clear hf2_2_1
        try clear hg2_0
        try clear hg2_1
        try clear hg2_2
        try clear hz2_1
        try clear hz2_2
        go_wp2_with fail
        with_reducible refine (Hcn.out _).mono ?_
        rintro e w4 ⟨rfl, hk4⟩
        refine kuse (b := w.heap.size) hk4 (by first | (simp; done) | (simp; omega) | omega) ?_
        intro ha hb
        have hz4_0 : w.heap.size < w4.heap.size := by have := hk4.size; (try simp at this); omega
        have hn4_0 : ¬ w.heap.size = w4.heap.size := by omega
        have hm4_0 : ¬ w4.heap.size = w.heap.size := by omega
        have hf4_0_0 : w4.cell? ⟨w.heap.size, 0, none⟩ = some (.int .i64 uh) := by first | (rw [ha]; with_reducible assumption) | (simp (maxDischargeDepth := 7) [go_sem, ha]; done) | (rw [ha]; assumption) | (simp (maxDischargeDepth := 7) [go_sem, ha, *]; done)
        have hf4_0_1 : w4.cell? ⟨w.heap.size, 1, none⟩ = some (.int .u64 ul) := by first | (rw [ha]; with_reducible assumption) | (simp (maxDischargeDepth := 7) [go_sem, ha]; done) | (rw [ha]; assumption) | (simp (maxDischargeDepth := 7) [go_sem, ha, *]; done)
        try have hg4_0 : ∀ o, w4.frozen? ⟨w.heap.size, o, none⟩ = false := by intro o; first | (simp (maxDischargeDepth := 7) [go_sem, hb]; done) | (rw [hb]; simp (maxDischargeDepth := 7) [go_sem, *]; done)
        clear ha hb
        refine kuse (b := w.heap.size + 1) hk4 (by first | (simp; done) | (simp; omega) | omega) ?_
        intro ha hb
        have hz4_1 : w.heap.size + 1 < w4.heap.size := by have := hk4.size; (try simp at this); omega
        have hn4_1 : ¬ w.heap.size + 1 = w4.heap.size := by omega
        have hm4_1 : ¬ w4.heap.size = w.heap.size + 1 := by omega
        have hf4_1_0 : w4.cell? ⟨w.heap.size + 1, 0, none⟩ = some (.int .i64 vh) := by first | (rw [ha]; with_reducible assumption) | (simp (maxDischargeDepth := 7) [go_sem, ha]; done) | (rw [ha]; assumption) | (simp (maxDischargeDepth := 7) [go_sem, ha, *]; done)
        have hf4_1_1 : w4.cell? ⟨w.heap.size + 1, 1, none⟩ = some (.int .u64 vl) := by first | (rw [ha]; with_reducible assumption) | (simp (maxDischargeDepth := 7) [go_sem, ha]; done) | (rw [ha]; assumption) | (simp (maxDischargeDepth := 7) [go_sem, ha, *]; done)
        try have hg4_1 : ∀ o, w4.frozen? ⟨w.heap.size + 1, o, none⟩ = false := by intro o; first | (simp (maxDischargeDepth := 7) [go_sem, hb]; done) | (rw [hb]; simp (maxDischargeDepth := 7) [go_sem, *]; done)
        clear ha hb
        refine kuse (b := w.heap.size + 2) hk4 (by first | (simp; done) | (simp; omega) | omega) ?_
        intro ha hb
        have hz4_2 : w.heap.size + 2 < w4.heap.size := by have := hk4.size; (try simp at this); omega
        have hn4_2 : ¬ w.heap.size + 2 = w4.heap.size := by omega
        have hm4_2 : ¬ w4.heap.size = w.heap.size + 2 := by omega
        have hf4_2_0 : w4.cell? ⟨w.heap.size + 2, 0, none⟩ = some (.int .i64 zh) := by first | (rw [ha]; with_reducible assumption) | (simp (maxDischargeDepth := 7) [go_sem, ha]; done) | (rw [ha]; assumption) | (simp (maxDischargeDepth := 7) [go_sem, ha, *]; done)
        have hf4_2_1 : w4.cell? ⟨w.heap.size + 2, 1, none⟩ = some (.int .u64 zl) := by first | (rw [ha]; with_reducible assumption) | (simp (maxDischargeDepth := 7) [go_sem, ha]; done) | (rw [ha]; assumption) | (simp (maxDischargeDepth := 7) [go_sem, ha, *]; done)
        try have hg4_2 : ∀ o, w4.frozen? ⟨w.heap.size + 2, o, none⟩ = false := by intro o; first | (simp (maxDischargeDepth := 7) [go_sem, hb]; done) | (rw [hb]; simp (maxDischargeDepth := 7) [go_sem, *]; done)
        clear ha hb
        refine kuse (b := w2.heap.size) hk4 (by first | (simp; done) | (simp; omega) | omega) ?_
        intro ha hb
        have hz4_3 : w2.heap.size < w4.heap.size := by have := hk4.size; (try simp at this); omega
        have hn4_3 : ¬ w2.heap.size = w4.heap.size := by omega
        have hm4_3 : ¬ w4.heap.size = w2.heap.size := by omega
        have hf4_3_0 : w4.cell? ⟨w2.heap.size, 0, none⟩ = some (.int .i64 0) := by first | (rw [ha]; with_reducible assumption) | (simp (maxDischargeDepth := 7) [go_sem, ha]; done) | (rw [ha]; assumption) | (simp (maxDischargeDepth := 7) [go_sem, ha, *]; done)
        have hf4_3_1 : w4.cell? ⟨w2.heap.size, 1, none⟩ = some (.int .u64 0) := by first | (rw [ha]; with_reducible assumption) | (simp (maxDischargeDepth := 7) [go_sem, ha]; done) | (rw [ha]; assumption) | (simp (maxDischargeDepth := 7) [go_sem, ha, *]; done)
        try have hg4_3 : ∀ o, w4.frozen? ⟨w2.heap.size, o, none⟩ = false := by intro o; first | (simp (maxDischargeDepth := 7) [go_sem, hb]; done) | (rw [hb]; simp (maxDischargeDepth := 7) [go_sem, *]; done)
        clear ha hb
        try clear hf3_0_0
        try clear hf3_0_1
        try clear hf3_1_0
        try clear hf3_1_1
        try clear hf3_2_0
        try clear hf3_2_1
        try clear hf3_3_0
        try clear hf3_3_1
        try clear hg3_0
        try clear hg3_1
        try clear hg3_2
        try clear hg3_3
        try clear hz3_1
        try clear hz3_2
        try clear hz3_3
        go_wp2_with fail
        with_reducible refine (Hc2.out _).mono ?_
        rintro e w5 ⟨rfl, hk5⟩
        refine kuse (b := w.heap.size) hk5 (by first | (simp; done) | (simp; omega) | omega) ?_
        intro ha hb
        have hz5_0 : w.heap.size < w5.heap.size := by have := hk5.size; (try simp at this); omega
        have hn5_0 : ¬ w.heap.size = w5.heap.size := by omega
        have hm5_0 : ¬ w5.heap.size = w.heap.size := by omega
        have hf5_0_0 : w5.cell? ⟨w.heap.size, 0, none⟩ = some (.int .i64 uh) := by first | (rw [ha]; with_reducible assumption) | (simp (maxDischargeDepth := 7) [go_sem, ha]; done) | (rw [ha]; assumption) | (simp (maxDischargeDepth := 7) [go_sem, ha, *]; done)
        have hf5_0_1 : w5.cell? ⟨w.heap.size, 1, none⟩ = some (.int .u64 ul) := by first | (rw [ha]; with_reducible assumption) | (simp (maxDischargeDepth := 7) [go_sem, ha]; done) | (rw [ha]; assumption) | (simp (maxDischargeDepth := 7) [go_sem, ha, *]; done)
        try have hg5_0 : ∀ o, w5.frozen? ⟨w.heap.size, o, none⟩ = false := by intro o; first | (simp (maxDischargeDepth := 7) [go_sem, hb]; done) | (rw [hb]; simp (maxDischargeDepth := 7) [go_sem, *]; done)
        clear ha hb
        refine kuse (b := w.heap.size + 1) hk5 (by first | (simp; done) | (simp; omega) | omega) ?_
        intro ha hb
        have hz5_1 : w.heap.size + 1 < w5.heap.size := by have := hk5.size; (try simp at this); omega
        have hn5_1 : ¬ w.heap.size + 1 = w5.heap.size := by omega
        have hm5_1 : ¬ w5.heap.size = w.heap.size + 1 := by omega
        have hf5_1_0 : w5.cell? ⟨w.heap.size + 1, 0, none⟩ = some (.int .i64 vh) := by first | (rw [ha]; with_reducible assumption) | (simp (maxDischargeDepth := 7) [go_sem, ha]; done) | (rw [ha]; assumption) | (simp (maxDischargeDepth := 7) [go_sem, ha, *]; done)
        have hf5_1_1 : w5.cell? ⟨w.heap.size + 1, 1, none⟩ = some (.int .u64 vl) := by first | (rw [ha]; with_reducible assumption) | (simp (maxDischargeDepth := 7) [go_sem, ha]; done) | (rw [ha]; assumption) | (simp (maxDischargeDepth := 7) [go_sem, ha, *]; done)
        try have hg5_1 : ∀ o, w5.frozen? ⟨w.heap.size + 1, o, none⟩ = false := by intro o; first | (simp (maxDischargeDepth := 7) [go_sem, hb]; done) | (rw [hb]; simp (maxDischargeDepth := 7) [go_sem, *]; done)
        clear ha hb
        refine kuse (b := w.heap.size + 2) hk5 (by first | (simp; done) | (simp; omega) | omega) ?_
        intro ha hb
        have hz5_2 : w.heap.size + 2 < w5.heap.size := by have := hk5.size; (try simp at this); omega
        have hn5_2 : ¬ w.heap.size + 2 = w5.heap.size := by omega
        have hm5_2 : ¬ w5.heap.size = w.heap.size + 2 := by omega
        have hf5_2_0 : w5.cell? ⟨w.heap.size + 2, 0, none⟩ = some (.int .i64 zh) := by first | (rw [ha]; with_reducible assumption) | (simp (maxDischargeDepth := 7) [go_sem, ha]; done) | (rw [ha]; assumption) | (simp (maxDischargeDepth := 7) [go_sem, ha, *]; done)
        have hf5_2_1 : w5.cell? ⟨w.heap.size + 2, 1, none⟩ = some (.int .u64 zl) := by first | (rw [ha]; with_reducible assumption) | (simp (maxDischargeDepth := 7) [go_sem, ha]; done) | (rw [ha]; assumption) | (simp (maxDischargeDepth := 7) [go_sem, ha, *]; done)
        try have hg5_2 : ∀ o, w5.frozen? ⟨w.heap.size + 2, o, none⟩ = false := by intro o; first | (simp (maxDischargeDepth := 7) [go_sem, hb]; done) | (rw [hb]; simp (maxDischargeDepth := 7) [go_sem, *]; done)
        clear ha hb
        refine kuse (b := w2.heap.size) hk5 (by first | (simp; done) | (simp; omega) | omega) ?_
        intro ha hb
        have hz5_3 : w2.heap.size < w5.heap.size := by have := hk5.size; (try simp at this); omega
        have hn5_3 : ¬ w2.heap.size = w5.heap.size := by omega
        have hm5_3 : ¬ w5.heap.size = w2.heap.size := by omega
        have hf5_3_0 : w5.cell? ⟨w2.heap.size, 0, none⟩ = some (.int .i64 0) := by first | (rw [ha]; with_reducible assumption) | (simp (maxDischargeDepth := 7) [go_sem, ha]; done) | (rw [ha]; assumption) | (simp (maxDischargeDepth := 7) [go_sem, ha, *]; done)
        have hf5_3_1 : w5.cell? ⟨w2.heap.size, 1, none⟩ = some (.int .u64 0) := by first | (rw [ha]; with_reducible assumption) | (simp (maxDischargeDepth := 7) [go_sem, ha]; done) | (rw [ha]; assumption) | (simp (maxDischargeDepth := 7) [go_sem, ha, *]; done)
        try have hg5_3 : ∀ o, w5.frozen? ⟨w2.heap.size, o, none⟩ = false := by intro o; first | (simp (maxDischargeDepth := 7) [go_sem, hb]; done) | (rw [hb]; simp (maxDischargeDepth := 7) [go_sem, *]; done)
        clear ha hb
        try clear hf4_0_0
        try clear hf4_0_1
        try clear hf4_1_0
        try clear hf4_1_1
        try clear hf4_2_0
        try clear hf4_2_1
        try clear hf4_3_0
        try clear hf4_3_1
        try clear hg4_0
        try clear hg4_1
        try clear hg4_2
        try clear hg4_3
        try clear hz4_1
        try clear hz4_2
        try clear hz4_3
        go_wp2_with fail
        with_reducible refine (Hc3.out _).mono ?_
        rintro e w6 ⟨rfl, hk6⟩
        refine kuse (b := w.heap.size) hk6 (by first | (simp; done) | (simp; omega) | omega) ?_
        intro ha hb
        have hz6_0 : w.heap.size < w6.heap.size := by have := hk6.size; (try simp at this); omega
        have hn6_0 : ¬ w.heap.size = w6.heap.size := by omega
        have hm6_0 : ¬ w6.heap.size = w.heap.size := by omega
        have hf6_0_0 : w6.cell? ⟨w.heap.size, 0, none⟩ = some (.int .i64 uh) := by first | (rw [ha]; with_reducible assumption) | (simp (maxDischargeDepth := 7) [go_sem, ha]; done) | (rw [ha]; assumption) | (simp (maxDischargeDepth := 7) [go_sem, ha, *]; done)
        have hf6_0_1 : w6.cell? ⟨w.heap.size, 1, none⟩ = some (.int .u64 ul) := by first | (rw [ha]; with_reducible assumption) | (simp (maxDischargeDepth := 7) [go_sem, ha]; done) | (rw [ha]; assumption) | (simp (maxDischargeDepth := 7) [go_sem, ha, *]; done)
        try have hg6_0 : ∀ o, w6.frozen? ⟨w.heap.size, o, none⟩ = false := by intro o; first | (simp (maxDischargeDepth := 7) [go_sem, hb]; done) | (rw [hb]; simp (maxDischargeDepth := 7) [go_sem, *]; done)
        clear ha hb
        refine kuse (b := w.heap.size + 1) hk6 (by first | (simp; done) | (simp; omega) | omega) ?_
        intro ha hb
        have hz6_1 : w.heap.size + 1 < w6.heap.size := by have := hk6.size; (try simp at this); omega
        have hn6_1 : ¬ w.heap.size + 1 = w6.heap.size := by omega
        have hm6_1 : ¬ w6.heap.size = w.heap.size + 1 := by omega
        have hf6_1_0 : w6.cell? ⟨w.heap.size + 1, 0, none⟩ = some (.int .i64 vh) := by first | (rw [ha]; with_reducible assumption) | (simp (maxDischargeDepth := 7) [go_sem, ha]; done) | (rw [ha]; assumption) | (simp (maxDischargeDepth := 7) [go_sem, ha, *]; done)
        have hf6_1_1 : w6.cell? ⟨w.heap.size + 1, 1, none⟩ = some (.int .u64 vl) := by first | (rw [ha]; with_reducible assumption) | (simp (maxDischargeDepth := 7) [go_sem, ha]; done) | (rw [ha]; assumption) | (simp (maxDischargeDepth := 7) [go_sem, ha, *]; done)
        try have hg6_1 : ∀ o, w6.frozen? ⟨w.heap.size + 1, o, none⟩ = false := by intro o; first | (simp (maxDischargeDepth := 7) [go_sem, hb]; done) | (rw [hb]; simp (maxDischargeDepth := 7) [go_sem, *]; done)
        clear ha hb
        refine kuse (b := w.heap.size + 2) hk6 (by first | (simp; done) | (simp; omega) | omega) ?_
        intro ha hb
        have hz6_2 : w.heap.size + 2 < w6.heap.size := by have := hk6.size; (try simp at this); omega
        have hn6_2 : ¬ w.heap.size + 2 = w6.heap.size := by omega
        have hm6_2 : ¬ w6.heap.size = w.heap.size + 2 := by omega
        have hf6_2_0 : w6.cell? ⟨w.heap.size + 2, 0, none⟩ = some (.int .i64 zh) := by first | (rw [ha]; with_reducible assumption) | (simp (maxDischargeDepth := 7) [go_sem, ha]; done) | (rw [ha]; assumption) | (simp (maxDischargeDepth := 7) [go_sem, ha, *]; done)
        have hf6_2_1 : w6.cell? ⟨w.heap.size + 2, 1, none⟩ = some (.int .u64 zl) := by first | (rw [ha]; with_reducible assumption) | (simp (maxDischargeDepth := 7) [go_sem, ha]; done) | (rw [ha]; assumption) | (simp (maxDischargeDepth := 7) [go_sem, ha, *]; done)
        try have hg6_2 : ∀ o, w6.frozen? ⟨w.heap.size + 2, o, none⟩ = false := by intro o; first | (simp (maxDischargeDepth := 7) [go_sem, hb]; done) | (rw [hb]; simp (maxDischargeDepth := 7) [go_sem, *]; done)
        clear ha hb
        refine kuse (b := w2.heap.size) hk6 (by first | (simp; done) | (simp; omega) | omega) ?_
        intro ha hb
        have hz6_3 : w2.heap.size < w6.heap.size := by have := hk6.size; (try simp at this); omega
        have hn6_3 : ¬ w2.heap.size = w6.heap.size := by omega
        have hm6_3 : ¬ w6.heap.size = w2.heap.size := by omega
        have hf6_3_0 : w6.cell? ⟨w2.heap.size, 0, none⟩ = some (.int .i64 0) := by first | (rw [ha]; with_reducible assumption) | (simp (maxDischargeDepth := 7) [go_sem, ha]; done) | (rw [ha]; assumption) | (simp (maxDischargeDepth := 7) [go_sem, ha, *]; done)
        have hf6_3_1 : w6.cell? ⟨w2.heap.size, 1, none⟩ = some (.int .u64 0) := by first | (rw [ha]; with_reducible assumption) | (simp (maxDischargeDepth := 7) [go_sem, ha]; done) | (rw [ha]; assumption) | (simp (maxDischargeDepth := 7) [go_sem, ha, *]; done)
        try have hg6_3 : ∀ o, w6.frozen? ⟨w2.heap.size, o, none⟩ = false := by intro o; first | (simp (maxDischargeDepth := 7) [go_sem, hb]; done) | (rw [hb]; simp (maxDischargeDepth := 7) [go_sem, *]; done)
        clear ha hb
        try clear hf5_0_0
        try clear hf5_0_1
        try clear hf5_1_0
        try clear hf5_1_1
        try clear hf5_2_0
        try clear hf5_2_1
        try clear hf5_3_0
        try clear hf5_3_1
        try clear hg5_0
        try clear hg5_1
        try clear hg5_2
        try clear hg5_3
        try clear hz5_1
        try clear hz5_2
        try clear hz5_3
        go_wp2_with fail
        all_goals go_ret
        all_goals exact ⟨rfl, (by repeat (first | with_reducible exact Kept.refl _ | with_reducible assumption | with_reducible refine Kept.setCell ?_ (by first | (simp; done) | (simp; omega) | omega) _ | with_reducible refine Kept.alloc ?_ _ | with_reducible refine Kept.drewN ?_ _ | with_reducible refine Kept.drew ?_ | with_reducible refine Kept.trans ?_ (by with_reducible assumption) | with_reducible refine Kept.dr ?_ (by with_reducible assumption)))⟩
    · by_cases hz2 : v = z
      · replace hz : v = z := hz2
        clear hz2
        by_cases hf : -170141183460469231731687303715884105728 ≤ u - v ∧ u - v < 170141183460469231731687303715884105728
        · have sb := wsub_w u v u0 u1 v0 v1
          have cm := cmp_w u v
          have cn := cmp_w v u
          rw [(show wcm u v = -1 by unfold wcm; rw [if_pos (by omega)])] at cm
          rw [(show wcm v u = 1 by unfold wcm; rw [if_neg (by omega), if_neg (by omega)])] at cn
          have fy := wfit_yes (u := u - v) hf.1 hf.2
          rw [fy.1, fy.2] at sb
          clear fy
          have sg := sign_w (u - v)
          rw [(show wcm (u - v) 0 = -1 by unfold wcm; rw [if_pos (by omega)])] at sg
          have c2 := cmp_w v z
          rw [(show wcm v z = 0 by unfold wcm; rw [if_neg (by omega), if_pos (by omega)])] at c2
          have n0 : (wh u == wh v && wl u == wl v) = false := by
            rw [Bool.and_eq_false_iff]
            by_cases k : wh u = wh v
            · right; rw [beq_eq_false_iff_ne]; intro k2; have := w_ext k k2; omega
            · left; rw [beq_eq_false_iff_ne]; exact k
          have eqs : ∀ w, (Op.equalIn 10000 24 (.agg #[.int .i64 (wh u), .int .u64 (wl u)]) (.agg #[.int .i64 (wh v), .int .u64 (wl v)])).run Tryd.prog w = .ok false w := fun w => by rw [eqW, n0]
          clear n0
          obtain ⟨D, hD⟩ : ∃ D, u - v = D := ⟨_, rfl⟩
          rw [hD] at sb sg
          clear hD
          have Hsb := Lib.hid sb
          clear sb
          have Hcm := Lib.hid cm
          clear cm
          have Hcn := Lib.hid cn
          clear cn
          have Hsg := Lib.hid sg
          clear sg
          have Hc2 := Lib.hid c2
          clear c2
          clear hf
          clear h
          clear hz
          generalize wh u = uh at *; generalize wl u = ul at *; generalize wh v = vh at *; generalize wl v = vl at *; generalize wh z = zh at *; generalize wl z = zl at *
          clear u0 u1 v0 v1 z0 z1
          go_enter Tryd.func11, Tryd.ntmps11
          go_wp2_with fail
          refine (awake_w _ (tab_kept hT.out (by repeat (first | with_reducible exact Kept.refl _ | with_reducible assumption | with_reducible refine Kept.setCell ?_ (by first | (simp; done) | (simp; omega) | omega) _ | with_reducible refine Kept.alloc ?_ _ | with_reducible refine Kept.drewN ?_ _ | with_reducible refine Kept.drew ?_ | with_reducible refine Kept.trans ?_ (by with_reducible assumption) | with_reducible refine Kept.dr ?_ (by with_reducible assumption))))).mono ?_
          rintro e w1 ⟨rfl, hk1⟩
          refine kuse (b := w.heap.size) hk1 (by first | (simp; done) | (simp; omega) | omega) ?_
          intro ha hb
          have hz1_0 : w.heap.size < w1.heap.size := by have := hk1.size; (try simp at this); omega
          have hn1_0 : ¬ w.heap.size = w1.heap.size := by omega
          have hm1_0 : ¬ w1.heap.size = w.heap.size := by omega
          have hf1_0_0 : w1.cell? ⟨w.heap.size, 0, none⟩ = some (.int .i64 uh) := by first | (rw [ha]; with_reducible assumption) | (simp (maxDischargeDepth := 7) [go_sem, ha]; done) | (rw [ha]; assumption) | (simp (maxDischargeDepth := 7) [go_sem, ha, *]; done)
          have hf1_0_1 : w1.cell? ⟨w.heap.size, 1, none⟩ = some (.int .u64 ul) := by first | (rw [ha]; with_reducible assumption) | (simp (maxDischargeDepth := 7) [go_sem, ha]; done) | (rw [ha]; assumption) | (simp (maxDischargeDepth := 7) [go_sem, ha, *]; done)
          try have hg1_0 : ∀ o, w1.frozen? ⟨w.heap.size, o, none⟩ = false := by intro o; first | (simp (maxDischargeDepth := 7) [go_sem, hb]; done) | (rw [hb]; simp (maxDischargeDepth := 7) [go_sem, *]; done)
          clear ha hb
          refine kuse (b := w.heap.size + 1) hk1 (by first | (simp; done) | (simp; omega) | omega) ?_
          intro ha hb
          have hz1_1 : w.heap.size + 1 < w1.heap.size := by have := hk1.size; (try simp at this); omega
          have hn1_1 : ¬ w.heap.size + 1 = w1.heap.size := by omega
          have hm1_1 : ¬ w1.heap.size = w.heap.size + 1 := by omega
          have hf1_1_0 : w1.cell? ⟨w.heap.size + 1, 0, none⟩ = some (.int .i64 vh) := by first | (rw [ha]; with_reducible assumption) | (simp (maxDischargeDepth := 7) [go_sem, ha]; done) | (rw [ha]; assumption) | (simp (maxDischargeDepth := 7) [go_sem, ha, *]; done)
          have hf1_1_1 : w1.cell? ⟨w.heap.size + 1, 1, none⟩ = some (.int .u64 vl) := by first | (rw [ha]; with_reducible assumption) | (simp (maxDischargeDepth := 7) [go_sem, ha]; done) | (rw [ha]; assumption) | (simp (maxDischargeDepth := 7) [go_sem, ha, *]; done)
          try have hg1_1 : ∀ o, w1.frozen? ⟨w.heap.size + 1, o, none⟩ = false := by intro o; first | (simp (maxDischargeDepth := 7) [go_sem, hb]; done) | (rw [hb]; simp (maxDischargeDepth := 7) [go_sem, *]; done)
          clear ha hb
          refine kuse (b := w.heap.size + 2) hk1 (by first | (simp; done) | (simp; omega) | omega) ?_
          intro ha hb
          have hz1_2 : w.heap.size + 2 < w1.heap.size := by have := hk1.size; (try simp at this); omega
          have hn1_2 : ¬ w.heap.size + 2 = w1.heap.size := by omega
          have hm1_2 : ¬ w1.heap.size = w.heap.size + 2 := by omega
          have hf1_2_0 : w1.cell? ⟨w.heap.size + 2, 0, none⟩ = some (.int .i64 zh) := by first | (rw [ha]; with_reducible assumption) | (simp (maxDischargeDepth := 7) [go_sem, ha]; done) | (rw [ha]; assumption) | (simp (maxDischargeDepth := 7) [go_sem, ha, *]; done)
          have hf1_2_1 : w1.cell? ⟨w.heap.size + 2, 1, none⟩ = some (.int .u64 zl) := by first | (rw [ha]; with_reducible assumption) | (simp (maxDischargeDepth := 7) [go_sem, ha]; done) | (rw [ha]; assumption) | (simp (maxDischargeDepth := 7) [go_sem, ha, *]; done)
          try have hg1_2 : ∀ o, w1.frozen? ⟨w.heap.size + 2, o, none⟩ = false := by intro o; first | (simp (maxDischargeDepth := 7) [go_sem, hb]; done) | (rw [hb]; simp (maxDischargeDepth := 7) [go_sem, *]; done)
          clear ha hb
          go_wp2_with fail
          with_reducible refine (Hsb.out _).mono ?_
          rintro e w2 ⟨rfl, hk2⟩
          refine kuse (b := w.heap.size) hk2 (by first | (simp; done) | (simp; omega) | omega) ?_
          intro ha hb
          have hz2_0 : w.heap.size < w2.heap.size := by have := hk2.size; (try simp at this); omega
          have hn2_0 : ¬ w.heap.size = w2.heap.size := by omega
          have hm2_0 : ¬ w2.heap.size = w.heap.size := by omega
          have hf2_0_0 : w2.cell? ⟨w.heap.size, 0, none⟩ = some (.int .i64 uh) := by first | (rw [ha]; with_reducible assumption) | (simp (maxDischargeDepth := 7) [go_sem, ha]; done) | (rw [ha]; assumption) | (simp (maxDischargeDepth := 7) [go_sem, ha, *]; done)
          have hf2_0_1 : w2.cell? ⟨w.heap.size, 1, none⟩ = some (.int .u64 ul) := by first | (rw [ha]; with_reducible assumption) | (simp (maxDischargeDepth := 7) [go_sem, ha]; done) | (rw [ha]; assumption) | (simp (maxDischargeDepth := 7) [go_sem, ha, *]; done)
          try have hg2_0 : ∀ o, w2.frozen? ⟨w.heap.size, o, none⟩ = false := by intro o; first | (simp (maxDischargeDepth := 7) [go_sem, hb]; done) | (rw [hb]; simp (maxDischargeDepth := 7) [go_sem, *]; done)
          clear ha hb
          refine kuse (b := w.heap.size + 1) hk2 (by first | (simp; done) | (simp; omega) | omega) ?_
          intro ha hb
          have hz2_1 : w.heap.size + 1 < w2.heap.size := by have := hk2.size; (try simp at this); omega
          have hn2_1 : ¬ w.heap.size + 1 = w2.heap.size := by omega
          have hm2_1 : ¬ w2.heap.size = w.heap.size + 1 := by omega
          have hf2_1_0 : w2.cell? ⟨w.heap.size + 1, 0, none⟩ = some (.int .i64 vh) := by first | (rw [ha]; with_reducible assumption) | (simp (maxDischargeDepth := 7) [go_sem, ha]; done) | (rw [ha]; assumption) | (simp (maxDischargeDepth := 7) [go_sem, ha, *]; done)
          have hf2_1_1 : w2.cell? ⟨w.heap.size + 1, 1, none⟩ = some (.int .u64 vl) := by first | (rw [ha]; with_reducible assumption) | (simp (maxDischargeDepth := 7) [go_sem, ha]; done) | (rw [ha]; assumption) | (simp (maxDischargeDepth := 7) [go_sem, ha, *]; done)
          try have hg2_1 : ∀ o, w2.frozen? ⟨w.heap.size + 1, o, none⟩ = false := by intro o; first | (simp (maxDischargeDepth := 7) [go_sem, hb]; done) | (rw [hb]; simp (maxDischargeDepth := 7) [go_sem, *]; done)
          clear ha hb
          refine kuse (b := w.heap.size + 2) hk2 (by first | (simp; done) | (simp; omega) | omega) ?_
          intro ha hb
          have hz2_2 : w.heap.size + 2 < w2.heap.size := by have := hk2.size; (try simp at this); omega
          have hn2_2 : ¬ w.heap.size + 2 = w2.heap.size := by omega
          have hm2_2 : ¬ w2.heap.size = w.heap.size + 2 := by omega
          have hf2_2_0 : w2.cell? ⟨w.heap.size + 2, 0, none⟩ = some (.int .i64 zh) := by first | (rw [ha]; with_reducible assumption) | (simp (maxDischargeDepth := 7) [go_sem, ha]; done) | (rw [ha]; assumption) | (simp (maxDischargeDepth := 7) [go_sem, ha, *]; done)
          have hf2_2_1 : w2.cell? ⟨w.heap.size + 2, 1, none⟩ = some (.int .u64 zl) := by first | (rw [ha]; with_reducible assumption) | (simp (maxDischargeDepth := 7) [go_sem, ha]; done) | (rw [ha]; assumption) | (simp (maxDischargeDepth := 7) [go_sem, ha, *]; done)
          try have hg2_2 : ∀ o, w2.frozen? ⟨w.heap.size + 2, o, none⟩ = false := by intro o; first | (simp (maxDischargeDepth := 7) [go_sem, hb]; done) | (rw [hb]; simp (maxDischargeDepth := 7) [go_sem, *]; done)
          clear ha hb
          try clear hf1_0_0
          try clear hf1_0_1
          try clear hf1_1_0
          try clear hf1_1_1
          try clear hf1_2_0
          try clear hf1_2_1
          try clear hg1_0
          try clear hg1_1
          try clear hg1_2
          try clear hz1_1
          try clear hz1_2
          go_wp2_with fail
          with_reducible refine (Hcm.out _).mono ?_
          rintro e w3 ⟨rfl, hk3⟩
          refine kuse (b := w.heap.size) hk3 (by first | (simp; done) | (simp; omega) | omega) ?_
          intro ha hb
          have hz3_0 : w.heap.size < w3.heap.size := by have := hk3.size; (try simp at this); omega
          have hn3_0 : ¬ w.heap.size = w3.heap.size := by omega
          have hm3_0 : ¬ w3.heap.size = w.heap.size := by omega
          have hf3_0_0 : w3.cell? ⟨w.heap.size, 0, none⟩ = some (.int .i64 uh) := by first | (rw [ha]; with_reducible assumption) | (simp (maxDischargeDepth := 7) [go_sem, ha]; done) | (rw [ha]; assumption) | (simp (maxDischargeDepth := 7) [go_sem, ha, *]; done)
          have hf3_0_1 : w3.cell? ⟨w.heap.size, 1, none⟩ = some (.int .u64 ul) := by first | (rw [ha]; with_reducible assumption) | (simp (maxDischargeDepth := 7) [go_sem, ha]; done) | (rw [ha]; assumption) | (simp (maxDischargeDepth := 7) [go_sem, ha, *]; done)
          try have hg3_0 : ∀ o, w3.frozen? ⟨w.heap.size, o, none⟩ = false := by intro o; first | (simp (maxDischargeDepth := 7) [go_sem, hb]; done) | (rw [hb]; simp (maxDischargeDepth := 7) [go_sem, *]; done)
          clear ha hb
          refine kuse (b := w.heap.size + 1) hk3 (by first | (simp; done) | (simp; omega) | omega) ?_
          intro ha hb
          have hz3_1 : w.heap.size + 1 < w3.heap.size := by have := hk3.size; (try simp at this); omega
          have hn3_1 : ¬ w.heap.size + 1 = w3.heap.size := by omega
          have hm3_1 : ¬ w3.heap.size = w.heap.size + 1 := by omega
          have hf3_1_0 : w3.cell? ⟨w.heap.size + 1, 0, none⟩ = some (.int .i64 vh) := by first | (rw [ha]; with_reducible assumption) | (simp (maxDischargeDepth := 7) [go_sem, ha]; done) | (rw [ha]; assumption) | (simp (maxDischargeDepth := 7) [go_sem, ha, *]; done)
          have hf3_1_1 : w3.cell? ⟨w.heap.size + 1, 1, none⟩ = some (.int .u64 vl) := by first | (rw [ha]; with_reducible assumption) | (simp (maxDischargeDepth := 7) [go_sem, ha]; done) | (rw [ha]; assumption) | (simp (maxDischargeDepth := 7) [go_sem, ha, *]; done)
          try have hg3_1 : ∀ o, w3.frozen? ⟨w.heap.size + 1, o, none⟩ = false := by intro o; first | (simp (maxDischargeDepth := 7) [go_sem, hb]; done) | (rw [hb]; simp (maxDischargeDepth := 7) [go_sem, *]; done)
          clear ha hb
          refine kuse (b := w.heap.size + 2) hk3 (by first | (simp; done) | (simp; omega) | omega) ?_
          intro ha hb
          have hz3_2 : w.heap.size + 2 < w3.heap.size := by have := hk3.size; (try simp at this); omega
          have hn3_2 : ¬ w.heap.size + 2 = w3.heap.size := by omega
          have hm3_2 : ¬ w3.heap.size = w.heap.size + 2 := by omega
          have hf3_2_0 : w3.cell? ⟨w.heap.size + 2, 0, none⟩ = some (.int .i64 zh) := by first | (rw [ha]; with_reducible assumption) | (simp (maxDischargeDepth := 7) [go_sem, ha]; done) | (rw [ha]; assumption) | (simp (maxDischargeDepth := 7) [go_sem, ha, *]; done)
          have hf3_2_1 : w3.cell? ⟨w.heap.size + 2, 1, none⟩ = some (.int .u64 zl) := by first | (rw [ha]; with_reducible assumption) | (simp (maxDischargeDepth := 7) [go_sem, ha]; done) | (rw [ha]; assumption) | (simp (maxDischargeDepth := 7) [go_sem, ha, *]; done)
          try have hg3_2 : ∀ o, w3.frozen? ⟨w.heap.size + 2, o, none⟩ = false := by intro o; first | (simp (maxDischargeDepth := 7) [go_sem, hb]; done) | (rw [hb]; simp (maxDischargeDepth := 7) [go_sem, *]; done)
          clear ha hb
          refine kuse (b := w2.heap.size) hk3 (by first | (simp; done) | (simp; omega) | omega) ?_
          intro ha hb
          have hz3_3 : w2.heap.size < w3.heap.size := by have := hk3.size; (try simp at this); omega
          have hn3_3 : ¬ w2.heap.size = w3.heap.size := by omega
          have hm3_3 : ¬ w3.heap.size = w2.heap.size := by omega
          have hf3_3_0 : w3.cell? ⟨w2.heap.size, 0, none⟩ = some (.int .i64 (wh D)) := by first | (rw [ha]; with_reducible assumption) | (simp (maxDischargeDepth := 7) [go_sem, ha]; done) | (rw [ha]; assumption) | (simp (maxDischargeDepth := 7) [go_sem, ha, *]; done)
          have hf3_3_1 : w3.cell? ⟨w2.heap.size, 1, none⟩ = some (.int .u64 (wl D)) := by first | (rw [ha]; with_reducible assumption) | (simp (maxDischargeDepth := 7) [go_sem, ha]; done) | (rw [ha]; assumption) | (simp (maxDischargeDepth := 7) [go_sem, ha, *]; done)
          try have hg3_3 : ∀ o, w3.frozen? ⟨w2.heap.size, o, none⟩ = false := by intro o; first | (simp (maxDischargeDepth := 7) [go_sem, hb]; done) | (rw [hb]; simp (maxDischargeDepth := 7) [go_sem, *]; done)
          clear ha hb
          try clear hf2_0_0
          try clear hf2_0_1
          try clear hf2_1_0
          try clear hf2_1_1
          try clear hf2_2_0
          try clear hf2_2_1
          try clear hg2_0
          try clear hg2_1
          try clear hg2_2
          try clear hz2_1
          try clear hz2_2
          go_wp2_with fail
          with_reducible refine (Hsg.out _).mono ?_
          rintro e w4 ⟨rfl, hk4⟩
          refine kuse (b := w.heap.size) hk4 (by first | (simp; done) | (simp; omega) | omega) ?_
          intro ha hb
          have hz4_0 : w.heap.size < w4.heap.size := by have := hk4.size; (try simp at this); omega
          have hn4_0 : ¬ w.heap.size = w4.heap.size := by omega
          have hm4_0 : ¬ w4.heap.size = w.heap.size := by omega
          have hf4_0_0 : w4.cell? ⟨w.heap.size, 0, none⟩ = some (.int .i64 uh) := by first | (rw [ha]; with_reducible assumption) | (simp (maxDischargeDepth := 7) [go_sem, ha]; done) | (rw [ha]; assumption) | (simp (maxDischargeDepth := 7) [go_sem, ha, *]; done)
          have hf4_0_1 : w4.cell? ⟨w.heap.size, 1, none⟩ = some (.int .u64 ul) := by first | (rw [ha]; with_reducible assumption) | (simp (maxDischargeDepth := 7) [go_sem, ha]; done) | (rw [ha]; assumption) | (simp (maxDischargeDepth := 7) [go_sem, ha, *]; done)
          try have hg4_0 : ∀ o, w4.frozen? ⟨w.heap.size, o, none⟩ = false := by intro o; first | (simp (maxDischargeDepth := 7) [go_sem, hb]; done) | (rw [hb]; simp (maxDischargeDepth := 7) [go_sem, *]; done)
          clear ha hb
          refine kuse (b := w.heap.size + 1) hk4 (by first | (simp; done) | (simp; omega) | omega) ?_
          intro ha hb
          have hz4_1 : w.heap.size + 1 < w4.heap.size := by have := hk4.size; (try simp at this); omega
          have hn4_1 : ¬ w.heap.size + 1 = w4.heap.size := by omega
          have hm4_1 : ¬ w4.heap.size = w.heap.size + 1 := by omega
          have hf4_1_0 : w4.cell? ⟨w.heap.size + 1, 0, none⟩ = some (.int .i64 vh) := by first | (rw [ha]; with_reducible assumption) | (simp (maxDischargeDepth := 7) [go_sem, ha]; done) | (rw [ha]; assumption) | (simp (maxDischargeDepth := 7) [go_sem, ha, *]; done)
          have hf4_1_1 : w4.cell? ⟨w.heap.size + 1, 1, none⟩ = some (.int .u64 vl) := by first | (rw [ha]; with_reducible assumption) | (simp (maxDischargeDepth := 7) [go_sem, ha]; done) | (rw [ha]; assumption) | (simp (maxDischargeDepth := 7) [go_sem, ha, *]; done)
          try have hg4_1 : ∀ o, w4.frozen? ⟨w.heap.size + 1, o, none⟩ = false := by intro o; first | (simp (maxDischargeDepth := 7) [go_sem, hb]; done) | (rw [hb]; simp (maxDischargeDepth := 7) [go_sem, *]; done)
          clear ha hb
          refine kuse (b := w.heap.size + 2) hk4 (by first | (simp; done) | (simp; omega) | omega) ?_
          intro ha hb
          have hz4_2 : w.heap.size + 2 < w4.heap.size := by have := hk4.size; (try simp at this); omega
          have hn4_2 : ¬ w.heap.size + 2 = w4.heap.size := by omega
          have hm4_2 : ¬ w4.heap.size = w.heap.size + 2 := by omega
          have hf4_2_0 : w4.cell? ⟨w.heap.size + 2, 0, none⟩ = some (.int .i64 zh) := by first | (rw [ha]; with_reducible assumption) | (simp (maxDischargeDepth := 7) [go_sem, ha]; done) | (rw [ha]; assumption) | (simp (maxDischargeDepth := 7) [go_sem, ha, *]; done)
          have hf4_2_1 : w4.cell? ⟨w.heap.size + 2, 1, none⟩ = some (.int .u64 zl) := by first | (rw [ha]; with_reducible assumption) | (simp (maxDischargeDepth := 7) [go_sem, ha]; done) | (rw [ha]; assumption) | (simp (maxDischargeDepth := 7) [go_sem, ha, *]; done)
          try have hg4_2 : ∀ o, w4.frozen? ⟨w.heap.size + 2, o, none⟩ = false := by intro o; first | (simp (maxDischargeDepth := 7) [go_sem, hb]; done) | (rw [hb]; simp (maxDischargeDepth := 7) [go_sem, *]; done)
          clear ha hb
          refine kuse (b := w2.heap.size) hk4 (by first | (simp; done) | (simp; omega) | omega) ?_
          intro ha hb
          have hz4_3 : w2.heap.size < w4.heap.size := by have := hk4.size; (try simp at this); omega
          have hn4_3 : ¬ w2.heap.size = w4.heap.size := by omega
          have hm4_3 : ¬ w4.heap.size = w2.heap.size := by omega
          have hf4_3_0 : w4.cell? ⟨w2.heap.size, 0, none⟩ = some (.int .i64 (wh D)) := by first | (rw [ha]; with_reducible assumption) | (simp (maxDischargeDepth := 7) [go_sem, ha]; done) | (rw [ha]; assumption) | (simp (maxDischargeDepth := 7) [go_sem, ha, *]; done)
          have hf4_3_1 : w4.cell? ⟨w2.heap.size, 1, none⟩ = some (.int .u64 (wl D)) := by first | (rw [ha]; with_reducible assumption) | (simp (maxDischargeDepth := 7) [go_sem, ha]; done) | (rw [ha]; assumption) | (simp (maxDischargeDepth := 7) [go_sem, ha, *]; done)
          try have hg4_3 : ∀ o, w4.frozen? ⟨w2.heap.size, o, none⟩ = false := by intro o; first | (simp (maxDischargeDepth := 7) [go_sem, hb]; done) | (rw [hb]; simp (maxDischargeDepth := 7) [go_sem, *]; done)
          clear ha hb
          try clear hf3_0_0
          try clear hf3_0_1
          try clear hf3_1_0
          try clear hf3_1_1
          try clear hf3_2_0
          try clear hf3_2_1
          try clear hf3_3_0
          try clear hf3_3_1
          try clear hg3_0
          try clear hg3_1
          try clear hg3_2
          try clear hg3_3
          try clear hz3_1
          try clear hz3_2
          try clear hz3_3
          go_wp2_with fail
          with_reducible refine (Hcn.out _).mono ?_
          rintro e w5 ⟨rfl, hk5⟩
          refine kuse (b := w.heap.size) hk5 (by first | (simp; done) | (simp; omega) | omega) ?_
          intro ha hb
          have hz5_0 : w.heap.size < w5.heap.size := by have := hk5.size; (try simp at this); omega
          have hn5_0 : ¬ w.heap.size = w5.heap.size := by omega
          have hm5_0 : ¬ w5.heap.size = w.heap.size := by omega
          have hf5_0_0 : w5.cell? ⟨w.heap.size, 0, none⟩ = some (.int .i64 uh) := by first | (rw [ha]; with_reducible assumption) | (simp (maxDischargeDepth := 7) [go_sem, ha]; done) | (rw [ha]; assumption) | (simp (maxDischargeDepth := 7) [go_sem, ha, *]; done)
          have hf5_0_1 : w5.cell? ⟨w.heap.size, 1, none⟩ = some (.int .u64 ul) := by first | (rw [ha]; with_reducible assumption) | (simp (maxDischargeDepth := 7) [go_sem, ha]; done) | (rw [ha]; assumption) | (simp (maxDischargeDepth := 7) [go_sem, ha, *]; done)
          try have hg5_0 : ∀ o, w5.frozen? ⟨w.heap.size, o, none⟩ = false := by intro o; first | (simp (maxDischargeDepth := 7) [go_sem, hb]; done) | (rw [hb]; simp (maxDischargeDepth := 7) [go_sem, *]; done)
          clear ha hb
          refine kuse (b := w.heap.size + 1) hk5 (by first | (simp; done) | (simp; omega) | omega) ?_
          intro ha hb
          have hz5_1 : w.heap.size + 1 < w5.heap.size := by have := hk5.size; (try simp at this); omega
          have hn5_1 : ¬ w.heap.size + 1 = w5.heap.size := by omega
          have hm5_1 : ¬ w5.heap.size = w.heap.size + 1 := by omega
          have hf5_1_0 : w5.cell? ⟨w.heap.size + 1, 0, none⟩ = some (.int .i64 vh) := by first | (rw [ha]; with_reducible assumption) | (simp (maxDischargeDepth := 7) [go_sem, ha]; done) | (rw [ha]; assumption) | (simp (maxDischargeDepth := 7) [go_sem, ha, *]; done)
          have hf5_1_1 : w5.cell? ⟨w.heap.size + 1, 1, none⟩ = some (.int .u64 vl) := by first | (rw [ha]; with_reducible assumption) | (simp (maxDischargeDepth := 7) [go_sem, ha]; done) | (rw [ha]; assumption) | (simp (maxDischargeDepth := 7) [go_sem, ha, *]; done)
          try have hg5_1 : ∀ o, w5.frozen? ⟨w.heap.size + 1, o, none⟩ = false := by intro o; first | (simp (maxDischargeDepth := 7) [go_sem, hb]; done) | (rw [hb]; simp (maxDischargeDepth := 7) [go_sem, *]; done)
          clear ha hb
          refine kuse (b := w.heap.size + 2) hk5 (by first | (simp; done) | (simp; omega) | omega) ?_
          intro ha hb
          have hz5_2 : w.heap.size + 2 < w5.heap.size := by have := hk5.size; (try simp at this); omega
          have hn5_2 : ¬ w.heap.size + 2 = w5.heap.size := by omega
          have hm5_2 : ¬ w5.heap.size = w.heap.size + 2 := by omega
          have hf5_2_0 : w5.cell? ⟨w.heap.size + 2, 0, none⟩ = some (.int .i64 zh) := by first | (rw [ha]; with_reducible assumption) | (simp (maxDischargeDepth := 7) [go_sem, ha]; done) | (rw [ha]; assumption) | (simp (maxDischargeDepth := 7) [go_sem, ha, *]; done)
          have hf5_2_1 : w5.cell? ⟨w.heap.size + 2, 1, none⟩ = some (.int .u64 zl) := by first | (rw [ha]; with_reducible assumption) | (simp (maxDischargeDepth := 7) [go_sem, ha]; done) | (rw [ha]; assumption) | (simp (maxDischargeDepth := 7) [go_sem, ha, *]; done)
          try have hg5_2 : ∀ o, w5.frozen? ⟨w.heap.size + 2, o, none⟩ = false := by intro o; first | (simp (maxDischargeDepth := 7) [go_sem, hb]; done) | (rw [hb]; simp (maxDischargeDepth := 7) [go_sem, *]; done)
          clear ha hb
          refine kuse (b := w2.heap.size) hk5 (by first | (simp; done) | (simp; omega) | omega) ?_
          intro ha hb
          have hz5_3 : w2.heap.size < w5.heap.size := by have := hk5.size; (try simp at this); omega
          have hn5_3 : ¬ w2.heap.size = w5.heap.size := by omega
          have hm5_3 : ¬ w5.heap.size = w2.heap.size := by omega
          have hf5_3_0 : w5.cell? ⟨w2.heap.size, 0, none⟩ = some (.int .i64 (wh D)) := by first | (rw [ha]; with_reducible assumption) | (simp (maxDischargeDepth := 7) [go_sem, ha]; done) | (rw [ha]; assumption) | (simp (maxDischargeDepth := 7) [go_sem, ha, *]; done)
          have hf5_3_1 : w5.cell? ⟨w2.heap.size, 1, none⟩ = some (.int .u64 (wl D)) := by first | (rw [ha]; with_reducible assumption) | (simp (maxDischargeDepth := 7) [go_sem, ha]; done) | (rw [ha]; assumption) | (simp (maxDischargeDepth := 7) [go_sem, ha, *]; done)
          try have hg5_3 : ∀ o, w5.frozen? ⟨w2.heap.size, o, none⟩ = false := by intro o; first | (simp (maxDischargeDepth := 7) [go_sem, hb]; done) | (rw [hb]; simp (maxDischargeDepth := 7) [go_sem, *]; done)
          clear ha hb
          try clear hf4_0_0
          try clear hf4_0_1
          try clear hf4_1_0
          try clear hf4_1_1
          try clear hf4_2_0
          try clear hf4_2_1
          try clear hf4_3_0
          try clear hf4_3_1
          try clear hg4_0
          try clear hg4_1
          try clear hg4_2
          try clear hg4_3
          try clear hz4_1
          try clear hz4_2
          try clear hz4_3
          go_wp2_with fail
          with_reducible refine (Hc2.out _).mono ?_
          rintro e w6 ⟨rfl, hk6⟩
          refine kuse (b := w.heap.size) hk6 (by first | (simp; done) | (simp; omega) | omega) ?_
          intro ha hb
          have hz6_0 : w.heap.size < w6.heap.size := by have := hk6.size; (try simp at this); omega
          have hn6_0 : ¬ w.heap.size = w6.heap.size := by omega
          have hm6_0 : ¬ w6.heap.size = w.heap.size := by omega
          have hf6_0_0 : w6.cell? ⟨w.heap.size, 0, none⟩ = some (.int .i64 uh) := by first | (rw [ha]; with_reducible assumption) | (simp (maxDischargeDepth := 7) [go_sem, ha]; done) | (rw [ha]; assumption) | (simp (maxDischargeDepth := 7) [go_sem, ha, *]; done)
          have hf6_0_1 : w6.cell? ⟨w.heap.size, 1, none⟩ = some (.int .u64 ul) := by first | (rw [ha]; with_reducible assumption) | (simp (maxDischargeDepth := 7) [go_sem, ha]; done) | (rw [ha]; assumption) | (simp (maxDischargeDepth := 7) [go_sem, ha, *]; done)
          try have hg6_0 : ∀ o, w6.frozen? ⟨w.heap.size, o, none⟩ = false := by intro o; first | (simp (maxDischargeDepth := 7) [go_sem, hb]; done) | (rw [hb]; simp (maxDischargeDepth := 7) [go_sem, *]; done)
          clear ha hb
          refine kuse (b := w.heap.size + 1) hk6 (by first | (simp; done) | (simp; omega) | omega) ?_
          intro ha hb
          have hz6_1 : w.heap.size + 1 < w6.heap.size := by have := hk6.size; (try simp at this); omega
          have hn6_1 : ¬ w.heap.size + 1 = w6.heap.size := by omega
          have hm6_1 : ¬ w6.heap.size = w.heap.size + 1 := by omega
          have hf6_1_0 : w6.cell? ⟨w.heap.size + 1, 0, none⟩ = some (.int .i64 vh) := by first | (rw [ha]; with_reducible assumption) | (simp (maxDischargeDepth := 7) [go_sem, ha]; done) | (rw [ha]; assumption) | (simp (maxDischargeDepth := 7) [go_sem, ha, *]; done)
          have hf6_1_1 : w6.cell? ⟨w.heap.size + 1, 1, none⟩ = some (.int .u64 vl) := by first | (rw [ha]; with_reducible assumption) | (simp (maxDischargeDepth := 7) [go_sem, ha]; done) | (rw [ha]; assumption) | (simp (maxDischargeDepth := 7) [go_sem, ha, *]; done)
          try have hg6_1 : ∀ o, w6.frozen? ⟨w.heap.size + 1, o, none⟩ = false := by intro o; first | (simp (maxDischargeDepth := 7) [go_sem, hb]; done) | (rw [hb]; simp (maxDischargeDepth := 7) [go_sem, *]; done)
          clear ha hb
          refine kuse (b := w.heap.size + 2) hk6 (by first | (simp; done) | (simp; omega) | omega) ?_
          intro ha hb
          have hz6_2 : w.heap.size + 2 < w6.heap.size := by have := hk6.size; (try simp at this); omega
          have hn6_2 : ¬ w.heap.size + 2 = w6.heap.size := by omega
          have hm6_2 : ¬ w6.heap.size = w.heap.size + 2 := by omega
          have hf6_2_0 : w6.cell? ⟨w.heap.size + 2, 0, none⟩ = some (.int .i64 zh) := by first | (rw [ha]; with_reducible assumption) | (simp (maxDischargeDepth := 7) [go_sem, ha]; done) | (rw [ha]; assumption) | (simp (maxDischargeDepth := 7) [go_sem, ha, *]; done)
          have hf6_2_1 : w6.cell? ⟨w.heap.size + 2, 1, none⟩ = some (.int .u64 zl) := by first | (rw [ha]; with_reducible assumption) | (simp (maxDischargeDepth := 7) [go_sem, ha]; done) | (rw [ha]; assumption) | (simp (maxDischargeDepth := 7) [go_sem, ha, *]; done)
          try have hg6_2 : ∀ o, w6.frozen? ⟨w.heap.size + 2, o, none⟩ = false := by intro o; first | (simp (maxDischargeDepth := 7) [go_sem, hb]; done) | (rw [hb]; simp (maxDischargeDepth := 7) [go_sem, *]; done)
          clear ha hb
          refine kuse (b := w2.heap.size) hk6 (by first | (simp; done) | (simp; omega) | omega) ?_
          intro ha hb
          have hz6_3 : w2.heap.size < w6.heap.size := by have := hk6.size; (try simp at this); omega
          have hn6_3 : ¬ w2.heap.size = w6.heap.size := by omega
          have hm6_3 : ¬ w6.heap.size = w2.heap.size := by omega
          have hf6_3_0 : w6.cell? ⟨w2.heap.size, 0, none⟩ = some (.int .i64 (wh D)) := by first | (rw [ha]; with_reducible assumption) | (simp (maxDischargeDepth := 7) [go_sem, ha]; done) | (rw [ha]; assumption) | (simp (maxDischargeDepth := 7) [go_sem, ha, *]; done)
          have hf6_3_1 : w6.cell? ⟨w2.heap.size, 1, none⟩ = some (.int .u64 (wl D)) := by first | (rw [ha]; with_reducible assumption) | (simp (maxDischargeDepth := 7) [go_sem, ha]; done) | (rw [ha]; assumption) | (simp (maxDischargeDepth := 7) [go_sem, ha, *]; done)
          try have hg6_3 : ∀ o, w6.frozen? ⟨w2.heap.size, o, none⟩ = false := by intro o; first | (simp (maxDischargeDepth := 7) [go_sem, hb]; done) | (rw [hb]; simp (maxDischargeDepth := 7) [go_sem, *]; done)
          clear ha hb
          try clear hf5_0_0
          try clear hf5_0_1
          try clear hf5_1_0
          try clear hf5_1_1
          try clear hf5_2_0
          try clear hf5_2_1
          try clear hf5_3_0
          try clear hf5_3_1
          try clear hg5_0
          try clear hg5_1
          try clear hg5_2
          try clear hg5_3
          try clear hz5_1
          try clear hz5_2
          try clear hz5_3
          go_wp2_with fail
          all_goals go_ret
          all_goals exact ⟨rfl, (by repeat (first | with_reducible exact Kept.refl _ | with_reducible assumption | with_reducible refine Kept.setCell ?_ (by first | (simp; done) | (simp; omega) | omega) _ | with_reducible refine Kept.alloc ?_ _ | with_reducible refine Kept.drewN ?_ _ | with_reducible refine Kept.drew ?_ | with_reducible refine Kept.trans ?_ (by with_reducible assumption) | with_reducible refine Kept.dr ?_ (by with_reducible assumption)))⟩
        · have sb := wsub_w u v u0 u1 v0 v1
          have cm := cmp_w u v
          have cn := cmp_w v u
          rw [(show wcm u v = -1 by unfold wcm; rw [if_pos (by omega)])] at cm
          rw [(show wcm v u = 1 by unfold wcm; rw [if_neg (by omega), if_neg (by omega)])] at cn
          have fy := wfit_no (u := u - v) (by omega)
          rw [fy.1, fy.2] at sb
          clear fy
          have z0' : wh 0 = 0 := by decide
          have z1' : wl 0 = 0 := by decide
          rw [z0', z1'] at sb
          clear z0' z1'
          have c2 := cmp_w v z
          rw [(show wcm v z = 0 by unfold wcm; rw [if_neg (by omega), if_pos (by omega)])] at c2
          have n0 : (wh u == wh v && wl u == wl v) = false := by
            rw [Bool.and_eq_false_iff]
            by_cases k : wh u = wh v
            · right; rw [beq_eq_false_iff_ne]; intro k2; have := w_ext k k2; omega
            · left; rw [beq_eq_false_iff_ne]; exact k
          have eqs : ∀ w, (Op.equalIn 10000 24 (.agg #[.int .i64 (wh u), .int .u64 (wl u)]) (.agg #[.int .i64 (wh v), .int .u64 (wl v)])).run Tryd.prog w = .ok false w := fun w => by rw [eqW, n0]
          clear n0
          obtain ⟨D, hD⟩ : ∃ D, u - v = D := ⟨_, rfl⟩
          clear hD
          have Hsb := Lib.hid sb
          clear sb
          have Hcm := Lib.hid cm
          clear cm
          have Hcn := Lib.hid cn
          clear cn
          have Hc2 := Lib.hid c2
          clear c2
          clear hf
          clear h
          clear hz
          generalize wh u = uh at *; generalize wl u = ul at *; generalize wh v = vh at *; generalize wl v = vl at *; generalize wh z = zh at *; generalize wl z = zl at *
          clear u0 u1 v0 v1 z0 z1
          go_enter Tryd.func11, Tryd.ntmps11
          go_wp2_with fail
          refine (awake_w _ (tab_kept hT.out (by repeat (first | with_reducible exact Kept.refl _ | with_reducible assumption | with_reducible refine Kept.setCell ?_ (by first | (simp; done) | (simp; omega) | omega) _ | with_reducible refine Kept.alloc ?_ _ | with_reducible refine Kept.drewN ?_ _ | with_reducible refine Kept.drew ?_ | with_reducible refine Kept.trans ?_ (by with_reducible assumption) | with_reducible refine Kept.dr ?_ (by with_reducible assumption))))).mono ?_
          rintro e w1 ⟨rfl, hk1⟩
          refine kuse (b := w.heap.size) hk1 (by first | (simp; done) | (simp; omega) | omega) ?_
          intro ha hb
          have hz1_0 : w.heap.size < w1.heap.size := by have := hk1.size; (try simp at this); omega
          have hn1_0 : ¬ w.heap.size = w1.heap.size := by omega
          have hm1_0 : ¬ w1.heap.size = w.heap.size := by omega
          have hf1_0_0 : w1.cell? ⟨w.heap.size, 0, none⟩ = some (.int .i64 uh) := by first | (rw [ha]; with_reducible assumption) | (simp (maxDischargeDepth := 7) [go_sem, ha]; done) | (rw [ha]; assumption) | (simp (maxDischargeDepth := 7) [go_sem, ha, *]; done)
          have hf1_0_1 : w1.cell? ⟨w.heap.size, 1, none⟩ = some (.int .u64 ul) := by first | (rw [ha]; with_reducible assumption) | (simp (maxDischargeDepth := 7) [go_sem, ha]; done) | (rw [ha]; assumption) | (simp (maxDischargeDepth := 7) [go_sem, ha, *]; done)
          try have hg1_0 : ∀ o, w1.frozen? ⟨w.heap.size, o, none⟩ = false := by intro o; first | (simp (maxDischargeDepth := 7) [go_sem, hb]; done) | (rw [hb]; simp (maxDischargeDepth := 7) [go_sem, *]; done)
          clear ha hb
          refine kuse (b := w.heap.size + 1) hk1 (by first | (simp; done) | (simp; omega) | omega) ?_
          intro ha hb
          have hz1_1 : w.heap.size + 1 < w1.heap.size := by have := hk1.size; (try simp at this); omega
          have hn1_1 : ¬ w.heap.size + 1 = w1.heap.size := by omega
          have hm1_1 : ¬ w1.heap.size = w.heap.size + 1 := by omega
          have hf1_1_0 : w1.cell? ⟨w.heap.size + 1, 0, none⟩ = some (.int .i64 vh) := by first | (rw [ha]; with_reducible assumption) | (simp (maxDischargeDepth := 7) [go_sem, ha]; done) | (rw [ha]; assumption) | (simp (maxDischargeDepth := 7) [go_sem, ha, *]; done)
          have hf1_1_1 : w1.cell? ⟨w.heap.size + 1, 1, none⟩ = some (.int .u64 vl) := by first | (rw [ha]; with_reducible assumption) | (simp (maxDischargeDepth := 7) [go_sem, ha]; done) | (rw [ha]; assumption) | (simp (maxDischargeDepth := 7) [go_sem, ha, *]; done)
          try have hg1_1 : ∀ o, w1.frozen? ⟨w.heap.size + 1, o, none⟩ = false := by intro o; first | (simp (maxDischargeDepth := 7) [go_sem, hb]; done) | (rw [hb]; simp (maxDischargeDepth := 7) [go_sem, *]; done)
          clear ha hb
          refine kuse (b := w.heap.size + 2) hk1 (by first | (simp; done) | (simp; omega) | omega) ?_
          intro ha hb
          have hz1_2 : w.heap.size + 2 < w1.heap.size := by have := hk1.size; (try simp at this); omega
          have hn1_2 : ¬ w.heap.size + 2 = w1.heap.size := by omega
          have hm1_2 : ¬ w1.heap.size = w.heap.size + 2 := by omega
          have hf1_2_0 : w1.cell? ⟨w.heap.size + 2, 0, none⟩ = some (.int .i64 zh) := by first | (rw [ha]; with_reducible assumption) | (simp (maxDischargeDepth := 7) [go_sem, ha]; done) | (rw [ha]; assumption) | (simp (maxDischargeDepth := 7) [go_sem, ha, *]; done)
          have hf1_2_1 : w1.cell? ⟨w.heap.size + 2, 1, none⟩ = some (.int .u64 zl) := by first | (rw [ha]; with_reducible assumption) | (simp (maxDischargeDepth := 7) [go_sem, ha]; done) | (rw [ha]; assumption) | (simp (maxDischargeDepth := 7) [go_sem, ha, *]; done)
          try have hg1_2 : ∀ o, w1.frozen? ⟨w.heap.size + 2, o, none⟩ = false := by intro o; first | (simp (maxDischargeDepth := 7) [go_sem, hb]; done) | (rw [hb]; simp (maxDischargeDepth := 7) [go_sem, *]; done)
          clear ha hb
          go_wp2_with fail
          with_reducible refine (Hsb.out _).mono ?_
          rintro e w2 ⟨rfl, hk2⟩
          refine kuse (b := w.heap.size) hk2 (by first | (simp; done) | (simp; omega) | omega) ?_
          intro ha hb
          have hz2_0 : w.heap.size < w2.heap.size := by have := hk2.size; (try simp at this); omega
          have hn2_0 : ¬ w.heap.size = w2.heap.size := by omega
          have hm2_0 : ¬ w2.heap.size = w.heap.size := by omega
          have hf2_0_0 : w2.cell? ⟨w.heap.size, 0, none⟩ = some (.int .i64 uh) := by first | (rw [ha]; with_reducible assumption) | (simp (maxDischargeDepth := 7) [go_sem, ha]; done) | (rw [ha]; assumption) | (simp (maxDischargeDepth := 7) [go_sem, ha, *]; done)
          have hf2_0_1 : w2.cell? ⟨w.heap.size, 1, none⟩ = some (.int .u64 ul) := by first | (rw [ha]; with_reducible assumption) | (simp (maxDischargeDepth := 7) [go_sem, ha]; done) | (rw [ha]; assumption) | (simp (maxDischargeDepth := 7) [go_sem, ha, *]; done)
          try have hg2_0 : ∀ o, w2.frozen? ⟨w.heap.size, o, none⟩ = false := by intro o; first | (simp (maxDischargeDepth := 7) [go_sem, hb]; done) | (rw [hb]; simp (maxDischargeDepth := 7) [go_sem, *]; done)
          clear ha hb
          refine kuse (b := w.heap.size + 1) hk2 (by first | (simp; done) | (simp; omega) | omega) ?_
          intro ha hb
          have hz2_1 : w.heap.size + 1 < w2.heap.size := by have := hk2.size; (try simp at this); omega
          have hn2_1 : ¬ w.heap.size + 1 = w2.heap.size := by omega
          have hm2_1 : ¬ w2.heap.size = w.heap.size + 1 := by omega
          have hf2_1_0 : w2.cell? ⟨w.heap.size + 1, 0, none⟩ = some (.int .i64 vh) := by first | (rw [ha]; with_reducible assumption) | (simp (maxDischargeDepth := 7) [go_sem, ha]; done) | (rw [ha]; assumption) | (simp (maxDischargeDepth := 7) [go_sem, ha, *]; done)
          have hf2_1_1 : w2.cell? ⟨w.heap.size + 1, 1, none⟩ = some (.int .u64 vl) := by first | (rw [ha]; with_reducible assumption) | (simp (maxDischargeDepth := 7) [go_sem, ha]; done) | (rw [ha]; assumption) | (simp (maxDischargeDepth := 7) [go_sem, ha, *]; done)
          try have hg2_1 : ∀ o, w2.frozen? ⟨w.heap.size + 1, o, none⟩ = false := by intro o; first | (simp (maxDischargeDepth := 7) [go_sem, hb]; done) | (rw [hb]; simp (maxDischargeDepth := 7) [go_sem, *]; done)
          clear ha hb
          refine kuse (b := w.heap.size + 2) hk2 (by first | (simp; done) | (simp; omega) | omega) ?_
          intro ha hb
          have hz2_2 : w.heap.size + 2 < w2.heap.size := by have := hk2.size; (try simp at this); omega
          have hn2_2 : ¬ w.heap.size + 2 = w2.heap.size := by omega
          have hm2_2 : ¬ w2.heap.size = w.heap.size + 2 := by omega
          have hf2_2_0 : w2.cell? ⟨w.heap.size + 2, 0, none⟩ = some (.int .i64 zh) := by first | (rw [ha]; with_reducible assumption) | (simp (maxDischargeDepth := 7) [go_sem, ha]; done) | (rw [ha]; assumption) | (simp (maxDischargeDepth := 7) [go_sem, ha, *]; done)
          have hf2_2_1 : w2.cell? ⟨w.heap.size + 2, 1, none⟩ = some (.int .u64 zl) := by first | (rw [ha]; with_reducible assumption) | (simp (maxDischargeDepth := 7) [go_sem, ha]; done) | (rw [ha]; assumption) | (simp (maxDischargeDepth := 7) [go_sem, ha, *]; done)
          try have hg2_2 : ∀ o, w2.frozen? ⟨w.heap.size + 2, o, none⟩ = false := by intro o; first | (simp (maxDischargeDepth := 7) [go_sem, hb]; done) | (rw [hb]; simp (maxDischargeDepth := 7) [go_sem, *]; done)
          clear ha hb
          try clear hf1_0_0
          try clear hf1_0_1
          try clear hf1_1_0
          try clear hf1_1_1
          try clear hf1_2_0
          try clear hf1_2_1
          try clear hg1_0
          try clear hg1_1
          try clear hg1_2
          try clear hz1_1
          try clear hz1_2
          go_wp2_with fail
          with_reducible refine (Hcm.out _).mono ?_
          rintro e w3 ⟨rfl, hk3⟩
          refine kuse (b := w.heap.size) hk3 (by first | (simp; done) | (simp; omega) | omega) ?_
          intro ha hb
          have hz3_0 : w.heap.size < w3.heap.size := by have := hk3.size; (try simp at this); omega
          have hn3_0 : ¬ w.heap.size = w3.heap.size := by omega
          have hm3_0 : ¬ w3.heap.size = w.heap.size := by omega
          have hf3_0_0 : w3.cell? ⟨w.heap.size, 0, none⟩ = some (.int .i64 uh) := by first | (rw [ha]; with_reducible assumption) | (simp (maxDischargeDepth := 7) [go_sem, ha]; done) | (rw [ha]; assumption) | (simp (maxDischargeDepth := 7) [go_sem, ha, *]; done)
          have hf3_0_1 : w3.cell? ⟨w.heap.size, 1, none⟩ = some (.int .u64 ul) := by first | (rw [ha]; with_reducible assumption) | (simp (maxDischargeDepth := 7) [go_sem, ha]; done) | (rw [ha]; assumption) | (simp (maxDischargeDepth := 7) [go_sem, ha, *]; done)
          try have hg3_0 : ∀ o, w3.frozen? ⟨w.heap.size, o, none⟩ = false := by intro o; first | (simp (maxDischargeDepth := 7) [go_sem, hb]; done) | (rw [hb]; simp (maxDischargeDepth := 7) [go_sem, *]; done)
          clear ha hb
          refine kuse (b := w.heap.size + 1) hk3 (by first | (simp; done) | (simp; omega) | omega) ?_
          intro ha hb
          have hz3_1 : w.heap.size + 1 < w3.heap.size := by have := hk3.size; (try simp at this); omega
          have hn3_1 : ¬ w.heap.size + 1 = w3.heap.size := by omega
          have hm3_1 : ¬ w3.heap.size = w.heap.size + 1 := by omega
          have hf3_1_0 : w3.cell? ⟨w.heap.size + 1, 0, none⟩ = some (.int .i64 vh) := by first | (rw [ha]; with_reducible assumption) | (simp (maxDischargeDepth := 7) [go_sem, ha]; done) | (rw [ha]; assumption) | (simp (maxDischargeDepth := 7) [go_sem, ha, *]; done)
          have hf3_1_1 : w3.cell? ⟨w.heap.size + 1, 1, none⟩ = some (.int .u64 vl) := by first | (rw [ha]; with_reducible assumption) | (simp (maxDischargeDepth := 7) [go_sem, ha]; done) | (rw [ha]; assumption) | (simp (maxDischargeDepth := 7) [go_sem, ha, *]; done)
          try have hg3_1 : ∀ o, w3.frozen? ⟨w.heap.size + 1, o, none⟩ = false := by intro o; first | (simp (maxDischargeDepth := 7) [go_sem, hb]; done) | (rw [hb]; simp (maxDischargeDepth := 7) [go_sem, *]; done)
          clear ha hb
          refine kuse (b := w.heap.size + 2) hk3 (by first | (simp; done) | (simp; omega) | omega) ?_
          intro ha hb
          have hz3_2 : w.heap.size + 2 < w3.heap.size := by have := hk3.size; (try simp at this); omega
          have hn3_2 : ¬ w.heap.size + 2 = w3.heap.size := by omega
          have hm3_2 : ¬ w3.heap.size = w.heap.size + 2 := by omega
          have hf3_2_0 : w3.cell? ⟨w.heap.size + 2, 0, none⟩ = some (.int .i64 zh) := by first | (rw [ha]; with_reducible assumption) | (simp (maxDischargeDepth := 7) [go_sem, ha]; done) | (rw [ha]; assumption) | (simp (maxDischargeDepth := 7) [go_sem, ha, *]; done)
          have hf3_2_1 : w3.cell? ⟨w.heap.size + 2, 1, none⟩ = some (.int .u64 zl) := by first | (rw [ha]; with_reducible assumption) | (simp (maxDischargeDepth := 7) [go_sem, ha]; done) | (rw [ha]; assumption) | (simp (maxDischargeDepth := 7) [go_sem, ha, *]; done)
          try have hg3_2 : ∀ o, w3.frozen? ⟨w.heap.size + 2, o, none⟩ = false := by intro o; first | (simp (maxDischargeDepth := 7) [go_sem, hb]; done) | (rw [hb]; simp (maxDischargeDepth := 7) [go_sem, *]; done)
          clear ha hb
          refine kuse (b := w2.heap.size) hk3 (by first | (simp; done) | (simp; omega) | omega) ?_
          intro ha hb
          have hz3_3 : w2.heap.size < w3.heap.size := by have := hk3.size; (try simp at this); omega
          have hn3_3 : ¬ w2.heap.size = w3.heap.size := by omega
          have hm3_3 : ¬ w3.heap.size = w2.heap.size := by omega
          have hf3_3_0 : w3.cell? ⟨w2.heap.size, 0, none⟩ = some (.int .i64 0) := by first | (rw [ha]; with_reducible assumption) | (simp (maxDischargeDepth := 7) [go_sem, ha]; done) | (rw [ha]; assumption) | (simp (maxDischargeDepth := 7) [go_sem, ha, *]; done)
          have hf3_3_1 : w3.cell? ⟨w2.heap.size, 1, none⟩ = some (.int .u64 0) := by first | (rw [ha]; with_reducible assumption) | (simp (maxDischargeDepth := 7) [go_sem, ha]; done) | (rw [ha]; assumption) | (simp (maxDischargeDepth := 7) [go_sem, ha, *]; done)
          try have hg3_3 : ∀ o, w3.frozen? ⟨w2.heap.size, o, none⟩ = false := by intro o; first | (simp (maxDischargeDepth := 7) [go_sem, hb]; done) | (rw [hb]; simp (maxDischargeDepth := 7) [go_sem, *]; done)
          clear ha hb
          try clear hf2_0_0
          try clear hf2_0_1
          try clear hf2_1_0
          try clear hf2_1_1
          try clear hf2_2_0
          try clear hf2_2_1
          try clear hg2_0
          try clear hg2_1
          try clear hg2_2
          try clear hz2_1
          try clear hz2_2
          go_wp2_with fail
          with_reducible refine (Hcn.out _).mono ?_
          rintro e w4 ⟨rfl, hk4⟩
          refine kuse (b := w.heap.size) hk4 (by first | (simp; done) | (simp; omega) | omega) ?_
          intro ha hb
          have hz4_0 : w.heap.size < w4.heap.size := by have := hk4.size; (try simp at this); omega
          have hn4_0 : ¬ w.heap.size = w4.heap.size := by omega
          have hm4_0 : ¬ w4.heap.size = w.heap.size := by omega
          have hf4_0_0 : w4.cell? ⟨w.heap.size, 0, none⟩ = some (.int .i64 uh) := by first | (rw [ha]; with_reducible assumption) | (simp (maxDischargeDepth := 7) [go_sem, ha]; done) | (rw [ha]; assumption) | (simp (maxDischargeDepth := 7) [go_sem, ha, *]; done)
          have hf4_0_1 : w4.cell? ⟨w.heap.size, 1, none⟩ = some (.int .u64 ul) := by first | (rw [ha]; with_reducible assumption) | (simp (maxDischargeDepth := 7) [go_sem, ha]; done) | (rw [ha]; assumption) | (simp (maxDischargeDepth := 7) [go_sem, ha, *]; done)
          try have hg4_0 : ∀ o, w4.frozen? ⟨w.heap.size, o, none⟩ = false := by intro o; first | (simp (maxDischargeDepth := 7) [go_sem, hb]; done) | (rw [hb]; simp (maxDischargeDepth := 7) [go_sem, *]; done)
          clear ha hb
          refine kuse (b := w.heap.size + 1) hk4 (by first | (simp; done) | (simp; omega) | omega) ?_
          intro ha hb
          have hz4_1 : w.heap.size + 1 < w4.heap.size := by have := hk4.size; (try simp at this); omega
          have hn4_1 : ¬ w.heap.size + 1 = w4.heap.size := by omega
          have hm4_1 : ¬ w4.heap.size = w.heap.size + 1 := by omega
          have hf4_1_0 : w4.cell? ⟨w.heap.size + 1, 0, none⟩ = some (.int .i64 vh) := by first | (rw [ha]; with_reducible assumption) | (simp (maxDischargeDepth := 7) [go_sem, ha]; done) | (rw [ha]; assumption) | (simp (maxDischargeDepth := 7) [go_sem, ha, *]; done)
          have hf4_1_1 : w4.cell? ⟨w.heap.size + 1, 1, none⟩ = some (.int .u64 vl) := by first | (rw [ha]; with_reducible assumption) | (simp (maxDischargeDepth := 7) [go_sem, ha]; done) | (rw [ha]; assumption) | (simp (maxDischargeDepth := 7) [go_sem, ha, *]; done)
          try have hg4_1 : ∀ o, w4.frozen? ⟨w.heap.size + 1, o, none⟩ = false := by intro o; first | (simp (maxDischargeDepth := 7) [go_sem, hb]; done) | (rw [hb]; simp (maxDischargeDepth := 7) [go_sem, *]; done)
          clear ha hb
          refine kuse (b := w.heap.size + 2) hk4 (by first | (simp; done) | (simp; omega) | omega) ?_
          intro ha hb
          have hz4_2 : w.heap.size + 2 < w4.heap.size := by have := hk4.size; (try simp at this); omega
          have hn4_2 : ¬ w.heap.size + 2 = w4.heap.size := by omega
          have hm4_2 : ¬ w4.heap.size = w.heap.size + 2 := by omega
          have hf4_2_0 : w4.cell? ⟨w.heap.size + 2, 0, none⟩ = some (.int .i64 zh) := by first | (rw [ha]; with_reducible assumption) | (simp (maxDischargeDepth := 7) [go_sem, ha]; done) | (rw [ha]; assumption) | (simp (maxDischargeDepth := 7) [go_sem, ha, *]; done)
          have hf4_2_1 : w4.cell? ⟨w.heap.size + 2, 1, none⟩ = some (.int .u64 zl) := by first | (rw [ha]; with_reducible assumption) | (simp (maxDischargeDepth := 7) [go_sem, ha]; done) | (rw [ha]; assumption) | (simp (maxDischargeDepth := 7) [go_sem, ha, *]; done)
          try have hg4_2 : ∀ o, w4.frozen? ⟨w.heap.size + 2, o, none⟩ = false := by intro o; first | (simp (maxDischargeDepth := 7) [go_sem, hb]; done) | (rw [hb]; simp (maxDischargeDepth := 7) [go_sem, *]; done)
          clear ha hb
          refine kuse (b := w2.heap.size) hk4 (by first | (simp; done) | (simp; omega) | omega) ?_
          intro ha hb
          have hz4_3 : w2.heap.size < w4.heap.size := by have := hk4.size; (try simp at this); omega
          have hn4_3 : ¬ w2.heap.size = w4.heap.size := by omega
          have hm4_3 : ¬ w4.heap.size = w2.heap.size := by omega
          have hf4_3_0 : w4.cell? ⟨w2.heap.size, 0, none⟩ = some (.int .i64 0) := by first | (rw [ha]; with_reducible assumption) | (simp (maxDischargeDepth := 7) [go_sem, ha]; done) | (rw [ha]; assumption) | (simp (maxDischargeDepth := 7) [go_sem, ha, *]; done)
          have hf4_3_1 : w4.cell? ⟨w2.heap.size, 1, none⟩ = some (.int .u64 0) := by first | (rw [ha]; with_reducible assumption) | (simp (maxDischargeDepth := 7) [go_sem, ha]; done) | (rw [ha]; assumption) | (simp (maxDischargeDepth := 7) [go_sem, ha, *]; done)
          try have hg4_3 : ∀ o, w4.frozen? ⟨w2.heap.size, o, none⟩ = false := by intro o; first | (simp (maxDischargeDepth := 7) [go_sem, hb]; done) | (rw [hb]; simp (maxDischargeDepth := 7) [go_sem, *]; done)
          clear ha hb
          try clear hf3_0_0
          try clear hf3_0_1
          try clear hf3_1_0
          try clear hf3_1_1
          try clear hf3_2_0
          try clear hf3_2_1
          try clear hf3_3_0
          try clear hf3_3_1
          try clear hg3_0
          try clear hg3_1
          try clear hg3_2
          try clear hg3_3
          try clear hz3_1
          try clear hz3_2
          try clear hz3_3
          go_wp2_with fail
          with_reducible refine (Hc2.out _).mono ?_
          rintro e w5 ⟨rfl, hk5⟩
          refine kuse (b := w.heap.size) hk5 (by first | (simp; done) | (simp; omega) | omega) ?_
          intro ha hb
          have hz5_0 : w.heap.size < w5.heap.size := by have := hk5.size; (try simp at this); omega
          have hn5_0 : ¬ w.heap.size = w5.heap.size := by omega
          have hm5_0 : ¬ w5.heap.size = w.heap.size := by omega
          have hf5_0_0 : w5.cell? ⟨w.heap.size, 0, none⟩ = some (.int .i64 uh) := by first | (rw [ha]; with_reducible assumption) | (simp (maxDischargeDepth := 7) [go_sem, ha]; done) | (rw [ha]; assumption) | (simp (maxDischargeDepth := 7) [go_sem, ha, *]; done)
          have hf5_0_1 : w5.cell? ⟨w.heap.size, 1, none⟩ = some (.int .u64 ul) := by first | (rw [ha]; with_reducible assumption) | (simp (maxDischargeDepth := 7) [go_sem, ha]; done) | (rw [ha]; assumption) | (simp (maxDischargeDepth := 7) [go_sem, ha, *]; done)
          try have hg5_0 : ∀ o, w5.frozen? ⟨w.heap.size, o, none⟩ = false := by intro o; first | (simp (maxDischargeDepth := 7) [go_sem, hb]; done) | (rw [hb]; simp (maxDischargeDepth := 7) [go_sem, *]; done)
          clear ha hb
          refine kuse (b := w.heap.size + 1) hk5 (by first | (simp; done) | (simp; omega) | omega) ?_
          intro ha hb
          have hz5_1 : w.heap.size + 1 < w5.heap.size := by have := hk5.size; (try simp at this); omega
          have hn5_1 : ¬ w.heap.size + 1 = w5.heap.size := by omega
          have hm5_1 : ¬ w5.heap.size = w.heap.size + 1 := by omega
          have hf5_1_0 : w5.cell? ⟨w.heap.size + 1, 0, none⟩ = some (.int .i64 vh) := by first | (rw [ha]; with_reducible assumption) | (simp (maxDischargeDepth := 7) [go_sem, ha]; done) | (rw [ha]; assumption) | (simp (maxDischargeDepth := 7) [go_sem, ha, *]; done)
          have hf5_1_1 : w5.cell? ⟨w.heap.size + 1, 1, none⟩ = some (.int .u64 vl) := by first | (rw [ha]; with_reducible assumption) | (simp (maxDischargeDepth := 7) [go_sem, ha]; done) | (rw [ha]; assumption) | (simp (maxDischargeDepth := 7) [go_sem, ha, *]; done)
          try have hg5_1 : ∀ o, w5.frozen? ⟨w.heap.size + 1, o, none⟩ = false := by intro o; first | (simp (maxDischargeDepth := 7) [go_sem, hb]; done) | (rw [hb]; simp (maxDischargeDepth := 7) [go_sem, *]; done)
          clear ha hb
          refine kuse (b := w.heap.size + 2) hk5 (by first | (simp; done) | (simp; omega) | omega) ?_
          intro ha hb
          have hz5_2 : w.heap.size + 2 < w5.heap.size := by have := hk5.size; (try simp at this); omega
          have hn5_2 : ¬ w.heap.size + 2 = w5.heap.size := by omega
          have hm5_2 : ¬ w5.heap.size = w.heap.size + 2 := by omega
          have hf5_2_0 : w5.cell? ⟨w.heap.size + 2, 0, none⟩ = some (.int .i64 zh) := by first | (rw [ha]; with_reducible assumption) | (simp (maxDischargeDepth := 7) [go_sem, ha]; done) | (rw [ha]; assumption) | (simp (maxDischargeDepth := 7) [go_sem, ha, *]; done)
          have hf5_2_1 : w5.cell? ⟨w.heap.size + 2, 1, none⟩ = some (.int .u64 zl) := by first | (rw [ha]; with_reducible assumption) | (simp (maxDischargeDepth := 7) [go_sem, ha]; done) | (rw [ha]; assumption) | (simp (maxDischargeDepth := 7) [go_sem, ha, *]; done)
          try have hg5_2 : ∀ o, w5.frozen? ⟨w.heap.size + 2, o, none⟩ = false := by intro o; first | (simp (maxDischargeDepth := 7) [go_sem, hb]; done) | (rw [hb]; simp (maxDischargeDepth := 7) [go_sem, *]; done)
          clear ha hb
          refine kuse (b := w2.heap.size) hk5 (by first | (simp; done) | (simp; omega) | omega) ?_
          intro ha hb
          have hz5_3 : w2.heap.size < w5.heap.size := by have := hk5.size; (try simp at this); omega
          have hn5_3 : ¬ w2.heap.size = w5.heap.size := by omega
          have hm5_3 : ¬ w5.heap.size = w2.heap.size := by omega
          have hf5_3_0 : w5.cell? ⟨w2.heap.size, 0, none⟩ = some (.int .i64 0) := by first | (rw [ha]; with_reducible assumption) | (simp (maxDischargeDepth := 7) [go_sem, ha]; done) | (rw [ha]; assumption) | (simp (maxDischargeDepth := 7) [go_sem, ha, *]; done)
          have hf5_3_1 : w5.cell? ⟨w2.heap.size, 1, none⟩ = some (.int .u64 0) := by first | (rw [ha]; with_reducible assumption) | (simp (maxDischargeDepth := 7) [go_sem, ha]; done) | (rw [ha]; assumption) | (simp (maxDischargeDepth := 7) [go_sem, ha, *]; done)
          try have hg5_3 : ∀ o, w5.frozen? ⟨w2.heap.size, o, none⟩ = false := by intro o; first | (simp (maxDischargeDepth := 7) [go_sem, hb]; done) | (rw [hb]; simp (maxDischargeDepth := 7) [go_sem, *]; done)
          clear ha hb
          try clear hf4_0_0
          try clear hf4_0_1
          try clear hf4_1_0
          try clear hf4_1_1
          try clear hf4_2_0
          try clear hf4_2_1
          try clear hf4_3_0
          try clear hf4_3_1
          try clear hg4_0
          try clear hg4_1
          try clear hg4_2
          try clear hg4_3
          try clear hz4_1
          try clear hz4_2
          try clear hz4_3
          go_wp2_with fail
          all_goals go_ret
          all_goals exact ⟨rfl, (by repeat (first | with_reducible exact Kept.refl _ | with_reducible assumption | with_reducible refine Kept.setCell ?_ (by first | (simp; done) | (simp; omega) | omega) _ | with_reducible refine Kept.alloc ?_ _ | with_reducible refine Kept.drewN ?_ _ | with_reducible refine Kept.drew ?_ | with_reducible refine Kept.trans ?_ (by with_reducible assumption) | with_reducible refine Kept.dr ?_ (by with_reducible assumption)))⟩
      · replace hz : z < v := by omega
        clear hz2
        by_cases hf : -170141183460469231731687303715884105728 ≤ u - v ∧ u - v < 170141183460469231731687303715884105728
        · have sb := wsub_w u v u0 u1 v0 v1
          have cm := cmp_w u v
          have cn := cmp_w v u
          rw [(show wcm u v = -1 by unfold wcm; rw [if_pos (by omega)])] at cm
          rw [(show wcm v u = 1 by unfold wcm; rw [if_neg (by omega), if_neg (by omega)])] at cn
          have fy := wfit_yes (u := u - v) hf.1 hf.2
          rw [fy.1, fy.2] at sb
          clear fy
          have sg := sign_w (u - v)
          rw [(show wcm (u - v) 0 = -1 by unfold wcm; rw [if_pos (by omega)])] at sg
          have c2 := cmp_w v z
          rw [(show wcm v z = 1 by unfold wcm; rw [if_neg (by omega), if_neg (by omega)])] at c2
          have n0 : (wh u == wh v && wl u == wl v) = false := by
            rw [Bool.and_eq_false_iff]
            by_cases k : wh u = wh v
            · right; rw [beq_eq_false_iff_ne]; intro k2; have := w_ext k k2; omega
            · left; rw [beq_eq_false_iff_ne]; exact k
          have eqs : ∀ w, (Op.equalIn 10000 24 (.agg #[.int .i64 (wh u), .int .u64 (wl u)]) (.agg #[.int .i64 (wh v), .int .u64 (wl v)])).run Tryd.prog w = .ok false w := fun w => by rw [eqW, n0]
          clear n0
          obtain ⟨D, hD⟩ : ∃ D, u - v = D := ⟨_, rfl⟩
          rw [hD] at sb sg
          clear hD
          have Hsb := Lib.hid sb
          clear sb
          have Hcm := Lib.hid cm
          clear cm
          have Hcn := Lib.hid cn
          clear cn
          have Hsg := Lib.hid sg
          clear sg
          have Hc2 := Lib.hid c2
          clear c2
          clear hf
          clear h
          clear hz
          generalize wh u = uh at *; generalize wl u = ul at *; generalize wh v = vh at *; generalize wl v = vl at *; generalize wh z = zh at *; generalize wl z = zl at *
          clear u0 u1 v0 v1 z0 z1
          go_enter Tryd.func11, Tryd.ntmps11
          go_wp2_with fail
          refine (awake_w _ (tab_kept hT.out (by repeat (first | with_reducible exact Kept.refl _ | with_reducible assumption | with_reducible refine Kept.setCell ?_ (by first | (simp; done) | (simp; omega) | omega) _ | with_reducible refine Kept.alloc ?_ _ | with_reducible refine Kept.drewN ?_ _ | with_reducible refine Kept.drew ?_ | with_reducible refine Kept.trans ?_ (by with_reducible assumption) | with_reducible refine Kept.dr ?_ (by with_reducible assumption))))).mono ?_
          rintro e w1 ⟨rfl, hk1⟩
          refine kuse (b := w.heap.size) hk1 (by first | (simp; done) | (simp; omega) | omega) ?_
          intro ha hb
          have hz1_0 : w.heap.size < w1.heap.size := by have := hk1.size; (try simp at this); omega
          have hn1_0 : ¬ w.heap.size = w1.heap.size := by omega
          have hm1_0 : ¬ w1.heap.size = w.heap.size := by omega
          have hf1_0_0 : w1.cell? ⟨w.heap.size, 0, none⟩ = some (.int .i64 uh) := by first | (rw [ha]; with_reducible assumption) | (simp (maxDischargeDepth := 7) [go_sem, ha]; done) | (rw [ha]; assumption) | (simp (maxDischargeDepth := 7) [go_sem, ha, *]; done)
          have hf1_0_1 : w1.cell? ⟨w.heap.size, 1, none⟩ = some (.int .u64 ul) := by first | (rw [ha]; with_reducible assumption) | (simp (maxDischargeDepth := 7) [go_sem, ha]; done) | (rw [ha]; assumption) | (simp (maxDischargeDepth := 7) [go_sem, ha, *]; done)
          try have hg1_0 : ∀ o, w1.frozen? ⟨w.heap.size, o, none⟩ = false := by intro o; first | (simp (maxDischargeDepth := 7) [go_sem, hb]; done) | (rw [hb]; simp (maxDischargeDepth := 7) [go_sem, *]; done)
          clear ha hb
          refine kuse (b := w.heap.size + 1) hk1 (by first | (simp; done) | (simp; omega) | omega) ?_
          intro ha hb
          have hz1_1 : w.heap.size + 1 < w1.heap.size := by have := hk1.size; (try simp at this); omega
          have hn1_1 : ¬ w.heap.size + 1 = w1.heap.size := by omega
          have hm1_1 : ¬ w1.heap.size = w.heap.size + 1 := by omega
          have hf1_1_0 : w1.cell? ⟨w.heap.size + 1, 0, none⟩ = some (.int .i64 vh) := by first | (rw [ha]; with_reducible assumption) | (simp (maxDischargeDepth := 7) [go_sem, ha]; done) | (rw [ha]; assumption) | (simp (maxDischargeDepth := 7) [go_sem, ha, *]; done)
          have hf1_1_1 : w1.cell? ⟨w.heap.size + 1, 1, none⟩ = some (.int .u64 vl) := by first | (rw [ha]; with_reducible assumption) | (simp (maxDischargeDepth := 7) [go_sem, ha]; done) | (rw [ha]; assumption) | (simp (maxDischargeDepth := 7) [go_sem, ha, *]; done)
          try have hg1_1 : ∀ o, w1.frozen? ⟨w.heap.size + 1, o, none⟩ = false := by intro o; first | (simp (maxDischargeDepth := 7) [go_sem, hb]; done) | (rw [hb]; simp (maxDischargeDepth := 7) [go_sem, *]; done)
          clear ha hb
          refine kuse (b := w.heap.size + 2) hk1 (by first | (simp; done) | (simp; omega) | omega) ?_
          intro ha hb
          have hz1_2 : w.heap.size + 2 < w1.heap.size := by have := hk1.size; (try simp at this); omega
          have hn1_2 : ¬ w.heap.size + 2 = w1.heap.size := by omega
          have hm1_2 : ¬ w1.heap.size = w.heap.size + 2 := by omega
          have hf1_2_0 : w1.cell? ⟨w.heap.size + 2, 0, none⟩ = some (.int .i64 zh) := by first | (rw [ha]; with_reducible assumption) | (simp (maxDischargeDepth := 7) [go_sem, ha]; done) | (rw [ha]; assumption) | (simp (maxDischargeDepth := 7) [go_sem, ha, *]; done)
          have hf1_2_1 : w1.cell? ⟨w.heap.size + 2, 1, none⟩ = some (.int .u64 zl) := by first | (rw [ha]; with_reducible assumption) | (simp (maxDischargeDepth := 7) [go_sem, ha]; done) | (rw [ha]; assumption) | (simp (maxDischargeDepth := 7) [go_sem, ha, *]; done)
          try have hg1_2 : ∀ o, w1.frozen? ⟨w.heap.size + 2, o, none⟩ = false := by intro o; first | (simp (maxDischargeDepth := 7) [go_sem, hb]; done) | (rw [hb]; simp (maxDischargeDepth := 7) [go_sem, *]; done)
          clear ha hb
          go_wp2_with fail
          with_reducible refine (Hsb.out _).mono ?_
          rintro e w2 ⟨rfl, hk2⟩
          refine kuse (b := w.heap.size) hk2 (by first | (simp; done) | (simp; omega) | omega) ?_
          intro ha hb
          have hz2_0 : w.heap.size < w2.heap.size := by have := hk2.size; (try simp at this); omega
          have hn2_0 : ¬ w.heap.size = w2.heap.size := by omega
          have hm2_0 : ¬ w2.heap.size = w.heap.size := by omega
          have hf2_0_0 : w2.cell? ⟨w.heap.size, 0, none⟩ = some (.int .i64 uh) := by first | (rw [ha]; with_reducible assumption) | (simp (maxDischargeDepth := 7) [go_sem, ha]; done) | (rw [ha]; assumption) | (simp (maxDischargeDepth := 7) [go_sem, ha, *]; done)
          have hf2_0_1 : w2.cell? ⟨w.heap.size, 1, none⟩ = some (.int .u64 ul) := by first | (rw [ha]; with_reducible assumption) | (simp (maxDischargeDepth := 7) [go_sem, ha]; done) | (rw [ha]; assumption) | (simp (maxDischargeDepth := 7) [go_sem, ha, *]; done)
          try have hg2_0 : ∀ o, w2.frozen? ⟨w.heap.size, o, none⟩ = false := by intro o; first | (simp (maxDischargeDepth := 7) [go_sem, hb]; done) | (rw [hb]; simp (maxDischargeDepth := 7) [go_sem, *]; done)
          clear ha hb
          refine kuse (b := w.heap.size + 1) hk2 (by first | (simp; done) | (simp; omega) | omega) ?_
          intro ha hb
          have hz2_1 : w.heap.size + 1 < w2.heap.size := by have := hk2.size; (try simp at this); omega
          have hn2_1 : ¬ w.heap.size + 1 = w2.heap.size := by omega
          have hm2_1 : ¬ w2.heap.size = w.heap.size + 1 := by omega
          have hf2_1_0 : w2.cell? ⟨w.heap.size + 1, 0, none⟩ = some (.int .i64 vh) := by first | (rw [ha]; with_reducible assumption) | (simp (maxDischargeDepth := 7) [go_sem, ha]; done) | (rw [ha]; assumption) | (simp (maxDischargeDepth := 7) [go_sem, ha, *]; done)
          have hf2_1_1 : w2.cell? ⟨w.heap.size + 1, 1, none⟩ = some (.int .u64 vl) := by first | (rw [ha]; with_reducible assumption) | (simp (maxDischargeDepth := 7) [go_sem, ha]; done) | (rw [ha]; assumption) | (simp (maxDischargeDepth := 7) [go_sem, ha, *]; done)
          try have hg2_1 : ∀ o, w2.frozen? ⟨w.heap.size + 1, o, none⟩ = false := by intro o; first | (simp (maxDischargeDepth := 7) [go_sem, hb]; done) | (rw [hb]; simp (maxDischargeDepth := 7) [go_sem, *]; done)
          clear ha hb
          refine kuse (b := w.heap.size + 2) hk2 (by first | (simp; done) | (simp; omega) | omega) ?_
          intro ha hb
          have hz2_2 : w.heap.size + 2 < w2.heap.size := by have := hk2.size; (try simp at this); omega
          have hn2_2 : ¬ w.heap.size + 2 = w2.heap.size := by omega
          have hm2_2 : ¬ w2.heap.size = w.heap.size + 2 := by omega
          have hf2_2_0 : w2.cell? ⟨w.heap.size + 2, 0, none⟩ = some (.int .i64 zh) := by first | (rw [ha]; with_reducible assumption) | (simp (maxDischargeDepth := 7) [go_sem, ha]; done) | (rw [ha]; assumption) | (simp (maxDischargeDepth := 7) [go_sem, ha, *]; done)
          have hf2_2_1 : w2.cell? ⟨w.heap.size + 2, 1, none⟩ = some (.int .u64 zl) := by first | (rw [ha]; with_reducible assumption) | (simp (maxDischargeDepth := 7) [go_sem, ha]; done) | (rw [ha]; assumption) | (simp (maxDischargeDepth := 7) [go_sem, ha, *]; done)
          try have hg2_2 : ∀ o, w2.frozen? ⟨w.heap.size + 2, o, none⟩ = false := by intro o; first | (simp (maxDischargeDepth := 7) [go_sem, hb]; done) | (rw [hb]; simp (maxDischargeDepth := 7) [go_sem, *]; done)
          clear ha hb
          try clear hf1_0_0
          try clear hf1_0_1
          try clear hf1_1_0
          try clear hf1_1_1
          try clear hf1_2_0
          try clear hf1_2_1
          try clear hg1_0
          try clear hg1_1
          try clear hg1_2
          try clear hz1_1
          try clear hz1_2
          go_wp2_with fail
          with_reducible refine (Hcm.out _).mono ?_
          rintro e w3 ⟨rfl, hk3⟩
          refine kuse (b := w.heap.size) hk3 (by first | (simp; done) | (simp; omega) | omega) ?_
          intro ha hb
          have hz3_0 : w.heap.size < w3.heap.size := by have := hk3.size; (try simp at this); omega
          have hn3_0 : ¬ w.heap.size = w3.heap.size := by omega
          have hm3_0 : ¬ w3.heap.size = w.heap.size := by omega
          have hf3_0_0 : w3.cell? ⟨w.heap.size, 0, none⟩ = some (.int .i64 uh) := by first | (rw [ha]; with_reducible assumption) | (simp (maxDischargeDepth := 7) [go_sem, ha]; done) | (rw [ha]; assumption) | (simp (maxDischargeDepth := 7) [go_sem, ha, *]; done)
          have hf3_0_1 : w3.cell? ⟨w.heap.size, 1, none⟩ = some (.int .u64 ul) := by first | (rw [ha]; with_reducible assumption) | (simp (maxDischargeDepth := 7) [go_sem, ha]; done) | (rw [ha]; assumption) | (simp (maxDischargeDepth := 7) [go_sem, ha, *]; done)
          try have hg3_0 : ∀ o, w3.frozen? ⟨w.heap.size, o, none⟩ = false := by intro o; first | (simp (maxDischargeDepth := 7) [go_sem, hb]; done) | (rw [hb]; simp (maxDischargeDepth := 7) [go_sem, *]; done)
          clear ha hb
          refine kuse (b := w.heap.size + 1) hk3 (by first | (simp; done) | (simp; omega) | omega) ?_
          intro ha hb
          have hz3_1 : w.heap.size + 1 < w3.heap.size := by have := hk3.size; (try simp at this); omega
          have hn3_1 : ¬ w.heap.size + 1 = w3.heap.size := by omega
          have hm3_1 : ¬ w3.heap.size = w.heap.size + 1 := by omega
          have hf3_1_0 : w3.cell? ⟨w.heap.size + 1, 0, none⟩ = some (.int .i64 vh) := by first | (rw [ha]; with_reducible assumption) | (simp (maxDischargeDepth := 7) [go_sem, ha]; done) | (rw [ha]; assumption) | (simp (maxDischargeDepth := 7) [go_sem, ha, *]; done)
          have hf3_1_1 : w3.cell? ⟨w.heap.size + 1, 1, none⟩ = some (.int .u64 vl) := by first | (rw [ha]; with_reducible assumption) | (simp (maxDischargeDepth := 7) [go_sem, ha]; done) | (rw [ha]; assumption) | (simp (maxDischargeDepth := 7) [go_sem, ha, *]; done)
          try have hg3_1 : ∀ o, w3.frozen? ⟨w.heap.size + 1, o, none⟩ = false := by intro o; first | (simp (maxDischargeDepth := 7) [go_sem, hb]; done) | (rw [hb]; simp (maxDischargeDepth := 7) [go_sem, *]; done)
          clear ha hb
          refine kuse (b := w.heap.size + 2) hk3 (by first | (simp; done) | (simp; omega) | omega) ?_
          intro ha hb
          have hz3_2 : w.heap.size + 2 < w3.heap.size := by have := hk3.size; (try simp at this); omega
          have hn3_2 : ¬ w.heap.size + 2 = w3.heap.size := by omega
          have hm3_2 : ¬ w3.heap.size = w.heap.size + 2 := by omega
          have hf3_2_0 : w3.cell? ⟨w.heap.size + 2, 0, none⟩ = some (.int .i64 zh) := by first | (rw [ha]; with_reducible assumption) | (simp (maxDischargeDepth := 7) [go_sem, ha]; done) | (rw [ha]; assumption) | (simp (maxDischargeDepth := 7) [go_sem, ha, *]; done)
          have hf3_2_1 : w3.cell? ⟨w.heap.size + 2, 1, none⟩ = some (.int .u64 zl) := by first | (rw [ha]; with_reducible assumption) | (simp (maxDischargeDepth := 7) [go_sem, ha]; done) | (rw [ha]; assumption) | (simp (maxDischargeDepth := 7) [go_sem, ha, *]; done)
          try have hg3_2 : ∀ o, w3.frozen? ⟨w.heap.size + 2, o, none⟩ = false := by intro o; first | (simp (maxDischargeDepth := 7) [go_sem, hb]; done) | (rw [hb]; simp (maxDischargeDepth := 7) [go_sem, *]; done)
          clear ha hb
          refine kuse (b := w2.heap.size) hk3 (by first | (simp; done) | (simp; omega) | omega) ?_
          intro ha hb
          have hz3_3 : w2.heap.size < w3.heap.size := by have := hk3.size; (try simp at this); omega
          have hn3_3 : ¬ w2.heap.size = w3.heap.size := by omega
          have hm3_3 : ¬ w3.heap.size = w2.heap.size := by omega
          have hf3_3_0 : w3.cell? ⟨w2.heap.size, 0, none⟩ = some (.int .i64 (wh D)) := by first | (rw [ha]; with_reducible assumption) | (simp (maxDischargeDepth := 7) [go_sem, ha]; done) | (rw [ha]; assumption) | (simp (maxDischargeDepth := 7) [go_sem, ha, *]; done)
          have hf3_3_1 : w3.cell? ⟨w2.heap.size, 1, none⟩ = some (.int .u64 (wl D)) := by first | (rw [ha]; with_reducible assumption) | (simp (maxDischargeDepth := 7) [go_sem, ha]; done) | (rw [ha]; assumption) | (simp (maxDischargeDepth := 7) [go_sem, ha, *]; done)
          try have hg3_3 : ∀ o, w3.frozen? ⟨w2.heap.size, o, none⟩ = false := by intro o; first | (simp (maxDischargeDepth := 7) [go_sem, hb]; done) | (rw [hb]; simp (maxDischargeDepth := 7) [go_sem, *]; done)
          clear ha hb
          try clear hf2_0_0
          try clear hf2_0_1
          try clear hf2_1_0
          try clear hf2_1_1
          try clear hf2_2_0
          try clear hf2_2_1
          try clear hg2_0
          try clear hg2_1
          try clear hg2_2
          try clear hz2_1
          try clear hz2_2
          go_wp2_with fail
          with_reducible refine (Hsg.out _).mono ?_
          rintro e w4 ⟨rfl, hk4⟩
          refine kuse (b := w.heap.size) hk4 (by first | (simp; done) | (simp; omega) | omega) ?_
          intro ha hb
          have hz4_0 : w.heap.size < w4.heap.size := by have := hk4.size; (try simp at this); omega
          have hn4_0 : ¬ w.heap.size = w4.heap.size := by omega
          have hm4_0 : ¬ w4.heap.size = w.heap.size := by omega
          have hf4_0_0 : w4.cell? ⟨w.heap.size, 0, none⟩ = some (.int .i64 uh) := by first | (rw [ha]; with_reducible assumption) | (simp (maxDischargeDepth := 7) [go_sem, ha]; done) | (rw [ha]; assumption) | (simp (maxDischargeDepth := 7) [go_sem, ha, *]; done)
          have hf4_0_1 : w4.cell? ⟨w.heap.size, 1, none⟩ = some (.int .u64 ul) := by first | (rw [ha]; with_reducible assumption) | (simp (maxDischargeDepth := 7) [go_sem, ha]; done) | (rw [ha]; assumption) | (simp (maxDischargeDepth := 7) [go_sem, ha, *]; done)
          try have hg4_0 : ∀ o, w4.frozen? ⟨w.heap.size, o, none⟩ = false := by intro o; first | (simp (maxDischargeDepth := 7) [go_sem, hb]; done) | (rw [hb]; simp (maxDischargeDepth := 7) [go_sem, *]; done)
          clear ha hb
          refine kuse (b := w.heap.size + 1) hk4 (by first | (simp; done) | (simp; omega) | omega) ?_
          intro ha hb
          have hz4_1 : w.heap.size + 1 < w4.heap.size := by have := hk4.size; (try simp at this); omega
          have hn4_1 : ¬ w.heap.size + 1 = w4.heap.size := by omega
          have hm4_1 : ¬ w4.heap.size = w.heap.size + 1 := by omega
          have hf4_1_0 : w4.cell? ⟨w.heap.size + 1, 0, none⟩ = some (.int .i64 vh) := by first | (rw [ha]; with_reducible assumption) | (simp (maxDischargeDepth := 7) [go_sem, ha]; done) | (rw [ha]; assumption) | (simp (maxDischargeDepth := 7) [go_sem, ha, *]; done)
          have hf4_1_1 : w4.cell? ⟨w.heap.size + 1, 1, none⟩ = some (.int .u64 vl) := by first | (rw [ha]; with_reducible assumption) | (simp (maxDischargeDepth := 7) [go_sem, ha]; done) | (rw [ha]; assumption) | (simp (maxDischargeDepth := 7) [go_sem, ha, *]; done)
          try have hg4_1 : ∀ o, w4.frozen? ⟨w.heap.size + 1, o, none⟩ = false := by intro o; first | (simp (maxDischargeDepth := 7) [go_sem, hb]; done) | (rw [hb]; simp (maxDischargeDepth := 7) [go_sem, *]; done)
          clear ha hb
          refine kuse (b := w.heap.size + 2) hk4 (by first | (simp; done) | (simp; omega) | omega) ?_
          intro ha hb
          have hz4_2 : w.heap.size + 2 < w4.heap.size := by have := hk4.size; (try simp at this); omega
          have hn4_2 : ¬ w.heap.size + 2 = w4.heap.size := by omega
          have hm4_2 : ¬ w4.heap.size = w.heap.size + 2 := by omega
          have hf4_2_0 : w4.cell? ⟨w.heap.size + 2, 0, none⟩ = some (.int .i64 zh) := by first | (rw [ha]; with_reducible assumption) | (simp (maxDischargeDepth := 7) [go_sem, ha]; done) | (rw [ha]; assumption) | (simp (maxDischargeDepth := 7) [go_sem, ha, *]; done)
          have hf4_2_1 : w4.cell? ⟨w.heap.size + 2, 1, none⟩ = some (.int .u64 zl) := by first | (rw [ha]; with_reducible assumption) | (simp (maxDischargeDepth := 7) [go_sem, ha]; done) | (rw [ha]; assumption) | (simp (maxDischargeDepth := 7) [go_sem, ha, *]; done)
          try have hg4_2 : ∀ o, w4.frozen? ⟨w.heap.size + 2, o, none⟩ = false := by intro o; first | (simp (maxDischargeDepth := 7) [go_sem, hb]; done) | (rw [hb]; simp (maxDischargeDepth := 7) [go_sem, *]; done)
          clear ha hb
          refine kuse (b := w2.heap.size) hk4 (by first | (simp; done) | (simp; omega) | omega) ?_
          intro ha hb
          have hz4_3 : w2.heap.size < w4.heap.size := by have := hk4.size; (try simp at this); omega
          have hn4_3 : ¬ w2.heap.size = w4.heap.size := by omega
          have hm4_3 : ¬ w4.heap.size = w2.heap.size := by omega
          have hf4_3_0 : w4.cell? ⟨w2.heap.size, 0, none⟩ = some (.int .i64 (wh D)) := by first | (rw [ha]; with_reducible assumption) | (simp (maxDischargeDepth := 7) [go_sem, ha]; done) | (rw [ha]; assumption) | (simp (maxDischargeDepth := 7) [go_sem, ha, *]; done)
          have hf4_3_1 : w4.cell? ⟨w2.heap.size, 1, none⟩ = some (.int .u64 (wl D)) := by first | (rw [ha]; with_reducible assumption) | (simp (maxDischargeDepth := 7) [go_sem, ha]; done) | (rw [ha]; assumption) | (simp (maxDischargeDepth := 7) [go_sem, ha, *]; done)
          try have hg4_3 : ∀ o, w4.frozen? ⟨w2.heap.size, o, none⟩ = false := by intro o; first | (simp (maxDischargeDepth := 7) [go_sem, hb]; done) | (rw [hb]; simp (maxDischargeDepth := 7) [go_sem, *]; done)
          clear ha hb
          try clear hf3_0_0
          try clear hf3_0_1
          try clear hf3_1_0
          try clear hf3_1_1
          try clear hf3_2_0
          try clear hf3_2_1
          try clear hf3_3_0
          try clear hf3_3_1
          try clear hg3_0
          try clear hg3_1
          try clear hg3_2
          try clear hg3_3
          try clear hz3_1
          try clear hz3_2
          try clear hz3_3
          go_wp2_with fail
          with_reducible refine (Hcn.out _).mono ?_
          rintro e w5 ⟨rfl, hk5⟩
          refine kuse (b := w.heap.size) hk5 (by first | (simp; done) | (simp; omega) | omega) ?_
          intro ha hb
          have hz5_0 : w.heap.size < w5.heap.size := by have := hk5.size; (try simp at this); omega
          have hn5_0 : ¬ w.heap.size = w5.heap.size := by omega
          have hm5_0 : ¬ w5.heap.size = w.heap.size := by omega
          have hf5_0_0 : w5.cell? ⟨w.heap.size, 0, none⟩ = some (.int .i64 uh) := by first | (rw [ha]; with_reducible assumption) | (simp (maxDischargeDepth := 7) [go_sem, ha]; done) | (rw [ha]; assumption) | (simp (maxDischargeDepth := 7) [go_sem, ha, *]; done)
          have hf5_0_1 : w5.cell? ⟨w.heap.size, 1, none⟩ = some (.int .u64 ul) := by first | (rw [ha]; with_reducible assumption) | (simp (maxDischargeDepth := 7) [go_sem, ha]; done) | (rw [ha]; assumption) | (simp (maxDischargeDepth := 7) [go_sem, ha, *]; done)
          try have hg5_0 : ∀ o, w5.frozen? ⟨w.heap.size, o, none⟩ = false := by intro o; first | (simp (maxDischargeDepth := 7) [go_sem, hb]; done) | (rw [hb]; simp (maxDischargeDepth := 7) [go_sem, *]; done)
          clear ha hb
          refine kuse (b := w.heap.size + 1) hk5 (by first | (simp; done) | (simp; omega) | omega) ?_
          intro ha hb
          have hz5_1 : w.heap.size + 1 < w5.heap.size := by have := hk5.size; (try simp at this); omega
          have hn5_1 : ¬ w.heap.size + 1 = w5.heap.size := by omega
          have hm5_1 : ¬ w5.heap.size = w.heap.size + 1 := by omega
          have hf5_1_0 : w5.cell? ⟨w.heap.size + 1, 0, none⟩ = some (.int .i64 vh) := by first | (rw [ha]; with_reducible assumption) | (simp (maxDischargeDepth := 7) [go_sem, ha]; done) | (rw [ha]; assumption) | (simp (maxDischargeDepth := 7) [go_sem, ha, *]; done)
          have hf5_1_1 : w5.cell? ⟨w.heap.size + 1, 1, none⟩ = some (.int .u64 vl) := by first | (rw [ha]; with_reducible assumption) | (simp (maxDischargeDepth := 7) [go_sem, ha]; done) | (rw [ha]; assumption) | (simp (maxDischargeDepth := 7) [go_sem, ha, *]; done)
          try have hg5_1 : ∀ o, w5.frozen? ⟨w.heap.size + 1, o, none⟩ = false := by intro o; first | (simp (maxDischargeDepth := 7) [go_sem, hb]; done) | (rw [hb]; simp (maxDischargeDepth := 7) [go_sem, *]; done)
          clear ha hb
          refine kuse (b := w.heap.size + 2) hk5 (by first | (simp; done) | (simp; omega) | omega) ?_
          intro ha hb
          have hz5_2 : w.heap.size + 2 < w5.heap.size := by have := hk5.size; (try simp at this); omega
          have hn5_2 : ¬ w.heap.size + 2 = w5.heap.size := by omega
          have hm5_2 : ¬ w5.heap.size = w.heap.size + 2 := by omega
          have hf5_2_0 : w5.cell? ⟨w.heap.size + 2, 0, none⟩ = some (.int .i64 zh) := by first | (rw [ha]; with_reducible assumption) | (simp (maxDischargeDepth := 7) [go_sem, ha]; done) | (rw [ha]; assumption) | (simp (maxDischargeDepth := 7) [go_sem, ha, *]; done)
          have hf5_2_1 : w5.cell? ⟨w.heap.size + 2, 1, none⟩ = some (.int .u64 zl) := by first | (rw [ha]; with_reducible assumption) | (simp (maxDischargeDepth := 7) [go_sem, ha]; done) | (rw [ha]; assumption) | (simp (maxDischargeDepth := 7) [go_sem, ha, *]; done)
          try have hg5_2 : ∀ o, w5.frozen? ⟨w.heap.size + 2, o, none⟩ = false := by intro o; first | (simp (maxDischargeDepth := 7) [go_sem, hb]; done) | (rw [hb]; simp (maxDischargeDepth := 7) [go_sem, *]; done)
          clear ha hb
          refine kuse (b := w2.heap.size) hk5 (by first | (simp; done) | (simp; omega) | omega) ?_
          intro ha hb
          have hz5_3 : w2.heap.size < w5.heap.size := by have := hk5.size; (try simp at this); omega
          have hn5_3 : ¬ w2.heap.size = w5.heap.size := by omega
          have hm5_3 : ¬ w5.heap.size = w2.heap.size := by omega
          have hf5_3_0 : w5.cell? ⟨w2.heap.size, 0, none⟩ = some (.int .i64 (wh D)) := by first | (rw [ha]; with_reducible assumption) | (simp (maxDischargeDepth := 7) [go_sem, ha]; done) | (rw [ha]; assumption) | (simp (maxDischargeDepth := 7) [go_sem, ha, *]; done)
          have hf5_3_1 : w5.cell? ⟨w2.heap.size, 1, none⟩ = some (.int .u64 (wl D)) := by first | (rw [ha]; with_reducible assumption) | (simp (maxDischargeDepth := 7) [go_sem, ha]; done) | (rw [ha]; assumption) | (simp (maxDischargeDepth := 7) [go_sem, ha, *]; done)
          try have hg5_3 : ∀ o, w5.frozen? ⟨w2.heap.size, o, none⟩ = false := by intro o; first | (simp (maxDischargeDepth := 7) [go_sem, hb]; done) | (rw [hb]; simp (maxDischargeDepth := 7) [go_sem, *]; done)
          clear ha hb
          try clear hf4_0_0
          try clear hf4_0_1
          try clear hf4_1_0
          try clear hf4_1_1
          try clear hf4_2_0
          try clear hf4_2_1
          try clear hf4_3_0
          try clear hf4_3_1
          try clear hg4_0
          try clear hg4_1
          try clear hg4_2
          try clear hg4_3
          try clear hz4_1
          try clear hz4_2
          try clear hz4_3
          go_wp2_with fail
          with_reducible refine (Hc2.out _).mono ?_
          rintro e w6 ⟨rfl, hk6⟩
          refine kuse (b := w.heap.size) hk6 (by first | (simp; done) | (simp; omega) | omega) ?_
          intro ha hb
          have hz6_0 : w.heap.size < w6.heap.size := by have := hk6.size; (try simp at this); omega
          have hn6_0 : ¬ w.heap.size = w6.heap.size := by omega
          have hm6_0 : ¬ w6.heap.size = w.heap.size := by omega
          have hf6_0_0 : w6.cell? ⟨w.heap.size, 0, none⟩ = some (.int .i64 uh) := by first | (rw [ha]; with_reducible assumption) | (simp (maxDischargeDepth := 7) [go_sem, ha]; done) | (rw [ha]; assumption) | (simp (maxDischargeDepth := 7) [go_sem, ha, *]; done)
          have hf6_0_1 : w6.cell? ⟨w.heap.size, 1, none⟩ = some (.int .u64 ul) := by first | (rw [ha]; with_reducible assumption) | (simp (maxDischargeDepth := 7) [go_sem, ha]; done) | (rw [ha]; assumption) | (simp (maxDischargeDepth := 7) [go_sem, ha, *]; done)
          try have hg6_0 : ∀ o, w6.frozen? ⟨w.heap.size, o, none⟩ = false := by intro o; first | (simp (maxDischargeDepth := 7) [go_sem, hb]; done) | (rw [hb]; simp (maxDischargeDepth := 7) [go_sem, *]; done)
          clear ha hb
          refine kuse (b := w.heap.size + 1) hk6 (by first | (simp; done) | (simp; omega) | omega) ?_
          intro ha hb
          have hz6_1 : w.heap.size + 1 < w6.heap.size := by have := hk6.size; (try simp at this); omega
          have hn6_1 : ¬ w.heap.size + 1 = w6.heap.size := by omega
          have hm6_1 : ¬ w6.heap.size = w.heap.size + 1 := by omega
          have hf6_1_0 : w6.cell? ⟨w.heap.size + 1, 0, none⟩ = some (.int .i64 vh) := by first | (rw [ha]; with_reducible assumption) | (simp (maxDischargeDepth := 7) [go_sem, ha]; done) | (rw [ha]; assumption) | (simp (maxDischargeDepth := 7) [go_sem, ha, *]; done)
          have hf6_1_1 : w6.cell? ⟨w.heap.size + 1, 1, none⟩ = some (.int .u64 vl) := by first | (rw [ha]; with_reducible assumption) | (simp (maxDischargeDepth := 7) [go_sem, ha]; done) | (rw [ha]; assumption) | (simp (maxDischargeDepth := 7) [go_sem, ha, *]; done)
          try have hg6_1 : ∀ o, w6.frozen? ⟨w.heap.size + 1, o, none⟩ = false := by intro o; first | (simp (maxDischargeDepth := 7) [go_sem, hb]; done) | (rw [hb]; simp (maxDischargeDepth := 7) [go_sem, *]; done)
          clear ha hb
          refine kuse (b := w.heap.size + 2) hk6 (by first | (simp; done) | (simp; omega) | omega) ?_
          intro ha hb
          have hz6_2 : w.heap.size + 2 < w6.heap.size := by have := hk6.size; (try simp at this); omega
          have hn6_2 : ¬ w.heap.size + 2 = w6.heap.size := by omega
          have hm6_2 : ¬ w6.heap.size = w.heap.size + 2 := by omega
          have hf6_2_0 : w6.cell? ⟨w.heap.size + 2, 0, none⟩ = some (.int .i64 zh) := by first | (rw [ha]; with_reducible assumption) | (simp (maxDischargeDepth := 7) [go_sem, ha]; done) | (rw [ha]; assumption) | (simp (maxDischargeDepth := 7) [go_sem, ha, *]; done)
          have hf6_2_1 : w6.cell? ⟨w.heap.size + 2, 1, none⟩ = some (.int .u64 zl) := by first | (rw [ha]; with_reducible assumption) | (simp (maxDischargeDepth := 7) [go_sem, ha]; done) | (rw [ha]; assumption) | (simp (maxDischargeDepth := 7) [go_sem, ha, *]; done)
          try have hg6_2 : ∀ o, w6.frozen? ⟨w.heap.size + 2, o, none⟩ = false := by intro o; first | (simp (maxDischargeDepth := 7) [go_sem, hb]; done) | (rw [hb]; simp (maxDischargeDepth := 7) [go_sem, *]; done)
          clear ha hb
          refine kuse (b := w2.heap.size) hk6 (by first | (simp; done) | (simp; omega) | omega) ?_
          intro ha hb
          have hz6_3 : w2.heap.size < w6.heap.size := by have := hk6.size; (try simp at this); omega
          have hn6_3 : ¬ w2.heap.size = w6.heap.size := by omega
          have hm6_3 : ¬ w6.heap.size = w2.heap.size := by omega
          have hf6_3_0 : w6.cell? ⟨w2.heap.size, 0, none⟩ = some (.int .i64 (wh D)) := by first | (rw [ha]; with_reducible assumption) | (simp (maxDischargeDepth := 7) [go_sem, ha]; done) | (rw [ha]; assumption) | (simp (maxDischargeDepth := 7) [go_sem, ha, *]; done)
          have hf6_3_1 : w6.cell? ⟨w2.heap.size, 1, none⟩ = some (.int .u64 (wl D)) := by first | (rw [ha]; with_reducible assumption) | (simp (maxDischargeDepth := 7) [go_sem, ha]; done) | (rw [ha]; assumption) | (simp (maxDischargeDepth := 7) [go_sem, ha, *]; done)
          try have hg6_3 : ∀ o, w6.frozen? ⟨w2.heap.size, o, none⟩ = false := by intro o; first | (simp (maxDischargeDepth := 7) [go_sem, hb]; done) | (rw [hb]; simp (maxDischargeDepth := 7) [go_sem, *]; done)
          clear ha hb
          try clear hf5_0_0
          try clear hf5_0_1
          try clear hf5_1_0
          try clear hf5_1_1
          try clear hf5_2_0
          try clear hf5_2_1
          try clear hf5_3_0
          try clear hf5_3_1
          try clear hg5_0
          try clear hg5_1
          try clear hg5_2
          try clear hg5_3
          try clear hz5_1
          try clear hz5_2
          try clear hz5_3
          go_wp2_with fail
          all_goals go_ret
          all_goals exact ⟨rfl, (by repeat (first | with_reducible exact Kept.refl _ | with_reducible assumption | with_reducible refine Kept.setCell ?_ (by first | (simp; done) | (simp; omega) | omega) _ | with_reducible refine Kept.alloc ?_ _ | with_reducible refine Kept.drewN ?_ _ | with_reducible refine Kept.drew ?_ | with_reducible refine Kept.trans ?_ (by with_reducible assumption) | with_reducible refine Kept.dr ?_ (by with_reducible assumption)))⟩
        · have sb := wsub_w u v u0 u1 v0 v1
          have cm := cmp_w u v
          have cn := cmp_w v u
          rw [(show wcm u v = -1 by unfold wcm; rw [if_pos (by omega)])] at cm
          rw [(show wcm v u = 1 by unfold wcm; rw [if_neg (by omega), if_neg (by omega)])] at cn
          have fy := wfit_no (u := u - v) (by omega)
          rw [fy.1, fy.2] at sb
          clear fy
          have z0' : wh 0 = 0 := by decide
          have z1' : wl 0 = 0 := by decide
          rw [z0', z1'] at sb
          clear z0' z1'
          have c2 := cmp_w v z
          rw [(show wcm v z = 1 by unfold wcm; rw [if_neg (by omega), if_neg (by omega)])] at c2
          have n0 : (wh u == wh v && wl u == wl v) = false := by
            rw [Bool.and_eq_false_iff]
            by_cases k : wh u = wh v
            · right; rw [beq_eq_false_iff_ne]; intro k2; have := w_ext k k2; omega
            · left; rw [beq_eq_false_iff_ne]; exact k
          have eqs : ∀ w, (Op.equalIn 10000 24 (.agg #[.int .i64 (wh u), .int .u64 (wl u)]) (.agg #[.int .i64 (wh v), .int .u64 (wl v)])).run Tryd.prog w = .ok false w := fun w => by rw [eqW, n0]
          clear n0
          obtain ⟨D, hD⟩ : ∃ D, u - v = D := ⟨_, rfl⟩
          clear hD
          have Hsb := Lib.hid sb
          clear sb
          have Hcm := Lib.hid cm
          clear cm
          have Hcn := Lib.hid cn
          clear cn
          have Hc2 := Lib.hid c2
          clear c2
          clear hf
          clear h
          clear hz
          generalize wh u = uh at *; generalize wl u = ul at *; generalize wh v = vh at *; generalize wl v = vl at *; generalize wh z = zh at *; generalize wl z = zl at *
          clear u0 u1 v0 v1 z0 z1
          go_enter Tryd.func11, Tryd.ntmps11
          go_wp2_with fail
          refine (awake_w _ (tab_kept hT.out (by repeat (first | with_reducible exact Kept.refl _ | with_reducible assumption | with_reducible refine Kept.setCell ?_ (by first | (simp; done) | (simp; omega) | omega) _ | with_reducible refine Kept.alloc ?_ _ | with_reducible refine Kept.drewN ?_ _ | with_reducible refine Kept.drew ?_ | with_reducible refine Kept.trans ?_ (by with_reducible assumption) | with_reducible refine Kept.dr ?_ (by with_reducible assumption))))).mono ?_
          rintro e w1 ⟨rfl, hk1⟩
          refine kuse (b := w.heap.size) hk1 (by first | (simp; done) | (simp; omega) | omega) ?_
          intro ha hb
          have hz1_0 : w.heap.size < w1.heap.size := by have := hk1.size; (try simp at this); omega
          have hn1_0 : ¬ w.heap.size = w1.heap.size := by omega
          have hm1_0 : ¬ w1.heap.size = w.heap.size := by omega
          have hf1_0_0 : w1.cell? ⟨w.heap.size, 0, none⟩ = some (.int .i64 uh) := by first | (rw [ha]; with_reducible assumption) | (simp (maxDischargeDepth := 7) [go_sem, ha]; done) | (rw [ha]; assumption) | (simp (maxDischargeDepth := 7) [go_sem, ha, *]; done)
          have hf1_0_1 : w1.cell? ⟨w.heap.size, 1, none⟩ = some (.int .u64 ul) := by first | (rw [ha]; with_reducible assumption) | (simp (maxDischargeDepth := 7) [go_sem, ha]; done) | (rw [ha]; assumption) | (simp (maxDischargeDepth := 7) [go_sem, ha, *]; done)
          try have hg1_0 : ∀ o, w1.frozen? ⟨w.heap.size, o, none⟩ = false := by intro o; first | (simp (maxDischargeDepth := 7) [go_sem, hb]; done) | (rw [hb]; simp (maxDischargeDepth := 7) [go_sem, *]; done)
          clear ha hb
          refine kuse (b := w.heap.size + 1) hk1 (by first | (simp; done) | (simp; omega) | omega) ?_
          intro ha hb
          have hz1_1 : w.heap.size + 1 < w1.heap.size := by have := hk1.size; (try simp at this); omega
          have hn1_1 : ¬ w.heap.size + 1 = w1.heap.size := by omega
          have hm1_1 : ¬ w1.heap.size = w.heap.size + 1 := by omega
          have hf1_1_0 : w1.cell? ⟨w.heap.size + 1, 0, none⟩ = some (.int .i64 vh) := by first | (rw [ha]; with_reducible assumption) | (simp (maxDischargeDepth := 7) [go_sem, ha]; done) | (rw [ha]; assumption) | (simp (maxDischargeDepth := 7) [go_sem, ha, *]; done)
          have hf1_1_1 : w1.cell? ⟨w.heap.size + 1, 1, none⟩ = some (.int .u64 vl) := by first | (rw [ha]; with_reducible assumption) | (simp (maxDischargeDepth := 7) [go_sem, ha]; done) | (rw [ha]; assumption) | (simp (maxDischargeDepth := 7) [go_sem, ha, *]; done)
          try have hg1_1 : ∀ o, w1.frozen? ⟨w.heap.size + 1, o, none⟩ = false := by intro o; first | (simp (maxDischargeDepth := 7) [go_sem, hb]; done) | (rw [hb]; simp (maxDischargeDepth := 7) [go_sem, *]; done)
          clear ha hb
          refine kuse (b := w.heap.size + 2) hk1 (by first | (simp; done) | (simp; omega) | omega) ?_
          intro ha hb
          have hz1_2 : w.heap.size + 2 < w1.heap.size := by have := hk1.size; (try simp at this); omega
          have hn1_2 : ¬ w.heap.size + 2 = w1.heap.size := by omega
          have hm1_2 : ¬ w1.heap.size = w.heap.size + 2 := by omega
          have hf1_2_0 : w1.cell? ⟨w.heap.size + 2, 0, none⟩ = some (.int .i64 zh) := by first | (rw [ha]; with_reducible assumption) | (simp (maxDischargeDepth := 7) [go_sem, ha]; done) | (rw [ha]; assumption) | (simp (maxDischargeDepth := 7) [go_sem, ha, *]; done)
          have hf1_2_1 : w1.cell? ⟨w.heap.size + 2, 1, none⟩ = some (.int .u64 zl) := by first | (rw [ha]; with_reducible assumption) | (simp (maxDischargeDepth := 7) [go_sem, ha]; done) | (rw [ha]; assumption) | (simp (maxDischargeDepth := 7) [go_sem, ha, *]; done)
          try have hg1_2 : ∀ o, w1.frozen? ⟨w.heap.size + 2, o, none⟩ = false := by intro o; first | (simp (maxDischargeDepth := 7) [go_sem, hb]; done) | (rw [hb]; simp (maxDischargeDepth := 7) [go_sem, *]; done)
          clear ha hb
          go_wp2_with fail
          with_reducible refine (Hsb.out _).mono ?_
          rintro e w2 ⟨rfl, hk2⟩
          refine kuse (b := w.heap.size) hk2 (by first | (simp; done) | (simp; omega) | omega) ?_
          intro ha hb
          have hz2_0 : w.heap.size < w2.heap.size := by have := hk2.size; (try simp at this); omega
          have hn2_0 : ¬ w.heap.size = w2.heap.size := by omega
          have hm2_0 : ¬ w2.heap.size = w.heap.size := by omega
          have hf2_0_0 : w2.cell? ⟨w.heap.size, 0, none⟩ = some (.int .i64 uh) := by first | (rw [ha]; with_reducible assumption) | (simp (maxDischargeDepth := 7) [go_sem, ha]; done) | (rw [ha]; assumption) | (simp (maxDischargeDepth := 7) [go_sem, ha, *]; done)
          have hf2_0_1 : w2.cell? ⟨w.heap.size, 1, none⟩ = some (.int .u64 ul) := by first | (rw [ha]; with_reducible assumption) | (simp (maxDischargeDepth := 7) [go_sem, ha]; done) | (rw [ha]; assumption) | (simp (maxDischargeDepth := 7) [go_sem, ha, *]; done)
          try have hg2_0 : ∀ o, w2.frozen? ⟨w.heap.size, o, none⟩ = false := by intro o; first | (simp (maxDischargeDepth := 7) [go_sem, hb]; done) | (rw [hb]; simp (maxDischargeDepth := 7) [go_sem, *]; done)
          clear ha hb
          refine kuse (b := w.heap.size + 1) hk2 (by first | (simp; done) | (simp; omega) | omega) ?_
          intro ha hb
          have hz2_1 : w.heap.size + 1 < w2.heap.size := by have := hk2.size; (try simp at this); omega
          have hn2_1 : ¬ w.heap.size + 1 = w2.heap.size := by omega
          have hm2_1 : ¬ w2.heap.size = w.heap.size + 1 := by omega
          have hf2_1_0 : w2.cell? ⟨w.heap.size + 1, 0, none⟩ = some (.int .i64 vh) := by first | (rw [ha]; with_reducible assumption) | (simp (maxDischargeDepth := 7) [go_sem, ha]; done) | (rw [ha]; assumption) | (simp (maxDischargeDepth := 7) [go_sem, ha, *]; done)
          have hf2_1_1 : w2.cell? ⟨w.heap.size + 1, 1, none⟩ = some (.int .u64 vl) := by first | (rw [ha]; with_reducible assumption) | (simp (maxDischargeDepth := 7) [go_sem, ha]; done) | (rw [ha]; assumption) | (simp (maxDischargeDepth := 7) [go_sem, ha, *]; done)
          try have hg2_1 : ∀ o, w2.frozen? ⟨w.heap.size + 1, o, none⟩ = false := by intro o; first | (simp (maxDischargeDepth := 7) [go_sem, hb]; done) | (rw [hb]; simp (maxDischargeDepth := 7) [go_sem, *]; done)
          clear ha hb
          refine kuse (b := w.heap.size + 2) hk2 (by first | (simp; done) | (simp; omega) | omega) ?_
          intro ha hb
          have hz2_2 : w.heap.size + 2 < w2.heap.size := by have := hk2.size; (try simp at this); omega
          have hn2_2 : ¬ w.heap.size + 2 = w2.heap.size := by omega
          have hm2_2 : ¬ w2.heap.size = w.heap.size + 2 := by omega
          have hf2_2_0 : w2.cell? ⟨w.heap.size + 2, 0, none⟩ = some (.int .i64 zh) := by first | (rw [ha]; with_reducible assumption) | (simp (maxDischargeDepth := 7) [go_sem, ha]; done) | (rw [ha]; assumption) | (simp (maxDischargeDepth := 7) [go_sem, ha, *]; done)
          have hf2_2_1 : w2.cell? ⟨w.heap.size + 2, 1, none⟩ = some (.int .u64 zl) := by first | (rw [ha]; with_reducible assumption) | (simp (maxDischargeDepth := 7) [go_sem, ha]; done) | (rw [ha]; assumption) | (simp (maxDischargeDepth := 7) [go_sem, ha, *]; done)
          try have hg2_2 : ∀ o, w2.frozen? ⟨w.heap.size + 2, o, none⟩ = false := by intro o; first | (simp (maxDischargeDepth := 7) [go_sem, hb]; done) | (rw [hb]; simp (maxDischargeDepth := 7) [go_sem, *]; done)
          clear ha hb
          try clear hf1_0_0
          try clear hf1_0_1
          try clear hf1_1_0
          try clear hf1_1_1
          try clear hf1_2_0
          try clear hf1_2_1
          try clear hg1_0
          try clear hg1_1
          try clear hg1_2
          try clear hz1_1
          try clear hz1_2
          go_wp2_with fail
          with_reducible refine (Hcm.out _).mono ?_
          rintro e w3 ⟨rfl, hk3⟩
          refine kuse (b := w.heap.size) hk3 (by first | (simp; done) | (simp; omega) | omega) ?_
          intro ha hb
          have hz3_0 : w.heap.size < w3.heap.size := by have := hk3.size; (try simp at this); omega
          have hn3_0 : ¬ w.heap.size = w3.heap.size := by omega
          have hm3_0 : ¬ w3.heap.size = w.heap.size := by omega
          have hf3_0_0 : w3.cell? ⟨w.heap.size, 0, none⟩ = some (.int .i64 uh) := by first | (rw [ha]; with_reducible assumption) | (simp (maxDischargeDepth := 7) [go_sem, ha]; done) | (rw [ha]; assumption) | (simp (maxDischargeDepth := 7) [go_sem, ha, *]; done)
          have hf3_0_1 : w3.cell? ⟨w.heap.size, 1, none⟩ = some (.int .u64 ul) := by first | (rw [ha]; with_reducible assumption) | (simp (maxDischargeDepth := 7) [go_sem, ha]; done) | (rw [ha]; assumption) | (simp (maxDischargeDepth := 7) [go_sem, ha, *]; done)
          try have hg3_0 : ∀ o, w3.frozen? ⟨w.heap.size, o, none⟩ = false := by intro o; first | (simp (maxDischargeDepth := 7) [go_sem, hb]; done) | (rw [hb]; simp (maxDischargeDepth := 7) [go_sem, *]; done)
          clear ha hb
          refine kuse (b := w.heap.size + 1) hk3 (by first | (simp; done) | (simp; omega) | omega) ?_
          intro ha hb
          have hz3_1 : w.heap.size + 1 < w3.heap.size := by have := hk3.size; (try simp at this); omega
          have hn3_1 : ¬ w.heap.size + 1 = w3.heap.size := by omega
          have hm3_1 : ¬ w3.heap.size = w.heap.size + 1 := by omega
          have hf3_1_0 : w3.cell? ⟨w.heap.size + 1, 0, none⟩ = some (.int .i64 vh) := by first | (rw [ha]; with_reducible assumption) | (simp (maxDischargeDepth := 7) [go_sem, ha]; done) | (rw [ha]; assumption) | (simp (maxDischargeDepth := 7) [go_sem, ha, *]; done)
          have hf3_1_1 : w3.cell? ⟨w.heap.size + 1, 1, none⟩ = some (.int .u64 vl) := by first | (rw [ha]; with_reducible assumption) | (simp (maxDischargeDepth := 7) [go_sem, ha]; done) | (rw [ha]; assumption) | (simp (maxDischargeDepth := 7) [go_sem, ha, *]; done)
          try have hg3_1 : ∀ o, w3.frozen? ⟨w.heap.size + 1, o, none⟩ = false := by intro o; first | (simp (maxDischargeDepth := 7) [go_sem, hb]; done) | (rw [hb]; simp (maxDischargeDepth := 7) [go_sem, *]; done)
          clear ha hb
          refine kuse (b := w.heap.size + 2) hk3 (by first | (simp; done) | (simp; omega) | omega) ?_
          intro ha hb
          have hz3_2 : w.heap.size + 2 < w3.heap.size := by have := hk3.size; (try simp at this); omega
          have hn3_2 : ¬ w.heap.size + 2 = w3.heap.size := by omega
          have hm3_2 : ¬ w3.heap.size = w.heap.size + 2 := by omega
          have hf3_2_0 : w3.cell? ⟨w.heap.size + 2, 0, none⟩ = some (.int .i64 zh) := by first | (rw [ha]; with_reducible assumption) | (simp (maxDischargeDepth := 7) [go_sem, ha]; done) | (rw [ha]; assumption) | (simp (maxDischargeDepth := 7) [go_sem, ha, *]; done)
          have hf3_2_1 : w3.cell? ⟨w.heap.size + 2, 1, none⟩ = some (.int .u64 zl) := by first | (rw [ha]; with_reducible assumption) | (simp (maxDischargeDepth := 7) [go_sem, ha]; done) | (rw [ha]; assumption) | (simp (maxDischargeDepth := 7) [go_sem, ha, *]; done)
          try have hg3_2 : ∀ o, w3.frozen? ⟨w.heap.size + 2, o, none⟩ = false := by intro o; first | (simp (maxDischargeDepth := 7) [go_sem, hb]; done) | (rw [hb]; simp (maxDischargeDepth := 7) [go_sem, *]; done)
          clear ha hb
          refine kuse (b := w2.heap.size) hk3 (by first | (simp; done) | (simp; omega) | omega) ?_
          intro ha hb
          have hz3_3 : w2.heap.size < w3.heap.size := by have := hk3.size; (try simp at this); omega
          have hn3_3 : ¬ w2.heap.size = w3.heap.size := by omega
          have hm3_3 : ¬ w3.heap.size = w2.heap.size := by omega
          have hf3_3_0 : w3.cell? ⟨w2.heap.size, 0, none⟩ = some (.int .i64 0) := by first | (rw [ha]; with_reducible assumption) | (simp (maxDischargeDepth := 7) [go_sem, ha]; done) | (rw [ha]; assumption) | (simp (maxDischargeDepth := 7) [go_sem, ha, *]; done)
          have hf3_3_1 : w3.cell? ⟨w2.heap.size, 1, none⟩ = some (.int .u64 0) := by first | (rw [ha]; with_reducible assumption) | (simp (maxDischargeDepth := 7) [go_sem, ha]; done) | (rw [ha]; assumption) | (simp (maxDischargeDepth := 7) [go_sem, ha, *]; done)
          try have hg3_3 : ∀ o, w3.frozen? ⟨w2.heap.size, o, none⟩ = false := by intro o; first | (simp (maxDischargeDepth := 7) [go_sem, hb]; done) | (rw [hb]; simp (maxDischargeDepth := 7) [go_sem, *]; done)
          clear ha hb
          try clear hf2_0_0
          try clear hf2_0_1
          try clear hf2_1_0
          try clear hf2_1_1
          try clear hf2_2_0
          try clear hf2_2_1
          try clear hg2_0
          try clear hg2_1
          try clear hg2_2
          try clear hz2_1
          try clear hz2_2
          go_wp2_with fail
          with_reducible refine (Hcn.out _).mono ?_
          rintro e w4 ⟨rfl, hk4⟩
          refine kuse (b := w.heap.size) hk4 (by first | (simp; done) | (simp; omega) | omega) ?_
          intro ha hb
          have hz4_0 : w.heap.size < w4.heap.size := by have := hk4.size; (try simp at this); omega
          have hn4_0 : ¬ w.heap.size = w4.heap.size := by omega
          have hm4_0 : ¬ w4.heap.size = w.heap.size := by omega
          have hf4_0_0 : w4.cell? ⟨w.heap.size, 0, none⟩ = some (.int .i64 uh) := by first | (rw [ha]; with_reducible assumption) | (simp (maxDischargeDepth := 7) [go_sem, ha]; done) | (rw [ha]; assumption) | (simp (maxDischargeDepth := 7) [go_sem, ha, *]; done)
          have hf4_0_1 : w4.cell? ⟨w.heap.size, 1, none⟩ = some (.int .u64 ul) := by first | (rw [ha]; with_reducible assumption) | (simp (maxDischargeDepth := 7) [go_sem, ha]; done) | (rw [ha]; assumption) | (simp (maxDischargeDepth := 7) [go_sem, ha, *]; done)
          try have hg4_0 : ∀ o, w4.frozen? ⟨w.heap.size, o, none⟩ = false := by intro o; first | (simp (maxDischargeDepth := 7) [go_sem, hb]; done) | (rw [hb]; simp (maxDischargeDepth := 7) [go_sem, *]; done)
          clear ha hb
          refine kuse (b := w.heap.size + 1) hk4 (by first | (simp; done) | (simp; omega) | omega) ?_
          intro ha hb
          have hz4_1 : w.heap.size + 1 < w4.heap.size := by have := hk4.size; (try simp at this); omega
          have hn4_1 : ¬ w.heap.size + 1 = w4.heap.size := by omega
          have hm4_1 : ¬ w4.heap.size = w.heap.size + 1 := by omega
          have hf4_1_0 : w4.cell? ⟨w.heap.size + 1, 0, none⟩ = some (.int .i64 vh) := by first | (rw [ha]; with_reducible assumption) | (simp (maxDischargeDepth := 7) [go_sem, ha]; done) | (rw [ha]; assumption) | (simp (maxDischargeDepth := 7) [go_sem, ha, *]; done)
          have hf4_1_1 : w4.cell? ⟨w.heap.size + 1, 1, none⟩ = some (.int .u64 vl) := by first | (rw [ha]; with_reducible assumption) | (simp (maxDischargeDepth := 7) [go_sem, ha]; done) | (rw [ha]; assumption) | (simp (maxDischargeDepth := 7) [go_sem, ha, *]; done)
          try have hg4_1 : ∀ o, w4.frozen? ⟨w.heap.size + 1, o, none⟩ = false := by intro o; first | (simp (maxDischargeDepth := 7) [go_sem, hb]; done) | (rw [hb]; simp (maxDischargeDepth := 7) [go_sem, *]; done)
          clear ha hb
          refine kuse (b := w.heap.size + 2) hk4 (by first | (simp; done) | (simp; omega) | omega) ?_
          intro ha hb
          have hz4_2 : w.heap.size + 2 < w4.heap.size := by have := hk4.size; (try simp at this); omega
          have hn4_2 : ¬ w.heap.size + 2 = w4.heap.size := by omega
          have hm4_2 : ¬ w4.heap.size = w.heap.size + 2 := by omega
          have hf4_2_0 : w4.cell? ⟨w.heap.size + 2, 0, none⟩ = some (.int .i64 zh) := by first | (rw [ha]; with_reducible assumption) | (simp (maxDischargeDepth := 7) [go_sem, ha]; done) | (rw [ha]; assumption) | (simp (maxDischargeDepth := 7) [go_sem, ha, *]; done)
          have hf4_2_1 : w4.cell? ⟨w.heap.size + 2, 1, none⟩ = some (.int .u64 zl) := by first | (rw [ha]; with_reducible assumption) | (simp (maxDischargeDepth := 7) [go_sem, ha]; done) | (rw [ha]; assumption) | (simp (maxDischargeDepth := 7) [go_sem, ha, *]; done)
          try have hg4_2 : ∀ o, w4.frozen? ⟨w.heap.size + 2, o, none⟩ = false := by intro o; first | (simp (maxDischargeDepth := 7) [go_sem, hb]; done) | (rw [hb]; simp (maxDischargeDepth := 7) [go_sem, *]; done)
          clear ha hb
          refine kuse (b := w2.heap.size) hk4 (by first | (simp; done) | (simp; omega) | omega) ?_
          intro ha hb
          have hz4_3 : w2.heap.size < w4.heap.size := by have := hk4.size; (try simp at this); omega
          have hn4_3 : ¬ w2.heap.size = w4.heap.size := by omega
          have hm4_3 : ¬ w4.heap.size = w2.heap.size := by omega
          have hf4_3_0 : w4.cell? ⟨w2.heap.size, 0, none⟩ = some (.int .i64 0) := by first | (rw [ha]; with_reducible assumption) | (simp (maxDischargeDepth := 7) [go_sem, ha]; done) | (rw [ha]; assumption) | (simp (maxDischargeDepth := 7) [go_sem, ha, *]; done)
          have hf4_3_1 : w4.cell? ⟨w2.heap.size, 1, none⟩ = some (.int .u64 0) := by first | (rw [ha]; with_reducible assumption) | (simp (maxDischargeDepth := 7) [go_sem, ha]; done) | (rw [ha]; assumption) | (simp (maxDischargeDepth := 7) [go_sem, ha, *]; done)
          try have hg4_3 : ∀ o, w4.frozen? ⟨w2.heap.size, o, none⟩ = false := by intro o; first | (simp (maxDischargeDepth := 7) [go_sem, hb]; done) | (rw [hb]; simp (maxDischargeDepth := 7) [go_sem, *]; done)
          clear ha hb
          try clear hf3_0_0
          try clear hf3_0_1
          try clear hf3_1_0
          try clear hf3_1_1
          try clear hf3_2_0
          try clear hf3_2_1
          try clear hf3_3_0
          try clear hf3_3_1
          try clear hg3_0
          try clear hg3_1
          try clear hg3_2
          try clear hg3_3
          try clear hz3_1
          try clear hz3_2
          try clear hz3_3
          go_wp2_with fail
          with_reducible refine (Hc2.out _).mono ?_
          rintro e w5 ⟨rfl, hk5⟩
          refine kuse (b := w.heap.size) hk5 (by first | (simp; done) | (simp; omega) | omega) ?_
          intro ha hb
          have hz5_0 : w.heap.size < w5.heap.size := by have := hk5.size; (try simp at this); omega
          have hn5_0 : ¬ w.heap.size = w5.heap.size := by omega
          have hm5_0 : ¬ w5.heap.size = w.heap.size := by omega
          have hf5_0_0 : w5.cell? ⟨w.heap.size, 0, none⟩ = some (.int .i64 uh) := by first | (rw [ha]; with_reducible assumption) | (simp (maxDischargeDepth := 7) [go_sem, ha]; done) | (rw [ha]; assumption) | (simp (maxDischargeDepth := 7) [go_sem, ha, *]; done)
          have hf5_0_1 : w5.cell? ⟨w.heap.size, 1, none⟩ = some (.int .u64 ul) := by first | (rw [ha]; with_reducible assumption) | (simp (maxDischargeDepth := 7) [go_sem, ha]; done) | (rw [ha]; assumption) | (simp (maxDischargeDepth := 7) [go_sem, ha, *]; done)
          try have hg5_0 : ∀ o, w5.frozen? ⟨w.heap.size, o, none⟩ = false := by intro o; first | (simp (maxDischargeDepth := 7) [go_sem, hb]; done) | (rw [hb]; simp (maxDischargeDepth := 7) [go_sem, *]; done)
          clear ha hb
          refine kuse (b := w.heap.size + 1) hk5 (by first | (simp; done) | (simp; omega) | omega) ?_
          intro ha hb
          have hz5_1 : w.heap.size + 1 < w5.heap.size := by have := hk5.size; (try simp at this); omega
          have hn5_1 : ¬ w.heap.size + 1 = w5.heap.size := by omega
          have hm5_1 : ¬ w5.heap.size = w.heap.size + 1 := by omega
          have hf5_1_0 : w5.cell? ⟨w.heap.size + 1, 0, none⟩ = some (.int .i64 vh) := by first | (rw [ha]; with_reducible assumption) | (simp (maxDischargeDepth := 7) [go_sem, ha]; done) | (rw [ha]; assumption) | (simp (maxDischargeDepth := 7) [go_sem, ha, *]; done)
          have hf5_1_1 : w5.cell? ⟨w.heap.size + 1, 1, none⟩ = some (.int .u64 vl) := by first | (rw [ha]; with_reducible assumption) | (simp (maxDischargeDepth := 7) [go_sem, ha]; done) | (rw [ha]; assumption) | (simp (maxDischargeDepth := 7) [go_sem, ha, *]; done)
          try have hg5_1 : ∀ o, w5.frozen? ⟨w.heap.size + 1, o, none⟩ = false := by intro o; first | (simp (maxDischargeDepth := 7) [go_sem, hb]; done) | (rw [hb]; simp (maxDischargeDepth := 7) [go_sem, *]; done)
          clear ha hb
          refine kuse (b := w.heap.size + 2) hk5 (by first | (simp; done) | (simp; omega) | omega) ?_
          intro ha hb
          have hz5_2 : w.heap.size + 2 < w5.heap.size := by have := hk5.size; (try simp at this); omega
          have hn5_2 : ¬ w.heap.size + 2 = w5.heap.size := by omega
          have hm5_2 : ¬ w5.heap.size = w.heap.size + 2 := by omega
          have hf5_2_0 : w5.cell? ⟨w.heap.size + 2, 0, none⟩ = some (.int .i64 zh) := by first | (rw [ha]; with_reducible assumption) | (simp (maxDischargeDepth := 7) [go_sem, ha]; done) | (rw [ha]; assumption) | (simp (maxDischargeDepth := 7) [go_sem, ha, *]; done)
          have hf5_2_1 : w5.cell? ⟨w.heap.size + 2, 1, none⟩ = some (.int .u64 zl) := by first | (rw [ha]; with_reducible assumption) | (simp (maxDischargeDepth := 7) [go_sem, ha]; done) | (rw [ha]; assumption) | (simp (maxDischargeDepth := 7) [go_sem, ha, *]; done)
          try have hg5_2 : ∀ o, w5.frozen? ⟨w.heap.size + 2, o, none⟩ = false := by intro o; first | (simp (maxDischargeDepth := 7) [go_sem, hb]; done) | (rw [hb]; simp (maxDischargeDepth := 7) [go_sem, *]; done)
          clear ha hb
          refine kuse (b := w2.heap.size) hk5 (by first | (simp; done) | (simp; omega) | omega) ?_
          intro ha hb
          have hz5_3 : w2.heap.size < w5.heap.size := by have := hk5.size; (try simp at this); omega
          have hn5_3 : ¬ w2.heap.size = w5.heap.size := by omega
          have hm5_3 : ¬ w5.heap.size = w2.heap.size := by omega
          have hf5_3_0 : w5.cell? ⟨w2.heap.size, 0, none⟩ = some (.int .i64 0) := by first | (rw [ha]; with_reducible assumption) | (simp (maxDischargeDepth := 7) [go_sem, ha]; done) | (rw [ha]; assumption) | (simp (maxDischargeDepth := 7) [go_sem, ha, *]; done)
          have hf5_3_1 : w5.cell? ⟨w2.heap.size, 1, none⟩ = some (.int .u64 0) := by first | (rw [ha]; with_reducible assumption) | (simp (maxDischargeDepth := 7) [go_sem, ha]; done) | (rw [ha]; assumption) | (simp (maxDischargeDepth := 7) [go_sem, ha, *]; done)
          try have hg5_3 : ∀ o, w5.frozen? ⟨w2.heap.size, o, none⟩ = false := by intro o; first | (simp (maxDischargeDepth := 7) [go_sem, hb]; done) | (rw [hb]; simp (maxDischargeDepth := 7) [go_sem, *]; done)
          clear ha hb
          try clear hf4_0_0
          try clear hf4_0_1
          try clear hf4_1_0
          try clear hf4_1_1
          try clear hf4_2_0
          try clear hf4_2_1
          try clear hf4_3_0
          try clear hf4_3_1
          try clear hg4_0
          try clear hg4_1
          try clear hg4_2
          try clear hg4_3
          try clear hz4_1
          try clear hz4_2
          try clear hz4_3
          go_wp2_with fail
          all_goals go_ret
          all_goals exact ⟨rfl, (by repeat (first | with_reducible exact Kept.refl _ | with_reducible assumption | with_reducible refine Kept.setCell ?_ (by first | (simp; done) | (simp; omega) | omega) _ | with_reducible refine Kept.alloc ?_ _ | with_reducible refine Kept.drewN ?_ _ | with_reducible refine Kept.drew ?_ | with_reducible refine Kept.trans ?_ (by with_reducible assumption) | with_reducible refine Kept.dr ?_ (by with_reducible assumption)))⟩
  · by_cases h2 : u = v
    · replace h : u = v := h2
      clear h2
      have hf : True := trivial
      have sb := wsub_w u v u0 u1 v0 v1
      have cm := cmp_w u v
      have cn := cmp_w v u
      rw [(show wcm u v = 0 by unfold wcm; rw [if_neg (by omega), if_pos (by omega)])] at cm
      rw [(show wcm v u = 0 by unfold wcm; rw [if_neg (by omega), if_pos (by omega)])] at cn
      have fy := wfit_yes (u := u - v) (by omega) (by omega)
      rw [fy.1, fy.2] at sb
      clear fy
      have sg := sign_w (u - v)
      rw [(show wcm (u - v) 0 = 0 by unfold wcm; rw [if_neg (by omega), if_pos (by omega)])] at sg
      have eqs : ∀ w, (Op.equalIn 10000 24 (.agg #[.int .i64 (wh v), .int .u64 (wl v)]) (.agg #[.int .i64 (wh v), .int .u64 (wl v)])).run Tryd.prog w = .ok true w := fun w => by rw [eqW]; simp
      obtain rfl : u = v := by omega
      obtain ⟨D, hD⟩ : ∃ D, u - u = D := ⟨_, rfl⟩
      rw [hD] at sb sg
      clear hD
      have Hsb := Lib.hid sb
      clear sb
      have Hcm := Lib.hid cm
      clear cm
      have Hcn := Lib.hid cn
      clear cn
      have Hsg := Lib.hid sg
      clear sg
      clear hf
      clear h
      generalize wh u = uh at *; generalize wl u = ul at *; generalize wh z = zh at *; generalize wl z = zl at *
      clear u0 u1 v0 v1 z0 z1
      go_enter Tryd.func11, Tryd.ntmps11
      go_wp2_with fail
      refine (awake_w _ (tab_kept hT.out (by repeat (first | with_reducible exact Kept.refl _ | with_reducible assumption | with_reducible refine Kept.setCell ?_ (by first | (simp; done) | (simp; omega) | omega) _ | with_reducible refine Kept.alloc ?_ _ | with_reducible refine Kept.drewN ?_ _ | with_reducible refine Kept.drew ?_ | with_reducible refine Kept.trans ?_ (by with_reducible assumption) | with_reducible refine Kept.dr ?_ (by with_reducible assumption))))).mono ?_
      rintro e w1 ⟨rfl, hk1⟩
      refine kuse (b := w.heap.size) hk1 (by first | (simp; done) | (simp; omega) | omega) ?_
      intro ha hb
      have hz1_0 : w.heap.size < w1.heap.size := by have := hk1.size; (try simp at this); omega
      have hn1_0 : ¬ w.heap.size = w1.heap.size := by omega
      have hm1_0 : ¬ w1.heap.size = w.heap.size := by omega
      have hf1_0_0 : w1.cell? ⟨w.heap.size, 0, none⟩ = some (.int .i64 uh) := by first | (rw [ha]; with_reducible assumption) | (simp (maxDischargeDepth := 7) [go_sem, ha]; done) | (rw [ha]; assumption) | (simp (maxDischargeDepth := 7) [go_sem, ha, *]; done)
      have hf1_0_1 : w1.cell? ⟨w.heap.size, 1, none⟩ = some (.int .u64 ul) := by first | (rw [ha]; with_reducible assumption) | (simp (maxDischargeDepth := 7) [go_sem, ha]; done) | (rw [ha]; assumption) | (simp (maxDischargeDepth := 7) [go_sem, ha, *]; done)
      try have hg1_0 : ∀ o, w1.frozen? ⟨w.heap.size, o, none⟩ = false := by intro o; first | (simp (maxDischargeDepth := 7) [go_sem, hb]; done) | (rw [hb]; simp (maxDischargeDepth := 7) [go_sem, *]; done)
      clear ha hb
      refine kuse (b := w.heap.size + 1) hk1 (by first | (simp; done) | (simp; omega) | omega) ?_
      intro ha hb
      have hz1_1 : w.heap.size + 1 < w1.heap.size := by have := hk1.size; (try simp at this); omega
      have hn1_1 : ¬ w.heap.size + 1 = w1.heap.size := by omega
      have hm1_1 : ¬ w1.heap.size = w.heap.size + 1 := by omega
      have hf1_1_0 : w1.cell? ⟨w.heap.size + 1, 0, none⟩ = some (.int .i64 uh) := by first | (rw [ha]; with_reducible assumption) | (simp (maxDischargeDepth := 7) [go_sem, ha]; done) | (rw [ha]; assumption) | (simp (maxDischargeDepth := 7) [go_sem, ha, *]; done)
      have hf1_1_1 : w1.cell? ⟨w.heap.size + 1, 1, none⟩ = some (.int .u64 ul) := by first | (rw [ha]; with_reducible assumption) | (simp (maxDischargeDepth := 7) [go_sem, ha]; done) | (rw [ha]; assumption) | (simp (maxDischargeDepth := 7) [go_sem, ha, *]; done)
      try have hg1_1 : ∀ o, w1.frozen? ⟨w.heap.size + 1, o, none⟩ = false := by intro o; first | (simp (maxDischargeDepth := 7) [go_sem, hb]; done) | (rw [hb]; simp (maxDischargeDepth := 7) [go_sem, *]; done)
      clear ha hb
      refine kuse (b := w.heap.size + 2) hk1 (by first | (simp; done) | (simp; omega) | omega) ?_
      intro ha hb
      have hz1_2 : w.heap.size + 2 < w1.heap.size := by have := hk1.size; (try simp at this); omega
      have hn1_2 : ¬ w.heap.size + 2 = w1.heap.size := by omega
      have hm1_2 : ¬ w1.heap.size = w.heap.size + 2 := by omega
      have hf1_2_0 : w1.cell? ⟨w.heap.size + 2, 0, none⟩ = some (.int .i64 zh) := by first | (rw [ha]; with_reducible assumption) | (simp (maxDischargeDepth := 7) [go_sem, ha]; done) | (rw [ha]; assumption) | (simp (maxDischargeDepth := 7) [go_sem, ha, *]; done)
      have hf1_2_1 : w1.cell? ⟨w.heap.size + 2, 1, none⟩ = some (.int .u64 zl) := by first | (rw [ha]; with_reducible assumption) | (simp (maxDischargeDepth := 7) [go_sem, ha]; done) | (rw [ha]; assumption) | (simp (maxDischargeDepth := 7) [go_sem, ha, *]; done)
      try have hg1_2 : ∀ o, w1.frozen? ⟨w.heap.size + 2, o, none⟩ = false := by intro o; first | (simp (maxDischargeDepth := 7) [go_sem, hb]; done) | (rw [hb]; simp (maxDischargeDepth := 7) [go_sem, *]; done)
      clear ha hb
      go_wp2_with fail
      with_reducible refine (Hsb.out _).mono ?_
      rintro e w2 ⟨rfl, hk2⟩
      refine kuse (b := w.heap.size) hk2 (by first | (simp; done) | (simp; omega) | omega) ?_
      intro ha hb
      have hz2_0 : w.heap.size < w2.heap.size := by have := hk2.size; (try simp at this); omega
      have hn2_0 : ¬ w.heap.size = w2.heap.size := by omega
      have hm2_0 : ¬ w2.heap.size = w.heap.size := by omega
      have hf2_0_0 : w2.cell? ⟨w.heap.size, 0, none⟩ = some (.int .i64 uh) := by first | (rw [ha]; with_reducible assumption) | (simp (maxDischargeDepth := 7) [go_sem, ha]; done) | (rw [ha]; assumption) | (simp (maxDischargeDepth := 7) [go_sem, ha, *]; done)
      have hf2_0_1 : w2.cell? ⟨w.heap.size, 1, none⟩ = some (.int .u64 ul) := by first | (rw [ha]; with_reducible assumption) | (simp (maxDischargeDepth := 7) [go_sem, ha]; done) | (rw [ha]; assumption) | (simp (maxDischargeDepth := 7) [go_sem, ha, *]; done)
      try have hg2_0 : ∀ o, w2.frozen? ⟨w.heap.size, o, none⟩ = false := by intro o; first | (simp (maxDischargeDepth := 7) [go_sem, hb]; done) | (rw [hb]; simp (maxDischargeDepth := 7) [go_sem, *]; done)
      clear ha hb
      refine kuse (b := w.heap.size + 1) hk2 (by first | (simp; done) | (simp; omega) | omega) ?_
      intro ha hb
      have hz2_1 : w.heap.size + 1 < w2.heap.size := by have := hk2.size; (try simp at this); omega
      have hn2_1 : ¬ w.heap.size + 1 = w2.heap.size := by omega
      have hm2_1 : ¬ w2.heap.size = w.heap.size + 1 := by omega
      have hf2_1_0 : w2.cell? ⟨w.heap.size + 1, 0, none⟩ = some (.int .i64 uh) := by first | (rw [ha]; with_reducible assumption) | (simp (maxDischargeDepth := 7) [go_sem, ha]; done) | (rw [ha]; assumption) | (simp (maxDischargeDepth := 7) [go_sem, ha, *]; done)
      have hf2_1_1 : w2.cell? ⟨w.heap.size + 1, 1, none⟩ = some (.int .u64 ul) := by first | (rw [ha]; with_reducible assumption) | (simp (maxDischargeDepth := 7) [go_sem, ha]; done) | (rw [ha]; assumption) | (simp (maxDischargeDepth := 7) [go_sem, ha, *]; done)
      try have hg2_1 : ∀ o, w2.frozen? ⟨w.heap.size + 1, o, none⟩ = false := by intro o; first | (simp (maxDischargeDepth := 7) [go_sem, hb]; done) | (rw [hb]; simp (maxDischargeDepth := 7) [go_sem, *]; done)
      clear ha hb
      refine kuse (b := w.heap.size + 2) hk2 (by first | (simp; done) | (simp; omega) | omega) ?_
      intro ha hb
      have hz2_2 : w.heap.size + 2 < w2.heap.size := by have := hk2.size; (try simp at this); omega
      have hn2_2 : ¬ w.heap.size + 2 = w2.heap.size := by omega
      have hm2_2 : ¬ w2.heap.size = w.heap.size + 2 := by omega
      have hf2_2_0 : w2.cell? ⟨w.heap.size + 2, 0, none⟩ = some (.int .i64 zh) := by first | (rw [ha]; with_reducible assumption) | (simp (maxDischargeDepth := 7) [go_sem, ha]; done) | (rw [ha]; assumption) | (simp (maxDischargeDepth := 7) [go_sem, ha, *]; done)
      have hf2_2_1 : w2.cell? ⟨w.heap.size + 2, 1, none⟩ = some (.int .u64 zl) := by first | (rw [ha]; with_reducible assumption) | (simp (maxDischargeDepth := 7) [go_sem, ha]; done) | (rw [ha]; assumption) | (simp (maxDischargeDepth := 7) [go_sem, ha, *]; done)
      try have hg2_2 : ∀ o, w2.frozen? ⟨w.heap.size + 2, o, none⟩ = false := by intro o; first | (simp (maxDischargeDepth := 7) [go_sem, hb]; done) | (rw [hb]; simp (maxDischargeDepth := 7) [go_sem, *]; done)
      clear ha hb
      try clear hf1_0_0
      try clear hf1_0_1
      try clear hf1_1_0
      try clear hf1_1_1
      try clear hf1_2_0
      try clear hf1_2_1
      try clear hg1_0
      try clear hg1_1
      try clear hg1_2
      try clear hz1_1
      try clear hz1_2
      go_wp2_with fail
      with_reducible refine (Hcm.out _).mono ?_
      rintro e w3 ⟨rfl, hk3⟩
      refine kuse (b := w.heap.size) hk3 (by first | (simp; done) | (simp; omega) | omega) ?_
      intro ha hb
      have hz3_0 : w.heap.size < w3.heap.size := by have := hk3.size; (try simp at this); omega
      have hn3_0 : ¬ w.heap.size = w3.heap.size := by omega
      have hm3_0 : ¬ w3.heap.size = w.heap.size := by omega
      have hf3_0_0 : w3.cell? ⟨w.heap.size, 0, none⟩ = some (.int .i64 uh) := by first | (rw [ha]; with_reducible assumption) | (simp (maxDischargeDepth := 7) [go_sem, ha]; done) | (rw [ha]; assumption) | (simp (maxDischargeDepth := 7) [go_sem, ha, *]; done)
      have hf3_0_1 : w3.cell? ⟨w.heap.size, 1, none⟩ = some (.int .u64 ul) := by first | (rw [ha]; with_reducible assumption) | (simp (maxDischargeDepth := 7) [go_sem, ha]; done) | (rw [ha]; assumption) | (simp (maxDischargeDepth := 7) [go_sem, ha, *]; done)
      try have hg3_0 : ∀ o, w3.frozen? ⟨w.heap.size, o, none⟩ = false := by intro o; first | (simp (maxDischargeDepth := 7) [go_sem, hb]; done) | (rw [hb]; simp (maxDischargeDepth := 7) [go_sem, *]; done)
      clear ha hb
      refine kuse (b := w.heap.size + 1) hk3 (by first | (simp; done) | (simp; omega) | omega) ?_
      intro ha hb
      have hz3_1 : w.heap.size + 1 < w3.heap.size := by have := hk3.size; (try simp at this); omega
      have hn3_1 : ¬ w.heap.size + 1 = w3.heap.size := by omega
      have hm3_1 : ¬ w3.heap.size = w.heap.size + 1 := by omega
      have hf3_1_0 : w3.cell? ⟨w.heap.size + 1, 0, none⟩ = some (.int .i64 uh) := by first | (rw [ha]; with_reducible assumption) | (simp (maxDischargeDepth := 7) [go_sem, ha]; done) | (rw [ha]; assumption) | (simp (maxDischargeDepth := 7) [go_sem, ha, *]; done)
      have hf3_1_1 : w3.cell? ⟨w.heap.size + 1, 1, none⟩ = some (.int .u64 ul) := by first | (rw [ha]; with_reducible assumption) | (simp (maxDischargeDepth := 7) [go_sem, ha]; done) | (rw [ha]; assumption) | (simp (maxDischargeDepth := 7) [go_sem, ha, *]; done)
      try have hg3_1 : ∀ o, w3.frozen? ⟨w.heap.size + 1, o, none⟩ = false := by intro o; first | (simp (maxDischargeDepth := 7) [go_sem, hb]; done) | (rw [hb]; simp (maxDischargeDepth := 7) [go_sem, *]; done)
      clear ha hb
      refine kuse (b := w.heap.size + 2) hk3 (by first | (simp; done) | (simp; omega) | omega) ?_
      intro ha hb
      have hz3_2 : w.heap.size + 2 < w3.heap.size := by have := hk3.size; (try simp at this); omega
      have hn3_2 : ¬ w.heap.size + 2 = w3.heap.size := by omega
      have hm3_2 : ¬ w3.heap.size = w.heap.size + 2 := by omega
      have hf3_2_0 : w3.cell? ⟨w.heap.size + 2, 0, none⟩ = some (.int .i64 zh) := by first | (rw [ha]; with_reducible assumption) | (simp (maxDischargeDepth := 7) [go_sem, ha]; done) | (rw [ha]; assumption) | (simp (maxDischargeDepth := 7) [go_sem, ha, *]; done)
      have hf3_2_1 : w3.cell? ⟨w.heap.size + 2, 1, none⟩ = some (.int .u64 zl) := by first | (rw [ha]; with_reducible assumption) | (simp (maxDischargeDepth := 7) [go_sem, ha]; done) | (rw [ha]; assumption) | (simp (maxDischargeDepth := 7) [go_sem, ha, *]; done)
      try have hg3_2 : ∀ o, w3.frozen? ⟨w.heap.size + 2, o, none⟩ = false := by intro o; first | (simp (maxDischargeDepth := 7) [go_sem, hb]; done) | (rw [hb]; simp (maxDischargeDepth := 7) [go_sem, *]; done)
      clear ha hb
      refine kuse (b := w2.heap.size) hk3 (by first | (simp; done) | (simp; omega) | omega) ?_
      intro ha hb
      have hz3_3 : w2.heap.size < w3.heap.size := by have := hk3.size; (try simp at this); omega
      have hn3_3 : ¬ w2.heap.size = w3.heap.size := by omega
      have hm3_3 : ¬ w3.heap.size = w2.heap.size := by omega
      have hf3_3_0 : w3.cell? ⟨w2.heap.size, 0, none⟩ = some (.int .i64 (wh D)) := by first | (rw [ha]; with_reducible assumption) | (simp (maxDischargeDepth := 7) [go_sem, ha]; done) | (rw [ha]; assumption) | (simp (maxDischargeDepth := 7) [go_sem, ha, *]; done)
      have hf3_3_1 : w3.cell? ⟨w2.heap.size, 1, none⟩ = some (.int .u64 (wl D)) := by first | (rw [ha]; with_reducible assumption) | (simp (maxDischargeDepth := 7) [go_sem, ha]; done) | (rw [ha]; assumption) | (simp (maxDischargeDepth := 7) [go_sem, ha, *]; done)
      try have hg3_3 : ∀ o, w3.frozen? ⟨w2.heap.size, o, none⟩ = false := by intro o; first | (simp (maxDischargeDepth := 7) [go_sem, hb]; done) | (rw [hb]; simp (maxDischargeDepth := 7) [go_sem, *]; done)
      clear ha hb
      try clear hf2_0_0
      try clear hf2_0_1
      try clear hf2_1_0
      try clear hf2_1_1
      try clear hf2_2_0
      try clear hf2_2_1
      try clear hg2_0
      try clear hg2_1
      try clear hg2_2
      try clear hz2_1
      try clear hz2_2
      go_wp2_with fail
      with_reducible refine (Hsg.out _).mono ?_
      rintro e w4 ⟨rfl, hk4⟩
      refine kuse (b := w.heap.size) hk4 (by first | (simp; done) | (simp; omega) | omega) ?_
      intro ha hb
      have hz4_0 : w.heap.size < w4.heap.size := by have := hk4.size; (try simp at this); omega
      have hn4_0 : ¬ w.heap.size = w4.heap.size := by omega
      have hm4_0 : ¬ w4.heap.size = w.heap.size := by omega
      have hf4_0_0 : w4.cell? ⟨w.heap.size, 0, none⟩ = some (.int .i64 uh) := by first | (rw [ha]; with_reducible assumption) | (simp (maxDischargeDepth := 7) [go_sem, ha]; done) | (rw [ha]; assumption) | (simp (maxDischargeDepth := 7) [go_sem, ha, *]; done)
      have hf4_0_1 : w4.cell? ⟨w.heap.size, 1, none⟩ = some (.int .u64 ul) := by first | (rw [ha]; with_reducible assumption) | (simp (maxDischargeDepth := 7) [go_sem, ha]; done) | (rw [ha]; assumption) | (simp (maxDischargeDepth := 7) [go_sem, ha, *]; done)
      try have hg4_0 : ∀ o, w4.frozen? ⟨w.heap.size, o, none⟩ = false := by intro o; first | (simp (maxDischargeDepth := 7) [go_sem, hb]; done) | (rw [hb]; simp (maxDischargeDepth := 7) [go_sem, *]; done)
      clear ha hb
      refine kuse (b := w.heap.size + 1) hk4 (by first | (simp; done) | (simp; omega) | omega) ?_
      intro ha hb
      have hz4_1 : w.heap.size + 1 < w4.heap.size := by have := hk4.size; (try simp at this); omega
      have hn4_1 : ¬ w.heap.size + 1 = w4.heap.size := by omega
      have hm4_1 : ¬ w4.heap.size = w.heap.size + 1 := by omega
      have hf4_1_0 : w4.cell? ⟨w.heap.size + 1, 0, none⟩ = some (.int .i64 uh) := by first | (rw [ha]; with_reducible assumption) | (simp (maxDischargeDepth := 7) [go_sem, ha]; done) | (rw [ha]; assumption) | (simp (maxDischargeDepth := 7) [go_sem, ha, *]; done)
      have hf4_1_1 : w4.cell? ⟨w.heap.size + 1, 1, none⟩ = some (.int .u64 ul) := by first | (rw [ha]; with_reducible assumption) | (simp (maxDischargeDepth := 7) [go_sem, ha]; done) | (rw [ha]; assumption) | (simp (maxDischargeDepth := 7) [go_sem, ha, *]; done)
      try have hg4_1 : ∀ o, w4.frozen? ⟨w.heap.size + 1, o, none⟩ = false := by intro o; first | (simp (maxDischargeDepth := 7) [go_sem, hb]; done) | (rw [hb]; simp (maxDischargeDepth := 7) [go_sem, *]; done)
      clear ha hb
      refine kuse (b := w.heap.size + 2) hk4 (by first | (simp; done) | (simp; omega) | omega) ?_
      intro ha hb
      have hz4_2 : w.heap.size + 2 < w4.heap.size := by have := hk4.size; (try simp at this); omega
      have hn4_2 : ¬ w.heap.size + 2 = w4.heap.size := by omega
      have hm4_2 : ¬ w4.heap.size = w.heap.size + 2 := by omega
      have hf4_2_0 : w4.cell? ⟨w.heap.size + 2, 0, none⟩ = some (.int .i64 zh) := by first | (rw [ha]; with_reducible assumption) | (simp (maxDischargeDepth := 7) [go_sem, ha]; done) | (rw [ha]; assumption) | (simp (maxDischargeDepth := 7) [go_sem, ha, *]; done)
      have hf4_2_1 : w4.cell? ⟨w.heap.size + 2, 1, none⟩ = some (.int .u64 zl) := by first | (rw [ha]; with_reducible assumption) | (simp (maxDischargeDepth := 7) [go_sem, ha]; done) | (rw [ha]; assumption) | (simp (maxDischargeDepth := 7) [go_sem, ha, *]; done)
      try have hg4_2 : ∀ o, w4.frozen? ⟨w.heap.size + 2, o, none⟩ = false := by intro o; first | (simp (maxDischargeDepth := 7) [go_sem, hb]; done) | (rw [hb]; simp (maxDischargeDepth := 7) [go_sem, *]; done)
      clear ha hb
      refine kuse (b := w2.heap.size) hk4 (by first | (simp; done) | (simp; omega) | omega) ?_
      intro ha hb
      have hz4_3 : w2.heap.size < w4.heap.size := by have := hk4.size; (try simp at this); omega
      have hn4_3 : ¬ w2.heap.size = w4.heap.size := by omega
      have hm4_3 : ¬ w4.heap.size = w2.heap.size := by omega
      have hf4_3_0 : w4.cell? ⟨w2.heap.size, 0, none⟩ = some (.int .i64 (wh D)) := by first | (rw [ha]; with_reducible assumption) | (simp (maxDischargeDepth := 7) [go_sem, ha]; done) | (rw [ha]; assumption) | (simp (maxDischargeDepth := 7) [go_sem, ha, *]; done)
      have hf4_3_1 : w4.cell? ⟨w2.heap.size, 1, none⟩ = some (.int .u64 (wl D)) := by first | (rw [ha]; with_reducible assumption) | (simp (maxDischargeDepth := 7) [go_sem, ha]; done) | (rw [ha]; assumption) | (simp (maxDischargeDepth := 7) [go_sem, ha, *]; done)
      try have hg4_3 : ∀ o, w4.frozen? ⟨w2.heap.size, o, none⟩ = false := by intro o; first | (simp (maxDischargeDepth := 7) [go_sem, hb]; done) | (rw [hb]; simp (maxDischargeDepth := 7) [go_sem, *]; done)
      clear ha hb
      try clear hf3_0_0
      try clear hf3_0_1
      try clear hf3_1_0
      try clear hf3_1_1
      try clear hf3_2_0
      try clear hf3_2_1
      try clear hf3_3_0
      try clear hf3_3_1
      try clear hg3_0
      try clear hg3_1
      try clear hg3_2
      try clear hg3_3
      try clear hz3_1
      try clear hz3_2
      try clear hz3_3
      go_wp2_with fail
      with_reducible refine (Hcn.out _).mono ?_
      rintro e w5 ⟨rfl, hk5⟩
      refine kuse (b := w.heap.size) hk5 (by first | (simp; done) | (simp; omega) | omega) ?_
      intro ha hb
      have hz5_0 : w.heap.size < w5.heap.size := by have := hk5.size; (try simp at this); omega
      have hn5_0 : ¬ w.heap.size = w5.heap.size := by omega
      have hm5_0 : ¬ w5.heap.size = w.heap.size := by omega
      have hf5_0_0 : w5.cell? ⟨w.heap.size, 0, none⟩ = some (.int .i64 uh) := by first | (rw [ha]; with_reducible assumption) | (simp (maxDischargeDepth := 7) [go_sem, ha]; done) | (rw [ha]; assumption) | (simp (maxDischargeDepth := 7) [go_sem, ha, *]; done)
      have hf5_0_1 : w5.cell? ⟨w.heap.size, 1, none⟩ = some (.int .u64 ul) := by first | (rw [ha]; with_reducible assumption) | (simp (maxDischargeDepth := 7) [go_sem, ha]; done) | (rw [ha]; assumption) | (simp (maxDischargeDepth := 7) [go_sem, ha, *]; done)
      try have hg5_0 : ∀ o, w5.frozen? ⟨w.heap.size, o, none⟩ = false := by intro o; first | (simp (maxDischargeDepth := 7) [go_sem, hb]; done) | (rw [hb]; simp (maxDischargeDepth := 7) [go_sem, *]; done)
      clear ha hb
      refine kuse (b := w.heap.size + 1) hk5 (by first | (simp; done) | (simp; omega) | omega) ?_
      intro ha hb
      have hz5_1 : w.heap.size + 1 < w5.heap.size := by have := hk5.size; (try simp at this); omega
      have hn5_1 : ¬ w.heap.size + 1 = w5.heap.size := by omega
      have hm5_1 : ¬ w5.heap.size = w.heap.size + 1 := by omega
      have hf5_1_0 : w5.cell? ⟨w.heap.size + 1, 0, none⟩ = some (.int .i64 uh) := by first | (rw [ha]; with_reducible assumption) | (simp (maxDischargeDepth := 7) [go_sem, ha]; done) | (rw [ha]; assumption) | (simp (maxDischargeDepth := 7) [go_sem, ha, *]; done)
      have hf5_1_1 : w5.cell? ⟨w.heap.size + 1, 1, none⟩ = some (.int .u64 ul) := by first | (rw [ha]; with_reducible assumption) | (simp (maxDischargeDepth := 7) [go_sem, ha]; done) | (rw [ha]; assumption) | (simp (maxDischargeDepth := 7) [go_sem, ha, *]; done)
      try have hg5_1 : ∀ o, w5.frozen? ⟨w.heap.size + 1, o, none⟩ = false := by intro o; first | (simp (maxDischargeDepth := 7) [go_sem, hb]; done) | (rw [hb]; simp (maxDischargeDepth := 7) [go_sem, *]; done)
      clear ha hb
      refine kuse (b := w.heap.size + 2) hk5 (by first | (simp; done) | (simp; omega) | omega) ?_
      intro ha hb
      have hz5_2 : w.heap.size + 2 < w5.heap.size := by have := hk5.size; (try simp at this); omega
      have hn5_2 : ¬ w.heap.size + 2 = w5.heap.size := by omega
      have hm5_2 : ¬ w5.heap.size = w.heap.size + 2 := by omega
      have hf5_2_0 : w5.cell? ⟨w.heap.size + 2, 0, none⟩ = some (.int .i64 zh) := by first | (rw [ha]; with_reducible assumption) | (simp (maxDischargeDepth := 7) [go_sem, ha]; done) | (rw [ha]; assumption) | (simp (maxDischargeDepth := 7) [go_sem, ha, *]; done)
      have hf5_2_1 : w5.cell? ⟨w.heap.size + 2, 1, none⟩ = some (.int .u64 zl) := by first | (rw [ha]; with_reducible assumption) | (simp (maxDischargeDepth := 7) [go_sem, ha]; done) | (rw [ha]; assumption) | (simp (maxDischargeDepth := 7) [go_sem, ha, *]; done)
      try have hg5_2 : ∀ o, w5.frozen? ⟨w.heap.size + 2, o, none⟩ = false := by intro o; first | (simp (maxDischargeDepth := 7) [go_sem, hb]; done) | (rw [hb]; simp (maxDischargeDepth := 7) [go_sem, *]; done)
      clear ha hb
      refine kuse (b := w2.heap.size) hk5 (by first | (simp; done) | (simp; omega) | omega) ?_
      intro ha hb
      have hz5_3 : w2.heap.size < w5.heap.size := by have := hk5.size; (try simp at this); omega
      have hn5_3 : ¬ w2.heap.size = w5.heap.size := by omega
      have hm5_3 : ¬ w5.heap.size = w2.heap.size := by omega
      have hf5_3_0 : w5.cell? ⟨w2.heap.size, 0, none⟩ = some (.int .i64 (wh D)) := by first | (rw [ha]; with_reducible assumption) | (simp (maxDischargeDepth := 7) [go_sem, ha]; done) | (rw [ha]; assumption) | (simp (maxDischargeDepth := 7) [go_sem, ha, *]; done)
      have hf5_3_1 : w5.cell? ⟨w2.heap.size, 1, none⟩ = some (.int .u64 (wl D)) := by first | (rw [ha]; with_reducible assumption) | (simp (maxDischargeDepth := 7) [go_sem, ha]; done) | (rw [ha]; assumption) | (simp (maxDischargeDepth := 7) [go_sem, ha, *]; done)
      try have hg5_3 : ∀ o, w5.frozen? ⟨w2.heap.size, o, none⟩ = false := by intro o; first | (simp (maxDischargeDepth := 7) [go_sem, hb]; done) | (rw [hb]; simp (maxDischargeDepth := 7) [go_sem, *]; done)
      clear ha hb
      try clear hf4_0_0
      try clear hf4_0_1
      try clear hf4_1_0
      try clear hf4_1_1
      try clear hf4_2_0
      try clear hf4_2_1
      try clear hf4_3_0
      try clear hf4_3_1
      try clear hg4_0
      try clear hg4_1
      try clear hg4_2
      try clear hg4_3
      try clear hz4_1
      try clear hz4_2
      try clear hz4_3
      go_wp2_with fail
      all_goals go_ret
      all_goals exact ⟨rfl, (by repeat (first | with_reducible exact Kept.refl _ | with_reducible assumption | with_reducible refine Kept.setCell ?_ (by first | (simp; done) | (simp; omega) | omega) _ | with_reducible refine Kept.alloc ?_ _ | with_reducible refine Kept.drewN ?_ _ | with_reducible refine Kept.drew ?_ | with_reducible refine Kept.trans ?_ (by with_reducible assumption) | with_reducible refine Kept.dr ?_ (by with_reducible assumption)))⟩
    · replace h : v < u := by omega
      clear h2
      by_cases hf : -170141183460469231731687303715884105728 ≤ u - v ∧ u - v < 170141183460469231731687303715884105728
      · have sb := wsub_w u v u0 u1 v0 v1
        have cm := cmp_w u v
        have cn := cmp_w v u
        rw [(show wcm u v = 1 by unfold wcm; rw [if_neg (by omega), if_neg (by omega)])] at cm
        rw [(show wcm v u = -1 by unfold wcm; rw [if_pos (by omega)])] at cn
        have fy := wfit_yes (u := u - v) hf.1 hf.2
        rw [fy.1, fy.2] at sb
        clear fy
        have sg := sign_w (u - v)
        rw [(show wcm (u - v) 0 = 1 by unfold wcm; rw [if_neg (by omega), if_neg (by omega)])] at sg
        have n0 : (wh u == wh v && wl u == wl v) = false := by
          rw [Bool.and_eq_false_iff]
          by_cases k : wh u = wh v
          · right; rw [beq_eq_false_iff_ne]; intro k2; have := w_ext k k2; omega
          · left; rw [beq_eq_false_iff_ne]; exact k
        have eqs : ∀ w, (Op.equalIn 10000 24 (.agg #[.int .i64 (wh u), .int .u64 (wl u)]) (.agg #[.int .i64 (wh v), .int .u64 (wl v)])).run Tryd.prog w = .ok false w := fun w => by rw [eqW, n0]
        clear n0
        obtain ⟨D, hD⟩ : ∃ D, u - v = D := ⟨_, rfl⟩
        rw [hD] at sb sg
        clear hD
        have Hsb := Lib.hid sb
        clear sb
        have Hcm := Lib.hid cm
        clear cm
        have Hcn := Lib.hid cn
        clear cn
        have Hsg := Lib.hid sg
        clear sg
        clear hf
        clear h
        generalize wh u = uh at *; generalize wl u = ul at *; generalize wh v = vh at *; generalize wl v = vl at *; generalize wh z = zh at *; generalize wl z = zl at *
        clear u0 u1 v0 v1 z0 z1
        go_enter Tryd.func11, Tryd.ntmps11
        go_wp2_with fail
        refine (awake_w _ (tab_kept hT.out (by repeat (first | with_reducible exact Kept.refl _ | with_reducible assumption | with_reducible refine Kept.setCell ?_ (by first | (simp; done) | (simp; omega) | omega) _ | with_reducible refine Kept.alloc ?_ _ | with_reducible refine Kept.drewN ?_ _ | with_reducible refine Kept.drew ?_ | with_reducible refine Kept.trans ?_ (by with_reducible assumption) | with_reducible refine Kept.dr ?_ (by with_reducible assumption))))).mono ?_
        rintro e w1 ⟨rfl, hk1⟩
        refine kuse (b := w.heap.size) hk1 (by first | (simp; done) | (simp; omega) | omega) ?_
        intro ha hb
        have hz1_0 : w.heap.size < w1.heap.size := by have := hk1.size; (try simp at this); omega
        have hn1_0 : ¬ w.heap.size = w1.heap.size := by omega
        have hm1_0 : ¬ w1.heap.size = w.heap.size := by omega
        have hf1_0_0 : w1.cell? ⟨w.heap.size, 0, none⟩ = some (.int .i64 uh) := by first | (rw [ha]; with_reducible assumption) | (simp (maxDischargeDepth := 7) [go_sem, ha]; done) | (rw [ha]; assumption) | (simp (maxDischargeDepth := 7) [go_sem, ha, *]; done)
        have hf1_0_1 : w1.cell? ⟨w.heap.size, 1, none⟩ = some (.int .u64 ul) := by first | (rw [ha]; with_reducible assumption) | (simp (maxDischargeDepth := 7) [go_sem, ha]; done) | (rw [ha]; assumption) | (simp (maxDischargeDepth := 7) [go_sem, ha, *]; done)
        try have hg1_0 : ∀ o, w1.frozen? ⟨w.heap.size, o, none⟩ = false := by intro o; first | (simp (maxDischargeDepth := 7) [go_sem, hb]; done) | (rw [hb]; simp (maxDischargeDepth := 7) [go_sem, *]; done)
        clear ha hb
        refine kuse (b := w.heap.size + 1) hk1 (by first | (simp; done) | (simp; omega) | omega) ?_
        intro ha hb
        have hz1_1 : w.heap.size + 1 < w1.heap.size := by have := hk1.size; (try simp at this); omega
        have hn1_1 : ¬ w.heap.size + 1 = w1.heap.size := by omega
        have hm1_1 : ¬ w1.heap.size = w.heap.size + 1 := by omega
        have hf1_1_0 : w1.cell? ⟨w.heap.size + 1, 0, none⟩ = some (.int .i64 vh) := by first | (rw [ha]; with_reducible assumption) | (simp (maxDischargeDepth := 7) [go_sem, ha]; done) | (rw [ha]; assumption) | (simp (maxDischargeDepth := 7) [go_sem, ha, *]; done)
        have hf1_1_1 : w1.cell? ⟨w.heap.size + 1, 1, none⟩ = some (.int .u64 vl) := by first | (rw [ha]; with_reducible assumption) | (simp (maxDischargeDepth := 7) [go_sem, ha]; done) | (rw [ha]; assumption) | (simp (maxDischargeDepth := 7) [go_sem, ha, *]; done)
        try have hg1_1 : ∀ o, w1.frozen? ⟨w.heap.size + 1, o, none⟩ = false := by intro o; first | (simp (maxDischargeDepth := 7) [go_sem, hb]; done) | (rw [hb]; simp (maxDischargeDepth := 7) [go_sem, *]; done)
        clear ha hb
        refine kuse (b := w.heap.size + 2) hk1 (by first | (simp; done) | (simp; omega) | omega) ?_
        intro ha hb
        have hz1_2 : w.heap.size + 2 < w1.heap.size := by have := hk1.size; (try simp at this); omega
        have hn1_2 : ¬ w.heap.size + 2 = w1.heap.size := by omega
        have hm1_2 : ¬ w1.heap.size = w.heap.size + 2 := by omega
        have hf1_2_0 : w1.cell? ⟨w.heap.size + 2, 0, none⟩ = some (.int .i64 zh) := by first | (rw [ha]; with_reducible assumption) | (simp (maxDischargeDepth := 7) [go_sem, ha]; done) | (rw [ha]; assumption) | (simp (maxDischargeDepth := 7) [go_sem, ha, *]; done)
        have hf1_2_1 : w1.cell? ⟨w.heap.size + 2, 1, none⟩ = some (.int .u64 zl) := by first | (rw [ha]; with_reducible assumption) | (simp (maxDischargeDepth := 7) [go_sem, ha]; done) | (rw [ha]; assumption) | (simp (maxDischargeDepth := 7) [go_sem, ha, *]; done)
        try have hg1_2 : ∀ o, w1.frozen? ⟨w.heap.size + 2, o, none⟩ = false := by intro o; first | (simp (maxDischargeDepth := 7) [go_sem, hb]; done) | (rw [hb]; simp (maxDischargeDepth := 7) [go_sem, *]; done)
        clear ha hb
        go_wp2_with fail
        with_reducible refine (Hsb.out _).mono ?_
        rintro e w2 ⟨rfl, hk2⟩
        refine kuse (b := w.heap.size) hk2 (by first | (simp; done) | (simp; omega) | omega) ?_
        intro ha hb
        have hz2_0 : w.heap.size < w2.heap.size := by have := hk2.size; (try simp at this); omega
        have hn2_0 : ¬ w.heap.size = w2.heap.size := by omega
        have hm2_0 : ¬ w2.heap.size = w.heap.size := by omega
        have hf2_0_0 : w2.cell? ⟨w.heap.size, 0, none⟩ = some (.int .i64 uh) := by first | (rw [ha]; with_reducible assumption) | (simp (maxDischargeDepth := 7) [go_sem, ha]; done) | (rw [ha]; assumption) | (simp (maxDischargeDepth := 7) [go_sem, ha, *]; done)
        have hf2_0_1 : w2.cell? ⟨w.heap.size, 1, none⟩ = some (.int .u64 ul) := by first | (rw [ha]; with_reducible assumption) | (simp (maxDischargeDepth := 7) [go_sem, ha]; done) | (rw [ha]; assumption) | (simp (maxDischargeDepth := 7) [go_sem, ha, *]; done)
        try have hg2_0 : ∀ o, w2.frozen? ⟨w.heap.size, o, none⟩ = false := by intro o; first | (simp (maxDischargeDepth := 7) [go_sem, hb]; done) | (rw [hb]; simp (maxDischargeDepth := 7) [go_sem, *]; done)
        clear ha hb
        refine kuse (b := w.heap.size + 1) hk2 (by first | (simp; done) | (simp; omega) | omega) ?_
        intro ha hb
        have hz2_1 : w.heap.size + 1 < w2.heap.size := by have := hk2.size; (try simp at this); omega
        have hn2_1 : ¬ w.heap.size + 1 = w2.heap.size := by omega
        have hm2_1 : ¬ w2.heap.size = w.heap.size + 1 := by omega
        have hf2_1_0 : w2.cell? ⟨w.heap.size + 1, 0, none⟩ = some (.int .i64 vh) := by first | (rw [ha]; with_reducible assumption) | (simp (maxDischargeDepth := 7) [go_sem, ha]; done) | (rw [ha]; assumption) | (simp (maxDischargeDepth := 7) [go_sem, ha, *]; done)
        have hf2_1_1 : w2.cell? ⟨w.heap.size + 1, 1, none⟩ = some (.int .u64 vl) := by first | (rw [ha]; with_reducible assumption) | (simp (maxDischargeDepth := 7) [go_sem, ha]; done) | (rw [ha]; assumption) | (simp (maxDischargeDepth := 7) [go_sem, ha, *]; done)
        try have hg2_1 : ∀ o, w2.frozen? ⟨w.heap.size + 1, o, none⟩ = false := by intro o; first | (simp (maxDischargeDepth := 7) [go_sem, hb]; done) | (rw [hb]; simp (maxDischargeDepth := 7) [go_sem, *]; done)
        clear ha hb
        refine kuse (b := w.heap.size + 2) hk2 (by first | (simp; done) | (simp; omega) | omega) ?_
        intro ha hb
        have hz2_2 : w.heap.size + 2 < w2.heap.size := by have := hk2.size; (try simp at this); omega
        have hn2_2 : ¬ w.heap.size + 2 = w2.heap.size := by omega
        have hm2_2 : ¬ w2.heap.size = w.heap.size + 2 := by omega
        have hf2_2_0 : w2.cell? ⟨w.heap.size + 2, 0, none⟩ = some (.int .i64 zh) := by first | (rw [ha]; with_reducible assumption) | (simp (maxDischargeDepth := 7) [go_sem, ha]; done) | (rw [ha]; assumption) | (simp (maxDischargeDepth := 7) [go_sem, ha, *]; done)
        have hf2_2_1 : w2.cell? ⟨w.heap.size + 2, 1, none⟩ = some (.int .u64 zl) := by first | (rw [ha]; with_reducible assumption) | (simp (maxDischargeDepth := 7) [go_sem, ha]; done) | (rw [ha]; assumption) | (simp (maxDischargeDepth := 7) [go_sem, ha, *]; done)
        try have hg2_2 : ∀ o, w2.frozen? ⟨w.heap.size + 2, o, none⟩ = false := by intro o; first | (simp (maxDischargeDepth := 7) [go_sem, hb]; done) | (rw [hb]; simp (maxDischargeDepth := 7) [go_sem, *]; done)
        clear ha hb
        try clear hf1_0_0
        try clear hf1_0_1
        try clear hf1_1_0
        try clear hf1_1_1
        try clear hf1_2_0
        try clear hf1_2_1
        try clear hg1_0
        try clear hg1_1
        try clear hg1_2
        try clear hz1_1
        try clear hz1_2
        go_wp2_with fail
        with_reducible refine (Hcm.out _).mono ?_
        rintro e w3 ⟨rfl, hk3⟩
        refine kuse (b := w.heap.size) hk3 (by first | (simp; done) | (simp; omega) | omega) ?_
        intro ha hb
        have hz3_0 : w.heap.size < w3.heap.size := by have := hk3.size; (try simp at this); omega
        have hn3_0 : ¬ w.heap.size = w3.heap.size := by omega
        have hm3_0 : ¬ w3.heap.size = w.heap.size := by omega
        have hf3_0_0 : w3.cell? ⟨w.heap.size, 0, none⟩ = some (.int .i64 uh) := by first | (rw [ha]; with_reducible assumption) | (simp (maxDischargeDepth := 7) [go_sem, ha]; done) | (rw [ha]; assumption) | (simp (maxDischargeDepth := 7) [go_sem, ha, *]; done)
        have hf3_0_1 : w3.cell? ⟨w.heap.size, 1, none⟩ = some (.int .u64 ul) := by first | (rw [ha]; with_reducible assumption) | (simp (maxDischargeDepth := 7) [go_sem, ha]; done) | (rw [ha]; assumption) | (simp (maxDischargeDepth := 7) [go_sem, ha, *]; done)
        try have hg3_0 : ∀ o, w3.frozen? ⟨w.heap.size, o, none⟩ = false := by intro o; first | (simp (maxDischargeDepth := 7) [go_sem, hb]; done) | (rw [hb]; simp (maxDischargeDepth := 7) [go_sem, *]; done)
        clear ha hb
        refine kuse (b := w.heap.size + 1) hk3 (by first | (simp; done) | (simp; omega) | omega) ?_
        intro ha hb
        have hz3_1 : w.heap.size + 1 < w3.heap.size := by have := hk3.size; (try simp at this); omega
        have hn3_1 : ¬ w.heap.size + 1 = w3.heap.size := by omega
        have hm3_1 : ¬ w3.heap.size = w.heap.size + 1 := by omega
        have hf3_1_0 : w3.cell? ⟨w.heap.size + 1, 0, none⟩ = some (.int .i64 vh) := by first | (rw [ha]; with_reducible assumption) | (simp (maxDischargeDepth := 7) [go_sem, ha]; done) | (rw [ha]; assumption) | (simp (maxDischargeDepth := 7) [go_sem, ha, *]; done)
        have hf3_1_1 : w3.cell? ⟨w.heap.size + 1, 1, none⟩ = some (.int .u64 vl) := by first | (rw [ha]; with_reducible assumption) | (simp (maxDischargeDepth := 7) [go_sem, ha]; done) | (rw [ha]; assumption) | (simp (maxDischargeDepth := 7) [go_sem, ha, *]; done)
        try have hg3_1 : ∀ o, w3.frozen? ⟨w.heap.size + 1, o, none⟩ = false := by intro o; first | (simp (maxDischargeDepth := 7) [go_sem, hb]; done) | (rw [hb]; simp (maxDischargeDepth := 7) [go_sem, *]; done)
        clear ha hb
        refine kuse (b := w.heap.size + 2) hk3 (by first | (simp; done) | (simp; omega) | omega) ?_
        intro ha hb
        have hz3_2 : w.heap.size + 2 < w3.heap.size := by have := hk3.size; (try simp at this); omega
        have hn3_2 : ¬ w.heap.size + 2 = w3.heap.size := by omega
        have hm3_2 : ¬ w3.heap.size = w.heap.size + 2 := by omega
        have hf3_2_0 : w3.cell? ⟨w.heap.size + 2, 0, none⟩ = some (.int .i64 zh) := by first | (rw [ha]; with_reducible assumption) | (simp (maxDischargeDepth := 7) [go_sem, ha]; done) | (rw [ha]; assumption) | (simp (maxDischargeDepth := 7) [go_sem, ha, *]; done)
        have hf3_2_1 : w3.cell? ⟨w.heap.size + 2, 1, none⟩ = some (.int .u64 zl) := by first | (rw [ha]; with_reducible assumption) | (simp (maxDischargeDepth := 7) [go_sem, ha]; done) | (rw [ha]; assumption) | (simp (maxDischargeDepth := 7) [go_sem, ha, *]; done)
        try have hg3_2 : ∀ o, w3.frozen? ⟨w.heap.size + 2, o, none⟩ = false := by intro o; first | (simp (maxDischargeDepth := 7) [go_sem, hb]; done) | (rw [hb]; simp (maxDischargeDepth := 7) [go_sem, *]; done)
        clear ha hb
        refine kuse (b := w2.heap.size) hk3 (by first | (simp; done) | (simp; omega) | omega) ?_
        intro ha hb
        have hz3_3 : w2.heap.size < w3.heap.size := by have := hk3.size; (try simp at this); omega
        have hn3_3 : ¬ w2.heap.size = w3.heap.size := by omega
        have hm3_3 : ¬ w3.heap.size = w2.heap.size := by omega
        have hf3_3_0 : w3.cell? ⟨w2.heap.size, 0, none⟩ = some (.int .i64 (wh D)) := by first | (rw [ha]; with_reducible assumption) | (simp (maxDischargeDepth := 7) [go_sem, ha]; done) | (rw [ha]; assumption) | (simp (maxDischargeDepth := 7) [go_sem, ha, *]; done)
        have hf3_3_1 : w3.cell? ⟨w2.heap.size, 1, none⟩ = some (.int .u64 (wl D)) := by first | (rw [ha]; with_reducible assumption) | (simp (maxDischargeDepth := 7) [go_sem, ha]; done) | (rw [ha]; assumption) | (simp (maxDischargeDepth := 7) [go_sem, ha, *]; done)
        try have hg3_3 : ∀ o, w3.frozen? ⟨w2.heap.size, o, none⟩ = false := by intro o; first | (simp (maxDischargeDepth := 7) [go_sem, hb]; done) | (rw [hb]; simp (maxDischargeDepth := 7) [go_sem, *]; done)
        clear ha hb
        try clear hf2_0_0
        try clear hf2_0_1
        try clear hf2_1_0
        try clear hf2_1_1
        try clear hf2_2_0
        try clear hf2_2_1
        try clear hg2_0
        try clear hg2_1
        try clear hg2_2
        try clear hz2_1
        try clear hz2_2
        go_wp2_with fail
        with_reducible refine (Hsg.out _).mono ?_
        rintro e w4 ⟨rfl, hk4⟩
        refine kuse (b := w.heap.size) hk4 (by first | (simp; done) | (simp; omega) | omega) ?_
        intro ha hb
        have hz4_0 : w.heap.size < w4.heap.size := by have := hk4.size; (try simp at this); omega
        have hn4_0 : ¬ w.heap.size = w4.heap.size := by omega
        have hm4_0 : ¬ w4.heap.size = w.heap.size := by omega
        have hf4_0_0 : w4.cell? ⟨w.heap.size, 0, none⟩ = some (.int .i64 uh) := by first | (rw [ha]; with_reducible assumption) | (simp (maxDischargeDepth := 7) [go_sem, ha]; done) | (rw [ha]; assumption) | (simp (maxDischargeDepth := 7) [go_sem, ha, *]; done)
        have hf4_0_1 : w4.cell? ⟨w.heap.size, 1, none⟩ = some (.int .u64 ul) := by first | (rw [ha]; with_reducible assumption) | (simp (maxDischargeDepth := 7) [go_sem, ha]; done) | (rw [ha]; assumption) | (simp (maxDischargeDepth := 7) [go_sem, ha, *]; done)
        try have hg4_0 : ∀ o, w4.frozen? ⟨w.heap.size, o, none⟩ = false := by intro o; first | (simp (maxDischargeDepth := 7) [go_sem, hb]; done) | (rw [hb]; simp (maxDischargeDepth := 7) [go_sem, *]; done)
        clear ha hb
        refine kuse (b := w.heap.size + 1) hk4 (by first | (simp; done) | (simp; omega) | omega) ?_
        intro ha hb
        have hz4_1 : w.heap.size + 1 < w4.heap.size := by have := hk4.size; (try simp at this); omega
        have hn4_1 : ¬ w.heap.size + 1 = w4.heap.size := by omega
        have hm4_1 : ¬ w4.heap.size = w.heap.size + 1 := by omega
        have hf4_1_0 : w4.cell? ⟨w.heap.size + 1, 0, none⟩ = some (.int .i64 vh) := by first | (rw [ha]; with_reducible assumption) | (simp (maxDischargeDepth := 7) [go_sem, ha]; done) | (rw [ha]; assumption) | (simp (maxDischargeDepth := 7) [go_sem, ha, *]; done)
        have hf4_1_1 : w4.cell? ⟨w.heap.size + 1, 1, none⟩ = some (.int .u64 vl) := by first | (rw [ha]; with_reducible assumption) | (simp (maxDischargeDepth := 7) [go_sem, ha]; done) | (rw [ha]; assumption) | (simp (maxDischargeDepth := 7) [go_sem, ha, *]; done)
        try have hg4_1 : ∀ o, w4.frozen? ⟨w.heap.size + 1, o, none⟩ = false := by intro o; first | (simp (maxDischargeDepth := 7) [go_sem, hb]; done) | (rw [hb]; simp (maxDischargeDepth := 7) [go_sem, *]; done)
        clear ha hb
        refine kuse (b := w.heap.size + 2) hk4 (by first | (simp; done) | (simp; omega) | omega) ?_
        intro ha hb
        have hz4_2 : w.heap.size + 2 < w4.heap.size := by have := hk4.size; (try simp at this); omega
        have hn4_2 : ¬ w.heap.size + 2 = w4.heap.size := by omega
        have hm4_2 : ¬ w4.heap.size = w.heap.size + 2 := by omega
        have hf4_2_0 : w4.cell? ⟨w.heap.size + 2, 0, none⟩ = some (.int .i64 zh) := by first | (rw [ha]; with_reducible assumption) | (simp (maxDischargeDepth := 7) [go_sem, ha]; done) | (rw [ha]; assumption) | (simp (maxDischargeDepth := 7) [go_sem, ha, *]; done)
        have hf4_2_1 : w4.cell? ⟨w.heap.size + 2, 1, none⟩ = some (.int .u64 zl) := by first | (rw [ha]; with_reducible assumption) | (simp (maxDischargeDepth := 7) [go_sem, ha]; done) | (rw [ha]; assumption) | (simp (maxDischargeDepth := 7) [go_sem, ha, *]; done)
        try have hg4_2 : ∀ o, w4.frozen? ⟨w.heap.size + 2, o, none⟩ = false := by intro o; first | (simp (maxDischargeDepth := 7) [go_sem, hb]; done) | (rw [hb]; simp (maxDischargeDepth := 7) [go_sem, *]; done)
        clear ha hb
        refine kuse (b := w2.heap.size) hk4 (by first | (simp; done) | (simp; omega) | omega) ?_
        intro ha hb
        have hz4_3 : w2.heap.size < w4.heap.size := by have := hk4.size; (try simp at this); omega
        have hn4_3 : ¬ w2.heap.size = w4.heap.size := by omega
        have hm4_3 : ¬ w4.heap.size = w2.heap.size := by omega
        have hf4_3_0 : w4.cell? ⟨w2.heap.size, 0, none⟩ = some (.int .i64 (wh D)) := by first | (rw [ha]; with_reducible assumption) | (simp (maxDischargeDepth := 7) [go_sem, ha]; done) | (rw [ha]; assumption) | (simp (maxDischargeDepth := 7) [go_sem, ha, *]; done)
        have hf4_3_1 : w4.cell? ⟨w2.heap.size, 1, none⟩ = some (.int .u64 (wl D)) := by first | (rw [ha]; with_reducible assumption) | (simp (maxDischargeDepth := 7) [go_sem, ha]; done) | (rw [ha]; assumption) | (simp (maxDischargeDepth := 7) [go_sem, ha, *]; done)
        try have hg4_3 : ∀ o, w4.frozen? ⟨w2.heap.size, o, none⟩ = false := by intro o; first | (simp (maxDischargeDepth := 7) [go_sem, hb]; done) | (rw [hb]; simp (maxDischargeDepth := 7) [go_sem, *]; done)
        clear ha hb
        try clear hf3_0_0
        try clear hf3_0_1
        try clear hf3_1_0
        try clear hf3_1_1
        try clear hf3_2_0
        try clear hf3_2_1
        try clear hf3_3_0
        try clear hf3_3_1
        try clear hg3_0
        try clear hg3_1
        try clear hg3_2
        try clear hg3_3
        try clear hz3_1
        try clear hz3_2
        try clear hz3_3
        go_wp2_with fail
        with_reducible refine (Hcn.out _).mono ?_
        rintro e w5 ⟨rfl, hk5⟩
        refine kuse (b := w.heap.size) hk5 (by first | (simp; done) | (simp; omega) | omega) ?_
        intro ha hb
        have hz5_0 : w.heap.size < w5.heap.size := by have := hk5.size; (try simp at this); omega
        have hn5_0 : ¬ w.heap.size = w5.heap.size := by omega
        have hm5_0 : ¬ w5.heap.size = w.heap.size := by omega
        have hf5_0_0 : w5.cell? ⟨w.heap.size, 0, none⟩ = some (.int .i64 uh) := by first | (rw [ha]; with_reducible assumption) | (simp (maxDischargeDepth := 7) [go_sem, ha]; done) | (rw [ha]; assumption) | (simp (maxDischargeDepth := 7) [go_sem, ha, *]; done)
        have hf5_0_1 : w5.cell? ⟨w.heap.size, 1, none⟩ = some (.int .u64 ul) := by first | (rw [ha]; with_reducible assumption) | (simp (maxDischargeDepth := 7) [go_sem, ha]; done) | (rw [ha]; assumption) | (simp (maxDischargeDepth := 7) [go_sem, ha, *]; done)
        try have hg5_0 : ∀ o, w5.frozen? ⟨w.heap.size, o, none⟩ = false := by intro o; first | (simp (maxDischargeDepth := 7) [go_sem, hb]; done) | (rw [hb]; simp (maxDischargeDepth := 7) [go_sem, *]; done)
        clear ha hb
        refine kuse (b := w.heap.size + 1) hk5 (by first | (simp; done) | (simp; omega) | omega) ?_
        intro ha hb
        have hz5_1 : w.heap.size + 1 < w5.heap.size := by have := hk5.size; (try simp at this); omega
        have hn5_1 : ¬ w.heap.size + 1 = w5.heap.size := by omega
        have hm5_1 : ¬ w5.heap.size = w.heap.size + 1 := by omega
        have hf5_1_0 : w5.cell? ⟨w.heap.size + 1, 0, none⟩ = some (.int .i64 vh) := by first | (rw [ha]; with_reducible assumption) | (simp (maxDischargeDepth := 7) [go_sem, ha]; done) | (rw [ha]; assumption) | (simp (maxDischargeDepth := 7) [go_sem, ha, *]; done)
        have hf5_1_1 : w5.cell? ⟨w.heap.size + 1, 1, none⟩ = some (.int .u64 vl) := by first | (rw [ha]; with_reducible assumption) | (simp (maxDischargeDepth := 7) [go_sem, ha]; done) | (rw [ha]; assumption) | (simp (maxDischargeDepth := 7) [go_sem, ha, *]; done)
        try have hg5_1 : ∀ o, w5.frozen? ⟨w.heap.size + 1, o, none⟩ = false := by intro o; first | (simp (maxDischargeDepth := 7) [go_sem, hb]; done) | (rw [hb]; simp (maxDischargeDepth := 7) [go_sem, *]; done)
        clear ha hb
        refine kuse (b := w.heap.size + 2) hk5 (by first | (simp; done) | (simp; omega) | omega) ?_
        intro ha hb
        have hz5_2 : w.heap.size + 2 < w5.heap.size := by have := hk5.size; (try simp at this); omega
        have hn5_2 : ¬ w.heap.size + 2 = w5.heap.size := by omega
        have hm5_2 : ¬ w5.heap.size = w.heap.size + 2 := by omega
        have hf5_2_0 : w5.cell? ⟨w.heap.size + 2, 0, none⟩ = some (.int .i64 zh) := by first | (rw [ha]; with_reducible assumption) | (simp (maxDischargeDepth := 7) [go_sem, ha]; done) | (rw [ha]; assumption) | (simp (maxDischargeDepth := 7) [go_sem, ha, *]; done)
        have hf5_2_1 : w5.cell? ⟨w.heap.size + 2, 1, none⟩ = some (.int .u64 zl) := by first | (rw [ha]; with_reducible assumption) | (simp (maxDischargeDepth := 7) [go_sem, ha]; done) | (rw [ha]; assumption) | (simp (maxDischargeDepth := 7) [go_sem, ha, *]; done)
        try have hg5_2 : ∀ o, w5.frozen? ⟨w.heap.size + 2, o, none⟩ = false := by intro o; first | (simp (maxDischargeDepth := 7) [go_sem, hb]; done) | (rw [hb]; simp (maxDischargeDepth := 7) [go_sem, *]; done)
        clear ha hb
        refine kuse (b := w2.heap.size) hk5 (by first | (simp; done) | (simp; omega) | omega) ?_
        intro ha hb
        have hz5_3 : w2.heap.size < w5.heap.size := by have := hk5.size; (try simp at this); omega
        have hn5_3 : ¬ w2.heap.size = w5.heap.size := by omega
        have hm5_3 : ¬ w5.heap.size = w2.heap.size := by omega
        have hf5_3_0 : w5.cell? ⟨w2.heap.size, 0, none⟩ = some (.int .i64 (wh D)) := by first | (rw [ha]; with_reducible assumption) | (simp (maxDischargeDepth := 7) [go_sem, ha]; done) | (rw [ha]; assumption) | (simp (maxDischargeDepth := 7) [go_sem, ha, *]; done)
        have hf5_3_1 : w5.cell? ⟨w2.heap.size, 1, none⟩ = some (.int .u64 (wl D)) := by first | (rw [ha]; with_reducible assumption) | (simp (maxDischargeDepth := 7) [go_sem, ha]; done) | (rw [ha]; assumption) | (simp (maxDischargeDepth := 7) [go_sem, ha, *]; done)
        try have hg5_3 : ∀ o, w5.frozen? ⟨w2.heap.size, o, none⟩ = false := by intro o; first | (simp (maxDischargeDepth := 7) [go_sem, hb]; done) | (rw [hb]; simp (maxDischargeDepth := 7) [go_sem, *]; done)
        clear ha hb
        try clear hf4_0_0
        try clear hf4_0_1
        try clear hf4_1_0
        try clear hf4_1_1
        try clear hf4_2_0
        try clear hf4_2_1
        try clear hf4_3_0
        try clear hf4_3_1
        try clear hg4_0
        try clear hg4_1
        try clear hg4_2
        try clear hg4_3
        try clear hz4_1
        try clear hz4_2
        try clear hz4_3
        go_wp2_with fail
        all_goals go_ret
        all_goals exact ⟨rfl, (by repeat (first | with_reducible exact Kept.refl _ | with_reducible assumption | with_reducible refine Kept.setCell ?_ (by first | (simp; done) | (simp; omega) | omega) _ | with_reducible refine Kept.alloc ?_ _ | with_reducible refine Kept.drewN ?_ _ | with_reducible refine Kept.drew ?_ | with_reducible refine Kept.trans ?_ (by with_reducible assumption) | with_reducible refine Kept.dr ?_ (by with_reducible assumption)))⟩
      · have sb := wsub_w u v u0 u1 v0 v1
        have cm := cmp_w u v
        have cn := cmp_w v u
        rw [(show wcm u v = 1 by unfold wcm; rw [if_neg (by omega), if_neg (by omega)])] at cm
        rw [(show wcm v u = -1 by unfold wcm; rw [if_pos (by omega)])] at cn
        have fy := wfit_no (u := u - v) (by omega)
        rw [fy.1, fy.2] at sb
        clear fy
        have z0' : wh 0 = 0 := by decide
        have z1' : wl 0 = 0 := by decide
        rw [z0', z1'] at sb
        clear z0' z1'
        have n0 : (wh u == wh v && wl u == wl v) = false := by
          rw [Bool.and_eq_false_iff]
          by_cases k : wh u = wh v
          · right; rw [beq_eq_false_iff_ne]; intro k2; have := w_ext k k2; omega
          · left; rw [beq_eq_false_iff_ne]; exact k
        have eqs : ∀ w, (Op.equalIn 10000 24 (.agg #[.int .i64 (wh u), .int .u64 (wl u)]) (.agg #[.int .i64 (wh v), .int .u64 (wl v)])).run Tryd.prog w = .ok false w := fun w => by rw [eqW, n0]
        clear n0
        obtain ⟨D, hD⟩ : ∃ D, u - v = D := ⟨_, rfl⟩
        clear hD
        have Hsb := Lib.hid sb
        clear sb
        have Hcm := Lib.hid cm
        clear cm
        have Hcn := Lib.hid cn
        clear cn
        clear hf
        clear h
        generalize wh u = uh at *; generalize wl u = ul at *; generalize wh v = vh at *; generalize wl v = vl at *; generalize wh z = zh at *; generalize wl z = zl at *
        clear u0 u1 v0 v1 z0 z1
        go_enter Tryd.func11, Tryd.ntmps11
        go_wp2_with fail
        refine (awake_w _ (tab_kept hT.out (by repeat (first | with_reducible exact Kept.refl _ | with_reducible assumption | with_reducible refine Kept.setCell ?_ (by first | (simp; done) | (simp; omega) | omega) _ | with_reducible refine Kept.alloc ?_ _ | with_reducible refine Kept.drewN ?_ _ | with_reducible refine Kept.drew ?_ | with_reducible refine Kept.trans ?_ (by with_reducible assumption) | with_reducible refine Kept.dr ?_ (by with_reducible assumption))))).mono ?_
        rintro e w1 ⟨rfl, hk1⟩
        refine kuse (b := w.heap.size) hk1 (by first | (simp; done) | (simp; omega) | omega) ?_
        intro ha hb
        have hz1_0 : w.heap.size < w1.heap.size := by have := hk1.size; (try simp at this); omega
        have hn1_0 : ¬ w.heap.size = w1.heap.size := by omega
        have hm1_0 : ¬ w1.heap.size = w.heap.size := by omega
        have hf1_0_0 : w1.cell? ⟨w.heap.size, 0, none⟩ = some (.int .i64 uh) := by first | (rw [ha]; with_reducible assumption) | (simp (maxDischargeDepth := 7) [go_sem, ha]; done) | (rw [ha]; assumption) | (simp (maxDischargeDepth := 7) [go_sem, ha, *]; done)
        have hf1_0_1 : w1.cell? ⟨w.heap.size, 1, none⟩ = some (.int .u64 ul) := by first | (rw [ha]; with_reducible assumption) | (simp (maxDischargeDepth := 7) [go_sem, ha]; done) | (rw [ha]; assumption) | (simp (maxDischargeDepth := 7) [go_sem, ha, *]; done)
        try have hg1_0 : ∀ o, w1.frozen? ⟨w.heap.size, o, none⟩ = false := by intro o; first | (simp (maxDischargeDepth := 7) [go_sem, hb]; done) | (rw [hb]; simp (maxDischargeDepth := 7) [go_sem, *]; done)
        clear ha hb
        refine kuse (b := w.heap.size + 1) hk1 (by first | (simp; done) | (simp; omega) | omega) ?_
        intro ha hb
        have hz1_1 : w.heap.size + 1 < w1.heap.size := by have := hk1.size; (try simp at this); omega
        have hn1_1 : ¬ w.heap.size + 1 = w1.heap.size := by omega
        have hm1_1 : ¬ w1.heap.size = w.heap.size + 1 := by omega
        have hf1_1_0 : w1.cell? ⟨w.heap.size + 1, 0, none⟩ = some (.int .i64 vh) := by first | (rw [ha]; with_reducible assumption) | (simp (maxDischargeDepth := 7) [go_sem, ha]; done) | (rw [ha]; assumption) | (simp (maxDischargeDepth := 7) [go_sem, ha, *]; done)
        have hf1_1_1 : w1.cell? ⟨w.heap.size + 1, 1, none⟩ = some (.int .u64 vl) := by first | (rw [ha]; with_reducible assumption) | (simp (maxDischargeDepth := 7) [go_sem, ha]; done) | (rw [ha]; assumption) | (simp (maxDischargeDepth := 7) [go_sem, ha, *]; done)
        try have hg1_1 : ∀ o, w1.frozen? ⟨w.heap.size + 1, o, none⟩ = false := by intro o; first | (simp (maxDischargeDepth := 7) [go_sem, hb]; done) | (rw [hb]; simp (maxDischargeDepth := 7) [go_sem, *]; done)
        clear ha hb
        refine kuse (b := w.heap.size + 2) hk1 (by first | (simp; done) | (simp; omega) | omega) ?_
        intro ha hb
        have hz1_2 : w.heap.size + 2 < w1.heap.size := by have := hk1.size; (try simp at this); omega
        have hn1_2 : ¬ w.heap.size + 2 = w1.heap.size := by omega
        have hm1_2 : ¬ w1.heap.size = w.heap.size + 2 := by omega
        have hf1_2_0 : w1.cell? ⟨w.heap.size + 2, 0, none⟩ = some (.int .i64 zh) := by first | (rw [ha]; with_reducible assumption) | (simp (maxDischargeDepth := 7) [go_sem, ha]; done) | (rw [ha]; assumption) | (simp (maxDischargeDepth := 7) [go_sem, ha, *]; done)
        have hf1_2_1 : w1.cell? ⟨w.heap.size + 2, 1, none⟩ = some (.int .u64 zl) := by first | (rw [ha]; with_reducible assumption) | (simp (maxDischargeDepth := 7) [go_sem, ha]; done) | (rw [ha]; assumption) | (simp (maxDischargeDepth := 7) [go_sem, ha, *]; done)
        try have hg1_2 : ∀ o, w1.frozen? ⟨w.heap.size + 2, o, none⟩ = false := by intro o; first | (simp (maxDischargeDepth := 7) [go_sem, hb]; done) | (rw [hb]; simp (maxDischargeDepth := 7) [go_sem, *]; done)
        clear ha hb
        go_wp2_with fail
        with_reducible refine (Hsb.out _).mono ?_
        rintro e w2 ⟨rfl, hk2⟩
        refine kuse (b := w.heap.size) hk2 (by first | (simp; done) | (simp; omega) | omega) ?_
        intro ha hb
        have hz2_0 : w.heap.size < w2.heap.size := by have := hk2.size; (try simp at this); omega
        have hn2_0 : ¬ w.heap.size = w2.heap.size := by omega
        have hm2_0 : ¬ w2.heap.size = w.heap.size := by omega
        have hf2_0_0 : w2.cell? ⟨w.heap.size, 0, none⟩ = some (.int .i64 uh) := by first | (rw [ha]; with_reducible assumption) | (simp (maxDischargeDepth := 7) [go_sem, ha]; done) | (rw [ha]; assumption) | (simp (maxDischargeDepth := 7) [go_sem, ha, *]; done)
        have hf2_0_1 : w2.cell? ⟨w.heap.size, 1, none⟩ = some (.int .u64 ul) := by first | (rw [ha]; with_reducible assumption) | (simp (maxDischargeDepth := 7) [go_sem, ha]; done) | (rw [ha]; assumption) | (simp (maxDischargeDepth := 7) [go_sem, ha, *]; done)
        try have hg2_0 : ∀ o, w2.frozen? ⟨w.heap.size, o, none⟩ = false := by intro o; first | (simp (maxDischargeDepth := 7) [go_sem, hb]; done) | (rw [hb]; simp (maxDischargeDepth := 7) [go_sem, *]; done)
        clear ha hb
        refine kuse (b := w.heap.size + 1) hk2 (by first | (simp; done) | (simp; omega) | omega) ?_
        intro ha hb
        have hz2_1 : w.heap.size + 1 < w2.heap.size := by have := hk2.size; (try simp at this); omega
        have hn2_1 : ¬ w.heap.size + 1 = w2.heap.size := by omega
        have hm2_1 : ¬ w2.heap.size = w.heap.size + 1 := by omega
        have hf2_1_0 : w2.cell? ⟨w.heap.size + 1, 0, none⟩ = some (.int .i64 vh) := by first | (rw [ha]; with_reducible assumption) | (simp (maxDischargeDepth := 7) [go_sem, ha]; done) | (rw [ha]; assumption) | (simp (maxDischargeDepth := 7) [go_sem, ha, *]; done)
        have hf2_1_1 : w2.cell? ⟨w.heap.size + 1, 1, none⟩ = some (.int .u64 vl) := by first | (rw [ha]; with_reducible assumption) | (simp (maxDischargeDepth := 7) [go_sem, ha]; done) | (rw [ha]; assumption) | (simp (maxDischargeDepth := 7) [go_sem, ha, *]; done)
        try have hg2_1 : ∀ o, w2.frozen? ⟨w.heap.size + 1, o, none⟩ = false := by intro o; first | (simp (maxDischargeDepth := 7) [go_sem, hb]; done) | (rw [hb]; simp (maxDischargeDepth := 7) [go_sem, *]; done)
        clear ha hb
        refine kuse (b := w.heap.size + 2) hk2 (by first | (simp; done) | (simp; omega) | omega) ?_
        intro ha hb
        have hz2_2 : w.heap.size + 2 < w2.heap.size := by have := hk2.size; (try simp at this); omega
        have hn2_2 : ¬ w.heap.size + 2 = w2.heap.size := by omega
        have hm2_2 : ¬ w2.heap.size = w.heap.size + 2 := by omega
        have hf2_2_0 : w2.cell? ⟨w.heap.size + 2, 0, none⟩ = some (.int .i64 zh) := by first | (rw [ha]; with_reducible assumption) | (simp (maxDischargeDepth := 7) [go_sem, ha]; done) | (rw [ha]; assumption) | (simp (maxDischargeDepth := 7) [go_sem, ha, *]; done)
        have hf2_2_1 : w2.cell? ⟨w.heap.size + 2, 1, none⟩ = some (.int .u64 zl) := by first | (rw [ha]; with_reducible assumption) | (simp (maxDischargeDepth := 7) [go_sem, ha]; done) | (rw [ha]; assumption) | (simp (maxDischargeDepth := 7) [go_sem, ha, *]; done)
        try have hg2_2 : ∀ o, w2.frozen? ⟨w.heap.size + 2, o, none⟩ = false := by intro o; first | (simp (maxDischargeDepth := 7) [go_sem, hb]; done) | (rw [hb]; simp (maxDischargeDepth := 7) [go_sem, *]; done)
        clear ha hb
        try clear hf1_0_0
        try clear hf1_0_1
        try clear hf1_1_0
        try clear hf1_1_1
        try clear hf1_2_0
        try clear hf1_2_1
        try clear hg1_0
        try clear hg1_1
        try clear hg1_2
        try clear hz1_1
        try clear hz1_2
        go_wp2_with fail
        with_reducible refine (Hcm.out _).mono ?_
        rintro e w3 ⟨rfl, hk3⟩
        refine kuse (b := w.heap.size) hk3 (by first | (simp; done) | (simp; omega) | omega) ?_
        intro ha hb
        have hz3_0 : w.heap.size < w3.heap.size := by have := hk3.size; (try simp at this); omega
        have hn3_0 : ¬ w.heap.size = w3.heap.size := by omega
        have hm3_0 : ¬ w3.heap.size = w.heap.size := by omega
        have hf3_0_0 : w3.cell? ⟨w.heap.size, 0, none⟩ = some (.int .i64 uh) := by first | (rw [ha]; with_reducible assumption) | (simp (maxDischargeDepth := 7) [go_sem, ha]; done) | (rw [ha]; assumption) | (simp (maxDischargeDepth := 7) [go_sem, ha, *]; done)
        have hf3_0_1 : w3.cell? ⟨w.heap.size, 1, none⟩ = some (.int .u64 ul) := by first | (rw [ha]; with_reducible assumption) | (simp (maxDischargeDepth := 7) [go_sem, ha]; done) | (rw [ha]; assumption) | (simp (maxDischargeDepth := 7) [go_sem, ha, *]; done)
        try have hg3_0 : ∀ o, w3.frozen? ⟨w.heap.size, o, none⟩ = false := by intro o; first | (simp (maxDischargeDepth := 7) [go_sem, hb]; done) | (rw [hb]; simp (maxDischargeDepth := 7) [go_sem, *]; done)
        clear ha hb
        refine kuse (b := w.heap.size + 1) hk3 (by first | (simp; done) | (simp; omega) | omega) ?_
        intro ha hb
        have hz3_1 : w.heap.size + 1 < w3.heap.size := by have := hk3.size; (try simp at this); omega
        have hn3_1 : ¬ w.heap.size + 1 = w3.heap.size := by omega
        have hm3_1 : ¬ w3.heap.size = w.heap.size + 1 := by omega
        have hf3_1_0 : w3.cell? ⟨w.heap.size + 1, 0, none⟩ = some (.int .i64 vh) := by first | (rw [ha]; with_reducible assumption) | (simp (maxDischargeDepth := 7) [go_sem, ha]; done) | (rw [ha]; assumption) | (simp (maxDischargeDepth := 7) [go_sem, ha, *]; done)
        have hf3_1_1 : w3.cell? ⟨w.heap.size + 1, 1, none⟩ = some (.int .u64 vl) := by first | (rw [ha]; with_reducible assumption) | (simp (maxDischargeDepth := 7) [go_sem, ha]; done) | (rw [ha]; assumption) | (simp (maxDischargeDepth := 7) [go_sem, ha, *]; done)
        try have hg3_1 : ∀ o, w3.frozen? ⟨w.heap.size + 1, o, none⟩ = false := by intro o; first | (simp (maxDischargeDepth := 7) [go_sem, hb]; done) | (rw [hb]; simp (maxDischargeDepth := 7) [go_sem, *]; done)
        clear ha hb
        refine kuse (b := w.heap.size + 2) hk3 (by first | (simp; done) | (simp; omega) | omega) ?_
        intro ha hb
        have hz3_2 : w.heap.size + 2 < w3.heap.size := by have := hk3.size; (try simp at this); omega
        have hn3_2 : ¬ w.heap.size + 2 = w3.heap.size := by omega
        have hm3_2 : ¬ w3.heap.size = w.heap.size + 2 := by omega
        have hf3_2_0 : w3.cell? ⟨w.heap.size + 2, 0, none⟩ = some (.int .i64 zh) := by first | (rw [ha]; with_reducible assumption) | (simp (maxDischargeDepth := 7) [go_sem, ha]; done) | (rw [ha]; assumption) | (simp (maxDischargeDepth := 7) [go_sem, ha, *]; done)
        have hf3_2_1 : w3.cell? ⟨w.heap.size + 2, 1, none⟩ = some (.int .u64 zl) := by first | (rw [ha]; with_reducible assumption) | (simp (maxDischargeDepth := 7) [go_sem, ha]; done) | (rw [ha]; assumption) | (simp (maxDischargeDepth := 7) [go_sem, ha, *]; done)
        try have hg3_2 : ∀ o, w3.frozen? ⟨w.heap.size + 2, o, none⟩ = false := by intro o; first | (simp (maxDischargeDepth := 7) [go_sem, hb]; done) | (rw [hb]; simp (maxDischargeDepth := 7) [go_sem, *]; done)
        clear ha hb
        refine kuse (b := w2.heap.size) hk3 (by first | (simp; done) | (simp; omega) | omega) ?_
        intro ha hb
        have hz3_3 : w2.heap.size < w3.heap.size := by have := hk3.size; (try simp at this); omega
        have hn3_3 : ¬ w2.heap.size = w3.heap.size := by omega
        have hm3_3 : ¬ w3.heap.size = w2.heap.size := by omega
        have hf3_3_0 : w3.cell? ⟨w2.heap.size, 0, none⟩ = some (.int .i64 0) := by first | (rw [ha]; with_reducible assumption) | (simp (maxDischargeDepth := 7) [go_sem, ha]; done) | (rw [ha]; assumption) | (simp (maxDischargeDepth := 7) [go_sem, ha, *]; done)
        have hf3_3_1 : w3.cell? ⟨w2.heap.size, 1, none⟩ = some (.int .u64 0) := by first | (rw [ha]; with_reducible assumption) | (simp (maxDischargeDepth := 7) [go_sem, ha]; done) | (rw [ha]; assumption) | (simp (maxDischargeDepth := 7) [go_sem, ha, *]; done)
        try have hg3_3 : ∀ o, w3.frozen? ⟨w2.heap.size, o, none⟩ = false := by intro o; first | (simp (maxDischargeDepth := 7) [go_sem, hb]; done) | (rw [hb]; simp (maxDischargeDepth := 7) [go_sem, *]; done)
        clear ha hb
        try clear hf2_0_0
        try clear hf2_0_1
        try clear hf2_1_0
        try clear hf2_1_1
        try clear hf2_2_0
        try clear hf2_2_1
        try clear hg2_0
        try clear hg2_1
        try clear hg2_2
        try clear hz2_1
        try clear hz2_2
        go_wp2_with fail
        with_reducible refine (Hcn.out _).mono ?_
        rintro e w4 ⟨rfl, hk4⟩
        refine kuse (b := w.heap.size) hk4 (by first | (simp; done) | (simp; omega) | omega) ?_
        intro ha hb
        have hz4_0 : w.heap.size < w4.heap.size := by have := hk4.size; (try simp at this); omega
        have hn4_0 : ¬ w.heap.size = w4.heap.size := by omega
        have hm4_0 : ¬ w4.heap.size = w.heap.size := by omega
        have hf4_0_0 : w4.cell? ⟨w.heap.size, 0, none⟩ = some (.int .i64 uh) := by first | (rw [ha]; with_reducible assumption) | (simp (maxDischargeDepth := 7) [go_sem, ha]; done) | (rw [ha]; assumption) | (simp (maxDischargeDepth := 7) [go_sem, ha, *]; done)
        have hf4_0_1 : w4.cell? ⟨w.heap.size, 1, none⟩ = some (.int .u64 ul) := by first | (rw [ha]; with_reducible assumption) | (simp (maxDischargeDepth := 7) [go_sem, ha]; done) | (rw [ha]; assumption) | (simp (maxDischargeDepth := 7) [go_sem, ha, *]; done)
        try have hg4_0 : ∀ o, w4.frozen? ⟨w.heap.size, o, none⟩ = false := by intro o; first | (simp (maxDischargeDepth := 7) [go_sem, hb]; done) | (rw [hb]; simp (maxDischargeDepth := 7) [go_sem, *]; done)
        clear ha hb
        refine kuse (b := w.heap.size + 1) hk4 (by first | (simp; done) | (simp; omega) | omega) ?_
        intro ha hb
        have hz4_1 : w.heap.size + 1 < w4.heap.size := by have := hk4.size; (try simp at this); omega
        have hn4_1 : ¬ w.heap.size + 1 = w4.heap.size := by omega
        have hm4_1 : ¬ w4.heap.size = w.heap.size + 1 := by omega
        have hf4_1_0 : w4.cell? ⟨w.heap.size + 1, 0, none⟩ = some (.int .i64 vh) := by first | (rw [ha]; with_reducible assumption) | (simp (maxDischargeDepth := 7) [go_sem, ha]; done) | (rw [ha]; assumption) | (simp (maxDischargeDepth := 7) [go_sem, ha, *]; done)
        have hf4_1_1 : w4.cell? ⟨w.heap.size + 1, 1, none⟩ = some (.int .u64 vl) := by first | (rw [ha]; with_reducible assumption) | (simp (maxDischargeDepth := 7) [go_sem, ha]; done) | (rw [ha]; assumption) | (simp (maxDischargeDepth := 7) [go_sem, ha, *]; done)
        try have hg4_1 : ∀ o, w4.frozen? ⟨w.heap.size + 1, o, none⟩ = false := by intro o; first | (simp (maxDischargeDepth := 7) [go_sem, hb]; done) | (rw [hb]; simp (maxDischargeDepth := 7) [go_sem, *]; done)
        clear ha hb
        refine kuse (b := w.heap.size + 2) hk4 (by first | (simp; done) | (simp; omega) | omega) ?_
        intro ha hb
        have hz4_2 : w.heap.size + 2 < w4.heap.size := by have := hk4.size; (try simp at this); omega
        have hn4_2 : ¬ w.heap.size + 2 = w4.heap.size := by omega
        have hm4_2 : ¬ w4.heap.size = w.heap.size + 2 := by omega
        have hf4_2_0 : w4.cell? ⟨w.heap.size + 2, 0, none⟩ = some (.int .i64 zh) := by first | (rw [ha]; with_reducible assumption) | (simp (maxDischargeDepth := 7) [go_sem, ha]; done) | (rw [ha]; assumption) | (simp (maxDischargeDepth := 7) [go_sem, ha, *]; done)
        have hf4_2_1 : w4.cell? ⟨w.heap.size + 2, 1, none⟩ = some (.int .u64 zl) := by first | (rw [ha]; with_reducible assumption) | (simp (maxDischargeDepth := 7) [go_sem, ha]; done) | (rw [ha]; assumption) | (simp (maxDischargeDepth := 7) [go_sem, ha, *]; done)
        try have hg4_2 : ∀ o, w4.frozen? ⟨w.heap.size + 2, o, none⟩ = false := by intro o; first | (simp (maxDischargeDepth := 7) [go_sem, hb]; done) | (rw [hb]; simp (maxDischargeDepth := 7) [go_sem, *]; done)
        clear ha hb
        refine kuse (b := w2.heap.size) hk4 (by first | (simp; done) | (simp; omega) | omega) ?_
        intro ha hb
        have hz4_3 : w2.heap.size < w4.heap.size := by have := hk4.size; (try simp at this); omega
        have hn4_3 : ¬ w2.heap.size = w4.heap.size := by omega
        have hm4_3 : ¬ w4.heap.size = w2.heap.size := by omega
        have hf4_3_0 : w4.cell? ⟨w2.heap.size, 0, none⟩ = some (.int .i64 0) := by first | (rw [ha]; with_reducible assumption) | (simp (maxDischargeDepth := 7) [go_sem, ha]; done) | (rw [ha]; assumption) | (simp (maxDischargeDepth := 7) [go_sem, ha, *]; done)
        have hf4_3_1 : w4.cell? ⟨w2.heap.size, 1, none⟩ = some (.int .u64 0) := by first | (rw [ha]; with_reducible assumption) | (simp (maxDischargeDepth := 7) [go_sem, ha]; done) | (rw [ha]; assumption) | (simp (maxDischargeDepth := 7) [go_sem, ha, *]; done)
        try have hg4_3 : ∀ o, w4.frozen? ⟨w2.heap.size, o, none⟩ = false := by intro o; first | (simp (maxDischargeDepth := 7) [go_sem, hb]; done) | (rw [hb]; simp (maxDischargeDepth := 7) [go_sem, *]; done)
        clear ha hb
        try clear hf3_0_0
        try clear hf3_0_1
        try clear hf3_1_0
        try clear hf3_1_1
        try clear hf3_2_0
        try clear hf3_2_1
        try clear hf3_3_0
        try clear hf3_3_1
        try clear hg3_0
        try clear hg3_1
        try clear hg3_2
        try clear hg3_3
        try clear hz3_1
        try clear hz3_2
        try clear hz3_3
        go_wp2_with fail
        all_goals go_ret
        all_goals exact ⟨rfl, (by repeat (first | with_reducible exact Kept.refl _ | with_reducible assumption | with_reducible refine Kept.setCell ?_ (by first | (simp; done) | (simp; omega) | omega) _ | with_reducible refine Kept.alloc ?_ _ | with_reducible refine Kept.drewN ?_ _ | with_reducible refine Kept.drew ?_ | with_reducible refine Kept.trans ?_ (by with_reducible assumption) | with_reducible refine Kept.dr ?_ (by with_reducible assumption)))⟩
theorem law_WideOrder (uh ul vh vl zh zl : Int) (uh0 : -9223372036854775808 ≤ uh) (uh1 : uh ≤ 9223372036854775807) (ul0 : 0 ≤ ul) (ul1 : ul ≤ 18446744073709551615) (vh0 : -9223372036854775808 ≤ vh) (vh1 : vh ≤ 9223372036854775807) (vl0 : 0 ≤ vl) (vl1 : vl ≤ 18446744073709551615) (zh0 : -9223372036854775808 ≤ zh) (zh1 : zh ≤ 9223372036854775807) (zl0 : 0 ≤ zl) (zl1 : zl ≤ 18446744073709551615) (w : World) (hT : Hid (Tb w)) : Calls Tryd.prog 11 #[.agg #[.int .i64 uh, .int .u64 ul], .agg #[.int .i64 vh, .int .u64 vl], .agg #[.int .i64 zh, .int .u64 zl]] w fun e w' => e = .returned (.bool true) ∧ Kept w w' := by
  have h := lawi_WideOrder (uh * 18446744073709551616 + ul) (vh * 18446744073709551616 + vl) (zh * 18446744073709551616 + zl) (by omega) (by omega) (by omega) (by omega) (by omega) (by omega) w hT
  rw [wh_of uh ul ul0 ul1, wl_of uh ul ul0 ul1, wh_of vh vl vl0 vl1, wl_of vh vl vl0 vl1, wh_of zh zl zl0 zl1, wl_of zh zl zl0 zl1] at h
  exact h
end Go.Proofs.YtgbhcbmokoolnaaDoor
