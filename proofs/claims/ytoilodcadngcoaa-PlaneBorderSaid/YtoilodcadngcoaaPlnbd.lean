/-
  Own contracts: package line and the document's answers of layer 11: the law border.
-/
import Derived.Test.YtoilodcadngcoaaPlnl
import Derived.WalkKit
import Derived.ProofKit
import Derived.OpenShut
import Derived.WalkLawsBesides
import Derived.WalkSpells
import Derived.Lib.Hide
import Derived.Deep.DeepCutAuto
import Derived.Deep.CutBlock
import Derived.Deep.QuietTactic
import Derived.BigQuiet
import Derived.Handy
import Derived.StillTailTactics
import Derived.IntWalk
import Derived.LoopN
import Derived.Deep.RegionHeld3
namespace Go.Proofs.Ytoilodcadngcoaa
open Go.ChangeShapes Go.WideShapes Go.ChangeAt Go.RowKit
set_option linter.unusedVariables false
set_option linter.unusedSimpArgs false
set_option maxHeartbeats 4000000 in
set_option maxRecDepth 100000 in
theorem law_border (la lo ma mo X Y : Int) (la_0 : -9223372036854775808 ≤ la) (la_1 : la ≤ 9223372036854775807) (lo_0 : -9223372036854775808 ≤ lo) (lo_1 : lo ≤ 9223372036854775807) (ma_0 : -9223372036854775808 ≤ ma) (ma_1 : ma ≤ 9223372036854775807) (mo_0 : -9223372036854775808 ≤ mo) (mo_1 : mo ≤ 9223372036854775807) (X_0 : -9223372036854775808 ≤ X) (X_1 : X ≤ 9223372036854775807) (Y_0 : -9223372036854775808 ≤ Y) (Y_1 : Y ≤ 9223372036854775807) (w : World) : Calls Try.prog 10 #[.agg #[.int .i64 la, .int .i64 lo], .agg #[.int .i64 ma, .int .i64 mo], .agg #[.int .i64 X, .int .i64 Y]] w fun e w' => e = .returned (.bool true) ∧ Kept w w' := by
  by_cases ho : -25200000 ≤ la ∧ la ≤ 25200000 ∧ -64800000 < lo ∧ lo ≤ 64800000
  · obtain ⟨la0, la1, lo0, lo1⟩ := ho
    rcases Bool.eq_false_or_eq_true (pokB X Y) with hp | hp
    · by_cases hs : psB (frX la lo X Y) (frY la lo X Y) (frZ la lo Y) = true
      · by_cases hq : -32400000 ≤ ma ∧ ma ≤ 32400000 ∧ -64800000 < mo ∧ mo ≤ 64800000
        · obtain ⟨ma0, ma1, mo0, mo1⟩ := hq
          rcases pj_cases (lcE la lo (uX ma mo) (uY ma mo) (uZ ma mo)) (lcN la lo (uX ma mo) (uY ma mo) (uZ ma mo)) (lcU la lo (uX ma mo) (uY ma mo) (uZ ma mo)) with hE | hE
          · have EQ := fun w => peqP_yes 0 0 w
            have EQQ := fun w => peqQ_yes 0 0 w
            have m1 := fun w => from_ok la lo la0 la1 lo0 lo1 X Y hp w
            have e0 : psE (frX la lo X Y) (frY la lo X Y) (frZ la lo Y) = 0 := by unfold psE; rw [if_pos hs]
            rw [e0] at m1
            clear e0
            generalize psLa (frX la lo X Y) (frY la lo X Y) (frZ la lo Y) = G at *
            generalize psLo (frX la lo X Y) (frY la lo X Y) (frZ la lo Y) = H at *
            clear hs
            have Hm1 := Lib.hid m1
            clear m1
            have m2 := fun w => to_ok la lo la0 la1 lo0 lo1 ma mo ma0 ma1 mo0 mo1 w
            obtain ⟨hE1, hE2⟩ := hE
            rw [hE1] at m2
            generalize pjX (lcE la lo (uX ma mo) (uY ma mo) (uZ ma mo)) (lcN la lo (uX ma mo) (uY ma mo) (uZ ma mo)) (lcU la lo (uX ma mo) (uY ma mo) (uZ ma mo)) = XX at *
            generalize pjY (lcE la lo (uX ma mo) (uY ma mo) (uZ ma mo)) (lcN la lo (uX ma mo) (uY ma mo) (uZ ma mo)) (lcU la lo (uX ma mo) (uY ma mo) (uZ ma mo)) = YY at *
            clear hE1
            have Hm2 := Lib.hid m2
            clear m2
            go_enter Try.func10, Try.ntmps10
            go_wp2_with fail
            with_reducible refine (awake_w _).mono ?_
            rintro e w1 ⟨rfl, hk1⟩
            refine kuz (b := w.heap.size) hk1 (by first | (simp; done) | (simp; omega) | omega) ?_
            intro ha hb hz1_0 hn1_0 hm1_0
            have hf1_0_0 : w1.cell? ⟨w.heap.size, 0, none⟩ = some (.int .i64 la) := (ha _).trans (by first | with_reducible assumption | (simp (maxDischargeDepth := 7) [go_sem]; done) | (simp (maxDischargeDepth := 7) [go_sem, *]; done))
            have hf1_0_1 : w1.cell? ⟨w.heap.size, 1, none⟩ = some (.int .i64 lo) := (ha _).trans (by first | with_reducible assumption | (simp (maxDischargeDepth := 7) [go_sem]; done) | (simp (maxDischargeDepth := 7) [go_sem, *]; done))
            try have hg1_0 : ∀ o, w1.frozen? ⟨w.heap.size, o, none⟩ = false := by intro o; rw [hb]; first | (simp (maxDischargeDepth := 7) [go_sem]; done) | (simp (maxDischargeDepth := 7) [go_sem, *]; done)
            clear ha hb
            refine kuz (b := w.heap.size + 1) hk1 (by first | (simp; done) | (simp; omega) | omega) ?_
            intro ha hb hz1_1 hn1_1 hm1_1
            have hf1_1_0 : w1.cell? ⟨w.heap.size + 1, 0, none⟩ = some (.int .i64 ma) := (ha _).trans (by first | with_reducible assumption | (simp (maxDischargeDepth := 7) [go_sem]; done) | (simp (maxDischargeDepth := 7) [go_sem, *]; done))
            have hf1_1_1 : w1.cell? ⟨w.heap.size + 1, 1, none⟩ = some (.int .i64 mo) := (ha _).trans (by first | with_reducible assumption | (simp (maxDischargeDepth := 7) [go_sem]; done) | (simp (maxDischargeDepth := 7) [go_sem, *]; done))
            try have hg1_1 : ∀ o, w1.frozen? ⟨w.heap.size + 1, o, none⟩ = false := by intro o; rw [hb]; first | (simp (maxDischargeDepth := 7) [go_sem]; done) | (simp (maxDischargeDepth := 7) [go_sem, *]; done)
            clear ha hb
            refine kuz (b := w.heap.size + 2) hk1 (by first | (simp; done) | (simp; omega) | omega) ?_
            intro ha hb hz1_2 hn1_2 hm1_2
            have hf1_2_0 : w1.cell? ⟨w.heap.size + 2, 0, none⟩ = some (.int .i64 X) := (ha _).trans (by first | with_reducible assumption | (simp (maxDischargeDepth := 7) [go_sem]; done) | (simp (maxDischargeDepth := 7) [go_sem, *]; done))
            have hf1_2_1 : w1.cell? ⟨w.heap.size + 2, 1, none⟩ = some (.int .i64 Y) := (ha _).trans (by first | with_reducible assumption | (simp (maxDischargeDepth := 7) [go_sem]; done) | (simp (maxDischargeDepth := 7) [go_sem, *]; done))
            try have hg1_2 : ∀ o, w1.frozen? ⟨w.heap.size + 2, o, none⟩ = false := by intro o; rw [hb]; first | (simp (maxDischargeDepth := 7) [go_sem]; done) | (simp (maxDischargeDepth := 7) [go_sem, *]; done)
            clear ha hb
            go_wp2_with fail
            with_reducible refine (Hm1.out _).mono ?_
            rintro e w2 ⟨rfl, hk2⟩
            refine kuz (b := w.heap.size) hk2 (by first | (simp; done) | (simp; omega) | omega) ?_
            intro ha hb hz2_0 hn2_0 hm2_0
            have hf2_0_0 : w2.cell? ⟨w.heap.size, 0, none⟩ = some (.int .i64 la) := (ha _).trans (by first | with_reducible assumption | (simp (maxDischargeDepth := 7) [go_sem]; done) | (simp (maxDischargeDepth := 7) [go_sem, *]; done))
            have hf2_0_1 : w2.cell? ⟨w.heap.size, 1, none⟩ = some (.int .i64 lo) := (ha _).trans (by first | with_reducible assumption | (simp (maxDischargeDepth := 7) [go_sem]; done) | (simp (maxDischargeDepth := 7) [go_sem, *]; done))
            try have hg2_0 : ∀ o, w2.frozen? ⟨w.heap.size, o, none⟩ = false := by intro o; rw [hb]; first | (simp (maxDischargeDepth := 7) [go_sem]; done) | (simp (maxDischargeDepth := 7) [go_sem, *]; done)
            clear ha hb
            refine kuz (b := w.heap.size + 1) hk2 (by first | (simp; done) | (simp; omega) | omega) ?_
            intro ha hb hz2_1 hn2_1 hm2_1
            have hf2_1_0 : w2.cell? ⟨w.heap.size + 1, 0, none⟩ = some (.int .i64 ma) := (ha _).trans (by first | with_reducible assumption | (simp (maxDischargeDepth := 7) [go_sem]; done) | (simp (maxDischargeDepth := 7) [go_sem, *]; done))
            have hf2_1_1 : w2.cell? ⟨w.heap.size + 1, 1, none⟩ = some (.int .i64 mo) := (ha _).trans (by first | with_reducible assumption | (simp (maxDischargeDepth := 7) [go_sem]; done) | (simp (maxDischargeDepth := 7) [go_sem, *]; done))
            try have hg2_1 : ∀ o, w2.frozen? ⟨w.heap.size + 1, o, none⟩ = false := by intro o; rw [hb]; first | (simp (maxDischargeDepth := 7) [go_sem]; done) | (simp (maxDischargeDepth := 7) [go_sem, *]; done)
            clear ha hb
            refine kuz (b := w.heap.size + 2) hk2 (by first | (simp; done) | (simp; omega) | omega) ?_
            intro ha hb hz2_2 hn2_2 hm2_2
            have hf2_2_0 : w2.cell? ⟨w.heap.size + 2, 0, none⟩ = some (.int .i64 X) := (ha _).trans (by first | with_reducible assumption | (simp (maxDischargeDepth := 7) [go_sem]; done) | (simp (maxDischargeDepth := 7) [go_sem, *]; done))
            have hf2_2_1 : w2.cell? ⟨w.heap.size + 2, 1, none⟩ = some (.int .i64 Y) := (ha _).trans (by first | with_reducible assumption | (simp (maxDischargeDepth := 7) [go_sem]; done) | (simp (maxDischargeDepth := 7) [go_sem, *]; done))
            try have hg2_2 : ∀ o, w2.frozen? ⟨w.heap.size + 2, o, none⟩ = false := by intro o; rw [hb]; first | (simp (maxDischargeDepth := 7) [go_sem]; done) | (simp (maxDischargeDepth := 7) [go_sem, *]; done)
            clear ha hb
            (try clear hf1_0_0); (try clear hf1_0_1); (try clear hf1_1_0); (try clear hf1_1_1); (try clear hf1_2_0); (try clear hf1_2_1); (try clear hg1_0); (try clear hg1_1); (try clear hg1_2); (try clear hz1_1); (try clear hz1_2)
            go_wp2_with fail
            with_reducible refine (pv_ok X Y hp _).mono ?_
            rintro e w3 ⟨rfl, hk3⟩
            refine kuz (b := w.heap.size) hk3 (by first | (simp; done) | (simp; omega) | omega) ?_
            intro ha hb hz3_0 hn3_0 hm3_0
            have hf3_0_0 : w3.cell? ⟨w.heap.size, 0, none⟩ = some (.int .i64 la) := (ha _).trans (by first | with_reducible assumption | (simp (maxDischargeDepth := 7) [go_sem]; done) | (simp (maxDischargeDepth := 7) [go_sem, *]; done))
            have hf3_0_1 : w3.cell? ⟨w.heap.size, 1, none⟩ = some (.int .i64 lo) := (ha _).trans (by first | with_reducible assumption | (simp (maxDischargeDepth := 7) [go_sem]; done) | (simp (maxDischargeDepth := 7) [go_sem, *]; done))
            try have hg3_0 : ∀ o, w3.frozen? ⟨w.heap.size, o, none⟩ = false := by intro o; rw [hb]; first | (simp (maxDischargeDepth := 7) [go_sem]; done) | (simp (maxDischargeDepth := 7) [go_sem, *]; done)
            clear ha hb
            refine kuz (b := w.heap.size + 1) hk3 (by first | (simp; done) | (simp; omega) | omega) ?_
            intro ha hb hz3_1 hn3_1 hm3_1
            have hf3_1_0 : w3.cell? ⟨w.heap.size + 1, 0, none⟩ = some (.int .i64 ma) := (ha _).trans (by first | with_reducible assumption | (simp (maxDischargeDepth := 7) [go_sem]; done) | (simp (maxDischargeDepth := 7) [go_sem, *]; done))
            have hf3_1_1 : w3.cell? ⟨w.heap.size + 1, 1, none⟩ = some (.int .i64 mo) := (ha _).trans (by first | with_reducible assumption | (simp (maxDischargeDepth := 7) [go_sem]; done) | (simp (maxDischargeDepth := 7) [go_sem, *]; done))
            try have hg3_1 : ∀ o, w3.frozen? ⟨w.heap.size + 1, o, none⟩ = false := by intro o; rw [hb]; first | (simp (maxDischargeDepth := 7) [go_sem]; done) | (simp (maxDischargeDepth := 7) [go_sem, *]; done)
            clear ha hb
            refine kuz (b := w.heap.size + 2) hk3 (by first | (simp; done) | (simp; omega) | omega) ?_
            intro ha hb hz3_2 hn3_2 hm3_2
            have hf3_2_0 : w3.cell? ⟨w.heap.size + 2, 0, none⟩ = some (.int .i64 X) := (ha _).trans (by first | with_reducible assumption | (simp (maxDischargeDepth := 7) [go_sem]; done) | (simp (maxDischargeDepth := 7) [go_sem, *]; done))
            have hf3_2_1 : w3.cell? ⟨w.heap.size + 2, 1, none⟩ = some (.int .i64 Y) := (ha _).trans (by first | with_reducible assumption | (simp (maxDischargeDepth := 7) [go_sem]; done) | (simp (maxDischargeDepth := 7) [go_sem, *]; done))
            try have hg3_2 : ∀ o, w3.frozen? ⟨w.heap.size + 2, o, none⟩ = false := by intro o; rw [hb]; first | (simp (maxDischargeDepth := 7) [go_sem]; done) | (simp (maxDischargeDepth := 7) [go_sem, *]; done)
            clear ha hb
            refine kuz (b := w2.heap.size) hk3 (by first | (simp; done) | (simp; omega) | omega) ?_
            intro ha hb hz3_3 hn3_3 hm3_3
            have hf3_3_0 : w3.cell? ⟨w2.heap.size, 0, none⟩ = some (.int .i64 G) := (ha _).trans (by first | with_reducible assumption | (simp (maxDischargeDepth := 7) [go_sem]; done) | (simp (maxDischargeDepth := 7) [go_sem, *]; done))
            have hf3_3_1 : w3.cell? ⟨w2.heap.size, 1, none⟩ = some (.int .i64 H) := (ha _).trans (by first | with_reducible assumption | (simp (maxDischargeDepth := 7) [go_sem]; done) | (simp (maxDischargeDepth := 7) [go_sem, *]; done))
            try have hg3_3 : ∀ o, w3.frozen? ⟨w2.heap.size, o, none⟩ = false := by intro o; rw [hb]; first | (simp (maxDischargeDepth := 7) [go_sem]; done) | (simp (maxDischargeDepth := 7) [go_sem, *]; done)
            clear ha hb
            (try clear hf2_0_0); (try clear hf2_0_1); (try clear hf2_1_0); (try clear hf2_1_1); (try clear hf2_2_0); (try clear hf2_2_1); (try clear hg2_0); (try clear hg2_1); (try clear hg2_2); (try clear hz2_1); (try clear hz2_2)
            go_wp2_with fail
            with_reducible refine (Hm2.out _).mono ?_
            rintro e w4 ⟨rfl, hk4⟩
            refine kuz (b := w.heap.size) hk4 (by first | (simp; done) | (simp; omega) | omega) ?_
            intro ha hb hz4_0 hn4_0 hm4_0
            have hf4_0_0 : w4.cell? ⟨w.heap.size, 0, none⟩ = some (.int .i64 la) := (ha _).trans (by first | with_reducible assumption | (simp (maxDischargeDepth := 7) [go_sem]; done) | (simp (maxDischargeDepth := 7) [go_sem, *]; done))
            have hf4_0_1 : w4.cell? ⟨w.heap.size, 1, none⟩ = some (.int .i64 lo) := (ha _).trans (by first | with_reducible assumption | (simp (maxDischargeDepth := 7) [go_sem]; done) | (simp (maxDischargeDepth := 7) [go_sem, *]; done))
            try have hg4_0 : ∀ o, w4.frozen? ⟨w.heap.size, o, none⟩ = false := by intro o; rw [hb]; first | (simp (maxDischargeDepth := 7) [go_sem]; done) | (simp (maxDischargeDepth := 7) [go_sem, *]; done)
            clear ha hb
            refine kuz (b := w.heap.size + 1) hk4 (by first | (simp; done) | (simp; omega) | omega) ?_
            intro ha hb hz4_1 hn4_1 hm4_1
            have hf4_1_0 : w4.cell? ⟨w.heap.size + 1, 0, none⟩ = some (.int .i64 ma) := (ha _).trans (by first | with_reducible assumption | (simp (maxDischargeDepth := 7) [go_sem]; done) | (simp (maxDischargeDepth := 7) [go_sem, *]; done))
            have hf4_1_1 : w4.cell? ⟨w.heap.size + 1, 1, none⟩ = some (.int .i64 mo) := (ha _).trans (by first | with_reducible assumption | (simp (maxDischargeDepth := 7) [go_sem]; done) | (simp (maxDischargeDepth := 7) [go_sem, *]; done))
            try have hg4_1 : ∀ o, w4.frozen? ⟨w.heap.size + 1, o, none⟩ = false := by intro o; rw [hb]; first | (simp (maxDischargeDepth := 7) [go_sem]; done) | (simp (maxDischargeDepth := 7) [go_sem, *]; done)
            clear ha hb
            refine kuz (b := w.heap.size + 2) hk4 (by first | (simp; done) | (simp; omega) | omega) ?_
            intro ha hb hz4_2 hn4_2 hm4_2
            have hf4_2_0 : w4.cell? ⟨w.heap.size + 2, 0, none⟩ = some (.int .i64 X) := (ha _).trans (by first | with_reducible assumption | (simp (maxDischargeDepth := 7) [go_sem]; done) | (simp (maxDischargeDepth := 7) [go_sem, *]; done))
            have hf4_2_1 : w4.cell? ⟨w.heap.size + 2, 1, none⟩ = some (.int .i64 Y) := (ha _).trans (by first | with_reducible assumption | (simp (maxDischargeDepth := 7) [go_sem]; done) | (simp (maxDischargeDepth := 7) [go_sem, *]; done))
            try have hg4_2 : ∀ o, w4.frozen? ⟨w.heap.size + 2, o, none⟩ = false := by intro o; rw [hb]; first | (simp (maxDischargeDepth := 7) [go_sem]; done) | (simp (maxDischargeDepth := 7) [go_sem, *]; done)
            clear ha hb
            refine kuz (b := w2.heap.size) hk4 (by first | (simp; done) | (simp; omega) | omega) ?_
            intro ha hb hz4_3 hn4_3 hm4_3
            have hf4_3_0 : w4.cell? ⟨w2.heap.size, 0, none⟩ = some (.int .i64 G) := (ha _).trans (by first | with_reducible assumption | (simp (maxDischargeDepth := 7) [go_sem]; done) | (simp (maxDischargeDepth := 7) [go_sem, *]; done))
            have hf4_3_1 : w4.cell? ⟨w2.heap.size, 1, none⟩ = some (.int .i64 H) := (ha _).trans (by first | with_reducible assumption | (simp (maxDischargeDepth := 7) [go_sem]; done) | (simp (maxDischargeDepth := 7) [go_sem, *]; done))
            try have hg4_3 : ∀ o, w4.frozen? ⟨w2.heap.size, o, none⟩ = false := by intro o; rw [hb]; first | (simp (maxDischargeDepth := 7) [go_sem]; done) | (simp (maxDischargeDepth := 7) [go_sem, *]; done)
            clear ha hb
            (try clear hf3_0_0); (try clear hf3_0_1); (try clear hf3_1_0); (try clear hf3_1_1); (try clear hf3_2_0); (try clear hf3_2_1); (try clear hf3_3_0); (try clear hf3_3_1); (try clear hg3_0); (try clear hg3_1); (try clear hg3_2); (try clear hg3_3); (try clear hz3_1); (try clear hz3_2); (try clear hz3_3)
            go_wp2_with fail
            with_reducible refine (pv_ok XX YY hE2 _).mono ?_
            rintro e w5 ⟨rfl, hk5⟩
            refine kuz (b := w.heap.size) hk5 (by first | (simp; done) | (simp; omega) | omega) ?_
            intro ha hb hz5_0 hn5_0 hm5_0
            have hf5_0_0 : w5.cell? ⟨w.heap.size, 0, none⟩ = some (.int .i64 la) := (ha _).trans (by first | with_reducible assumption | (simp (maxDischargeDepth := 7) [go_sem]; done) | (simp (maxDischargeDepth := 7) [go_sem, *]; done))
            have hf5_0_1 : w5.cell? ⟨w.heap.size, 1, none⟩ = some (.int .i64 lo) := (ha _).trans (by first | with_reducible assumption | (simp (maxDischargeDepth := 7) [go_sem]; done) | (simp (maxDischargeDepth := 7) [go_sem, *]; done))
            try have hg5_0 : ∀ o, w5.frozen? ⟨w.heap.size, o, none⟩ = false := by intro o; rw [hb]; first | (simp (maxDischargeDepth := 7) [go_sem]; done) | (simp (maxDischargeDepth := 7) [go_sem, *]; done)
            clear ha hb
            refine kuz (b := w.heap.size + 1) hk5 (by first | (simp; done) | (simp; omega) | omega) ?_
            intro ha hb hz5_1 hn5_1 hm5_1
            have hf5_1_0 : w5.cell? ⟨w.heap.size + 1, 0, none⟩ = some (.int .i64 ma) := (ha _).trans (by first | with_reducible assumption | (simp (maxDischargeDepth := 7) [go_sem]; done) | (simp (maxDischargeDepth := 7) [go_sem, *]; done))
            have hf5_1_1 : w5.cell? ⟨w.heap.size + 1, 1, none⟩ = some (.int .i64 mo) := (ha _).trans (by first | with_reducible assumption | (simp (maxDischargeDepth := 7) [go_sem]; done) | (simp (maxDischargeDepth := 7) [go_sem, *]; done))
            try have hg5_1 : ∀ o, w5.frozen? ⟨w.heap.size + 1, o, none⟩ = false := by intro o; rw [hb]; first | (simp (maxDischargeDepth := 7) [go_sem]; done) | (simp (maxDischargeDepth := 7) [go_sem, *]; done)
            clear ha hb
            refine kuz (b := w.heap.size + 2) hk5 (by first | (simp; done) | (simp; omega) | omega) ?_
            intro ha hb hz5_2 hn5_2 hm5_2
            have hf5_2_0 : w5.cell? ⟨w.heap.size + 2, 0, none⟩ = some (.int .i64 X) := (ha _).trans (by first | with_reducible assumption | (simp (maxDischargeDepth := 7) [go_sem]; done) | (simp (maxDischargeDepth := 7) [go_sem, *]; done))
            have hf5_2_1 : w5.cell? ⟨w.heap.size + 2, 1, none⟩ = some (.int .i64 Y) := (ha _).trans (by first | with_reducible assumption | (simp (maxDischargeDepth := 7) [go_sem]; done) | (simp (maxDischargeDepth := 7) [go_sem, *]; done))
            try have hg5_2 : ∀ o, w5.frozen? ⟨w.heap.size + 2, o, none⟩ = false := by intro o; rw [hb]; first | (simp (maxDischargeDepth := 7) [go_sem]; done) | (simp (maxDischargeDepth := 7) [go_sem, *]; done)
            clear ha hb
            refine kuz (b := w2.heap.size) hk5 (by first | (simp; done) | (simp; omega) | omega) ?_
            intro ha hb hz5_3 hn5_3 hm5_3
            have hf5_3_0 : w5.cell? ⟨w2.heap.size, 0, none⟩ = some (.int .i64 G) := (ha _).trans (by first | with_reducible assumption | (simp (maxDischargeDepth := 7) [go_sem]; done) | (simp (maxDischargeDepth := 7) [go_sem, *]; done))
            have hf5_3_1 : w5.cell? ⟨w2.heap.size, 1, none⟩ = some (.int .i64 H) := (ha _).trans (by first | with_reducible assumption | (simp (maxDischargeDepth := 7) [go_sem]; done) | (simp (maxDischargeDepth := 7) [go_sem, *]; done))
            try have hg5_3 : ∀ o, w5.frozen? ⟨w2.heap.size, o, none⟩ = false := by intro o; rw [hb]; first | (simp (maxDischargeDepth := 7) [go_sem]; done) | (simp (maxDischargeDepth := 7) [go_sem, *]; done)
            clear ha hb
            refine kuz (b := w4.heap.size) hk5 (by first | (simp; done) | (simp; omega) | omega) ?_
            intro ha hb hz5_4 hn5_4 hm5_4
            have hf5_4_0 : w5.cell? ⟨w4.heap.size, 0, none⟩ = some (.int .i64 XX) := (ha _).trans (by first | with_reducible assumption | (simp (maxDischargeDepth := 7) [go_sem]; done) | (simp (maxDischargeDepth := 7) [go_sem, *]; done))
            have hf5_4_1 : w5.cell? ⟨w4.heap.size, 1, none⟩ = some (.int .i64 YY) := (ha _).trans (by first | with_reducible assumption | (simp (maxDischargeDepth := 7) [go_sem]; done) | (simp (maxDischargeDepth := 7) [go_sem, *]; done))
            try have hg5_4 : ∀ o, w5.frozen? ⟨w4.heap.size, o, none⟩ = false := by intro o; rw [hb]; first | (simp (maxDischargeDepth := 7) [go_sem]; done) | (simp (maxDischargeDepth := 7) [go_sem, *]; done)
            clear ha hb
            (try clear hf4_0_0); (try clear hf4_0_1); (try clear hf4_1_0); (try clear hf4_1_1); (try clear hf4_2_0); (try clear hf4_2_1); (try clear hf4_3_0); (try clear hf4_3_1); (try clear hg4_0); (try clear hg4_1); (try clear hg4_2); (try clear hg4_3); (try clear hz4_1); (try clear hz4_2); (try clear hz4_3)
            go_wp2_with fail
            with_reducible refine (valid_ok ma mo ma0 ma1 mo0 mo1 _).mono ?_
            rintro e w6 ⟨rfl, hk6⟩
            refine kuz (b := w.heap.size) hk6 (by first | (simp; done) | (simp; omega) | omega) ?_
            intro ha hb hz6_0 hn6_0 hm6_0
            have hf6_0_0 : w6.cell? ⟨w.heap.size, 0, none⟩ = some (.int .i64 la) := (ha _).trans (by first | with_reducible assumption | (simp (maxDischargeDepth := 7) [go_sem]; done) | (simp (maxDischargeDepth := 7) [go_sem, *]; done))
            have hf6_0_1 : w6.cell? ⟨w.heap.size, 1, none⟩ = some (.int .i64 lo) := (ha _).trans (by first | with_reducible assumption | (simp (maxDischargeDepth := 7) [go_sem]; done) | (simp (maxDischargeDepth := 7) [go_sem, *]; done))
            try have hg6_0 : ∀ o, w6.frozen? ⟨w.heap.size, o, none⟩ = false := by intro o; rw [hb]; first | (simp (maxDischargeDepth := 7) [go_sem]; done) | (simp (maxDischargeDepth := 7) [go_sem, *]; done)
            clear ha hb
            refine kuz (b := w.heap.size + 1) hk6 (by first | (simp; done) | (simp; omega) | omega) ?_
            intro ha hb hz6_1 hn6_1 hm6_1
            have hf6_1_0 : w6.cell? ⟨w.heap.size + 1, 0, none⟩ = some (.int .i64 ma) := (ha _).trans (by first | with_reducible assumption | (simp (maxDischargeDepth := 7) [go_sem]; done) | (simp (maxDischargeDepth := 7) [go_sem, *]; done))
            have hf6_1_1 : w6.cell? ⟨w.heap.size + 1, 1, none⟩ = some (.int .i64 mo) := (ha _).trans (by first | with_reducible assumption | (simp (maxDischargeDepth := 7) [go_sem]; done) | (simp (maxDischargeDepth := 7) [go_sem, *]; done))
            try have hg6_1 : ∀ o, w6.frozen? ⟨w.heap.size + 1, o, none⟩ = false := by intro o; rw [hb]; first | (simp (maxDischargeDepth := 7) [go_sem]; done) | (simp (maxDischargeDepth := 7) [go_sem, *]; done)
            clear ha hb
            refine kuz (b := w.heap.size + 2) hk6 (by first | (simp; done) | (simp; omega) | omega) ?_
            intro ha hb hz6_2 hn6_2 hm6_2
            have hf6_2_0 : w6.cell? ⟨w.heap.size + 2, 0, none⟩ = some (.int .i64 X) := (ha _).trans (by first | with_reducible assumption | (simp (maxDischargeDepth := 7) [go_sem]; done) | (simp (maxDischargeDepth := 7) [go_sem, *]; done))
            have hf6_2_1 : w6.cell? ⟨w.heap.size + 2, 1, none⟩ = some (.int .i64 Y) := (ha _).trans (by first | with_reducible assumption | (simp (maxDischargeDepth := 7) [go_sem]; done) | (simp (maxDischargeDepth := 7) [go_sem, *]; done))
            try have hg6_2 : ∀ o, w6.frozen? ⟨w.heap.size + 2, o, none⟩ = false := by intro o; rw [hb]; first | (simp (maxDischargeDepth := 7) [go_sem]; done) | (simp (maxDischargeDepth := 7) [go_sem, *]; done)
            clear ha hb
            refine kuz (b := w2.heap.size) hk6 (by first | (simp; done) | (simp; omega) | omega) ?_
            intro ha hb hz6_3 hn6_3 hm6_3
            have hf6_3_0 : w6.cell? ⟨w2.heap.size, 0, none⟩ = some (.int .i64 G) := (ha _).trans (by first | with_reducible assumption | (simp (maxDischargeDepth := 7) [go_sem]; done) | (simp (maxDischargeDepth := 7) [go_sem, *]; done))
            have hf6_3_1 : w6.cell? ⟨w2.heap.size, 1, none⟩ = some (.int .i64 H) := (ha _).trans (by first | with_reducible assumption | (simp (maxDischargeDepth := 7) [go_sem]; done) | (simp (maxDischargeDepth := 7) [go_sem, *]; done))
            try have hg6_3 : ∀ o, w6.frozen? ⟨w2.heap.size, o, none⟩ = false := by intro o; rw [hb]; first | (simp (maxDischargeDepth := 7) [go_sem]; done) | (simp (maxDischargeDepth := 7) [go_sem, *]; done)
            clear ha hb
            refine kuz (b := w4.heap.size) hk6 (by first | (simp; done) | (simp; omega) | omega) ?_
            intro ha hb hz6_4 hn6_4 hm6_4
            have hf6_4_0 : w6.cell? ⟨w4.heap.size, 0, none⟩ = some (.int .i64 XX) := (ha _).trans (by first | with_reducible assumption | (simp (maxDischargeDepth := 7) [go_sem]; done) | (simp (maxDischargeDepth := 7) [go_sem, *]; done))
            have hf6_4_1 : w6.cell? ⟨w4.heap.size, 1, none⟩ = some (.int .i64 YY) := (ha _).trans (by first | with_reducible assumption | (simp (maxDischargeDepth := 7) [go_sem]; done) | (simp (maxDischargeDepth := 7) [go_sem, *]; done))
            try have hg6_4 : ∀ o, w6.frozen? ⟨w4.heap.size, o, none⟩ = false := by intro o; rw [hb]; first | (simp (maxDischargeDepth := 7) [go_sem]; done) | (simp (maxDischargeDepth := 7) [go_sem, *]; done)
            clear ha hb
            (try clear hf5_0_0); (try clear hf5_0_1); (try clear hf5_1_0); (try clear hf5_1_1); (try clear hf5_2_0); (try clear hf5_2_1); (try clear hf5_3_0); (try clear hf5_3_1); (try clear hf5_4_0); (try clear hf5_4_1); (try clear hg5_0); (try clear hg5_1); (try clear hg5_2); (try clear hg5_3); (try clear hg5_4); (try clear hz5_1); (try clear hz5_2); (try clear hz5_3); (try clear hz5_4)
            all_goals go_wp2_with fail
            all_goals first | (go_ret; refine ⟨?_, (by repeat (first | with_reducible exact Kept.refl _ | with_reducible assumption | with_reducible refine Kept.setCell ?_ (by first | (simp; done) | (simp; omega) | omega) _ | with_reducible refine Kept.alloc ?_ _ | with_reducible refine Kept.drewN ?_ _ | with_reducible refine Kept.drew ?_ | with_reducible refine Kept.trans ?_ (by with_reducible assumption) | with_reducible refine Kept.dr ?_ (by with_reducible assumption)))⟩; first | rfl | (refine retb ?_; simp; done) | (refine retb ?_; simp; omega)) | (exfalso; omega)
          · have EQ := fun w => peqP_yes 0 0 w
            have EQQ := fun w => peqQ_yes 0 0 w
            have m1 := fun w => from_ok la lo la0 la1 lo0 lo1 X Y hp w
            have e0 : psE (frX la lo X Y) (frY la lo X Y) (frZ la lo Y) = 0 := by unfold psE; rw [if_pos hs]
            rw [e0] at m1
            clear e0
            generalize psLa (frX la lo X Y) (frY la lo X Y) (frZ la lo Y) = G at *
            generalize psLo (frX la lo X Y) (frY la lo X Y) (frZ la lo Y) = H at *
            clear hs
            have Hm1 := Lib.hid m1
            clear m1
            have m2 := fun w => to_ok la lo la0 la1 lo0 lo1 ma mo ma0 ma1 mo0 mo1 w
            rw [hE.1, hE.2.1, hE.2.2] at m2
            clear hE
            have Hm2 := Lib.hid m2
            clear m2
            go_enter Try.func10, Try.ntmps10
            go_wp2_with fail
            with_reducible refine (awake_w _).mono ?_
            rintro e w1 ⟨rfl, hk1⟩
            refine kuz (b := w.heap.size) hk1 (by first | (simp; done) | (simp; omega) | omega) ?_
            intro ha hb hz1_0 hn1_0 hm1_0
            have hf1_0_0 : w1.cell? ⟨w.heap.size, 0, none⟩ = some (.int .i64 la) := (ha _).trans (by first | with_reducible assumption | (simp (maxDischargeDepth := 7) [go_sem]; done) | (simp (maxDischargeDepth := 7) [go_sem, *]; done))
            have hf1_0_1 : w1.cell? ⟨w.heap.size, 1, none⟩ = some (.int .i64 lo) := (ha _).trans (by first | with_reducible assumption | (simp (maxDischargeDepth := 7) [go_sem]; done) | (simp (maxDischargeDepth := 7) [go_sem, *]; done))
            try have hg1_0 : ∀ o, w1.frozen? ⟨w.heap.size, o, none⟩ = false := by intro o; rw [hb]; first | (simp (maxDischargeDepth := 7) [go_sem]; done) | (simp (maxDischargeDepth := 7) [go_sem, *]; done)
            clear ha hb
            refine kuz (b := w.heap.size + 1) hk1 (by first | (simp; done) | (simp; omega) | omega) ?_
            intro ha hb hz1_1 hn1_1 hm1_1
            have hf1_1_0 : w1.cell? ⟨w.heap.size + 1, 0, none⟩ = some (.int .i64 ma) := (ha _).trans (by first | with_reducible assumption | (simp (maxDischargeDepth := 7) [go_sem]; done) | (simp (maxDischargeDepth := 7) [go_sem, *]; done))
            have hf1_1_1 : w1.cell? ⟨w.heap.size + 1, 1, none⟩ = some (.int .i64 mo) := (ha _).trans (by first | with_reducible assumption | (simp (maxDischargeDepth := 7) [go_sem]; done) | (simp (maxDischargeDepth := 7) [go_sem, *]; done))
            try have hg1_1 : ∀ o, w1.frozen? ⟨w.heap.size + 1, o, none⟩ = false := by intro o; rw [hb]; first | (simp (maxDischargeDepth := 7) [go_sem]; done) | (simp (maxDischargeDepth := 7) [go_sem, *]; done)
            clear ha hb
            refine kuz (b := w.heap.size + 2) hk1 (by first | (simp; done) | (simp; omega) | omega) ?_
            intro ha hb hz1_2 hn1_2 hm1_2
            have hf1_2_0 : w1.cell? ⟨w.heap.size + 2, 0, none⟩ = some (.int .i64 X) := (ha _).trans (by first | with_reducible assumption | (simp (maxDischargeDepth := 7) [go_sem]; done) | (simp (maxDischargeDepth := 7) [go_sem, *]; done))
            have hf1_2_1 : w1.cell? ⟨w.heap.size + 2, 1, none⟩ = some (.int .i64 Y) := (ha _).trans (by first | with_reducible assumption | (simp (maxDischargeDepth := 7) [go_sem]; done) | (simp (maxDischargeDepth := 7) [go_sem, *]; done))
            try have hg1_2 : ∀ o, w1.frozen? ⟨w.heap.size + 2, o, none⟩ = false := by intro o; rw [hb]; first | (simp (maxDischargeDepth := 7) [go_sem]; done) | (simp (maxDischargeDepth := 7) [go_sem, *]; done)
            clear ha hb
            go_wp2_with fail
            with_reducible refine (Hm1.out _).mono ?_
            rintro e w2 ⟨rfl, hk2⟩
            refine kuz (b := w.heap.size) hk2 (by first | (simp; done) | (simp; omega) | omega) ?_
            intro ha hb hz2_0 hn2_0 hm2_0
            have hf2_0_0 : w2.cell? ⟨w.heap.size, 0, none⟩ = some (.int .i64 la) := (ha _).trans (by first | with_reducible assumption | (simp (maxDischargeDepth := 7) [go_sem]; done) | (simp (maxDischargeDepth := 7) [go_sem, *]; done))
            have hf2_0_1 : w2.cell? ⟨w.heap.size, 1, none⟩ = some (.int .i64 lo) := (ha _).trans (by first | with_reducible assumption | (simp (maxDischargeDepth := 7) [go_sem]; done) | (simp (maxDischargeDepth := 7) [go_sem, *]; done))
            try have hg2_0 : ∀ o, w2.frozen? ⟨w.heap.size, o, none⟩ = false := by intro o; rw [hb]; first | (simp (maxDischargeDepth := 7) [go_sem]; done) | (simp (maxDischargeDepth := 7) [go_sem, *]; done)
            clear ha hb
            refine kuz (b := w.heap.size + 1) hk2 (by first | (simp; done) | (simp; omega) | omega) ?_
            intro ha hb hz2_1 hn2_1 hm2_1
            have hf2_1_0 : w2.cell? ⟨w.heap.size + 1, 0, none⟩ = some (.int .i64 ma) := (ha _).trans (by first | with_reducible assumption | (simp (maxDischargeDepth := 7) [go_sem]; done) | (simp (maxDischargeDepth := 7) [go_sem, *]; done))
            have hf2_1_1 : w2.cell? ⟨w.heap.size + 1, 1, none⟩ = some (.int .i64 mo) := (ha _).trans (by first | with_reducible assumption | (simp (maxDischargeDepth := 7) [go_sem]; done) | (simp (maxDischargeDepth := 7) [go_sem, *]; done))
            try have hg2_1 : ∀ o, w2.frozen? ⟨w.heap.size + 1, o, none⟩ = false := by intro o; rw [hb]; first | (simp (maxDischargeDepth := 7) [go_sem]; done) | (simp (maxDischargeDepth := 7) [go_sem, *]; done)
            clear ha hb
            refine kuz (b := w.heap.size + 2) hk2 (by first | (simp; done) | (simp; omega) | omega) ?_
            intro ha hb hz2_2 hn2_2 hm2_2
            have hf2_2_0 : w2.cell? ⟨w.heap.size + 2, 0, none⟩ = some (.int .i64 X) := (ha _).trans (by first | with_reducible assumption | (simp (maxDischargeDepth := 7) [go_sem]; done) | (simp (maxDischargeDepth := 7) [go_sem, *]; done))
            have hf2_2_1 : w2.cell? ⟨w.heap.size + 2, 1, none⟩ = some (.int .i64 Y) := (ha _).trans (by first | with_reducible assumption | (simp (maxDischargeDepth := 7) [go_sem]; done) | (simp (maxDischargeDepth := 7) [go_sem, *]; done))
            try have hg2_2 : ∀ o, w2.frozen? ⟨w.heap.size + 2, o, none⟩ = false := by intro o; rw [hb]; first | (simp (maxDischargeDepth := 7) [go_sem]; done) | (simp (maxDischargeDepth := 7) [go_sem, *]; done)
            clear ha hb
            (try clear hf1_0_0); (try clear hf1_0_1); (try clear hf1_1_0); (try clear hf1_1_1); (try clear hf1_2_0); (try clear hf1_2_1); (try clear hg1_0); (try clear hg1_1); (try clear hg1_2); (try clear hz1_1); (try clear hz1_2)
            go_wp2_with fail
            with_reducible refine (pv_ok X Y hp _).mono ?_
            rintro e w3 ⟨rfl, hk3⟩
            refine kuz (b := w.heap.size) hk3 (by first | (simp; done) | (simp; omega) | omega) ?_
            intro ha hb hz3_0 hn3_0 hm3_0
            have hf3_0_0 : w3.cell? ⟨w.heap.size, 0, none⟩ = some (.int .i64 la) := (ha _).trans (by first | with_reducible assumption | (simp (maxDischargeDepth := 7) [go_sem]; done) | (simp (maxDischargeDepth := 7) [go_sem, *]; done))
            have hf3_0_1 : w3.cell? ⟨w.heap.size, 1, none⟩ = some (.int .i64 lo) := (ha _).trans (by first | with_reducible assumption | (simp (maxDischargeDepth := 7) [go_sem]; done) | (simp (maxDischargeDepth := 7) [go_sem, *]; done))
            try have hg3_0 : ∀ o, w3.frozen? ⟨w.heap.size, o, none⟩ = false := by intro o; rw [hb]; first | (simp (maxDischargeDepth := 7) [go_sem]; done) | (simp (maxDischargeDepth := 7) [go_sem, *]; done)
            clear ha hb
            refine kuz (b := w.heap.size + 1) hk3 (by first | (simp; done) | (simp; omega) | omega) ?_
            intro ha hb hz3_1 hn3_1 hm3_1
            have hf3_1_0 : w3.cell? ⟨w.heap.size + 1, 0, none⟩ = some (.int .i64 ma) := (ha _).trans (by first | with_reducible assumption | (simp (maxDischargeDepth := 7) [go_sem]; done) | (simp (maxDischargeDepth := 7) [go_sem, *]; done))
            have hf3_1_1 : w3.cell? ⟨w.heap.size + 1, 1, none⟩ = some (.int .i64 mo) := (ha _).trans (by first | with_reducible assumption | (simp (maxDischargeDepth := 7) [go_sem]; done) | (simp (maxDischargeDepth := 7) [go_sem, *]; done))
            try have hg3_1 : ∀ o, w3.frozen? ⟨w.heap.size + 1, o, none⟩ = false := by intro o; rw [hb]; first | (simp (maxDischargeDepth := 7) [go_sem]; done) | (simp (maxDischargeDepth := 7) [go_sem, *]; done)
            clear ha hb
            refine kuz (b := w.heap.size + 2) hk3 (by first | (simp; done) | (simp; omega) | omega) ?_
            intro ha hb hz3_2 hn3_2 hm3_2
            have hf3_2_0 : w3.cell? ⟨w.heap.size + 2, 0, none⟩ = some (.int .i64 X) := (ha _).trans (by first | with_reducible assumption | (simp (maxDischargeDepth := 7) [go_sem]; done) | (simp (maxDischargeDepth := 7) [go_sem, *]; done))
            have hf3_2_1 : w3.cell? ⟨w.heap.size + 2, 1, none⟩ = some (.int .i64 Y) := (ha _).trans (by first | with_reducible assumption | (simp (maxDischargeDepth := 7) [go_sem]; done) | (simp (maxDischargeDepth := 7) [go_sem, *]; done))
            try have hg3_2 : ∀ o, w3.frozen? ⟨w.heap.size + 2, o, none⟩ = false := by intro o; rw [hb]; first | (simp (maxDischargeDepth := 7) [go_sem]; done) | (simp (maxDischargeDepth := 7) [go_sem, *]; done)
            clear ha hb
            refine kuz (b := w2.heap.size) hk3 (by first | (simp; done) | (simp; omega) | omega) ?_
            intro ha hb hz3_3 hn3_3 hm3_3
            have hf3_3_0 : w3.cell? ⟨w2.heap.size, 0, none⟩ = some (.int .i64 G) := (ha _).trans (by first | with_reducible assumption | (simp (maxDischargeDepth := 7) [go_sem]; done) | (simp (maxDischargeDepth := 7) [go_sem, *]; done))
            have hf3_3_1 : w3.cell? ⟨w2.heap.size, 1, none⟩ = some (.int .i64 H) := (ha _).trans (by first | with_reducible assumption | (simp (maxDischargeDepth := 7) [go_sem]; done) | (simp (maxDischargeDepth := 7) [go_sem, *]; done))
            try have hg3_3 : ∀ o, w3.frozen? ⟨w2.heap.size, o, none⟩ = false := by intro o; rw [hb]; first | (simp (maxDischargeDepth := 7) [go_sem]; done) | (simp (maxDischargeDepth := 7) [go_sem, *]; done)
            clear ha hb
            (try clear hf2_0_0); (try clear hf2_0_1); (try clear hf2_1_0); (try clear hf2_1_1); (try clear hf2_2_0); (try clear hf2_2_1); (try clear hg2_0); (try clear hg2_1); (try clear hg2_2); (try clear hz2_1); (try clear hz2_2)
            go_wp2_with fail
            with_reducible refine (Hm2.out _).mono ?_
            rintro e w4 ⟨rfl, hk4⟩
            refine kuz (b := w.heap.size) hk4 (by first | (simp; done) | (simp; omega) | omega) ?_
            intro ha hb hz4_0 hn4_0 hm4_0
            have hf4_0_0 : w4.cell? ⟨w.heap.size, 0, none⟩ = some (.int .i64 la) := (ha _).trans (by first | with_reducible assumption | (simp (maxDischargeDepth := 7) [go_sem]; done) | (simp (maxDischargeDepth := 7) [go_sem, *]; done))
            have hf4_0_1 : w4.cell? ⟨w.heap.size, 1, none⟩ = some (.int .i64 lo) := (ha _).trans (by first | with_reducible assumption | (simp (maxDischargeDepth := 7) [go_sem]; done) | (simp (maxDischargeDepth := 7) [go_sem, *]; done))
            try have hg4_0 : ∀ o, w4.frozen? ⟨w.heap.size, o, none⟩ = false := by intro o; rw [hb]; first | (simp (maxDischargeDepth := 7) [go_sem]; done) | (simp (maxDischargeDepth := 7) [go_sem, *]; done)
            clear ha hb
            refine kuz (b := w.heap.size + 1) hk4 (by first | (simp; done) | (simp; omega) | omega) ?_
            intro ha hb hz4_1 hn4_1 hm4_1
            have hf4_1_0 : w4.cell? ⟨w.heap.size + 1, 0, none⟩ = some (.int .i64 ma) := (ha _).trans (by first | with_reducible assumption | (simp (maxDischargeDepth := 7) [go_sem]; done) | (simp (maxDischargeDepth := 7) [go_sem, *]; done))
            have hf4_1_1 : w4.cell? ⟨w.heap.size + 1, 1, none⟩ = some (.int .i64 mo) := (ha _).trans (by first | with_reducible assumption | (simp (maxDischargeDepth := 7) [go_sem]; done) | (simp (maxDischargeDepth := 7) [go_sem, *]; done))
            try have hg4_1 : ∀ o, w4.frozen? ⟨w.heap.size + 1, o, none⟩ = false := by intro o; rw [hb]; first | (simp (maxDischargeDepth := 7) [go_sem]; done) | (simp (maxDischargeDepth := 7) [go_sem, *]; done)
            clear ha hb
            refine kuz (b := w.heap.size + 2) hk4 (by first | (simp; done) | (simp; omega) | omega) ?_
            intro ha hb hz4_2 hn4_2 hm4_2
            have hf4_2_0 : w4.cell? ⟨w.heap.size + 2, 0, none⟩ = some (.int .i64 X) := (ha _).trans (by first | with_reducible assumption | (simp (maxDischargeDepth := 7) [go_sem]; done) | (simp (maxDischargeDepth := 7) [go_sem, *]; done))
            have hf4_2_1 : w4.cell? ⟨w.heap.size + 2, 1, none⟩ = some (.int .i64 Y) := (ha _).trans (by first | with_reducible assumption | (simp (maxDischargeDepth := 7) [go_sem]; done) | (simp (maxDischargeDepth := 7) [go_sem, *]; done))
            try have hg4_2 : ∀ o, w4.frozen? ⟨w.heap.size + 2, o, none⟩ = false := by intro o; rw [hb]; first | (simp (maxDischargeDepth := 7) [go_sem]; done) | (simp (maxDischargeDepth := 7) [go_sem, *]; done)
            clear ha hb
            refine kuz (b := w2.heap.size) hk4 (by first | (simp; done) | (simp; omega) | omega) ?_
            intro ha hb hz4_3 hn4_3 hm4_3
            have hf4_3_0 : w4.cell? ⟨w2.heap.size, 0, none⟩ = some (.int .i64 G) := (ha _).trans (by first | with_reducible assumption | (simp (maxDischargeDepth := 7) [go_sem]; done) | (simp (maxDischargeDepth := 7) [go_sem, *]; done))
            have hf4_3_1 : w4.cell? ⟨w2.heap.size, 1, none⟩ = some (.int .i64 H) := (ha _).trans (by first | with_reducible assumption | (simp (maxDischargeDepth := 7) [go_sem]; done) | (simp (maxDischargeDepth := 7) [go_sem, *]; done))
            try have hg4_3 : ∀ o, w4.frozen? ⟨w2.heap.size, o, none⟩ = false := by intro o; rw [hb]; first | (simp (maxDischargeDepth := 7) [go_sem]; done) | (simp (maxDischargeDepth := 7) [go_sem, *]; done)
            clear ha hb
            (try clear hf3_0_0); (try clear hf3_0_1); (try clear hf3_1_0); (try clear hf3_1_1); (try clear hf3_2_0); (try clear hf3_2_1); (try clear hf3_3_0); (try clear hf3_3_1); (try clear hg3_0); (try clear hg3_1); (try clear hg3_2); (try clear hg3_3); (try clear hz3_1); (try clear hz3_2); (try clear hz3_3)
            go_wp2_with fail
            with_reducible refine (pv_ok 0 0 rfl _).mono ?_
            rintro e w5 ⟨rfl, hk5⟩
            refine kuz (b := w.heap.size) hk5 (by first | (simp; done) | (simp; omega) | omega) ?_
            intro ha hb hz5_0 hn5_0 hm5_0
            have hf5_0_0 : w5.cell? ⟨w.heap.size, 0, none⟩ = some (.int .i64 la) := (ha _).trans (by first | with_reducible assumption | (simp (maxDischargeDepth := 7) [go_sem]; done) | (simp (maxDischargeDepth := 7) [go_sem, *]; done))
            have hf5_0_1 : w5.cell? ⟨w.heap.size, 1, none⟩ = some (.int .i64 lo) := (ha _).trans (by first | with_reducible assumption | (simp (maxDischargeDepth := 7) [go_sem]; done) | (simp (maxDischargeDepth := 7) [go_sem, *]; done))
            try have hg5_0 : ∀ o, w5.frozen? ⟨w.heap.size, o, none⟩ = false := by intro o; rw [hb]; first | (simp (maxDischargeDepth := 7) [go_sem]; done) | (simp (maxDischargeDepth := 7) [go_sem, *]; done)
            clear ha hb
            refine kuz (b := w.heap.size + 1) hk5 (by first | (simp; done) | (simp; omega) | omega) ?_
            intro ha hb hz5_1 hn5_1 hm5_1
            have hf5_1_0 : w5.cell? ⟨w.heap.size + 1, 0, none⟩ = some (.int .i64 ma) := (ha _).trans (by first | with_reducible assumption | (simp (maxDischargeDepth := 7) [go_sem]; done) | (simp (maxDischargeDepth := 7) [go_sem, *]; done))
            have hf5_1_1 : w5.cell? ⟨w.heap.size + 1, 1, none⟩ = some (.int .i64 mo) := (ha _).trans (by first | with_reducible assumption | (simp (maxDischargeDepth := 7) [go_sem]; done) | (simp (maxDischargeDepth := 7) [go_sem, *]; done))
            try have hg5_1 : ∀ o, w5.frozen? ⟨w.heap.size + 1, o, none⟩ = false := by intro o; rw [hb]; first | (simp (maxDischargeDepth := 7) [go_sem]; done) | (simp (maxDischargeDepth := 7) [go_sem, *]; done)
            clear ha hb
            refine kuz (b := w.heap.size + 2) hk5 (by first | (simp; done) | (simp; omega) | omega) ?_
            intro ha hb hz5_2 hn5_2 hm5_2
            have hf5_2_0 : w5.cell? ⟨w.heap.size + 2, 0, none⟩ = some (.int .i64 X) := (ha _).trans (by first | with_reducible assumption | (simp (maxDischargeDepth := 7) [go_sem]; done) | (simp (maxDischargeDepth := 7) [go_sem, *]; done))
            have hf5_2_1 : w5.cell? ⟨w.heap.size + 2, 1, none⟩ = some (.int .i64 Y) := (ha _).trans (by first | with_reducible assumption | (simp (maxDischargeDepth := 7) [go_sem]; done) | (simp (maxDischargeDepth := 7) [go_sem, *]; done))
            try have hg5_2 : ∀ o, w5.frozen? ⟨w.heap.size + 2, o, none⟩ = false := by intro o; rw [hb]; first | (simp (maxDischargeDepth := 7) [go_sem]; done) | (simp (maxDischargeDepth := 7) [go_sem, *]; done)
            clear ha hb
            refine kuz (b := w2.heap.size) hk5 (by first | (simp; done) | (simp; omega) | omega) ?_
            intro ha hb hz5_3 hn5_3 hm5_3
            have hf5_3_0 : w5.cell? ⟨w2.heap.size, 0, none⟩ = some (.int .i64 G) := (ha _).trans (by first | with_reducible assumption | (simp (maxDischargeDepth := 7) [go_sem]; done) | (simp (maxDischargeDepth := 7) [go_sem, *]; done))
            have hf5_3_1 : w5.cell? ⟨w2.heap.size, 1, none⟩ = some (.int .i64 H) := (ha _).trans (by first | with_reducible assumption | (simp (maxDischargeDepth := 7) [go_sem]; done) | (simp (maxDischargeDepth := 7) [go_sem, *]; done))
            try have hg5_3 : ∀ o, w5.frozen? ⟨w2.heap.size, o, none⟩ = false := by intro o; rw [hb]; first | (simp (maxDischargeDepth := 7) [go_sem]; done) | (simp (maxDischargeDepth := 7) [go_sem, *]; done)
            clear ha hb
            refine kuz (b := w4.heap.size) hk5 (by first | (simp; done) | (simp; omega) | omega) ?_
            intro ha hb hz5_4 hn5_4 hm5_4
            have hf5_4_0 : w5.cell? ⟨w4.heap.size, 0, none⟩ = some (.int .i64 0) := (ha _).trans (by first | with_reducible assumption | (simp (maxDischargeDepth := 7) [go_sem]; done) | (simp (maxDischargeDepth := 7) [go_sem, *]; done))
            have hf5_4_1 : w5.cell? ⟨w4.heap.size, 1, none⟩ = some (.int .i64 0) := (ha _).trans (by first | with_reducible assumption | (simp (maxDischargeDepth := 7) [go_sem]; done) | (simp (maxDischargeDepth := 7) [go_sem, *]; done))
            try have hg5_4 : ∀ o, w5.frozen? ⟨w4.heap.size, o, none⟩ = false := by intro o; rw [hb]; first | (simp (maxDischargeDepth := 7) [go_sem]; done) | (simp (maxDischargeDepth := 7) [go_sem, *]; done)
            clear ha hb
            (try clear hf4_0_0); (try clear hf4_0_1); (try clear hf4_1_0); (try clear hf4_1_1); (try clear hf4_2_0); (try clear hf4_2_1); (try clear hf4_3_0); (try clear hf4_3_1); (try clear hg4_0); (try clear hg4_1); (try clear hg4_2); (try clear hg4_3); (try clear hz4_1); (try clear hz4_2); (try clear hz4_3)
            go_wp2_with fail
            with_reducible refine (valid_ok ma mo ma0 ma1 mo0 mo1 _).mono ?_
            rintro e w6 ⟨rfl, hk6⟩
            refine kuz (b := w.heap.size) hk6 (by first | (simp; done) | (simp; omega) | omega) ?_
            intro ha hb hz6_0 hn6_0 hm6_0
            have hf6_0_0 : w6.cell? ⟨w.heap.size, 0, none⟩ = some (.int .i64 la) := (ha _).trans (by first | with_reducible assumption | (simp (maxDischargeDepth := 7) [go_sem]; done) | (simp (maxDischargeDepth := 7) [go_sem, *]; done))
            have hf6_0_1 : w6.cell? ⟨w.heap.size, 1, none⟩ = some (.int .i64 lo) := (ha _).trans (by first | with_reducible assumption | (simp (maxDischargeDepth := 7) [go_sem]; done) | (simp (maxDischargeDepth := 7) [go_sem, *]; done))
            try have hg6_0 : ∀ o, w6.frozen? ⟨w.heap.size, o, none⟩ = false := by intro o; rw [hb]; first | (simp (maxDischargeDepth := 7) [go_sem]; done) | (simp (maxDischargeDepth := 7) [go_sem, *]; done)
            clear ha hb
            refine kuz (b := w.heap.size + 1) hk6 (by first | (simp; done) | (simp; omega) | omega) ?_
            intro ha hb hz6_1 hn6_1 hm6_1
            have hf6_1_0 : w6.cell? ⟨w.heap.size + 1, 0, none⟩ = some (.int .i64 ma) := (ha _).trans (by first | with_reducible assumption | (simp (maxDischargeDepth := 7) [go_sem]; done) | (simp (maxDischargeDepth := 7) [go_sem, *]; done))
            have hf6_1_1 : w6.cell? ⟨w.heap.size + 1, 1, none⟩ = some (.int .i64 mo) := (ha _).trans (by first | with_reducible assumption | (simp (maxDischargeDepth := 7) [go_sem]; done) | (simp (maxDischargeDepth := 7) [go_sem, *]; done))
            try have hg6_1 : ∀ o, w6.frozen? ⟨w.heap.size + 1, o, none⟩ = false := by intro o; rw [hb]; first | (simp (maxDischargeDepth := 7) [go_sem]; done) | (simp (maxDischargeDepth := 7) [go_sem, *]; done)
            clear ha hb
            refine kuz (b := w.heap.size + 2) hk6 (by first | (simp; done) | (simp; omega) | omega) ?_
            intro ha hb hz6_2 hn6_2 hm6_2
            have hf6_2_0 : w6.cell? ⟨w.heap.size + 2, 0, none⟩ = some (.int .i64 X) := (ha _).trans (by first | with_reducible assumption | (simp (maxDischargeDepth := 7) [go_sem]; done) | (simp (maxDischargeDepth := 7) [go_sem, *]; done))
            have hf6_2_1 : w6.cell? ⟨w.heap.size + 2, 1, none⟩ = some (.int .i64 Y) := (ha _).trans (by first | with_reducible assumption | (simp (maxDischargeDepth := 7) [go_sem]; done) | (simp (maxDischargeDepth := 7) [go_sem, *]; done))
            try have hg6_2 : ∀ o, w6.frozen? ⟨w.heap.size + 2, o, none⟩ = false := by intro o; rw [hb]; first | (simp (maxDischargeDepth := 7) [go_sem]; done) | (simp (maxDischargeDepth := 7) [go_sem, *]; done)
            clear ha hb
            refine kuz (b := w2.heap.size) hk6 (by first | (simp; done) | (simp; omega) | omega) ?_
            intro ha hb hz6_3 hn6_3 hm6_3
            have hf6_3_0 : w6.cell? ⟨w2.heap.size, 0, none⟩ = some (.int .i64 G) := (ha _).trans (by first | with_reducible assumption | (simp (maxDischargeDepth := 7) [go_sem]; done) | (simp (maxDischargeDepth := 7) [go_sem, *]; done))
            have hf6_3_1 : w6.cell? ⟨w2.heap.size, 1, none⟩ = some (.int .i64 H) := (ha _).trans (by first | with_reducible assumption | (simp (maxDischargeDepth := 7) [go_sem]; done) | (simp (maxDischargeDepth := 7) [go_sem, *]; done))
            try have hg6_3 : ∀ o, w6.frozen? ⟨w2.heap.size, o, none⟩ = false := by intro o; rw [hb]; first | (simp (maxDischargeDepth := 7) [go_sem]; done) | (simp (maxDischargeDepth := 7) [go_sem, *]; done)
            clear ha hb
            refine kuz (b := w4.heap.size) hk6 (by first | (simp; done) | (simp; omega) | omega) ?_
            intro ha hb hz6_4 hn6_4 hm6_4
            have hf6_4_0 : w6.cell? ⟨w4.heap.size, 0, none⟩ = some (.int .i64 0) := (ha _).trans (by first | with_reducible assumption | (simp (maxDischargeDepth := 7) [go_sem]; done) | (simp (maxDischargeDepth := 7) [go_sem, *]; done))
            have hf6_4_1 : w6.cell? ⟨w4.heap.size, 1, none⟩ = some (.int .i64 0) := (ha _).trans (by first | with_reducible assumption | (simp (maxDischargeDepth := 7) [go_sem]; done) | (simp (maxDischargeDepth := 7) [go_sem, *]; done))
            try have hg6_4 : ∀ o, w6.frozen? ⟨w4.heap.size, o, none⟩ = false := by intro o; rw [hb]; first | (simp (maxDischargeDepth := 7) [go_sem]; done) | (simp (maxDischargeDepth := 7) [go_sem, *]; done)
            clear ha hb
            (try clear hf5_0_0); (try clear hf5_0_1); (try clear hf5_1_0); (try clear hf5_1_1); (try clear hf5_2_0); (try clear hf5_2_1); (try clear hf5_3_0); (try clear hf5_3_1); (try clear hf5_4_0); (try clear hf5_4_1); (try clear hg5_0); (try clear hg5_1); (try clear hg5_2); (try clear hg5_3); (try clear hg5_4); (try clear hz5_1); (try clear hz5_2); (try clear hz5_3); (try clear hz5_4)
            all_goals go_wp2_with fail
            all_goals first | (go_ret; refine ⟨?_, (by repeat (first | with_reducible exact Kept.refl _ | with_reducible assumption | with_reducible refine Kept.setCell ?_ (by first | (simp; done) | (simp; omega) | omega) _ | with_reducible refine Kept.alloc ?_ _ | with_reducible refine Kept.drewN ?_ _ | with_reducible refine Kept.drew ?_ | with_reducible refine Kept.trans ?_ (by with_reducible assumption) | with_reducible refine Kept.dr ?_ (by with_reducible assumption)))⟩; first | rfl | (refine retb ?_; simp; done) | (refine retb ?_; simp; omega)) | (exfalso; omega)

        · have hqb : ma < -32400000 ∨ 32400000 < ma ∨ mo ≤ -64800000 ∨ 64800000 < mo := by omega
          clear hq
          have EQ := fun w => peqP_yes 0 0 w
          have EQQ := fun w => peqQ_yes 0 0 w
          have m1 := fun w => from_ok la lo la0 la1 lo0 lo1 X Y hp w
          have e0 : psE (frX la lo X Y) (frY la lo X Y) (frZ la lo Y) = 0 := by unfold psE; rw [if_pos hs]
          rw [e0] at m1
          clear e0
          generalize psLa (frX la lo X Y) (frY la lo X Y) (frZ la lo Y) = G at *
          generalize psLo (frX la lo X Y) (frY la lo X Y) (frZ la lo Y) = H at *
          clear hs
          have Hm1 := Lib.hid m1
          clear m1
          go_enter Try.func10, Try.ntmps10
          go_wp2_with fail
          with_reducible refine (awake_w _).mono ?_
          rintro e w1 ⟨rfl, hk1⟩
          refine kuz (b := w.heap.size) hk1 (by first | (simp; done) | (simp; omega) | omega) ?_
          intro ha hb hz1_0 hn1_0 hm1_0
          have hf1_0_0 : w1.cell? ⟨w.heap.size, 0, none⟩ = some (.int .i64 la) := (ha _).trans (by first | with_reducible assumption | (simp (maxDischargeDepth := 7) [go_sem]; done) | (simp (maxDischargeDepth := 7) [go_sem, *]; done))
          have hf1_0_1 : w1.cell? ⟨w.heap.size, 1, none⟩ = some (.int .i64 lo) := (ha _).trans (by first | with_reducible assumption | (simp (maxDischargeDepth := 7) [go_sem]; done) | (simp (maxDischargeDepth := 7) [go_sem, *]; done))
          try have hg1_0 : ∀ o, w1.frozen? ⟨w.heap.size, o, none⟩ = false := by intro o; rw [hb]; first | (simp (maxDischargeDepth := 7) [go_sem]; done) | (simp (maxDischargeDepth := 7) [go_sem, *]; done)
          clear ha hb
          refine kuz (b := w.heap.size + 1) hk1 (by first | (simp; done) | (simp; omega) | omega) ?_
          intro ha hb hz1_1 hn1_1 hm1_1
          have hf1_1_0 : w1.cell? ⟨w.heap.size + 1, 0, none⟩ = some (.int .i64 ma) := (ha _).trans (by first | with_reducible assumption | (simp (maxDischargeDepth := 7) [go_sem]; done) | (simp (maxDischargeDepth := 7) [go_sem, *]; done))
          have hf1_1_1 : w1.cell? ⟨w.heap.size + 1, 1, none⟩ = some (.int .i64 mo) := (ha _).trans (by first | with_reducible assumption | (simp (maxDischargeDepth := 7) [go_sem]; done) | (simp (maxDischargeDepth := 7) [go_sem, *]; done))
          try have hg1_1 : ∀ o, w1.frozen? ⟨w.heap.size + 1, o, none⟩ = false := by intro o; rw [hb]; first | (simp (maxDischargeDepth := 7) [go_sem]; done) | (simp (maxDischargeDepth := 7) [go_sem, *]; done)
          clear ha hb
          refine kuz (b := w.heap.size + 2) hk1 (by first | (simp; done) | (simp; omega) | omega) ?_
          intro ha hb hz1_2 hn1_2 hm1_2
          have hf1_2_0 : w1.cell? ⟨w.heap.size + 2, 0, none⟩ = some (.int .i64 X) := (ha _).trans (by first | with_reducible assumption | (simp (maxDischargeDepth := 7) [go_sem]; done) | (simp (maxDischargeDepth := 7) [go_sem, *]; done))
          have hf1_2_1 : w1.cell? ⟨w.heap.size + 2, 1, none⟩ = some (.int .i64 Y) := (ha _).trans (by first | with_reducible assumption | (simp (maxDischargeDepth := 7) [go_sem]; done) | (simp (maxDischargeDepth := 7) [go_sem, *]; done))
          try have hg1_2 : ∀ o, w1.frozen? ⟨w.heap.size + 2, o, none⟩ = false := by intro o; rw [hb]; first | (simp (maxDischargeDepth := 7) [go_sem]; done) | (simp (maxDischargeDepth := 7) [go_sem, *]; done)
          clear ha hb
          go_wp2_with fail
          with_reducible refine (Hm1.out _).mono ?_
          rintro e w2 ⟨rfl, hk2⟩
          refine kuz (b := w.heap.size) hk2 (by first | (simp; done) | (simp; omega) | omega) ?_
          intro ha hb hz2_0 hn2_0 hm2_0
          have hf2_0_0 : w2.cell? ⟨w.heap.size, 0, none⟩ = some (.int .i64 la) := (ha _).trans (by first | with_reducible assumption | (simp (maxDischargeDepth := 7) [go_sem]; done) | (simp (maxDischargeDepth := 7) [go_sem, *]; done))
          have hf2_0_1 : w2.cell? ⟨w.heap.size, 1, none⟩ = some (.int .i64 lo) := (ha _).trans (by first | with_reducible assumption | (simp (maxDischargeDepth := 7) [go_sem]; done) | (simp (maxDischargeDepth := 7) [go_sem, *]; done))
          try have hg2_0 : ∀ o, w2.frozen? ⟨w.heap.size, o, none⟩ = false := by intro o; rw [hb]; first | (simp (maxDischargeDepth := 7) [go_sem]; done) | (simp (maxDischargeDepth := 7) [go_sem, *]; done)
          clear ha hb
          refine kuz (b := w.heap.size + 1) hk2 (by first | (simp; done) | (simp; omega) | omega) ?_
          intro ha hb hz2_1 hn2_1 hm2_1
          have hf2_1_0 : w2.cell? ⟨w.heap.size + 1, 0, none⟩ = some (.int .i64 ma) := (ha _).trans (by first | with_reducible assumption | (simp (maxDischargeDepth := 7) [go_sem]; done) | (simp (maxDischargeDepth := 7) [go_sem, *]; done))
          have hf2_1_1 : w2.cell? ⟨w.heap.size + 1, 1, none⟩ = some (.int .i64 mo) := (ha _).trans (by first | with_reducible assumption | (simp (maxDischargeDepth := 7) [go_sem]; done) | (simp (maxDischargeDepth := 7) [go_sem, *]; done))
          try have hg2_1 : ∀ o, w2.frozen? ⟨w.heap.size + 1, o, none⟩ = false := by intro o; rw [hb]; first | (simp (maxDischargeDepth := 7) [go_sem]; done) | (simp (maxDischargeDepth := 7) [go_sem, *]; done)
          clear ha hb
          refine kuz (b := w.heap.size + 2) hk2 (by first | (simp; done) | (simp; omega) | omega) ?_
          intro ha hb hz2_2 hn2_2 hm2_2
          have hf2_2_0 : w2.cell? ⟨w.heap.size + 2, 0, none⟩ = some (.int .i64 X) := (ha _).trans (by first | with_reducible assumption | (simp (maxDischargeDepth := 7) [go_sem]; done) | (simp (maxDischargeDepth := 7) [go_sem, *]; done))
          have hf2_2_1 : w2.cell? ⟨w.heap.size + 2, 1, none⟩ = some (.int .i64 Y) := (ha _).trans (by first | with_reducible assumption | (simp (maxDischargeDepth := 7) [go_sem]; done) | (simp (maxDischargeDepth := 7) [go_sem, *]; done))
          try have hg2_2 : ∀ o, w2.frozen? ⟨w.heap.size + 2, o, none⟩ = false := by intro o; rw [hb]; first | (simp (maxDischargeDepth := 7) [go_sem]; done) | (simp (maxDischargeDepth := 7) [go_sem, *]; done)
          clear ha hb
          (try clear hf1_0_0); (try clear hf1_0_1); (try clear hf1_1_0); (try clear hf1_1_1); (try clear hf1_2_0); (try clear hf1_2_1); (try clear hg1_0); (try clear hg1_1); (try clear hg1_2); (try clear hz1_1); (try clear hz1_2)
          go_wp2_with fail
          with_reducible refine (pv_ok X Y hp _).mono ?_
          rintro e w3 ⟨rfl, hk3⟩
          refine kuz (b := w.heap.size) hk3 (by first | (simp; done) | (simp; omega) | omega) ?_
          intro ha hb hz3_0 hn3_0 hm3_0
          have hf3_0_0 : w3.cell? ⟨w.heap.size, 0, none⟩ = some (.int .i64 la) := (ha _).trans (by first | with_reducible assumption | (simp (maxDischargeDepth := 7) [go_sem]; done) | (simp (maxDischargeDepth := 7) [go_sem, *]; done))
          have hf3_0_1 : w3.cell? ⟨w.heap.size, 1, none⟩ = some (.int .i64 lo) := (ha _).trans (by first | with_reducible assumption | (simp (maxDischargeDepth := 7) [go_sem]; done) | (simp (maxDischargeDepth := 7) [go_sem, *]; done))
          try have hg3_0 : ∀ o, w3.frozen? ⟨w.heap.size, o, none⟩ = false := by intro o; rw [hb]; first | (simp (maxDischargeDepth := 7) [go_sem]; done) | (simp (maxDischargeDepth := 7) [go_sem, *]; done)
          clear ha hb
          refine kuz (b := w.heap.size + 1) hk3 (by first | (simp; done) | (simp; omega) | omega) ?_
          intro ha hb hz3_1 hn3_1 hm3_1
          have hf3_1_0 : w3.cell? ⟨w.heap.size + 1, 0, none⟩ = some (.int .i64 ma) := (ha _).trans (by first | with_reducible assumption | (simp (maxDischargeDepth := 7) [go_sem]; done) | (simp (maxDischargeDepth := 7) [go_sem, *]; done))
          have hf3_1_1 : w3.cell? ⟨w.heap.size + 1, 1, none⟩ = some (.int .i64 mo) := (ha _).trans (by first | with_reducible assumption | (simp (maxDischargeDepth := 7) [go_sem]; done) | (simp (maxDischargeDepth := 7) [go_sem, *]; done))
          try have hg3_1 : ∀ o, w3.frozen? ⟨w.heap.size + 1, o, none⟩ = false := by intro o; rw [hb]; first | (simp (maxDischargeDepth := 7) [go_sem]; done) | (simp (maxDischargeDepth := 7) [go_sem, *]; done)
          clear ha hb
          refine kuz (b := w.heap.size + 2) hk3 (by first | (simp; done) | (simp; omega) | omega) ?_
          intro ha hb hz3_2 hn3_2 hm3_2
          have hf3_2_0 : w3.cell? ⟨w.heap.size + 2, 0, none⟩ = some (.int .i64 X) := (ha _).trans (by first | with_reducible assumption | (simp (maxDischargeDepth := 7) [go_sem]; done) | (simp (maxDischargeDepth := 7) [go_sem, *]; done))
          have hf3_2_1 : w3.cell? ⟨w.heap.size + 2, 1, none⟩ = some (.int .i64 Y) := (ha _).trans (by first | with_reducible assumption | (simp (maxDischargeDepth := 7) [go_sem]; done) | (simp (maxDischargeDepth := 7) [go_sem, *]; done))
          try have hg3_2 : ∀ o, w3.frozen? ⟨w.heap.size + 2, o, none⟩ = false := by intro o; rw [hb]; first | (simp (maxDischargeDepth := 7) [go_sem]; done) | (simp (maxDischargeDepth := 7) [go_sem, *]; done)
          clear ha hb
          refine kuz (b := w2.heap.size) hk3 (by first | (simp; done) | (simp; omega) | omega) ?_
          intro ha hb hz3_3 hn3_3 hm3_3
          have hf3_3_0 : w3.cell? ⟨w2.heap.size, 0, none⟩ = some (.int .i64 G) := (ha _).trans (by first | with_reducible assumption | (simp (maxDischargeDepth := 7) [go_sem]; done) | (simp (maxDischargeDepth := 7) [go_sem, *]; done))
          have hf3_3_1 : w3.cell? ⟨w2.heap.size, 1, none⟩ = some (.int .i64 H) := (ha _).trans (by first | with_reducible assumption | (simp (maxDischargeDepth := 7) [go_sem]; done) | (simp (maxDischargeDepth := 7) [go_sem, *]; done))
          try have hg3_3 : ∀ o, w3.frozen? ⟨w2.heap.size, o, none⟩ = false := by intro o; rw [hb]; first | (simp (maxDischargeDepth := 7) [go_sem]; done) | (simp (maxDischargeDepth := 7) [go_sem, *]; done)
          clear ha hb
          (try clear hf2_0_0); (try clear hf2_0_1); (try clear hf2_1_0); (try clear hf2_1_1); (try clear hf2_2_0); (try clear hf2_2_1); (try clear hg2_0); (try clear hg2_1); (try clear hg2_2); (try clear hz2_1); (try clear hz2_2)
          go_wp2_with fail
          with_reducible refine (to_badq la lo la0 la1 lo0 lo1 ma mo hqb _).mono ?_
          rintro e w4 ⟨rfl, hk4⟩
          refine kuz (b := w.heap.size) hk4 (by first | (simp; done) | (simp; omega) | omega) ?_
          intro ha hb hz4_0 hn4_0 hm4_0
          have hf4_0_0 : w4.cell? ⟨w.heap.size, 0, none⟩ = some (.int .i64 la) := (ha _).trans (by first | with_reducible assumption | (simp (maxDischargeDepth := 7) [go_sem]; done) | (simp (maxDischargeDepth := 7) [go_sem, *]; done))
          have hf4_0_1 : w4.cell? ⟨w.heap.size, 1, none⟩ = some (.int .i64 lo) := (ha _).trans (by first | with_reducible assumption | (simp (maxDischargeDepth := 7) [go_sem]; done) | (simp (maxDischargeDepth := 7) [go_sem, *]; done))
          try have hg4_0 : ∀ o, w4.frozen? ⟨w.heap.size, o, none⟩ = false := by intro o; rw [hb]; first | (simp (maxDischargeDepth := 7) [go_sem]; done) | (simp (maxDischargeDepth := 7) [go_sem, *]; done)
          clear ha hb
          refine kuz (b := w.heap.size + 1) hk4 (by first | (simp; done) | (simp; omega) | omega) ?_
          intro ha hb hz4_1 hn4_1 hm4_1
          have hf4_1_0 : w4.cell? ⟨w.heap.size + 1, 0, none⟩ = some (.int .i64 ma) := (ha _).trans (by first | with_reducible assumption | (simp (maxDischargeDepth := 7) [go_sem]; done) | (simp (maxDischargeDepth := 7) [go_sem, *]; done))
          have hf4_1_1 : w4.cell? ⟨w.heap.size + 1, 1, none⟩ = some (.int .i64 mo) := (ha _).trans (by first | with_reducible assumption | (simp (maxDischargeDepth := 7) [go_sem]; done) | (simp (maxDischargeDepth := 7) [go_sem, *]; done))
          try have hg4_1 : ∀ o, w4.frozen? ⟨w.heap.size + 1, o, none⟩ = false := by intro o; rw [hb]; first | (simp (maxDischargeDepth := 7) [go_sem]; done) | (simp (maxDischargeDepth := 7) [go_sem, *]; done)
          clear ha hb
          refine kuz (b := w.heap.size + 2) hk4 (by first | (simp; done) | (simp; omega) | omega) ?_
          intro ha hb hz4_2 hn4_2 hm4_2
          have hf4_2_0 : w4.cell? ⟨w.heap.size + 2, 0, none⟩ = some (.int .i64 X) := (ha _).trans (by first | with_reducible assumption | (simp (maxDischargeDepth := 7) [go_sem]; done) | (simp (maxDischargeDepth := 7) [go_sem, *]; done))
          have hf4_2_1 : w4.cell? ⟨w.heap.size + 2, 1, none⟩ = some (.int .i64 Y) := (ha _).trans (by first | with_reducible assumption | (simp (maxDischargeDepth := 7) [go_sem]; done) | (simp (maxDischargeDepth := 7) [go_sem, *]; done))
          try have hg4_2 : ∀ o, w4.frozen? ⟨w.heap.size + 2, o, none⟩ = false := by intro o; rw [hb]; first | (simp (maxDischargeDepth := 7) [go_sem]; done) | (simp (maxDischargeDepth := 7) [go_sem, *]; done)
          clear ha hb
          refine kuz (b := w2.heap.size) hk4 (by first | (simp; done) | (simp; omega) | omega) ?_
          intro ha hb hz4_3 hn4_3 hm4_3
          have hf4_3_0 : w4.cell? ⟨w2.heap.size, 0, none⟩ = some (.int .i64 G) := (ha _).trans (by first | with_reducible assumption | (simp (maxDischargeDepth := 7) [go_sem]; done) | (simp (maxDischargeDepth := 7) [go_sem, *]; done))
          have hf4_3_1 : w4.cell? ⟨w2.heap.size, 1, none⟩ = some (.int .i64 H) := (ha _).trans (by first | with_reducible assumption | (simp (maxDischargeDepth := 7) [go_sem]; done) | (simp (maxDischargeDepth := 7) [go_sem, *]; done))
          try have hg4_3 : ∀ o, w4.frozen? ⟨w2.heap.size, o, none⟩ = false := by intro o; rw [hb]; first | (simp (maxDischargeDepth := 7) [go_sem]; done) | (simp (maxDischargeDepth := 7) [go_sem, *]; done)
          clear ha hb
          (try clear hf3_0_0); (try clear hf3_0_1); (try clear hf3_1_0); (try clear hf3_1_1); (try clear hf3_2_0); (try clear hf3_2_1); (try clear hf3_3_0); (try clear hf3_3_1); (try clear hg3_0); (try clear hg3_1); (try clear hg3_2); (try clear hg3_3); (try clear hz3_1); (try clear hz3_2); (try clear hz3_3)
          go_wp2_with fail
          with_reducible refine (pv_ok 0 0 rfl _).mono ?_
          rintro e w5 ⟨rfl, hk5⟩
          refine kuz (b := w.heap.size) hk5 (by first | (simp; done) | (simp; omega) | omega) ?_
          intro ha hb hz5_0 hn5_0 hm5_0
          have hf5_0_0 : w5.cell? ⟨w.heap.size, 0, none⟩ = some (.int .i64 la) := (ha _).trans (by first | with_reducible assumption | (simp (maxDischargeDepth := 7) [go_sem]; done) | (simp (maxDischargeDepth := 7) [go_sem, *]; done))
          have hf5_0_1 : w5.cell? ⟨w.heap.size, 1, none⟩ = some (.int .i64 lo) := (ha _).trans (by first | with_reducible assumption | (simp (maxDischargeDepth := 7) [go_sem]; done) | (simp (maxDischargeDepth := 7) [go_sem, *]; done))
          try have hg5_0 : ∀ o, w5.frozen? ⟨w.heap.size, o, none⟩ = false := by intro o; rw [hb]; first | (simp (maxDischargeDepth := 7) [go_sem]; done) | (simp (maxDischargeDepth := 7) [go_sem, *]; done)
          clear ha hb
          refine kuz (b := w.heap.size + 1) hk5 (by first | (simp; done) | (simp; omega) | omega) ?_
          intro ha hb hz5_1 hn5_1 hm5_1
          have hf5_1_0 : w5.cell? ⟨w.heap.size + 1, 0, none⟩ = some (.int .i64 ma) := (ha _).trans (by first | with_reducible assumption | (simp (maxDischargeDepth := 7) [go_sem]; done) | (simp (maxDischargeDepth := 7) [go_sem, *]; done))
          have hf5_1_1 : w5.cell? ⟨w.heap.size + 1, 1, none⟩ = some (.int .i64 mo) := (ha _).trans (by first | with_reducible assumption | (simp (maxDischargeDepth := 7) [go_sem]; done) | (simp (maxDischargeDepth := 7) [go_sem, *]; done))
          try have hg5_1 : ∀ o, w5.frozen? ⟨w.heap.size + 1, o, none⟩ = false := by intro o; rw [hb]; first | (simp (maxDischargeDepth := 7) [go_sem]; done) | (simp (maxDischargeDepth := 7) [go_sem, *]; done)
          clear ha hb
          refine kuz (b := w.heap.size + 2) hk5 (by first | (simp; done) | (simp; omega) | omega) ?_
          intro ha hb hz5_2 hn5_2 hm5_2
          have hf5_2_0 : w5.cell? ⟨w.heap.size + 2, 0, none⟩ = some (.int .i64 X) := (ha _).trans (by first | with_reducible assumption | (simp (maxDischargeDepth := 7) [go_sem]; done) | (simp (maxDischargeDepth := 7) [go_sem, *]; done))
          have hf5_2_1 : w5.cell? ⟨w.heap.size + 2, 1, none⟩ = some (.int .i64 Y) := (ha _).trans (by first | with_reducible assumption | (simp (maxDischargeDepth := 7) [go_sem]; done) | (simp (maxDischargeDepth := 7) [go_sem, *]; done))
          try have hg5_2 : ∀ o, w5.frozen? ⟨w.heap.size + 2, o, none⟩ = false := by intro o; rw [hb]; first | (simp (maxDischargeDepth := 7) [go_sem]; done) | (simp (maxDischargeDepth := 7) [go_sem, *]; done)
          clear ha hb
          refine kuz (b := w2.heap.size) hk5 (by first | (simp; done) | (simp; omega) | omega) ?_
          intro ha hb hz5_3 hn5_3 hm5_3
          have hf5_3_0 : w5.cell? ⟨w2.heap.size, 0, none⟩ = some (.int .i64 G) := (ha _).trans (by first | with_reducible assumption | (simp (maxDischargeDepth := 7) [go_sem]; done) | (simp (maxDischargeDepth := 7) [go_sem, *]; done))
          have hf5_3_1 : w5.cell? ⟨w2.heap.size, 1, none⟩ = some (.int .i64 H) := (ha _).trans (by first | with_reducible assumption | (simp (maxDischargeDepth := 7) [go_sem]; done) | (simp (maxDischargeDepth := 7) [go_sem, *]; done))
          try have hg5_3 : ∀ o, w5.frozen? ⟨w2.heap.size, o, none⟩ = false := by intro o; rw [hb]; first | (simp (maxDischargeDepth := 7) [go_sem]; done) | (simp (maxDischargeDepth := 7) [go_sem, *]; done)
          clear ha hb
          refine kuz (b := w4.heap.size) hk5 (by first | (simp; done) | (simp; omega) | omega) ?_
          intro ha hb hz5_4 hn5_4 hm5_4
          have hf5_4_0 : w5.cell? ⟨w4.heap.size, 0, none⟩ = some (.int .i64 0) := (ha _).trans (by first | with_reducible assumption | (simp (maxDischargeDepth := 7) [go_sem]; done) | (simp (maxDischargeDepth := 7) [go_sem, *]; done))
          have hf5_4_1 : w5.cell? ⟨w4.heap.size, 1, none⟩ = some (.int .i64 0) := (ha _).trans (by first | with_reducible assumption | (simp (maxDischargeDepth := 7) [go_sem]; done) | (simp (maxDischargeDepth := 7) [go_sem, *]; done))
          try have hg5_4 : ∀ o, w5.frozen? ⟨w4.heap.size, o, none⟩ = false := by intro o; rw [hb]; first | (simp (maxDischargeDepth := 7) [go_sem]; done) | (simp (maxDischargeDepth := 7) [go_sem, *]; done)
          clear ha hb
          (try clear hf4_0_0); (try clear hf4_0_1); (try clear hf4_1_0); (try clear hf4_1_1); (try clear hf4_2_0); (try clear hf4_2_1); (try clear hf4_3_0); (try clear hf4_3_1); (try clear hg4_0); (try clear hg4_1); (try clear hg4_2); (try clear hg4_3); (try clear hz4_1); (try clear hz4_2); (try clear hz4_3)
          go_wp2_with fail
          all_goals first | (go_ret; refine ⟨?_, (by repeat (first | with_reducible exact Kept.refl _ | with_reducible assumption | with_reducible refine Kept.setCell ?_ (by first | (simp; done) | (simp; omega) | omega) _ | with_reducible refine Kept.alloc ?_ _ | with_reducible refine Kept.drewN ?_ _ | with_reducible refine Kept.drew ?_ | with_reducible refine Kept.trans ?_ (by with_reducible assumption) | with_reducible refine Kept.dr ?_ (by with_reducible assumption)))⟩; first | rfl | (refine retb ?_; simp; done) | (refine retb ?_; simp; omega)) | (exfalso; omega)

      · by_cases hq : -32400000 ≤ ma ∧ ma ≤ 32400000 ∧ -64800000 < mo ∧ mo ≤ 64800000
        · obtain ⟨ma0, ma1, mo0, mo1⟩ := hq
          rcases pj_cases (lcE la lo (uX ma mo) (uY ma mo) (uZ ma mo)) (lcN la lo (uX ma mo) (uY ma mo) (uZ ma mo)) (lcU la lo (uX ma mo) (uY ma mo) (uZ ma mo)) with hE | hE
          · have EQ := fun w => peqP_yes 0 0 w
            have EQQ := fun w => peqQ_yes 0 0 w
            have m1 := fun w => from_ok la lo la0 la1 lo0 lo1 X Y hp w
            have e0 : psE (frX la lo X Y) (frY la lo X Y) (frZ la lo Y) = 1 := by unfold psE; rw [if_neg hs]
            have e1 : psLa (frX la lo X Y) (frY la lo X Y) (frZ la lo Y) = 0 := by unfold psLa; rw [if_neg hs]
            have e2 : psLo (frX la lo X Y) (frY la lo X Y) (frZ la lo Y) = 0 := by unfold psLo; rw [if_neg hs]
            rw [e0, e1, e2] at m1
            clear e0 e1 e2
            clear hs
            have Hm1 := Lib.hid m1
            clear m1
            have m2 := fun w => to_ok la lo la0 la1 lo0 lo1 ma mo ma0 ma1 mo0 mo1 w
            obtain ⟨hE1, hE2⟩ := hE
            rw [hE1] at m2
            generalize pjX (lcE la lo (uX ma mo) (uY ma mo) (uZ ma mo)) (lcN la lo (uX ma mo) (uY ma mo) (uZ ma mo)) (lcU la lo (uX ma mo) (uY ma mo) (uZ ma mo)) = XX at *
            generalize pjY (lcE la lo (uX ma mo) (uY ma mo) (uZ ma mo)) (lcN la lo (uX ma mo) (uY ma mo) (uZ ma mo)) (lcU la lo (uX ma mo) (uY ma mo) (uZ ma mo)) = YY at *
            clear hE1
            have Hm2 := Lib.hid m2
            clear m2
            go_enter Try.func10, Try.ntmps10
            go_wp2_with fail
            with_reducible refine (awake_w _).mono ?_
            rintro e w1 ⟨rfl, hk1⟩
            refine kuz (b := w.heap.size) hk1 (by first | (simp; done) | (simp; omega) | omega) ?_
            intro ha hb hz1_0 hn1_0 hm1_0
            have hf1_0_0 : w1.cell? ⟨w.heap.size, 0, none⟩ = some (.int .i64 la) := (ha _).trans (by first | with_reducible assumption | (simp (maxDischargeDepth := 7) [go_sem]; done) | (simp (maxDischargeDepth := 7) [go_sem, *]; done))
            have hf1_0_1 : w1.cell? ⟨w.heap.size, 1, none⟩ = some (.int .i64 lo) := (ha _).trans (by first | with_reducible assumption | (simp (maxDischargeDepth := 7) [go_sem]; done) | (simp (maxDischargeDepth := 7) [go_sem, *]; done))
            try have hg1_0 : ∀ o, w1.frozen? ⟨w.heap.size, o, none⟩ = false := by intro o; rw [hb]; first | (simp (maxDischargeDepth := 7) [go_sem]; done) | (simp (maxDischargeDepth := 7) [go_sem, *]; done)
            clear ha hb
            refine kuz (b := w.heap.size + 1) hk1 (by first | (simp; done) | (simp; omega) | omega) ?_
            intro ha hb hz1_1 hn1_1 hm1_1
            have hf1_1_0 : w1.cell? ⟨w.heap.size + 1, 0, none⟩ = some (.int .i64 ma) := (ha _).trans (by first | with_reducible assumption | (simp (maxDischargeDepth := 7) [go_sem]; done) | (simp (maxDischargeDepth := 7) [go_sem, *]; done))
            have hf1_1_1 : w1.cell? ⟨w.heap.size + 1, 1, none⟩ = some (.int .i64 mo) := (ha _).trans (by first | with_reducible assumption | (simp (maxDischargeDepth := 7) [go_sem]; done) | (simp (maxDischargeDepth := 7) [go_sem, *]; done))
            try have hg1_1 : ∀ o, w1.frozen? ⟨w.heap.size + 1, o, none⟩ = false := by intro o; rw [hb]; first | (simp (maxDischargeDepth := 7) [go_sem]; done) | (simp (maxDischargeDepth := 7) [go_sem, *]; done)
            clear ha hb
            refine kuz (b := w.heap.size + 2) hk1 (by first | (simp; done) | (simp; omega) | omega) ?_
            intro ha hb hz1_2 hn1_2 hm1_2
            have hf1_2_0 : w1.cell? ⟨w.heap.size + 2, 0, none⟩ = some (.int .i64 X) := (ha _).trans (by first | with_reducible assumption | (simp (maxDischargeDepth := 7) [go_sem]; done) | (simp (maxDischargeDepth := 7) [go_sem, *]; done))
            have hf1_2_1 : w1.cell? ⟨w.heap.size + 2, 1, none⟩ = some (.int .i64 Y) := (ha _).trans (by first | with_reducible assumption | (simp (maxDischargeDepth := 7) [go_sem]; done) | (simp (maxDischargeDepth := 7) [go_sem, *]; done))
            try have hg1_2 : ∀ o, w1.frozen? ⟨w.heap.size + 2, o, none⟩ = false := by intro o; rw [hb]; first | (simp (maxDischargeDepth := 7) [go_sem]; done) | (simp (maxDischargeDepth := 7) [go_sem, *]; done)
            clear ha hb
            go_wp2_with fail
            with_reducible refine (Hm1.out _).mono ?_
            rintro e w2 ⟨rfl, hk2⟩
            refine kuz (b := w.heap.size) hk2 (by first | (simp; done) | (simp; omega) | omega) ?_
            intro ha hb hz2_0 hn2_0 hm2_0
            have hf2_0_0 : w2.cell? ⟨w.heap.size, 0, none⟩ = some (.int .i64 la) := (ha _).trans (by first | with_reducible assumption | (simp (maxDischargeDepth := 7) [go_sem]; done) | (simp (maxDischargeDepth := 7) [go_sem, *]; done))
            have hf2_0_1 : w2.cell? ⟨w.heap.size, 1, none⟩ = some (.int .i64 lo) := (ha _).trans (by first | with_reducible assumption | (simp (maxDischargeDepth := 7) [go_sem]; done) | (simp (maxDischargeDepth := 7) [go_sem, *]; done))
            try have hg2_0 : ∀ o, w2.frozen? ⟨w.heap.size, o, none⟩ = false := by intro o; rw [hb]; first | (simp (maxDischargeDepth := 7) [go_sem]; done) | (simp (maxDischargeDepth := 7) [go_sem, *]; done)
            clear ha hb
            refine kuz (b := w.heap.size + 1) hk2 (by first | (simp; done) | (simp; omega) | omega) ?_
            intro ha hb hz2_1 hn2_1 hm2_1
            have hf2_1_0 : w2.cell? ⟨w.heap.size + 1, 0, none⟩ = some (.int .i64 ma) := (ha _).trans (by first | with_reducible assumption | (simp (maxDischargeDepth := 7) [go_sem]; done) | (simp (maxDischargeDepth := 7) [go_sem, *]; done))
            have hf2_1_1 : w2.cell? ⟨w.heap.size + 1, 1, none⟩ = some (.int .i64 mo) := (ha _).trans (by first | with_reducible assumption | (simp (maxDischargeDepth := 7) [go_sem]; done) | (simp (maxDischargeDepth := 7) [go_sem, *]; done))
            try have hg2_1 : ∀ o, w2.frozen? ⟨w.heap.size + 1, o, none⟩ = false := by intro o; rw [hb]; first | (simp (maxDischargeDepth := 7) [go_sem]; done) | (simp (maxDischargeDepth := 7) [go_sem, *]; done)
            clear ha hb
            refine kuz (b := w.heap.size + 2) hk2 (by first | (simp; done) | (simp; omega) | omega) ?_
            intro ha hb hz2_2 hn2_2 hm2_2
            have hf2_2_0 : w2.cell? ⟨w.heap.size + 2, 0, none⟩ = some (.int .i64 X) := (ha _).trans (by first | with_reducible assumption | (simp (maxDischargeDepth := 7) [go_sem]; done) | (simp (maxDischargeDepth := 7) [go_sem, *]; done))
            have hf2_2_1 : w2.cell? ⟨w.heap.size + 2, 1, none⟩ = some (.int .i64 Y) := (ha _).trans (by first | with_reducible assumption | (simp (maxDischargeDepth := 7) [go_sem]; done) | (simp (maxDischargeDepth := 7) [go_sem, *]; done))
            try have hg2_2 : ∀ o, w2.frozen? ⟨w.heap.size + 2, o, none⟩ = false := by intro o; rw [hb]; first | (simp (maxDischargeDepth := 7) [go_sem]; done) | (simp (maxDischargeDepth := 7) [go_sem, *]; done)
            clear ha hb
            (try clear hf1_0_0); (try clear hf1_0_1); (try clear hf1_1_0); (try clear hf1_1_1); (try clear hf1_2_0); (try clear hf1_2_1); (try clear hg1_0); (try clear hg1_1); (try clear hg1_2); (try clear hz1_1); (try clear hz1_2)
            go_wp2_with fail
            with_reducible refine (Hm2.out _).mono ?_
            rintro e w3 ⟨rfl, hk3⟩
            refine kuz (b := w.heap.size) hk3 (by first | (simp; done) | (simp; omega) | omega) ?_
            intro ha hb hz3_0 hn3_0 hm3_0
            have hf3_0_0 : w3.cell? ⟨w.heap.size, 0, none⟩ = some (.int .i64 la) := (ha _).trans (by first | with_reducible assumption | (simp (maxDischargeDepth := 7) [go_sem]; done) | (simp (maxDischargeDepth := 7) [go_sem, *]; done))
            have hf3_0_1 : w3.cell? ⟨w.heap.size, 1, none⟩ = some (.int .i64 lo) := (ha _).trans (by first | with_reducible assumption | (simp (maxDischargeDepth := 7) [go_sem]; done) | (simp (maxDischargeDepth := 7) [go_sem, *]; done))
            try have hg3_0 : ∀ o, w3.frozen? ⟨w.heap.size, o, none⟩ = false := by intro o; rw [hb]; first | (simp (maxDischargeDepth := 7) [go_sem]; done) | (simp (maxDischargeDepth := 7) [go_sem, *]; done)
            clear ha hb
            refine kuz (b := w.heap.size + 1) hk3 (by first | (simp; done) | (simp; omega) | omega) ?_
            intro ha hb hz3_1 hn3_1 hm3_1
            have hf3_1_0 : w3.cell? ⟨w.heap.size + 1, 0, none⟩ = some (.int .i64 ma) := (ha _).trans (by first | with_reducible assumption | (simp (maxDischargeDepth := 7) [go_sem]; done) | (simp (maxDischargeDepth := 7) [go_sem, *]; done))
            have hf3_1_1 : w3.cell? ⟨w.heap.size + 1, 1, none⟩ = some (.int .i64 mo) := (ha _).trans (by first | with_reducible assumption | (simp (maxDischargeDepth := 7) [go_sem]; done) | (simp (maxDischargeDepth := 7) [go_sem, *]; done))
            try have hg3_1 : ∀ o, w3.frozen? ⟨w.heap.size + 1, o, none⟩ = false := by intro o; rw [hb]; first | (simp (maxDischargeDepth := 7) [go_sem]; done) | (simp (maxDischargeDepth := 7) [go_sem, *]; done)
            clear ha hb
            refine kuz (b := w.heap.size + 2) hk3 (by first | (simp; done) | (simp; omega) | omega) ?_
            intro ha hb hz3_2 hn3_2 hm3_2
            have hf3_2_0 : w3.cell? ⟨w.heap.size + 2, 0, none⟩ = some (.int .i64 X) := (ha _).trans (by first | with_reducible assumption | (simp (maxDischargeDepth := 7) [go_sem]; done) | (simp (maxDischargeDepth := 7) [go_sem, *]; done))
            have hf3_2_1 : w3.cell? ⟨w.heap.size + 2, 1, none⟩ = some (.int .i64 Y) := (ha _).trans (by first | with_reducible assumption | (simp (maxDischargeDepth := 7) [go_sem]; done) | (simp (maxDischargeDepth := 7) [go_sem, *]; done))
            try have hg3_2 : ∀ o, w3.frozen? ⟨w.heap.size + 2, o, none⟩ = false := by intro o; rw [hb]; first | (simp (maxDischargeDepth := 7) [go_sem]; done) | (simp (maxDischargeDepth := 7) [go_sem, *]; done)
            clear ha hb
            refine kuz (b := w2.heap.size) hk3 (by first | (simp; done) | (simp; omega) | omega) ?_
            intro ha hb hz3_3 hn3_3 hm3_3
            have hf3_3_0 : w3.cell? ⟨w2.heap.size, 0, none⟩ = some (.int .i64 0) := (ha _).trans (by first | with_reducible assumption | (simp (maxDischargeDepth := 7) [go_sem]; done) | (simp (maxDischargeDepth := 7) [go_sem, *]; done))
            have hf3_3_1 : w3.cell? ⟨w2.heap.size, 1, none⟩ = some (.int .i64 0) := (ha _).trans (by first | with_reducible assumption | (simp (maxDischargeDepth := 7) [go_sem]; done) | (simp (maxDischargeDepth := 7) [go_sem, *]; done))
            try have hg3_3 : ∀ o, w3.frozen? ⟨w2.heap.size, o, none⟩ = false := by intro o; rw [hb]; first | (simp (maxDischargeDepth := 7) [go_sem]; done) | (simp (maxDischargeDepth := 7) [go_sem, *]; done)
            clear ha hb
            (try clear hf2_0_0); (try clear hf2_0_1); (try clear hf2_1_0); (try clear hf2_1_1); (try clear hf2_2_0); (try clear hf2_2_1); (try clear hg2_0); (try clear hg2_1); (try clear hg2_2); (try clear hz2_1); (try clear hz2_2)
            go_wp2_with fail
            with_reducible refine (pv_ok XX YY hE2 _).mono ?_
            rintro e w4 ⟨rfl, hk4⟩
            refine kuz (b := w.heap.size) hk4 (by first | (simp; done) | (simp; omega) | omega) ?_
            intro ha hb hz4_0 hn4_0 hm4_0
            have hf4_0_0 : w4.cell? ⟨w.heap.size, 0, none⟩ = some (.int .i64 la) := (ha _).trans (by first | with_reducible assumption | (simp (maxDischargeDepth := 7) [go_sem]; done) | (simp (maxDischargeDepth := 7) [go_sem, *]; done))
            have hf4_0_1 : w4.cell? ⟨w.heap.size, 1, none⟩ = some (.int .i64 lo) := (ha _).trans (by first | with_reducible assumption | (simp (maxDischargeDepth := 7) [go_sem]; done) | (simp (maxDischargeDepth := 7) [go_sem, *]; done))
            try have hg4_0 : ∀ o, w4.frozen? ⟨w.heap.size, o, none⟩ = false := by intro o; rw [hb]; first | (simp (maxDischargeDepth := 7) [go_sem]; done) | (simp (maxDischargeDepth := 7) [go_sem, *]; done)
            clear ha hb
            refine kuz (b := w.heap.size + 1) hk4 (by first | (simp; done) | (simp; omega) | omega) ?_
            intro ha hb hz4_1 hn4_1 hm4_1
            have hf4_1_0 : w4.cell? ⟨w.heap.size + 1, 0, none⟩ = some (.int .i64 ma) := (ha _).trans (by first | with_reducible assumption | (simp (maxDischargeDepth := 7) [go_sem]; done) | (simp (maxDischargeDepth := 7) [go_sem, *]; done))
            have hf4_1_1 : w4.cell? ⟨w.heap.size + 1, 1, none⟩ = some (.int .i64 mo) := (ha _).trans (by first | with_reducible assumption | (simp (maxDischargeDepth := 7) [go_sem]; done) | (simp (maxDischargeDepth := 7) [go_sem, *]; done))
            try have hg4_1 : ∀ o, w4.frozen? ⟨w.heap.size + 1, o, none⟩ = false := by intro o; rw [hb]; first | (simp (maxDischargeDepth := 7) [go_sem]; done) | (simp (maxDischargeDepth := 7) [go_sem, *]; done)
            clear ha hb
            refine kuz (b := w.heap.size + 2) hk4 (by first | (simp; done) | (simp; omega) | omega) ?_
            intro ha hb hz4_2 hn4_2 hm4_2
            have hf4_2_0 : w4.cell? ⟨w.heap.size + 2, 0, none⟩ = some (.int .i64 X) := (ha _).trans (by first | with_reducible assumption | (simp (maxDischargeDepth := 7) [go_sem]; done) | (simp (maxDischargeDepth := 7) [go_sem, *]; done))
            have hf4_2_1 : w4.cell? ⟨w.heap.size + 2, 1, none⟩ = some (.int .i64 Y) := (ha _).trans (by first | with_reducible assumption | (simp (maxDischargeDepth := 7) [go_sem]; done) | (simp (maxDischargeDepth := 7) [go_sem, *]; done))
            try have hg4_2 : ∀ o, w4.frozen? ⟨w.heap.size + 2, o, none⟩ = false := by intro o; rw [hb]; first | (simp (maxDischargeDepth := 7) [go_sem]; done) | (simp (maxDischargeDepth := 7) [go_sem, *]; done)
            clear ha hb
            refine kuz (b := w2.heap.size) hk4 (by first | (simp; done) | (simp; omega) | omega) ?_
            intro ha hb hz4_3 hn4_3 hm4_3
            have hf4_3_0 : w4.cell? ⟨w2.heap.size, 0, none⟩ = some (.int .i64 0) := (ha _).trans (by first | with_reducible assumption | (simp (maxDischargeDepth := 7) [go_sem]; done) | (simp (maxDischargeDepth := 7) [go_sem, *]; done))
            have hf4_3_1 : w4.cell? ⟨w2.heap.size, 1, none⟩ = some (.int .i64 0) := (ha _).trans (by first | with_reducible assumption | (simp (maxDischargeDepth := 7) [go_sem]; done) | (simp (maxDischargeDepth := 7) [go_sem, *]; done))
            try have hg4_3 : ∀ o, w4.frozen? ⟨w2.heap.size, o, none⟩ = false := by intro o; rw [hb]; first | (simp (maxDischargeDepth := 7) [go_sem]; done) | (simp (maxDischargeDepth := 7) [go_sem, *]; done)
            clear ha hb
            refine kuz (b := w3.heap.size) hk4 (by first | (simp; done) | (simp; omega) | omega) ?_
            intro ha hb hz4_4 hn4_4 hm4_4
            have hf4_4_0 : w4.cell? ⟨w3.heap.size, 0, none⟩ = some (.int .i64 XX) := (ha _).trans (by first | with_reducible assumption | (simp (maxDischargeDepth := 7) [go_sem]; done) | (simp (maxDischargeDepth := 7) [go_sem, *]; done))
            have hf4_4_1 : w4.cell? ⟨w3.heap.size, 1, none⟩ = some (.int .i64 YY) := (ha _).trans (by first | with_reducible assumption | (simp (maxDischargeDepth := 7) [go_sem]; done) | (simp (maxDischargeDepth := 7) [go_sem, *]; done))
            try have hg4_4 : ∀ o, w4.frozen? ⟨w3.heap.size, o, none⟩ = false := by intro o; rw [hb]; first | (simp (maxDischargeDepth := 7) [go_sem]; done) | (simp (maxDischargeDepth := 7) [go_sem, *]; done)
            clear ha hb
            (try clear hf3_0_0); (try clear hf3_0_1); (try clear hf3_1_0); (try clear hf3_1_1); (try clear hf3_2_0); (try clear hf3_2_1); (try clear hf3_3_0); (try clear hf3_3_1); (try clear hg3_0); (try clear hg3_1); (try clear hg3_2); (try clear hg3_3); (try clear hz3_1); (try clear hz3_2); (try clear hz3_3)
            go_wp2_with fail
            with_reducible refine (valid_ok ma mo ma0 ma1 mo0 mo1 _).mono ?_
            rintro e w5 ⟨rfl, hk5⟩
            refine kuz (b := w.heap.size) hk5 (by first | (simp; done) | (simp; omega) | omega) ?_
            intro ha hb hz5_0 hn5_0 hm5_0
            have hf5_0_0 : w5.cell? ⟨w.heap.size, 0, none⟩ = some (.int .i64 la) := (ha _).trans (by first | with_reducible assumption | (simp (maxDischargeDepth := 7) [go_sem]; done) | (simp (maxDischargeDepth := 7) [go_sem, *]; done))
            have hf5_0_1 : w5.cell? ⟨w.heap.size, 1, none⟩ = some (.int .i64 lo) := (ha _).trans (by first | with_reducible assumption | (simp (maxDischargeDepth := 7) [go_sem]; done) | (simp (maxDischargeDepth := 7) [go_sem, *]; done))
            try have hg5_0 : ∀ o, w5.frozen? ⟨w.heap.size, o, none⟩ = false := by intro o; rw [hb]; first | (simp (maxDischargeDepth := 7) [go_sem]; done) | (simp (maxDischargeDepth := 7) [go_sem, *]; done)
            clear ha hb
            refine kuz (b := w.heap.size + 1) hk5 (by first | (simp; done) | (simp; omega) | omega) ?_
            intro ha hb hz5_1 hn5_1 hm5_1
            have hf5_1_0 : w5.cell? ⟨w.heap.size + 1, 0, none⟩ = some (.int .i64 ma) := (ha _).trans (by first | with_reducible assumption | (simp (maxDischargeDepth := 7) [go_sem]; done) | (simp (maxDischargeDepth := 7) [go_sem, *]; done))
            have hf5_1_1 : w5.cell? ⟨w.heap.size + 1, 1, none⟩ = some (.int .i64 mo) := (ha _).trans (by first | with_reducible assumption | (simp (maxDischargeDepth := 7) [go_sem]; done) | (simp (maxDischargeDepth := 7) [go_sem, *]; done))
            try have hg5_1 : ∀ o, w5.frozen? ⟨w.heap.size + 1, o, none⟩ = false := by intro o; rw [hb]; first | (simp (maxDischargeDepth := 7) [go_sem]; done) | (simp (maxDischargeDepth := 7) [go_sem, *]; done)
            clear ha hb
            refine kuz (b := w.heap.size + 2) hk5 (by first | (simp; done) | (simp; omega) | omega) ?_
            intro ha hb hz5_2 hn5_2 hm5_2
            have hf5_2_0 : w5.cell? ⟨w.heap.size + 2, 0, none⟩ = some (.int .i64 X) := (ha _).trans (by first | with_reducible assumption | (simp (maxDischargeDepth := 7) [go_sem]; done) | (simp (maxDischargeDepth := 7) [go_sem, *]; done))
            have hf5_2_1 : w5.cell? ⟨w.heap.size + 2, 1, none⟩ = some (.int .i64 Y) := (ha _).trans (by first | with_reducible assumption | (simp (maxDischargeDepth := 7) [go_sem]; done) | (simp (maxDischargeDepth := 7) [go_sem, *]; done))
            try have hg5_2 : ∀ o, w5.frozen? ⟨w.heap.size + 2, o, none⟩ = false := by intro o; rw [hb]; first | (simp (maxDischargeDepth := 7) [go_sem]; done) | (simp (maxDischargeDepth := 7) [go_sem, *]; done)
            clear ha hb
            refine kuz (b := w2.heap.size) hk5 (by first | (simp; done) | (simp; omega) | omega) ?_
            intro ha hb hz5_3 hn5_3 hm5_3
            have hf5_3_0 : w5.cell? ⟨w2.heap.size, 0, none⟩ = some (.int .i64 0) := (ha _).trans (by first | with_reducible assumption | (simp (maxDischargeDepth := 7) [go_sem]; done) | (simp (maxDischargeDepth := 7) [go_sem, *]; done))
            have hf5_3_1 : w5.cell? ⟨w2.heap.size, 1, none⟩ = some (.int .i64 0) := (ha _).trans (by first | with_reducible assumption | (simp (maxDischargeDepth := 7) [go_sem]; done) | (simp (maxDischargeDepth := 7) [go_sem, *]; done))
            try have hg5_3 : ∀ o, w5.frozen? ⟨w2.heap.size, o, none⟩ = false := by intro o; rw [hb]; first | (simp (maxDischargeDepth := 7) [go_sem]; done) | (simp (maxDischargeDepth := 7) [go_sem, *]; done)
            clear ha hb
            refine kuz (b := w3.heap.size) hk5 (by first | (simp; done) | (simp; omega) | omega) ?_
            intro ha hb hz5_4 hn5_4 hm5_4
            have hf5_4_0 : w5.cell? ⟨w3.heap.size, 0, none⟩ = some (.int .i64 XX) := (ha _).trans (by first | with_reducible assumption | (simp (maxDischargeDepth := 7) [go_sem]; done) | (simp (maxDischargeDepth := 7) [go_sem, *]; done))
            have hf5_4_1 : w5.cell? ⟨w3.heap.size, 1, none⟩ = some (.int .i64 YY) := (ha _).trans (by first | with_reducible assumption | (simp (maxDischargeDepth := 7) [go_sem]; done) | (simp (maxDischargeDepth := 7) [go_sem, *]; done))
            try have hg5_4 : ∀ o, w5.frozen? ⟨w3.heap.size, o, none⟩ = false := by intro o; rw [hb]; first | (simp (maxDischargeDepth := 7) [go_sem]; done) | (simp (maxDischargeDepth := 7) [go_sem, *]; done)
            clear ha hb
            (try clear hf4_0_0); (try clear hf4_0_1); (try clear hf4_1_0); (try clear hf4_1_1); (try clear hf4_2_0); (try clear hf4_2_1); (try clear hf4_3_0); (try clear hf4_3_1); (try clear hf4_4_0); (try clear hf4_4_1); (try clear hg4_0); (try clear hg4_1); (try clear hg4_2); (try clear hg4_3); (try clear hg4_4); (try clear hz4_1); (try clear hz4_2); (try clear hz4_3); (try clear hz4_4)
            all_goals go_wp2_with fail
            all_goals first | (go_ret; refine ⟨?_, (by repeat (first | with_reducible exact Kept.refl _ | with_reducible assumption | with_reducible refine Kept.setCell ?_ (by first | (simp; done) | (simp; omega) | omega) _ | with_reducible refine Kept.alloc ?_ _ | with_reducible refine Kept.drewN ?_ _ | with_reducible refine Kept.drew ?_ | with_reducible refine Kept.trans ?_ (by with_reducible assumption) | with_reducible refine Kept.dr ?_ (by with_reducible assumption)))⟩; first | rfl | (refine retb ?_; simp; done) | (refine retb ?_; simp; omega)) | (exfalso; omega)
          · have EQ := fun w => peqP_yes 0 0 w
            have EQQ := fun w => peqQ_yes 0 0 w
            have m1 := fun w => from_ok la lo la0 la1 lo0 lo1 X Y hp w
            have e0 : psE (frX la lo X Y) (frY la lo X Y) (frZ la lo Y) = 1 := by unfold psE; rw [if_neg hs]
            have e1 : psLa (frX la lo X Y) (frY la lo X Y) (frZ la lo Y) = 0 := by unfold psLa; rw [if_neg hs]
            have e2 : psLo (frX la lo X Y) (frY la lo X Y) (frZ la lo Y) = 0 := by unfold psLo; rw [if_neg hs]
            rw [e0, e1, e2] at m1
            clear e0 e1 e2
            clear hs
            have Hm1 := Lib.hid m1
            clear m1
            have m2 := fun w => to_ok la lo la0 la1 lo0 lo1 ma mo ma0 ma1 mo0 mo1 w
            rw [hE.1, hE.2.1, hE.2.2] at m2
            clear hE
            have Hm2 := Lib.hid m2
            clear m2
            go_enter Try.func10, Try.ntmps10
            go_wp2_with fail
            with_reducible refine (awake_w _).mono ?_
            rintro e w1 ⟨rfl, hk1⟩
            refine kuz (b := w.heap.size) hk1 (by first | (simp; done) | (simp; omega) | omega) ?_
            intro ha hb hz1_0 hn1_0 hm1_0
            have hf1_0_0 : w1.cell? ⟨w.heap.size, 0, none⟩ = some (.int .i64 la) := (ha _).trans (by first | with_reducible assumption | (simp (maxDischargeDepth := 7) [go_sem]; done) | (simp (maxDischargeDepth := 7) [go_sem, *]; done))
            have hf1_0_1 : w1.cell? ⟨w.heap.size, 1, none⟩ = some (.int .i64 lo) := (ha _).trans (by first | with_reducible assumption | (simp (maxDischargeDepth := 7) [go_sem]; done) | (simp (maxDischargeDepth := 7) [go_sem, *]; done))
            try have hg1_0 : ∀ o, w1.frozen? ⟨w.heap.size, o, none⟩ = false := by intro o; rw [hb]; first | (simp (maxDischargeDepth := 7) [go_sem]; done) | (simp (maxDischargeDepth := 7) [go_sem, *]; done)
            clear ha hb
            refine kuz (b := w.heap.size + 1) hk1 (by first | (simp; done) | (simp; omega) | omega) ?_
            intro ha hb hz1_1 hn1_1 hm1_1
            have hf1_1_0 : w1.cell? ⟨w.heap.size + 1, 0, none⟩ = some (.int .i64 ma) := (ha _).trans (by first | with_reducible assumption | (simp (maxDischargeDepth := 7) [go_sem]; done) | (simp (maxDischargeDepth := 7) [go_sem, *]; done))
            have hf1_1_1 : w1.cell? ⟨w.heap.size + 1, 1, none⟩ = some (.int .i64 mo) := (ha _).trans (by first | with_reducible assumption | (simp (maxDischargeDepth := 7) [go_sem]; done) | (simp (maxDischargeDepth := 7) [go_sem, *]; done))
            try have hg1_1 : ∀ o, w1.frozen? ⟨w.heap.size + 1, o, none⟩ = false := by intro o; rw [hb]; first | (simp (maxDischargeDepth := 7) [go_sem]; done) | (simp (maxDischargeDepth := 7) [go_sem, *]; done)
            clear ha hb
            refine kuz (b := w.heap.size + 2) hk1 (by first | (simp; done) | (simp; omega) | omega) ?_
            intro ha hb hz1_2 hn1_2 hm1_2
            have hf1_2_0 : w1.cell? ⟨w.heap.size + 2, 0, none⟩ = some (.int .i64 X) := (ha _).trans (by first | with_reducible assumption | (simp (maxDischargeDepth := 7) [go_sem]; done) | (simp (maxDischargeDepth := 7) [go_sem, *]; done))
            have hf1_2_1 : w1.cell? ⟨w.heap.size + 2, 1, none⟩ = some (.int .i64 Y) := (ha _).trans (by first | with_reducible assumption | (simp (maxDischargeDepth := 7) [go_sem]; done) | (simp (maxDischargeDepth := 7) [go_sem, *]; done))
            try have hg1_2 : ∀ o, w1.frozen? ⟨w.heap.size + 2, o, none⟩ = false := by intro o; rw [hb]; first | (simp (maxDischargeDepth := 7) [go_sem]; done) | (simp (maxDischargeDepth := 7) [go_sem, *]; done)
            clear ha hb
            go_wp2_with fail
            with_reducible refine (Hm1.out _).mono ?_
            rintro e w2 ⟨rfl, hk2⟩
            refine kuz (b := w.heap.size) hk2 (by first | (simp; done) | (simp; omega) | omega) ?_
            intro ha hb hz2_0 hn2_0 hm2_0
            have hf2_0_0 : w2.cell? ⟨w.heap.size, 0, none⟩ = some (.int .i64 la) := (ha _).trans (by first | with_reducible assumption | (simp (maxDischargeDepth := 7) [go_sem]; done) | (simp (maxDischargeDepth := 7) [go_sem, *]; done))
            have hf2_0_1 : w2.cell? ⟨w.heap.size, 1, none⟩ = some (.int .i64 lo) := (ha _).trans (by first | with_reducible assumption | (simp (maxDischargeDepth := 7) [go_sem]; done) | (simp (maxDischargeDepth := 7) [go_sem, *]; done))
            try have hg2_0 : ∀ o, w2.frozen? ⟨w.heap.size, o, none⟩ = false := by intro o; rw [hb]; first | (simp (maxDischargeDepth := 7) [go_sem]; done) | (simp (maxDischargeDepth := 7) [go_sem, *]; done)
            clear ha hb
            refine kuz (b := w.heap.size + 1) hk2 (by first | (simp; done) | (simp; omega) | omega) ?_
            intro ha hb hz2_1 hn2_1 hm2_1
            have hf2_1_0 : w2.cell? ⟨w.heap.size + 1, 0, none⟩ = some (.int .i64 ma) := (ha _).trans (by first | with_reducible assumption | (simp (maxDischargeDepth := 7) [go_sem]; done) | (simp (maxDischargeDepth := 7) [go_sem, *]; done))
            have hf2_1_1 : w2.cell? ⟨w.heap.size + 1, 1, none⟩ = some (.int .i64 mo) := (ha _).trans (by first | with_reducible assumption | (simp (maxDischargeDepth := 7) [go_sem]; done) | (simp (maxDischargeDepth := 7) [go_sem, *]; done))
            try have hg2_1 : ∀ o, w2.frozen? ⟨w.heap.size + 1, o, none⟩ = false := by intro o; rw [hb]; first | (simp (maxDischargeDepth := 7) [go_sem]; done) | (simp (maxDischargeDepth := 7) [go_sem, *]; done)
            clear ha hb
            refine kuz (b := w.heap.size + 2) hk2 (by first | (simp; done) | (simp; omega) | omega) ?_
            intro ha hb hz2_2 hn2_2 hm2_2
            have hf2_2_0 : w2.cell? ⟨w.heap.size + 2, 0, none⟩ = some (.int .i64 X) := (ha _).trans (by first | with_reducible assumption | (simp (maxDischargeDepth := 7) [go_sem]; done) | (simp (maxDischargeDepth := 7) [go_sem, *]; done))
            have hf2_2_1 : w2.cell? ⟨w.heap.size + 2, 1, none⟩ = some (.int .i64 Y) := (ha _).trans (by first | with_reducible assumption | (simp (maxDischargeDepth := 7) [go_sem]; done) | (simp (maxDischargeDepth := 7) [go_sem, *]; done))
            try have hg2_2 : ∀ o, w2.frozen? ⟨w.heap.size + 2, o, none⟩ = false := by intro o; rw [hb]; first | (simp (maxDischargeDepth := 7) [go_sem]; done) | (simp (maxDischargeDepth := 7) [go_sem, *]; done)
            clear ha hb
            (try clear hf1_0_0); (try clear hf1_0_1); (try clear hf1_1_0); (try clear hf1_1_1); (try clear hf1_2_0); (try clear hf1_2_1); (try clear hg1_0); (try clear hg1_1); (try clear hg1_2); (try clear hz1_1); (try clear hz1_2)
            go_wp2_with fail
            with_reducible refine (Hm2.out _).mono ?_
            rintro e w3 ⟨rfl, hk3⟩
            refine kuz (b := w.heap.size) hk3 (by first | (simp; done) | (simp; omega) | omega) ?_
            intro ha hb hz3_0 hn3_0 hm3_0
            have hf3_0_0 : w3.cell? ⟨w.heap.size, 0, none⟩ = some (.int .i64 la) := (ha _).trans (by first | with_reducible assumption | (simp (maxDischargeDepth := 7) [go_sem]; done) | (simp (maxDischargeDepth := 7) [go_sem, *]; done))
            have hf3_0_1 : w3.cell? ⟨w.heap.size, 1, none⟩ = some (.int .i64 lo) := (ha _).trans (by first | with_reducible assumption | (simp (maxDischargeDepth := 7) [go_sem]; done) | (simp (maxDischargeDepth := 7) [go_sem, *]; done))
            try have hg3_0 : ∀ o, w3.frozen? ⟨w.heap.size, o, none⟩ = false := by intro o; rw [hb]; first | (simp (maxDischargeDepth := 7) [go_sem]; done) | (simp (maxDischargeDepth := 7) [go_sem, *]; done)
            clear ha hb
            refine kuz (b := w.heap.size + 1) hk3 (by first | (simp; done) | (simp; omega) | omega) ?_
            intro ha hb hz3_1 hn3_1 hm3_1
            have hf3_1_0 : w3.cell? ⟨w.heap.size + 1, 0, none⟩ = some (.int .i64 ma) := (ha _).trans (by first | with_reducible assumption | (simp (maxDischargeDepth := 7) [go_sem]; done) | (simp (maxDischargeDepth := 7) [go_sem, *]; done))
            have hf3_1_1 : w3.cell? ⟨w.heap.size + 1, 1, none⟩ = some (.int .i64 mo) := (ha _).trans (by first | with_reducible assumption | (simp (maxDischargeDepth := 7) [go_sem]; done) | (simp (maxDischargeDepth := 7) [go_sem, *]; done))
            try have hg3_1 : ∀ o, w3.frozen? ⟨w.heap.size + 1, o, none⟩ = false := by intro o; rw [hb]; first | (simp (maxDischargeDepth := 7) [go_sem]; done) | (simp (maxDischargeDepth := 7) [go_sem, *]; done)
            clear ha hb
            refine kuz (b := w.heap.size + 2) hk3 (by first | (simp; done) | (simp; omega) | omega) ?_
            intro ha hb hz3_2 hn3_2 hm3_2
            have hf3_2_0 : w3.cell? ⟨w.heap.size + 2, 0, none⟩ = some (.int .i64 X) := (ha _).trans (by first | with_reducible assumption | (simp (maxDischargeDepth := 7) [go_sem]; done) | (simp (maxDischargeDepth := 7) [go_sem, *]; done))
            have hf3_2_1 : w3.cell? ⟨w.heap.size + 2, 1, none⟩ = some (.int .i64 Y) := (ha _).trans (by first | with_reducible assumption | (simp (maxDischargeDepth := 7) [go_sem]; done) | (simp (maxDischargeDepth := 7) [go_sem, *]; done))
            try have hg3_2 : ∀ o, w3.frozen? ⟨w.heap.size + 2, o, none⟩ = false := by intro o; rw [hb]; first | (simp (maxDischargeDepth := 7) [go_sem]; done) | (simp (maxDischargeDepth := 7) [go_sem, *]; done)
            clear ha hb
            refine kuz (b := w2.heap.size) hk3 (by first | (simp; done) | (simp; omega) | omega) ?_
            intro ha hb hz3_3 hn3_3 hm3_3
            have hf3_3_0 : w3.cell? ⟨w2.heap.size, 0, none⟩ = some (.int .i64 0) := (ha _).trans (by first | with_reducible assumption | (simp (maxDischargeDepth := 7) [go_sem]; done) | (simp (maxDischargeDepth := 7) [go_sem, *]; done))
            have hf3_3_1 : w3.cell? ⟨w2.heap.size, 1, none⟩ = some (.int .i64 0) := (ha _).trans (by first | with_reducible assumption | (simp (maxDischargeDepth := 7) [go_sem]; done) | (simp (maxDischargeDepth := 7) [go_sem, *]; done))
            try have hg3_3 : ∀ o, w3.frozen? ⟨w2.heap.size, o, none⟩ = false := by intro o; rw [hb]; first | (simp (maxDischargeDepth := 7) [go_sem]; done) | (simp (maxDischargeDepth := 7) [go_sem, *]; done)
            clear ha hb
            (try clear hf2_0_0); (try clear hf2_0_1); (try clear hf2_1_0); (try clear hf2_1_1); (try clear hf2_2_0); (try clear hf2_2_1); (try clear hg2_0); (try clear hg2_1); (try clear hg2_2); (try clear hz2_1); (try clear hz2_2)
            go_wp2_with fail
            with_reducible refine (pv_ok 0 0 rfl _).mono ?_
            rintro e w4 ⟨rfl, hk4⟩
            refine kuz (b := w.heap.size) hk4 (by first | (simp; done) | (simp; omega) | omega) ?_
            intro ha hb hz4_0 hn4_0 hm4_0
            have hf4_0_0 : w4.cell? ⟨w.heap.size, 0, none⟩ = some (.int .i64 la) := (ha _).trans (by first | with_reducible assumption | (simp (maxDischargeDepth := 7) [go_sem]; done) | (simp (maxDischargeDepth := 7) [go_sem, *]; done))
            have hf4_0_1 : w4.cell? ⟨w.heap.size, 1, none⟩ = some (.int .i64 lo) := (ha _).trans (by first | with_reducible assumption | (simp (maxDischargeDepth := 7) [go_sem]; done) | (simp (maxDischargeDepth := 7) [go_sem, *]; done))
            try have hg4_0 : ∀ o, w4.frozen? ⟨w.heap.size, o, none⟩ = false := by intro o; rw [hb]; first | (simp (maxDischargeDepth := 7) [go_sem]; done) | (simp (maxDischargeDepth := 7) [go_sem, *]; done)
            clear ha hb
            refine kuz (b := w.heap.size + 1) hk4 (by first | (simp; done) | (simp; omega) | omega) ?_
            intro ha hb hz4_1 hn4_1 hm4_1
            have hf4_1_0 : w4.cell? ⟨w.heap.size + 1, 0, none⟩ = some (.int .i64 ma) := (ha _).trans (by first | with_reducible assumption | (simp (maxDischargeDepth := 7) [go_sem]; done) | (simp (maxDischargeDepth := 7) [go_sem, *]; done))
            have hf4_1_1 : w4.cell? ⟨w.heap.size + 1, 1, none⟩ = some (.int .i64 mo) := (ha _).trans (by first | with_reducible assumption | (simp (maxDischargeDepth := 7) [go_sem]; done) | (simp (maxDischargeDepth := 7) [go_sem, *]; done))
            try have hg4_1 : ∀ o, w4.frozen? ⟨w.heap.size + 1, o, none⟩ = false := by intro o; rw [hb]; first | (simp (maxDischargeDepth := 7) [go_sem]; done) | (simp (maxDischargeDepth := 7) [go_sem, *]; done)
            clear ha hb
            refine kuz (b := w.heap.size + 2) hk4 (by first | (simp; done) | (simp; omega) | omega) ?_
            intro ha hb hz4_2 hn4_2 hm4_2
            have hf4_2_0 : w4.cell? ⟨w.heap.size + 2, 0, none⟩ = some (.int .i64 X) := (ha _).trans (by first | with_reducible assumption | (simp (maxDischargeDepth := 7) [go_sem]; done) | (simp (maxDischargeDepth := 7) [go_sem, *]; done))
            have hf4_2_1 : w4.cell? ⟨w.heap.size + 2, 1, none⟩ = some (.int .i64 Y) := (ha _).trans (by first | with_reducible assumption | (simp (maxDischargeDepth := 7) [go_sem]; done) | (simp (maxDischargeDepth := 7) [go_sem, *]; done))
            try have hg4_2 : ∀ o, w4.frozen? ⟨w.heap.size + 2, o, none⟩ = false := by intro o; rw [hb]; first | (simp (maxDischargeDepth := 7) [go_sem]; done) | (simp (maxDischargeDepth := 7) [go_sem, *]; done)
            clear ha hb
            refine kuz (b := w2.heap.size) hk4 (by first | (simp; done) | (simp; omega) | omega) ?_
            intro ha hb hz4_3 hn4_3 hm4_3
            have hf4_3_0 : w4.cell? ⟨w2.heap.size, 0, none⟩ = some (.int .i64 0) := (ha _).trans (by first | with_reducible assumption | (simp (maxDischargeDepth := 7) [go_sem]; done) | (simp (maxDischargeDepth := 7) [go_sem, *]; done))
            have hf4_3_1 : w4.cell? ⟨w2.heap.size, 1, none⟩ = some (.int .i64 0) := (ha _).trans (by first | with_reducible assumption | (simp (maxDischargeDepth := 7) [go_sem]; done) | (simp (maxDischargeDepth := 7) [go_sem, *]; done))
            try have hg4_3 : ∀ o, w4.frozen? ⟨w2.heap.size, o, none⟩ = false := by intro o; rw [hb]; first | (simp (maxDischargeDepth := 7) [go_sem]; done) | (simp (maxDischargeDepth := 7) [go_sem, *]; done)
            clear ha hb
            refine kuz (b := w3.heap.size) hk4 (by first | (simp; done) | (simp; omega) | omega) ?_
            intro ha hb hz4_4 hn4_4 hm4_4
            have hf4_4_0 : w4.cell? ⟨w3.heap.size, 0, none⟩ = some (.int .i64 0) := (ha _).trans (by first | with_reducible assumption | (simp (maxDischargeDepth := 7) [go_sem]; done) | (simp (maxDischargeDepth := 7) [go_sem, *]; done))
            have hf4_4_1 : w4.cell? ⟨w3.heap.size, 1, none⟩ = some (.int .i64 0) := (ha _).trans (by first | with_reducible assumption | (simp (maxDischargeDepth := 7) [go_sem]; done) | (simp (maxDischargeDepth := 7) [go_sem, *]; done))
            try have hg4_4 : ∀ o, w4.frozen? ⟨w3.heap.size, o, none⟩ = false := by intro o; rw [hb]; first | (simp (maxDischargeDepth := 7) [go_sem]; done) | (simp (maxDischargeDepth := 7) [go_sem, *]; done)
            clear ha hb
            (try clear hf3_0_0); (try clear hf3_0_1); (try clear hf3_1_0); (try clear hf3_1_1); (try clear hf3_2_0); (try clear hf3_2_1); (try clear hf3_3_0); (try clear hf3_3_1); (try clear hg3_0); (try clear hg3_1); (try clear hg3_2); (try clear hg3_3); (try clear hz3_1); (try clear hz3_2); (try clear hz3_3)
            go_wp2_with fail
            with_reducible refine (valid_ok ma mo ma0 ma1 mo0 mo1 _).mono ?_
            rintro e w5 ⟨rfl, hk5⟩
            refine kuz (b := w.heap.size) hk5 (by first | (simp; done) | (simp; omega) | omega) ?_
            intro ha hb hz5_0 hn5_0 hm5_0
            have hf5_0_0 : w5.cell? ⟨w.heap.size, 0, none⟩ = some (.int .i64 la) := (ha _).trans (by first | with_reducible assumption | (simp (maxDischargeDepth := 7) [go_sem]; done) | (simp (maxDischargeDepth := 7) [go_sem, *]; done))
            have hf5_0_1 : w5.cell? ⟨w.heap.size, 1, none⟩ = some (.int .i64 lo) := (ha _).trans (by first | with_reducible assumption | (simp (maxDischargeDepth := 7) [go_sem]; done) | (simp (maxDischargeDepth := 7) [go_sem, *]; done))
            try have hg5_0 : ∀ o, w5.frozen? ⟨w.heap.size, o, none⟩ = false := by intro o; rw [hb]; first | (simp (maxDischargeDepth := 7) [go_sem]; done) | (simp (maxDischargeDepth := 7) [go_sem, *]; done)
            clear ha hb
            refine kuz (b := w.heap.size + 1) hk5 (by first | (simp; done) | (simp; omega) | omega) ?_
            intro ha hb hz5_1 hn5_1 hm5_1
            have hf5_1_0 : w5.cell? ⟨w.heap.size + 1, 0, none⟩ = some (.int .i64 ma) := (ha _).trans (by first | with_reducible assumption | (simp (maxDischargeDepth := 7) [go_sem]; done) | (simp (maxDischargeDepth := 7) [go_sem, *]; done))
            have hf5_1_1 : w5.cell? ⟨w.heap.size + 1, 1, none⟩ = some (.int .i64 mo) := (ha _).trans (by first | with_reducible assumption | (simp (maxDischargeDepth := 7) [go_sem]; done) | (simp (maxDischargeDepth := 7) [go_sem, *]; done))
            try have hg5_1 : ∀ o, w5.frozen? ⟨w.heap.size + 1, o, none⟩ = false := by intro o; rw [hb]; first | (simp (maxDischargeDepth := 7) [go_sem]; done) | (simp (maxDischargeDepth := 7) [go_sem, *]; done)
            clear ha hb
            refine kuz (b := w.heap.size + 2) hk5 (by first | (simp; done) | (simp; omega) | omega) ?_
            intro ha hb hz5_2 hn5_2 hm5_2
            have hf5_2_0 : w5.cell? ⟨w.heap.size + 2, 0, none⟩ = some (.int .i64 X) := (ha _).trans (by first | with_reducible assumption | (simp (maxDischargeDepth := 7) [go_sem]; done) | (simp (maxDischargeDepth := 7) [go_sem, *]; done))
            have hf5_2_1 : w5.cell? ⟨w.heap.size + 2, 1, none⟩ = some (.int .i64 Y) := (ha _).trans (by first | with_reducible assumption | (simp (maxDischargeDepth := 7) [go_sem]; done) | (simp (maxDischargeDepth := 7) [go_sem, *]; done))
            try have hg5_2 : ∀ o, w5.frozen? ⟨w.heap.size + 2, o, none⟩ = false := by intro o; rw [hb]; first | (simp (maxDischargeDepth := 7) [go_sem]; done) | (simp (maxDischargeDepth := 7) [go_sem, *]; done)
            clear ha hb
            refine kuz (b := w2.heap.size) hk5 (by first | (simp; done) | (simp; omega) | omega) ?_
            intro ha hb hz5_3 hn5_3 hm5_3
            have hf5_3_0 : w5.cell? ⟨w2.heap.size, 0, none⟩ = some (.int .i64 0) := (ha _).trans (by first | with_reducible assumption | (simp (maxDischargeDepth := 7) [go_sem]; done) | (simp (maxDischargeDepth := 7) [go_sem, *]; done))
            have hf5_3_1 : w5.cell? ⟨w2.heap.size, 1, none⟩ = some (.int .i64 0) := (ha _).trans (by first | with_reducible assumption | (simp (maxDischargeDepth := 7) [go_sem]; done) | (simp (maxDischargeDepth := 7) [go_sem, *]; done))
            try have hg5_3 : ∀ o, w5.frozen? ⟨w2.heap.size, o, none⟩ = false := by intro o; rw [hb]; first | (simp (maxDischargeDepth := 7) [go_sem]; done) | (simp (maxDischargeDepth := 7) [go_sem, *]; done)
            clear ha hb
            refine kuz (b := w3.heap.size) hk5 (by first | (simp; done) | (simp; omega) | omega) ?_
            intro ha hb hz5_4 hn5_4 hm5_4
            have hf5_4_0 : w5.cell? ⟨w3.heap.size, 0, none⟩ = some (.int .i64 0) := (ha _).trans (by first | with_reducible assumption | (simp (maxDischargeDepth := 7) [go_sem]; done) | (simp (maxDischargeDepth := 7) [go_sem, *]; done))
            have hf5_4_1 : w5.cell? ⟨w3.heap.size, 1, none⟩ = some (.int .i64 0) := (ha _).trans (by first | with_reducible assumption | (simp (maxDischargeDepth := 7) [go_sem]; done) | (simp (maxDischargeDepth := 7) [go_sem, *]; done))
            try have hg5_4 : ∀ o, w5.frozen? ⟨w3.heap.size, o, none⟩ = false := by intro o; rw [hb]; first | (simp (maxDischargeDepth := 7) [go_sem]; done) | (simp (maxDischargeDepth := 7) [go_sem, *]; done)
            clear ha hb
            (try clear hf4_0_0); (try clear hf4_0_1); (try clear hf4_1_0); (try clear hf4_1_1); (try clear hf4_2_0); (try clear hf4_2_1); (try clear hf4_3_0); (try clear hf4_3_1); (try clear hf4_4_0); (try clear hf4_4_1); (try clear hg4_0); (try clear hg4_1); (try clear hg4_2); (try clear hg4_3); (try clear hg4_4); (try clear hz4_1); (try clear hz4_2); (try clear hz4_3); (try clear hz4_4)
            all_goals go_wp2_with fail
            all_goals first | (go_ret; refine ⟨?_, (by repeat (first | with_reducible exact Kept.refl _ | with_reducible assumption | with_reducible refine Kept.setCell ?_ (by first | (simp; done) | (simp; omega) | omega) _ | with_reducible refine Kept.alloc ?_ _ | with_reducible refine Kept.drewN ?_ _ | with_reducible refine Kept.drew ?_ | with_reducible refine Kept.trans ?_ (by with_reducible assumption) | with_reducible refine Kept.dr ?_ (by with_reducible assumption)))⟩; first | rfl | (refine retb ?_; simp; done) | (refine retb ?_; simp; omega)) | (exfalso; omega)

        · have hqb : ma < -32400000 ∨ 32400000 < ma ∨ mo ≤ -64800000 ∨ 64800000 < mo := by omega
          clear hq
          have EQ := fun w => peqP_yes 0 0 w
          have EQQ := fun w => peqQ_yes 0 0 w
          have m1 := fun w => from_ok la lo la0 la1 lo0 lo1 X Y hp w
          have e0 : psE (frX la lo X Y) (frY la lo X Y) (frZ la lo Y) = 1 := by unfold psE; rw [if_neg hs]
          have e1 : psLa (frX la lo X Y) (frY la lo X Y) (frZ la lo Y) = 0 := by unfold psLa; rw [if_neg hs]
          have e2 : psLo (frX la lo X Y) (frY la lo X Y) (frZ la lo Y) = 0 := by unfold psLo; rw [if_neg hs]
          rw [e0, e1, e2] at m1
          clear e0 e1 e2
          clear hs
          have Hm1 := Lib.hid m1
          clear m1
          go_enter Try.func10, Try.ntmps10
          go_wp2_with fail
          with_reducible refine (awake_w _).mono ?_
          rintro e w1 ⟨rfl, hk1⟩
          refine kuz (b := w.heap.size) hk1 (by first | (simp; done) | (simp; omega) | omega) ?_
          intro ha hb hz1_0 hn1_0 hm1_0
          have hf1_0_0 : w1.cell? ⟨w.heap.size, 0, none⟩ = some (.int .i64 la) := (ha _).trans (by first | with_reducible assumption | (simp (maxDischargeDepth := 7) [go_sem]; done) | (simp (maxDischargeDepth := 7) [go_sem, *]; done))
          have hf1_0_1 : w1.cell? ⟨w.heap.size, 1, none⟩ = some (.int .i64 lo) := (ha _).trans (by first | with_reducible assumption | (simp (maxDischargeDepth := 7) [go_sem]; done) | (simp (maxDischargeDepth := 7) [go_sem, *]; done))
          try have hg1_0 : ∀ o, w1.frozen? ⟨w.heap.size, o, none⟩ = false := by intro o; rw [hb]; first | (simp (maxDischargeDepth := 7) [go_sem]; done) | (simp (maxDischargeDepth := 7) [go_sem, *]; done)
          clear ha hb
          refine kuz (b := w.heap.size + 1) hk1 (by first | (simp; done) | (simp; omega) | omega) ?_
          intro ha hb hz1_1 hn1_1 hm1_1
          have hf1_1_0 : w1.cell? ⟨w.heap.size + 1, 0, none⟩ = some (.int .i64 ma) := (ha _).trans (by first | with_reducible assumption | (simp (maxDischargeDepth := 7) [go_sem]; done) | (simp (maxDischargeDepth := 7) [go_sem, *]; done))
          have hf1_1_1 : w1.cell? ⟨w.heap.size + 1, 1, none⟩ = some (.int .i64 mo) := (ha _).trans (by first | with_reducible assumption | (simp (maxDischargeDepth := 7) [go_sem]; done) | (simp (maxDischargeDepth := 7) [go_sem, *]; done))
          try have hg1_1 : ∀ o, w1.frozen? ⟨w.heap.size + 1, o, none⟩ = false := by intro o; rw [hb]; first | (simp (maxDischargeDepth := 7) [go_sem]; done) | (simp (maxDischargeDepth := 7) [go_sem, *]; done)
          clear ha hb
          refine kuz (b := w.heap.size + 2) hk1 (by first | (simp; done) | (simp; omega) | omega) ?_
          intro ha hb hz1_2 hn1_2 hm1_2
          have hf1_2_0 : w1.cell? ⟨w.heap.size + 2, 0, none⟩ = some (.int .i64 X) := (ha _).trans (by first | with_reducible assumption | (simp (maxDischargeDepth := 7) [go_sem]; done) | (simp (maxDischargeDepth := 7) [go_sem, *]; done))
          have hf1_2_1 : w1.cell? ⟨w.heap.size + 2, 1, none⟩ = some (.int .i64 Y) := (ha _).trans (by first | with_reducible assumption | (simp (maxDischargeDepth := 7) [go_sem]; done) | (simp (maxDischargeDepth := 7) [go_sem, *]; done))
          try have hg1_2 : ∀ o, w1.frozen? ⟨w.heap.size + 2, o, none⟩ = false := by intro o; rw [hb]; first | (simp (maxDischargeDepth := 7) [go_sem]; done) | (simp (maxDischargeDepth := 7) [go_sem, *]; done)
          clear ha hb
          go_wp2_with fail
          with_reducible refine (Hm1.out _).mono ?_
          rintro e w2 ⟨rfl, hk2⟩
          refine kuz (b := w.heap.size) hk2 (by first | (simp; done) | (simp; omega) | omega) ?_
          intro ha hb hz2_0 hn2_0 hm2_0
          have hf2_0_0 : w2.cell? ⟨w.heap.size, 0, none⟩ = some (.int .i64 la) := (ha _).trans (by first | with_reducible assumption | (simp (maxDischargeDepth := 7) [go_sem]; done) | (simp (maxDischargeDepth := 7) [go_sem, *]; done))
          have hf2_0_1 : w2.cell? ⟨w.heap.size, 1, none⟩ = some (.int .i64 lo) := (ha _).trans (by first | with_reducible assumption | (simp (maxDischargeDepth := 7) [go_sem]; done) | (simp (maxDischargeDepth := 7) [go_sem, *]; done))
          try have hg2_0 : ∀ o, w2.frozen? ⟨w.heap.size, o, none⟩ = false := by intro o; rw [hb]; first | (simp (maxDischargeDepth := 7) [go_sem]; done) | (simp (maxDischargeDepth := 7) [go_sem, *]; done)
          clear ha hb
          refine kuz (b := w.heap.size + 1) hk2 (by first | (simp; done) | (simp; omega) | omega) ?_
          intro ha hb hz2_1 hn2_1 hm2_1
          have hf2_1_0 : w2.cell? ⟨w.heap.size + 1, 0, none⟩ = some (.int .i64 ma) := (ha _).trans (by first | with_reducible assumption | (simp (maxDischargeDepth := 7) [go_sem]; done) | (simp (maxDischargeDepth := 7) [go_sem, *]; done))
          have hf2_1_1 : w2.cell? ⟨w.heap.size + 1, 1, none⟩ = some (.int .i64 mo) := (ha _).trans (by first | with_reducible assumption | (simp (maxDischargeDepth := 7) [go_sem]; done) | (simp (maxDischargeDepth := 7) [go_sem, *]; done))
          try have hg2_1 : ∀ o, w2.frozen? ⟨w.heap.size + 1, o, none⟩ = false := by intro o; rw [hb]; first | (simp (maxDischargeDepth := 7) [go_sem]; done) | (simp (maxDischargeDepth := 7) [go_sem, *]; done)
          clear ha hb
          refine kuz (b := w.heap.size + 2) hk2 (by first | (simp; done) | (simp; omega) | omega) ?_
          intro ha hb hz2_2 hn2_2 hm2_2
          have hf2_2_0 : w2.cell? ⟨w.heap.size + 2, 0, none⟩ = some (.int .i64 X) := (ha _).trans (by first | with_reducible assumption | (simp (maxDischargeDepth := 7) [go_sem]; done) | (simp (maxDischargeDepth := 7) [go_sem, *]; done))
          have hf2_2_1 : w2.cell? ⟨w.heap.size + 2, 1, none⟩ = some (.int .i64 Y) := (ha _).trans (by first | with_reducible assumption | (simp (maxDischargeDepth := 7) [go_sem]; done) | (simp (maxDischargeDepth := 7) [go_sem, *]; done))
          try have hg2_2 : ∀ o, w2.frozen? ⟨w.heap.size + 2, o, none⟩ = false := by intro o; rw [hb]; first | (simp (maxDischargeDepth := 7) [go_sem]; done) | (simp (maxDischargeDepth := 7) [go_sem, *]; done)
          clear ha hb
          (try clear hf1_0_0); (try clear hf1_0_1); (try clear hf1_1_0); (try clear hf1_1_1); (try clear hf1_2_0); (try clear hf1_2_1); (try clear hg1_0); (try clear hg1_1); (try clear hg1_2); (try clear hz1_1); (try clear hz1_2)
          go_wp2_with fail
          with_reducible refine (to_badq la lo la0 la1 lo0 lo1 ma mo hqb _).mono ?_
          rintro e w3 ⟨rfl, hk3⟩
          refine kuz (b := w.heap.size) hk3 (by first | (simp; done) | (simp; omega) | omega) ?_
          intro ha hb hz3_0 hn3_0 hm3_0
          have hf3_0_0 : w3.cell? ⟨w.heap.size, 0, none⟩ = some (.int .i64 la) := (ha _).trans (by first | with_reducible assumption | (simp (maxDischargeDepth := 7) [go_sem]; done) | (simp (maxDischargeDepth := 7) [go_sem, *]; done))
          have hf3_0_1 : w3.cell? ⟨w.heap.size, 1, none⟩ = some (.int .i64 lo) := (ha _).trans (by first | with_reducible assumption | (simp (maxDischargeDepth := 7) [go_sem]; done) | (simp (maxDischargeDepth := 7) [go_sem, *]; done))
          try have hg3_0 : ∀ o, w3.frozen? ⟨w.heap.size, o, none⟩ = false := by intro o; rw [hb]; first | (simp (maxDischargeDepth := 7) [go_sem]; done) | (simp (maxDischargeDepth := 7) [go_sem, *]; done)
          clear ha hb
          refine kuz (b := w.heap.size + 1) hk3 (by first | (simp; done) | (simp; omega) | omega) ?_
          intro ha hb hz3_1 hn3_1 hm3_1
          have hf3_1_0 : w3.cell? ⟨w.heap.size + 1, 0, none⟩ = some (.int .i64 ma) := (ha _).trans (by first | with_reducible assumption | (simp (maxDischargeDepth := 7) [go_sem]; done) | (simp (maxDischargeDepth := 7) [go_sem, *]; done))
          have hf3_1_1 : w3.cell? ⟨w.heap.size + 1, 1, none⟩ = some (.int .i64 mo) := (ha _).trans (by first | with_reducible assumption | (simp (maxDischargeDepth := 7) [go_sem]; done) | (simp (maxDischargeDepth := 7) [go_sem, *]; done))
          try have hg3_1 : ∀ o, w3.frozen? ⟨w.heap.size + 1, o, none⟩ = false := by intro o; rw [hb]; first | (simp (maxDischargeDepth := 7) [go_sem]; done) | (simp (maxDischargeDepth := 7) [go_sem, *]; done)
          clear ha hb
          refine kuz (b := w.heap.size + 2) hk3 (by first | (simp; done) | (simp; omega) | omega) ?_
          intro ha hb hz3_2 hn3_2 hm3_2
          have hf3_2_0 : w3.cell? ⟨w.heap.size + 2, 0, none⟩ = some (.int .i64 X) := (ha _).trans (by first | with_reducible assumption | (simp (maxDischargeDepth := 7) [go_sem]; done) | (simp (maxDischargeDepth := 7) [go_sem, *]; done))
          have hf3_2_1 : w3.cell? ⟨w.heap.size + 2, 1, none⟩ = some (.int .i64 Y) := (ha _).trans (by first | with_reducible assumption | (simp (maxDischargeDepth := 7) [go_sem]; done) | (simp (maxDischargeDepth := 7) [go_sem, *]; done))
          try have hg3_2 : ∀ o, w3.frozen? ⟨w.heap.size + 2, o, none⟩ = false := by intro o; rw [hb]; first | (simp (maxDischargeDepth := 7) [go_sem]; done) | (simp (maxDischargeDepth := 7) [go_sem, *]; done)
          clear ha hb
          refine kuz (b := w2.heap.size) hk3 (by first | (simp; done) | (simp; omega) | omega) ?_
          intro ha hb hz3_3 hn3_3 hm3_3
          have hf3_3_0 : w3.cell? ⟨w2.heap.size, 0, none⟩ = some (.int .i64 0) := (ha _).trans (by first | with_reducible assumption | (simp (maxDischargeDepth := 7) [go_sem]; done) | (simp (maxDischargeDepth := 7) [go_sem, *]; done))
          have hf3_3_1 : w3.cell? ⟨w2.heap.size, 1, none⟩ = some (.int .i64 0) := (ha _).trans (by first | with_reducible assumption | (simp (maxDischargeDepth := 7) [go_sem]; done) | (simp (maxDischargeDepth := 7) [go_sem, *]; done))
          try have hg3_3 : ∀ o, w3.frozen? ⟨w2.heap.size, o, none⟩ = false := by intro o; rw [hb]; first | (simp (maxDischargeDepth := 7) [go_sem]; done) | (simp (maxDischargeDepth := 7) [go_sem, *]; done)
          clear ha hb
          (try clear hf2_0_0); (try clear hf2_0_1); (try clear hf2_1_0); (try clear hf2_1_1); (try clear hf2_2_0); (try clear hf2_2_1); (try clear hg2_0); (try clear hg2_1); (try clear hg2_2); (try clear hz2_1); (try clear hz2_2)
          go_wp2_with fail
          with_reducible refine (pv_ok 0 0 rfl _).mono ?_
          rintro e w4 ⟨rfl, hk4⟩
          refine kuz (b := w.heap.size) hk4 (by first | (simp; done) | (simp; omega) | omega) ?_
          intro ha hb hz4_0 hn4_0 hm4_0
          have hf4_0_0 : w4.cell? ⟨w.heap.size, 0, none⟩ = some (.int .i64 la) := (ha _).trans (by first | with_reducible assumption | (simp (maxDischargeDepth := 7) [go_sem]; done) | (simp (maxDischargeDepth := 7) [go_sem, *]; done))
          have hf4_0_1 : w4.cell? ⟨w.heap.size, 1, none⟩ = some (.int .i64 lo) := (ha _).trans (by first | with_reducible assumption | (simp (maxDischargeDepth := 7) [go_sem]; done) | (simp (maxDischargeDepth := 7) [go_sem, *]; done))
          try have hg4_0 : ∀ o, w4.frozen? ⟨w.heap.size, o, none⟩ = false := by intro o; rw [hb]; first | (simp (maxDischargeDepth := 7) [go_sem]; done) | (simp (maxDischargeDepth := 7) [go_sem, *]; done)
          clear ha hb
          refine kuz (b := w.heap.size + 1) hk4 (by first | (simp; done) | (simp; omega) | omega) ?_
          intro ha hb hz4_1 hn4_1 hm4_1
          have hf4_1_0 : w4.cell? ⟨w.heap.size + 1, 0, none⟩ = some (.int .i64 ma) := (ha _).trans (by first | with_reducible assumption | (simp (maxDischargeDepth := 7) [go_sem]; done) | (simp (maxDischargeDepth := 7) [go_sem, *]; done))
          have hf4_1_1 : w4.cell? ⟨w.heap.size + 1, 1, none⟩ = some (.int .i64 mo) := (ha _).trans (by first | with_reducible assumption | (simp (maxDischargeDepth := 7) [go_sem]; done) | (simp (maxDischargeDepth := 7) [go_sem, *]; done))
          try have hg4_1 : ∀ o, w4.frozen? ⟨w.heap.size + 1, o, none⟩ = false := by intro o; rw [hb]; first | (simp (maxDischargeDepth := 7) [go_sem]; done) | (simp (maxDischargeDepth := 7) [go_sem, *]; done)
          clear ha hb
          refine kuz (b := w.heap.size + 2) hk4 (by first | (simp; done) | (simp; omega) | omega) ?_
          intro ha hb hz4_2 hn4_2 hm4_2
          have hf4_2_0 : w4.cell? ⟨w.heap.size + 2, 0, none⟩ = some (.int .i64 X) := (ha _).trans (by first | with_reducible assumption | (simp (maxDischargeDepth := 7) [go_sem]; done) | (simp (maxDischargeDepth := 7) [go_sem, *]; done))
          have hf4_2_1 : w4.cell? ⟨w.heap.size + 2, 1, none⟩ = some (.int .i64 Y) := (ha _).trans (by first | with_reducible assumption | (simp (maxDischargeDepth := 7) [go_sem]; done) | (simp (maxDischargeDepth := 7) [go_sem, *]; done))
          try have hg4_2 : ∀ o, w4.frozen? ⟨w.heap.size + 2, o, none⟩ = false := by intro o; rw [hb]; first | (simp (maxDischargeDepth := 7) [go_sem]; done) | (simp (maxDischargeDepth := 7) [go_sem, *]; done)
          clear ha hb
          refine kuz (b := w2.heap.size) hk4 (by first | (simp; done) | (simp; omega) | omega) ?_
          intro ha hb hz4_3 hn4_3 hm4_3
          have hf4_3_0 : w4.cell? ⟨w2.heap.size, 0, none⟩ = some (.int .i64 0) := (ha _).trans (by first | with_reducible assumption | (simp (maxDischargeDepth := 7) [go_sem]; done) | (simp (maxDischargeDepth := 7) [go_sem, *]; done))
          have hf4_3_1 : w4.cell? ⟨w2.heap.size, 1, none⟩ = some (.int .i64 0) := (ha _).trans (by first | with_reducible assumption | (simp (maxDischargeDepth := 7) [go_sem]; done) | (simp (maxDischargeDepth := 7) [go_sem, *]; done))
          try have hg4_3 : ∀ o, w4.frozen? ⟨w2.heap.size, o, none⟩ = false := by intro o; rw [hb]; first | (simp (maxDischargeDepth := 7) [go_sem]; done) | (simp (maxDischargeDepth := 7) [go_sem, *]; done)
          clear ha hb
          refine kuz (b := w3.heap.size) hk4 (by first | (simp; done) | (simp; omega) | omega) ?_
          intro ha hb hz4_4 hn4_4 hm4_4
          have hf4_4_0 : w4.cell? ⟨w3.heap.size, 0, none⟩ = some (.int .i64 0) := (ha _).trans (by first | with_reducible assumption | (simp (maxDischargeDepth := 7) [go_sem]; done) | (simp (maxDischargeDepth := 7) [go_sem, *]; done))
          have hf4_4_1 : w4.cell? ⟨w3.heap.size, 1, none⟩ = some (.int .i64 0) := (ha _).trans (by first | with_reducible assumption | (simp (maxDischargeDepth := 7) [go_sem]; done) | (simp (maxDischargeDepth := 7) [go_sem, *]; done))
          try have hg4_4 : ∀ o, w4.frozen? ⟨w3.heap.size, o, none⟩ = false := by intro o; rw [hb]; first | (simp (maxDischargeDepth := 7) [go_sem]; done) | (simp (maxDischargeDepth := 7) [go_sem, *]; done)
          clear ha hb
          (try clear hf3_0_0); (try clear hf3_0_1); (try clear hf3_1_0); (try clear hf3_1_1); (try clear hf3_2_0); (try clear hf3_2_1); (try clear hf3_3_0); (try clear hf3_3_1); (try clear hg3_0); (try clear hg3_1); (try clear hg3_2); (try clear hg3_3); (try clear hz3_1); (try clear hz3_2); (try clear hz3_3)
          go_wp2_with fail
          all_goals first | (go_ret; refine ⟨?_, (by repeat (first | with_reducible exact Kept.refl _ | with_reducible assumption | with_reducible refine Kept.setCell ?_ (by first | (simp; done) | (simp; omega) | omega) _ | with_reducible refine Kept.alloc ?_ _ | with_reducible refine Kept.drewN ?_ _ | with_reducible refine Kept.drew ?_ | with_reducible refine Kept.trans ?_ (by with_reducible assumption) | with_reducible refine Kept.dr ?_ (by with_reducible assumption)))⟩; first | rfl | (refine retb ?_; simp; done) | (refine retb ?_; simp; omega)) | (exfalso; omega)

    · by_cases hq : -32400000 ≤ ma ∧ ma ≤ 32400000 ∧ -64800000 < mo ∧ mo ≤ 64800000
      · obtain ⟨ma0, ma1, mo0, mo1⟩ := hq
        rcases pj_cases (lcE la lo (uX ma mo) (uY ma mo) (uZ ma mo)) (lcN la lo (uX ma mo) (uY ma mo) (uZ ma mo)) (lcU la lo (uX ma mo) (uY ma mo) (uZ ma mo)) with hE | hE
        · have EQ := fun w => peqP_yes 0 0 w
          have EQQ := fun w => peqQ_yes 0 0 w
          have m2 := fun w => to_ok la lo la0 la1 lo0 lo1 ma mo ma0 ma1 mo0 mo1 w
          obtain ⟨hE1, hE2⟩ := hE
          rw [hE1] at m2
          generalize pjX (lcE la lo (uX ma mo) (uY ma mo) (uZ ma mo)) (lcN la lo (uX ma mo) (uY ma mo) (uZ ma mo)) (lcU la lo (uX ma mo) (uY ma mo) (uZ ma mo)) = XX at *
          generalize pjY (lcE la lo (uX ma mo) (uY ma mo) (uZ ma mo)) (lcN la lo (uX ma mo) (uY ma mo) (uZ ma mo)) (lcU la lo (uX ma mo) (uY ma mo) (uZ ma mo)) = YY at *
          clear hE1
          have Hm2 := Lib.hid m2
          clear m2
          go_enter Try.func10, Try.ntmps10
          go_wp2_with fail
          with_reducible refine (awake_w _).mono ?_
          rintro e w1 ⟨rfl, hk1⟩
          refine kuz (b := w.heap.size) hk1 (by first | (simp; done) | (simp; omega) | omega) ?_
          intro ha hb hz1_0 hn1_0 hm1_0
          have hf1_0_0 : w1.cell? ⟨w.heap.size, 0, none⟩ = some (.int .i64 la) := (ha _).trans (by first | with_reducible assumption | (simp (maxDischargeDepth := 7) [go_sem]; done) | (simp (maxDischargeDepth := 7) [go_sem, *]; done))
          have hf1_0_1 : w1.cell? ⟨w.heap.size, 1, none⟩ = some (.int .i64 lo) := (ha _).trans (by first | with_reducible assumption | (simp (maxDischargeDepth := 7) [go_sem]; done) | (simp (maxDischargeDepth := 7) [go_sem, *]; done))
          try have hg1_0 : ∀ o, w1.frozen? ⟨w.heap.size, o, none⟩ = false := by intro o; rw [hb]; first | (simp (maxDischargeDepth := 7) [go_sem]; done) | (simp (maxDischargeDepth := 7) [go_sem, *]; done)
          clear ha hb
          refine kuz (b := w.heap.size + 1) hk1 (by first | (simp; done) | (simp; omega) | omega) ?_
          intro ha hb hz1_1 hn1_1 hm1_1
          have hf1_1_0 : w1.cell? ⟨w.heap.size + 1, 0, none⟩ = some (.int .i64 ma) := (ha _).trans (by first | with_reducible assumption | (simp (maxDischargeDepth := 7) [go_sem]; done) | (simp (maxDischargeDepth := 7) [go_sem, *]; done))
          have hf1_1_1 : w1.cell? ⟨w.heap.size + 1, 1, none⟩ = some (.int .i64 mo) := (ha _).trans (by first | with_reducible assumption | (simp (maxDischargeDepth := 7) [go_sem]; done) | (simp (maxDischargeDepth := 7) [go_sem, *]; done))
          try have hg1_1 : ∀ o, w1.frozen? ⟨w.heap.size + 1, o, none⟩ = false := by intro o; rw [hb]; first | (simp (maxDischargeDepth := 7) [go_sem]; done) | (simp (maxDischargeDepth := 7) [go_sem, *]; done)
          clear ha hb
          refine kuz (b := w.heap.size + 2) hk1 (by first | (simp; done) | (simp; omega) | omega) ?_
          intro ha hb hz1_2 hn1_2 hm1_2
          have hf1_2_0 : w1.cell? ⟨w.heap.size + 2, 0, none⟩ = some (.int .i64 X) := (ha _).trans (by first | with_reducible assumption | (simp (maxDischargeDepth := 7) [go_sem]; done) | (simp (maxDischargeDepth := 7) [go_sem, *]; done))
          have hf1_2_1 : w1.cell? ⟨w.heap.size + 2, 1, none⟩ = some (.int .i64 Y) := (ha _).trans (by first | with_reducible assumption | (simp (maxDischargeDepth := 7) [go_sem]; done) | (simp (maxDischargeDepth := 7) [go_sem, *]; done))
          try have hg1_2 : ∀ o, w1.frozen? ⟨w.heap.size + 2, o, none⟩ = false := by intro o; rw [hb]; first | (simp (maxDischargeDepth := 7) [go_sem]; done) | (simp (maxDischargeDepth := 7) [go_sem, *]; done)
          clear ha hb
          go_wp2_with fail
          with_reducible refine (from_badp la lo la0 la1 lo0 lo1 X Y hp _).mono ?_
          rintro e w2 ⟨rfl, hk2⟩
          refine kuz (b := w.heap.size) hk2 (by first | (simp; done) | (simp; omega) | omega) ?_
          intro ha hb hz2_0 hn2_0 hm2_0
          have hf2_0_0 : w2.cell? ⟨w.heap.size, 0, none⟩ = some (.int .i64 la) := (ha _).trans (by first | with_reducible assumption | (simp (maxDischargeDepth := 7) [go_sem]; done) | (simp (maxDischargeDepth := 7) [go_sem, *]; done))
          have hf2_0_1 : w2.cell? ⟨w.heap.size, 1, none⟩ = some (.int .i64 lo) := (ha _).trans (by first | with_reducible assumption | (simp (maxDischargeDepth := 7) [go_sem]; done) | (simp (maxDischargeDepth := 7) [go_sem, *]; done))
          try have hg2_0 : ∀ o, w2.frozen? ⟨w.heap.size, o, none⟩ = false := by intro o; rw [hb]; first | (simp (maxDischargeDepth := 7) [go_sem]; done) | (simp (maxDischargeDepth := 7) [go_sem, *]; done)
          clear ha hb
          refine kuz (b := w.heap.size + 1) hk2 (by first | (simp; done) | (simp; omega) | omega) ?_
          intro ha hb hz2_1 hn2_1 hm2_1
          have hf2_1_0 : w2.cell? ⟨w.heap.size + 1, 0, none⟩ = some (.int .i64 ma) := (ha _).trans (by first | with_reducible assumption | (simp (maxDischargeDepth := 7) [go_sem]; done) | (simp (maxDischargeDepth := 7) [go_sem, *]; done))
          have hf2_1_1 : w2.cell? ⟨w.heap.size + 1, 1, none⟩ = some (.int .i64 mo) := (ha _).trans (by first | with_reducible assumption | (simp (maxDischargeDepth := 7) [go_sem]; done) | (simp (maxDischargeDepth := 7) [go_sem, *]; done))
          try have hg2_1 : ∀ o, w2.frozen? ⟨w.heap.size + 1, o, none⟩ = false := by intro o; rw [hb]; first | (simp (maxDischargeDepth := 7) [go_sem]; done) | (simp (maxDischargeDepth := 7) [go_sem, *]; done)
          clear ha hb
          refine kuz (b := w.heap.size + 2) hk2 (by first | (simp; done) | (simp; omega) | omega) ?_
          intro ha hb hz2_2 hn2_2 hm2_2
          have hf2_2_0 : w2.cell? ⟨w.heap.size + 2, 0, none⟩ = some (.int .i64 X) := (ha _).trans (by first | with_reducible assumption | (simp (maxDischargeDepth := 7) [go_sem]; done) | (simp (maxDischargeDepth := 7) [go_sem, *]; done))
          have hf2_2_1 : w2.cell? ⟨w.heap.size + 2, 1, none⟩ = some (.int .i64 Y) := (ha _).trans (by first | with_reducible assumption | (simp (maxDischargeDepth := 7) [go_sem]; done) | (simp (maxDischargeDepth := 7) [go_sem, *]; done))
          try have hg2_2 : ∀ o, w2.frozen? ⟨w.heap.size + 2, o, none⟩ = false := by intro o; rw [hb]; first | (simp (maxDischargeDepth := 7) [go_sem]; done) | (simp (maxDischargeDepth := 7) [go_sem, *]; done)
          clear ha hb
          (try clear hf1_0_0); (try clear hf1_0_1); (try clear hf1_1_0); (try clear hf1_1_1); (try clear hf1_2_0); (try clear hf1_2_1); (try clear hg1_0); (try clear hg1_1); (try clear hg1_2); (try clear hz1_1); (try clear hz1_2)
          go_wp2_with fail
          with_reducible refine (pv_bad X Y hp _).mono ?_
          rintro e w3 ⟨rfl, hk3⟩
          refine kuz (b := w.heap.size) hk3 (by first | (simp; done) | (simp; omega) | omega) ?_
          intro ha hb hz3_0 hn3_0 hm3_0
          have hf3_0_0 : w3.cell? ⟨w.heap.size, 0, none⟩ = some (.int .i64 la) := (ha _).trans (by first | with_reducible assumption | (simp (maxDischargeDepth := 7) [go_sem]; done) | (simp (maxDischargeDepth := 7) [go_sem, *]; done))
          have hf3_0_1 : w3.cell? ⟨w.heap.size, 1, none⟩ = some (.int .i64 lo) := (ha _).trans (by first | with_reducible assumption | (simp (maxDischargeDepth := 7) [go_sem]; done) | (simp (maxDischargeDepth := 7) [go_sem, *]; done))
          try have hg3_0 : ∀ o, w3.frozen? ⟨w.heap.size, o, none⟩ = false := by intro o; rw [hb]; first | (simp (maxDischargeDepth := 7) [go_sem]; done) | (simp (maxDischargeDepth := 7) [go_sem, *]; done)
          clear ha hb
          refine kuz (b := w.heap.size + 1) hk3 (by first | (simp; done) | (simp; omega) | omega) ?_
          intro ha hb hz3_1 hn3_1 hm3_1
          have hf3_1_0 : w3.cell? ⟨w.heap.size + 1, 0, none⟩ = some (.int .i64 ma) := (ha _).trans (by first | with_reducible assumption | (simp (maxDischargeDepth := 7) [go_sem]; done) | (simp (maxDischargeDepth := 7) [go_sem, *]; done))
          have hf3_1_1 : w3.cell? ⟨w.heap.size + 1, 1, none⟩ = some (.int .i64 mo) := (ha _).trans (by first | with_reducible assumption | (simp (maxDischargeDepth := 7) [go_sem]; done) | (simp (maxDischargeDepth := 7) [go_sem, *]; done))
          try have hg3_1 : ∀ o, w3.frozen? ⟨w.heap.size + 1, o, none⟩ = false := by intro o; rw [hb]; first | (simp (maxDischargeDepth := 7) [go_sem]; done) | (simp (maxDischargeDepth := 7) [go_sem, *]; done)
          clear ha hb
          refine kuz (b := w.heap.size + 2) hk3 (by first | (simp; done) | (simp; omega) | omega) ?_
          intro ha hb hz3_2 hn3_2 hm3_2
          have hf3_2_0 : w3.cell? ⟨w.heap.size + 2, 0, none⟩ = some (.int .i64 X) := (ha _).trans (by first | with_reducible assumption | (simp (maxDischargeDepth := 7) [go_sem]; done) | (simp (maxDischargeDepth := 7) [go_sem, *]; done))
          have hf3_2_1 : w3.cell? ⟨w.heap.size + 2, 1, none⟩ = some (.int .i64 Y) := (ha _).trans (by first | with_reducible assumption | (simp (maxDischargeDepth := 7) [go_sem]; done) | (simp (maxDischargeDepth := 7) [go_sem, *]; done))
          try have hg3_2 : ∀ o, w3.frozen? ⟨w.heap.size + 2, o, none⟩ = false := by intro o; rw [hb]; first | (simp (maxDischargeDepth := 7) [go_sem]; done) | (simp (maxDischargeDepth := 7) [go_sem, *]; done)
          clear ha hb
          refine kuz (b := w2.heap.size) hk3 (by first | (simp; done) | (simp; omega) | omega) ?_
          intro ha hb hz3_3 hn3_3 hm3_3
          have hf3_3_0 : w3.cell? ⟨w2.heap.size, 0, none⟩ = some (.int .i64 0) := (ha _).trans (by first | with_reducible assumption | (simp (maxDischargeDepth := 7) [go_sem]; done) | (simp (maxDischargeDepth := 7) [go_sem, *]; done))
          have hf3_3_1 : w3.cell? ⟨w2.heap.size, 1, none⟩ = some (.int .i64 0) := (ha _).trans (by first | with_reducible assumption | (simp (maxDischargeDepth := 7) [go_sem]; done) | (simp (maxDischargeDepth := 7) [go_sem, *]; done))
          try have hg3_3 : ∀ o, w3.frozen? ⟨w2.heap.size, o, none⟩ = false := by intro o; rw [hb]; first | (simp (maxDischargeDepth := 7) [go_sem]; done) | (simp (maxDischargeDepth := 7) [go_sem, *]; done)
          clear ha hb
          (try clear hf2_0_0); (try clear hf2_0_1); (try clear hf2_1_0); (try clear hf2_1_1); (try clear hf2_2_0); (try clear hf2_2_1); (try clear hg2_0); (try clear hg2_1); (try clear hg2_2); (try clear hz2_1); (try clear hz2_2)
          go_wp2_with fail
          with_reducible refine (Hm2.out _).mono ?_
          rintro e w4 ⟨rfl, hk4⟩
          refine kuz (b := w.heap.size) hk4 (by first | (simp; done) | (simp; omega) | omega) ?_
          intro ha hb hz4_0 hn4_0 hm4_0
          have hf4_0_0 : w4.cell? ⟨w.heap.size, 0, none⟩ = some (.int .i64 la) := (ha _).trans (by first | with_reducible assumption | (simp (maxDischargeDepth := 7) [go_sem]; done) | (simp (maxDischargeDepth := 7) [go_sem, *]; done))
          have hf4_0_1 : w4.cell? ⟨w.heap.size, 1, none⟩ = some (.int .i64 lo) := (ha _).trans (by first | with_reducible assumption | (simp (maxDischargeDepth := 7) [go_sem]; done) | (simp (maxDischargeDepth := 7) [go_sem, *]; done))
          try have hg4_0 : ∀ o, w4.frozen? ⟨w.heap.size, o, none⟩ = false := by intro o; rw [hb]; first | (simp (maxDischargeDepth := 7) [go_sem]; done) | (simp (maxDischargeDepth := 7) [go_sem, *]; done)
          clear ha hb
          refine kuz (b := w.heap.size + 1) hk4 (by first | (simp; done) | (simp; omega) | omega) ?_
          intro ha hb hz4_1 hn4_1 hm4_1
          have hf4_1_0 : w4.cell? ⟨w.heap.size + 1, 0, none⟩ = some (.int .i64 ma) := (ha _).trans (by first | with_reducible assumption | (simp (maxDischargeDepth := 7) [go_sem]; done) | (simp (maxDischargeDepth := 7) [go_sem, *]; done))
          have hf4_1_1 : w4.cell? ⟨w.heap.size + 1, 1, none⟩ = some (.int .i64 mo) := (ha _).trans (by first | with_reducible assumption | (simp (maxDischargeDepth := 7) [go_sem]; done) | (simp (maxDischargeDepth := 7) [go_sem, *]; done))
          try have hg4_1 : ∀ o, w4.frozen? ⟨w.heap.size + 1, o, none⟩ = false := by intro o; rw [hb]; first | (simp (maxDischargeDepth := 7) [go_sem]; done) | (simp (maxDischargeDepth := 7) [go_sem, *]; done)
          clear ha hb
          refine kuz (b := w.heap.size + 2) hk4 (by first | (simp; done) | (simp; omega) | omega) ?_
          intro ha hb hz4_2 hn4_2 hm4_2
          have hf4_2_0 : w4.cell? ⟨w.heap.size + 2, 0, none⟩ = some (.int .i64 X) := (ha _).trans (by first | with_reducible assumption | (simp (maxDischargeDepth := 7) [go_sem]; done) | (simp (maxDischargeDepth := 7) [go_sem, *]; done))
          have hf4_2_1 : w4.cell? ⟨w.heap.size + 2, 1, none⟩ = some (.int .i64 Y) := (ha _).trans (by first | with_reducible assumption | (simp (maxDischargeDepth := 7) [go_sem]; done) | (simp (maxDischargeDepth := 7) [go_sem, *]; done))
          try have hg4_2 : ∀ o, w4.frozen? ⟨w.heap.size + 2, o, none⟩ = false := by intro o; rw [hb]; first | (simp (maxDischargeDepth := 7) [go_sem]; done) | (simp (maxDischargeDepth := 7) [go_sem, *]; done)
          clear ha hb
          refine kuz (b := w2.heap.size) hk4 (by first | (simp; done) | (simp; omega) | omega) ?_
          intro ha hb hz4_3 hn4_3 hm4_3
          have hf4_3_0 : w4.cell? ⟨w2.heap.size, 0, none⟩ = some (.int .i64 0) := (ha _).trans (by first | with_reducible assumption | (simp (maxDischargeDepth := 7) [go_sem]; done) | (simp (maxDischargeDepth := 7) [go_sem, *]; done))
          have hf4_3_1 : w4.cell? ⟨w2.heap.size, 1, none⟩ = some (.int .i64 0) := (ha _).trans (by first | with_reducible assumption | (simp (maxDischargeDepth := 7) [go_sem]; done) | (simp (maxDischargeDepth := 7) [go_sem, *]; done))
          try have hg4_3 : ∀ o, w4.frozen? ⟨w2.heap.size, o, none⟩ = false := by intro o; rw [hb]; first | (simp (maxDischargeDepth := 7) [go_sem]; done) | (simp (maxDischargeDepth := 7) [go_sem, *]; done)
          clear ha hb
          (try clear hf3_0_0); (try clear hf3_0_1); (try clear hf3_1_0); (try clear hf3_1_1); (try clear hf3_2_0); (try clear hf3_2_1); (try clear hf3_3_0); (try clear hf3_3_1); (try clear hg3_0); (try clear hg3_1); (try clear hg3_2); (try clear hg3_3); (try clear hz3_1); (try clear hz3_2); (try clear hz3_3)
          go_wp2_with fail
          with_reducible refine (pv_ok XX YY hE2 _).mono ?_
          rintro e w5 ⟨rfl, hk5⟩
          refine kuz (b := w.heap.size) hk5 (by first | (simp; done) | (simp; omega) | omega) ?_
          intro ha hb hz5_0 hn5_0 hm5_0
          have hf5_0_0 : w5.cell? ⟨w.heap.size, 0, none⟩ = some (.int .i64 la) := (ha _).trans (by first | with_reducible assumption | (simp (maxDischargeDepth := 7) [go_sem]; done) | (simp (maxDischargeDepth := 7) [go_sem, *]; done))
          have hf5_0_1 : w5.cell? ⟨w.heap.size, 1, none⟩ = some (.int .i64 lo) := (ha _).trans (by first | with_reducible assumption | (simp (maxDischargeDepth := 7) [go_sem]; done) | (simp (maxDischargeDepth := 7) [go_sem, *]; done))
          try have hg5_0 : ∀ o, w5.frozen? ⟨w.heap.size, o, none⟩ = false := by intro o; rw [hb]; first | (simp (maxDischargeDepth := 7) [go_sem]; done) | (simp (maxDischargeDepth := 7) [go_sem, *]; done)
          clear ha hb
          refine kuz (b := w.heap.size + 1) hk5 (by first | (simp; done) | (simp; omega) | omega) ?_
          intro ha hb hz5_1 hn5_1 hm5_1
          have hf5_1_0 : w5.cell? ⟨w.heap.size + 1, 0, none⟩ = some (.int .i64 ma) := (ha _).trans (by first | with_reducible assumption | (simp (maxDischargeDepth := 7) [go_sem]; done) | (simp (maxDischargeDepth := 7) [go_sem, *]; done))
          have hf5_1_1 : w5.cell? ⟨w.heap.size + 1, 1, none⟩ = some (.int .i64 mo) := (ha _).trans (by first | with_reducible assumption | (simp (maxDischargeDepth := 7) [go_sem]; done) | (simp (maxDischargeDepth := 7) [go_sem, *]; done))
          try have hg5_1 : ∀ o, w5.frozen? ⟨w.heap.size + 1, o, none⟩ = false := by intro o; rw [hb]; first | (simp (maxDischargeDepth := 7) [go_sem]; done) | (simp (maxDischargeDepth := 7) [go_sem, *]; done)
          clear ha hb
          refine kuz (b := w.heap.size + 2) hk5 (by first | (simp; done) | (simp; omega) | omega) ?_
          intro ha hb hz5_2 hn5_2 hm5_2
          have hf5_2_0 : w5.cell? ⟨w.heap.size + 2, 0, none⟩ = some (.int .i64 X) := (ha _).trans (by first | with_reducible assumption | (simp (maxDischargeDepth := 7) [go_sem]; done) | (simp (maxDischargeDepth := 7) [go_sem, *]; done))
          have hf5_2_1 : w5.cell? ⟨w.heap.size + 2, 1, none⟩ = some (.int .i64 Y) := (ha _).trans (by first | with_reducible assumption | (simp (maxDischargeDepth := 7) [go_sem]; done) | (simp (maxDischargeDepth := 7) [go_sem, *]; done))
          try have hg5_2 : ∀ o, w5.frozen? ⟨w.heap.size + 2, o, none⟩ = false := by intro o; rw [hb]; first | (simp (maxDischargeDepth := 7) [go_sem]; done) | (simp (maxDischargeDepth := 7) [go_sem, *]; done)
          clear ha hb
          refine kuz (b := w2.heap.size) hk5 (by first | (simp; done) | (simp; omega) | omega) ?_
          intro ha hb hz5_3 hn5_3 hm5_3
          have hf5_3_0 : w5.cell? ⟨w2.heap.size, 0, none⟩ = some (.int .i64 0) := (ha _).trans (by first | with_reducible assumption | (simp (maxDischargeDepth := 7) [go_sem]; done) | (simp (maxDischargeDepth := 7) [go_sem, *]; done))
          have hf5_3_1 : w5.cell? ⟨w2.heap.size, 1, none⟩ = some (.int .i64 0) := (ha _).trans (by first | with_reducible assumption | (simp (maxDischargeDepth := 7) [go_sem]; done) | (simp (maxDischargeDepth := 7) [go_sem, *]; done))
          try have hg5_3 : ∀ o, w5.frozen? ⟨w2.heap.size, o, none⟩ = false := by intro o; rw [hb]; first | (simp (maxDischargeDepth := 7) [go_sem]; done) | (simp (maxDischargeDepth := 7) [go_sem, *]; done)
          clear ha hb
          refine kuz (b := w4.heap.size) hk5 (by first | (simp; done) | (simp; omega) | omega) ?_
          intro ha hb hz5_4 hn5_4 hm5_4
          have hf5_4_0 : w5.cell? ⟨w4.heap.size, 0, none⟩ = some (.int .i64 XX) := (ha _).trans (by first | with_reducible assumption | (simp (maxDischargeDepth := 7) [go_sem]; done) | (simp (maxDischargeDepth := 7) [go_sem, *]; done))
          have hf5_4_1 : w5.cell? ⟨w4.heap.size, 1, none⟩ = some (.int .i64 YY) := (ha _).trans (by first | with_reducible assumption | (simp (maxDischargeDepth := 7) [go_sem]; done) | (simp (maxDischargeDepth := 7) [go_sem, *]; done))
          try have hg5_4 : ∀ o, w5.frozen? ⟨w4.heap.size, o, none⟩ = false := by intro o; rw [hb]; first | (simp (maxDischargeDepth := 7) [go_sem]; done) | (simp (maxDischargeDepth := 7) [go_sem, *]; done)
          clear ha hb
          (try clear hf4_0_0); (try clear hf4_0_1); (try clear hf4_1_0); (try clear hf4_1_1); (try clear hf4_2_0); (try clear hf4_2_1); (try clear hf4_3_0); (try clear hf4_3_1); (try clear hg4_0); (try clear hg4_1); (try clear hg4_2); (try clear hg4_3); (try clear hz4_1); (try clear hz4_2); (try clear hz4_3)
          go_wp2_with fail
          with_reducible refine (valid_ok ma mo ma0 ma1 mo0 mo1 _).mono ?_
          rintro e w6 ⟨rfl, hk6⟩
          refine kuz (b := w.heap.size) hk6 (by first | (simp; done) | (simp; omega) | omega) ?_
          intro ha hb hz6_0 hn6_0 hm6_0
          have hf6_0_0 : w6.cell? ⟨w.heap.size, 0, none⟩ = some (.int .i64 la) := (ha _).trans (by first | with_reducible assumption | (simp (maxDischargeDepth := 7) [go_sem]; done) | (simp (maxDischargeDepth := 7) [go_sem, *]; done))
          have hf6_0_1 : w6.cell? ⟨w.heap.size, 1, none⟩ = some (.int .i64 lo) := (ha _).trans (by first | with_reducible assumption | (simp (maxDischargeDepth := 7) [go_sem]; done) | (simp (maxDischargeDepth := 7) [go_sem, *]; done))
          try have hg6_0 : ∀ o, w6.frozen? ⟨w.heap.size, o, none⟩ = false := by intro o; rw [hb]; first | (simp (maxDischargeDepth := 7) [go_sem]; done) | (simp (maxDischargeDepth := 7) [go_sem, *]; done)
          clear ha hb
          refine kuz (b := w.heap.size + 1) hk6 (by first | (simp; done) | (simp; omega) | omega) ?_
          intro ha hb hz6_1 hn6_1 hm6_1
          have hf6_1_0 : w6.cell? ⟨w.heap.size + 1, 0, none⟩ = some (.int .i64 ma) := (ha _).trans (by first | with_reducible assumption | (simp (maxDischargeDepth := 7) [go_sem]; done) | (simp (maxDischargeDepth := 7) [go_sem, *]; done))
          have hf6_1_1 : w6.cell? ⟨w.heap.size + 1, 1, none⟩ = some (.int .i64 mo) := (ha _).trans (by first | with_reducible assumption | (simp (maxDischargeDepth := 7) [go_sem]; done) | (simp (maxDischargeDepth := 7) [go_sem, *]; done))
          try have hg6_1 : ∀ o, w6.frozen? ⟨w.heap.size + 1, o, none⟩ = false := by intro o; rw [hb]; first | (simp (maxDischargeDepth := 7) [go_sem]; done) | (simp (maxDischargeDepth := 7) [go_sem, *]; done)
          clear ha hb
          refine kuz (b := w.heap.size + 2) hk6 (by first | (simp; done) | (simp; omega) | omega) ?_
          intro ha hb hz6_2 hn6_2 hm6_2
          have hf6_2_0 : w6.cell? ⟨w.heap.size + 2, 0, none⟩ = some (.int .i64 X) := (ha _).trans (by first | with_reducible assumption | (simp (maxDischargeDepth := 7) [go_sem]; done) | (simp (maxDischargeDepth := 7) [go_sem, *]; done))
          have hf6_2_1 : w6.cell? ⟨w.heap.size + 2, 1, none⟩ = some (.int .i64 Y) := (ha _).trans (by first | with_reducible assumption | (simp (maxDischargeDepth := 7) [go_sem]; done) | (simp (maxDischargeDepth := 7) [go_sem, *]; done))
          try have hg6_2 : ∀ o, w6.frozen? ⟨w.heap.size + 2, o, none⟩ = false := by intro o; rw [hb]; first | (simp (maxDischargeDepth := 7) [go_sem]; done) | (simp (maxDischargeDepth := 7) [go_sem, *]; done)
          clear ha hb
          refine kuz (b := w2.heap.size) hk6 (by first | (simp; done) | (simp; omega) | omega) ?_
          intro ha hb hz6_3 hn6_3 hm6_3
          have hf6_3_0 : w6.cell? ⟨w2.heap.size, 0, none⟩ = some (.int .i64 0) := (ha _).trans (by first | with_reducible assumption | (simp (maxDischargeDepth := 7) [go_sem]; done) | (simp (maxDischargeDepth := 7) [go_sem, *]; done))
          have hf6_3_1 : w6.cell? ⟨w2.heap.size, 1, none⟩ = some (.int .i64 0) := (ha _).trans (by first | with_reducible assumption | (simp (maxDischargeDepth := 7) [go_sem]; done) | (simp (maxDischargeDepth := 7) [go_sem, *]; done))
          try have hg6_3 : ∀ o, w6.frozen? ⟨w2.heap.size, o, none⟩ = false := by intro o; rw [hb]; first | (simp (maxDischargeDepth := 7) [go_sem]; done) | (simp (maxDischargeDepth := 7) [go_sem, *]; done)
          clear ha hb
          refine kuz (b := w4.heap.size) hk6 (by first | (simp; done) | (simp; omega) | omega) ?_
          intro ha hb hz6_4 hn6_4 hm6_4
          have hf6_4_0 : w6.cell? ⟨w4.heap.size, 0, none⟩ = some (.int .i64 XX) := (ha _).trans (by first | with_reducible assumption | (simp (maxDischargeDepth := 7) [go_sem]; done) | (simp (maxDischargeDepth := 7) [go_sem, *]; done))
          have hf6_4_1 : w6.cell? ⟨w4.heap.size, 1, none⟩ = some (.int .i64 YY) := (ha _).trans (by first | with_reducible assumption | (simp (maxDischargeDepth := 7) [go_sem]; done) | (simp (maxDischargeDepth := 7) [go_sem, *]; done))
          try have hg6_4 : ∀ o, w6.frozen? ⟨w4.heap.size, o, none⟩ = false := by intro o; rw [hb]; first | (simp (maxDischargeDepth := 7) [go_sem]; done) | (simp (maxDischargeDepth := 7) [go_sem, *]; done)
          clear ha hb
          (try clear hf5_0_0); (try clear hf5_0_1); (try clear hf5_1_0); (try clear hf5_1_1); (try clear hf5_2_0); (try clear hf5_2_1); (try clear hf5_3_0); (try clear hf5_3_1); (try clear hf5_4_0); (try clear hf5_4_1); (try clear hg5_0); (try clear hg5_1); (try clear hg5_2); (try clear hg5_3); (try clear hg5_4); (try clear hz5_1); (try clear hz5_2); (try clear hz5_3); (try clear hz5_4)
          all_goals go_wp2_with fail
          all_goals first | (go_ret; refine ⟨?_, (by repeat (first | with_reducible exact Kept.refl _ | with_reducible assumption | with_reducible refine Kept.setCell ?_ (by first | (simp; done) | (simp; omega) | omega) _ | with_reducible refine Kept.alloc ?_ _ | with_reducible refine Kept.drewN ?_ _ | with_reducible refine Kept.drew ?_ | with_reducible refine Kept.trans ?_ (by with_reducible assumption) | with_reducible refine Kept.dr ?_ (by with_reducible assumption)))⟩; first | rfl | (refine retb ?_; simp; done) | (refine retb ?_; simp; omega)) | (exfalso; omega)
        · have EQ := fun w => peqP_yes 0 0 w
          have EQQ := fun w => peqQ_yes 0 0 w
          have m2 := fun w => to_ok la lo la0 la1 lo0 lo1 ma mo ma0 ma1 mo0 mo1 w
          rw [hE.1, hE.2.1, hE.2.2] at m2
          clear hE
          have Hm2 := Lib.hid m2
          clear m2
          go_enter Try.func10, Try.ntmps10
          go_wp2_with fail
          with_reducible refine (awake_w _).mono ?_
          rintro e w1 ⟨rfl, hk1⟩
          refine kuz (b := w.heap.size) hk1 (by first | (simp; done) | (simp; omega) | omega) ?_
          intro ha hb hz1_0 hn1_0 hm1_0
          have hf1_0_0 : w1.cell? ⟨w.heap.size, 0, none⟩ = some (.int .i64 la) := (ha _).trans (by first | with_reducible assumption | (simp (maxDischargeDepth := 7) [go_sem]; done) | (simp (maxDischargeDepth := 7) [go_sem, *]; done))
          have hf1_0_1 : w1.cell? ⟨w.heap.size, 1, none⟩ = some (.int .i64 lo) := (ha _).trans (by first | with_reducible assumption | (simp (maxDischargeDepth := 7) [go_sem]; done) | (simp (maxDischargeDepth := 7) [go_sem, *]; done))
          try have hg1_0 : ∀ o, w1.frozen? ⟨w.heap.size, o, none⟩ = false := by intro o; rw [hb]; first | (simp (maxDischargeDepth := 7) [go_sem]; done) | (simp (maxDischargeDepth := 7) [go_sem, *]; done)
          clear ha hb
          refine kuz (b := w.heap.size + 1) hk1 (by first | (simp; done) | (simp; omega) | omega) ?_
          intro ha hb hz1_1 hn1_1 hm1_1
          have hf1_1_0 : w1.cell? ⟨w.heap.size + 1, 0, none⟩ = some (.int .i64 ma) := (ha _).trans (by first | with_reducible assumption | (simp (maxDischargeDepth := 7) [go_sem]; done) | (simp (maxDischargeDepth := 7) [go_sem, *]; done))
          have hf1_1_1 : w1.cell? ⟨w.heap.size + 1, 1, none⟩ = some (.int .i64 mo) := (ha _).trans (by first | with_reducible assumption | (simp (maxDischargeDepth := 7) [go_sem]; done) | (simp (maxDischargeDepth := 7) [go_sem, *]; done))
          try have hg1_1 : ∀ o, w1.frozen? ⟨w.heap.size + 1, o, none⟩ = false := by intro o; rw [hb]; first | (simp (maxDischargeDepth := 7) [go_sem]; done) | (simp (maxDischargeDepth := 7) [go_sem, *]; done)
          clear ha hb
          refine kuz (b := w.heap.size + 2) hk1 (by first | (simp; done) | (simp; omega) | omega) ?_
          intro ha hb hz1_2 hn1_2 hm1_2
          have hf1_2_0 : w1.cell? ⟨w.heap.size + 2, 0, none⟩ = some (.int .i64 X) := (ha _).trans (by first | with_reducible assumption | (simp (maxDischargeDepth := 7) [go_sem]; done) | (simp (maxDischargeDepth := 7) [go_sem, *]; done))
          have hf1_2_1 : w1.cell? ⟨w.heap.size + 2, 1, none⟩ = some (.int .i64 Y) := (ha _).trans (by first | with_reducible assumption | (simp (maxDischargeDepth := 7) [go_sem]; done) | (simp (maxDischargeDepth := 7) [go_sem, *]; done))
          try have hg1_2 : ∀ o, w1.frozen? ⟨w.heap.size + 2, o, none⟩ = false := by intro o; rw [hb]; first | (simp (maxDischargeDepth := 7) [go_sem]; done) | (simp (maxDischargeDepth := 7) [go_sem, *]; done)
          clear ha hb
          go_wp2_with fail
          with_reducible refine (from_badp la lo la0 la1 lo0 lo1 X Y hp _).mono ?_
          rintro e w2 ⟨rfl, hk2⟩
          refine kuz (b := w.heap.size) hk2 (by first | (simp; done) | (simp; omega) | omega) ?_
          intro ha hb hz2_0 hn2_0 hm2_0
          have hf2_0_0 : w2.cell? ⟨w.heap.size, 0, none⟩ = some (.int .i64 la) := (ha _).trans (by first | with_reducible assumption | (simp (maxDischargeDepth := 7) [go_sem]; done) | (simp (maxDischargeDepth := 7) [go_sem, *]; done))
          have hf2_0_1 : w2.cell? ⟨w.heap.size, 1, none⟩ = some (.int .i64 lo) := (ha _).trans (by first | with_reducible assumption | (simp (maxDischargeDepth := 7) [go_sem]; done) | (simp (maxDischargeDepth := 7) [go_sem, *]; done))
          try have hg2_0 : ∀ o, w2.frozen? ⟨w.heap.size, o, none⟩ = false := by intro o; rw [hb]; first | (simp (maxDischargeDepth := 7) [go_sem]; done) | (simp (maxDischargeDepth := 7) [go_sem, *]; done)
          clear ha hb
          refine kuz (b := w.heap.size + 1) hk2 (by first | (simp; done) | (simp; omega) | omega) ?_
          intro ha hb hz2_1 hn2_1 hm2_1
          have hf2_1_0 : w2.cell? ⟨w.heap.size + 1, 0, none⟩ = some (.int .i64 ma) := (ha _).trans (by first | with_reducible assumption | (simp (maxDischargeDepth := 7) [go_sem]; done) | (simp (maxDischargeDepth := 7) [go_sem, *]; done))
          have hf2_1_1 : w2.cell? ⟨w.heap.size + 1, 1, none⟩ = some (.int .i64 mo) := (ha _).trans (by first | with_reducible assumption | (simp (maxDischargeDepth := 7) [go_sem]; done) | (simp (maxDischargeDepth := 7) [go_sem, *]; done))
          try have hg2_1 : ∀ o, w2.frozen? ⟨w.heap.size + 1, o, none⟩ = false := by intro o; rw [hb]; first | (simp (maxDischargeDepth := 7) [go_sem]; done) | (simp (maxDischargeDepth := 7) [go_sem, *]; done)
          clear ha hb
          refine kuz (b := w.heap.size + 2) hk2 (by first | (simp; done) | (simp; omega) | omega) ?_
          intro ha hb hz2_2 hn2_2 hm2_2
          have hf2_2_0 : w2.cell? ⟨w.heap.size + 2, 0, none⟩ = some (.int .i64 X) := (ha _).trans (by first | with_reducible assumption | (simp (maxDischargeDepth := 7) [go_sem]; done) | (simp (maxDischargeDepth := 7) [go_sem, *]; done))
          have hf2_2_1 : w2.cell? ⟨w.heap.size + 2, 1, none⟩ = some (.int .i64 Y) := (ha _).trans (by first | with_reducible assumption | (simp (maxDischargeDepth := 7) [go_sem]; done) | (simp (maxDischargeDepth := 7) [go_sem, *]; done))
          try have hg2_2 : ∀ o, w2.frozen? ⟨w.heap.size + 2, o, none⟩ = false := by intro o; rw [hb]; first | (simp (maxDischargeDepth := 7) [go_sem]; done) | (simp (maxDischargeDepth := 7) [go_sem, *]; done)
          clear ha hb
          (try clear hf1_0_0); (try clear hf1_0_1); (try clear hf1_1_0); (try clear hf1_1_1); (try clear hf1_2_0); (try clear hf1_2_1); (try clear hg1_0); (try clear hg1_1); (try clear hg1_2); (try clear hz1_1); (try clear hz1_2)
          go_wp2_with fail
          with_reducible refine (pv_bad X Y hp _).mono ?_
          rintro e w3 ⟨rfl, hk3⟩
          refine kuz (b := w.heap.size) hk3 (by first | (simp; done) | (simp; omega) | omega) ?_
          intro ha hb hz3_0 hn3_0 hm3_0
          have hf3_0_0 : w3.cell? ⟨w.heap.size, 0, none⟩ = some (.int .i64 la) := (ha _).trans (by first | with_reducible assumption | (simp (maxDischargeDepth := 7) [go_sem]; done) | (simp (maxDischargeDepth := 7) [go_sem, *]; done))
          have hf3_0_1 : w3.cell? ⟨w.heap.size, 1, none⟩ = some (.int .i64 lo) := (ha _).trans (by first | with_reducible assumption | (simp (maxDischargeDepth := 7) [go_sem]; done) | (simp (maxDischargeDepth := 7) [go_sem, *]; done))
          try have hg3_0 : ∀ o, w3.frozen? ⟨w.heap.size, o, none⟩ = false := by intro o; rw [hb]; first | (simp (maxDischargeDepth := 7) [go_sem]; done) | (simp (maxDischargeDepth := 7) [go_sem, *]; done)
          clear ha hb
          refine kuz (b := w.heap.size + 1) hk3 (by first | (simp; done) | (simp; omega) | omega) ?_
          intro ha hb hz3_1 hn3_1 hm3_1
          have hf3_1_0 : w3.cell? ⟨w.heap.size + 1, 0, none⟩ = some (.int .i64 ma) := (ha _).trans (by first | with_reducible assumption | (simp (maxDischargeDepth := 7) [go_sem]; done) | (simp (maxDischargeDepth := 7) [go_sem, *]; done))
          have hf3_1_1 : w3.cell? ⟨w.heap.size + 1, 1, none⟩ = some (.int .i64 mo) := (ha _).trans (by first | with_reducible assumption | (simp (maxDischargeDepth := 7) [go_sem]; done) | (simp (maxDischargeDepth := 7) [go_sem, *]; done))
          try have hg3_1 : ∀ o, w3.frozen? ⟨w.heap.size + 1, o, none⟩ = false := by intro o; rw [hb]; first | (simp (maxDischargeDepth := 7) [go_sem]; done) | (simp (maxDischargeDepth := 7) [go_sem, *]; done)
          clear ha hb
          refine kuz (b := w.heap.size + 2) hk3 (by first | (simp; done) | (simp; omega) | omega) ?_
          intro ha hb hz3_2 hn3_2 hm3_2
          have hf3_2_0 : w3.cell? ⟨w.heap.size + 2, 0, none⟩ = some (.int .i64 X) := (ha _).trans (by first | with_reducible assumption | (simp (maxDischargeDepth := 7) [go_sem]; done) | (simp (maxDischargeDepth := 7) [go_sem, *]; done))
          have hf3_2_1 : w3.cell? ⟨w.heap.size + 2, 1, none⟩ = some (.int .i64 Y) := (ha _).trans (by first | with_reducible assumption | (simp (maxDischargeDepth := 7) [go_sem]; done) | (simp (maxDischargeDepth := 7) [go_sem, *]; done))
          try have hg3_2 : ∀ o, w3.frozen? ⟨w.heap.size + 2, o, none⟩ = false := by intro o; rw [hb]; first | (simp (maxDischargeDepth := 7) [go_sem]; done) | (simp (maxDischargeDepth := 7) [go_sem, *]; done)
          clear ha hb
          refine kuz (b := w2.heap.size) hk3 (by first | (simp; done) | (simp; omega) | omega) ?_
          intro ha hb hz3_3 hn3_3 hm3_3
          have hf3_3_0 : w3.cell? ⟨w2.heap.size, 0, none⟩ = some (.int .i64 0) := (ha _).trans (by first | with_reducible assumption | (simp (maxDischargeDepth := 7) [go_sem]; done) | (simp (maxDischargeDepth := 7) [go_sem, *]; done))
          have hf3_3_1 : w3.cell? ⟨w2.heap.size, 1, none⟩ = some (.int .i64 0) := (ha _).trans (by first | with_reducible assumption | (simp (maxDischargeDepth := 7) [go_sem]; done) | (simp (maxDischargeDepth := 7) [go_sem, *]; done))
          try have hg3_3 : ∀ o, w3.frozen? ⟨w2.heap.size, o, none⟩ = false := by intro o; rw [hb]; first | (simp (maxDischargeDepth := 7) [go_sem]; done) | (simp (maxDischargeDepth := 7) [go_sem, *]; done)
          clear ha hb
          (try clear hf2_0_0); (try clear hf2_0_1); (try clear hf2_1_0); (try clear hf2_1_1); (try clear hf2_2_0); (try clear hf2_2_1); (try clear hg2_0); (try clear hg2_1); (try clear hg2_2); (try clear hz2_1); (try clear hz2_2)
          go_wp2_with fail
          with_reducible refine (Hm2.out _).mono ?_
          rintro e w4 ⟨rfl, hk4⟩
          refine kuz (b := w.heap.size) hk4 (by first | (simp; done) | (simp; omega) | omega) ?_
          intro ha hb hz4_0 hn4_0 hm4_0
          have hf4_0_0 : w4.cell? ⟨w.heap.size, 0, none⟩ = some (.int .i64 la) := (ha _).trans (by first | with_reducible assumption | (simp (maxDischargeDepth := 7) [go_sem]; done) | (simp (maxDischargeDepth := 7) [go_sem, *]; done))
          have hf4_0_1 : w4.cell? ⟨w.heap.size, 1, none⟩ = some (.int .i64 lo) := (ha _).trans (by first | with_reducible assumption | (simp (maxDischargeDepth := 7) [go_sem]; done) | (simp (maxDischargeDepth := 7) [go_sem, *]; done))
          try have hg4_0 : ∀ o, w4.frozen? ⟨w.heap.size, o, none⟩ = false := by intro o; rw [hb]; first | (simp (maxDischargeDepth := 7) [go_sem]; done) | (simp (maxDischargeDepth := 7) [go_sem, *]; done)
          clear ha hb
          refine kuz (b := w.heap.size + 1) hk4 (by first | (simp; done) | (simp; omega) | omega) ?_
          intro ha hb hz4_1 hn4_1 hm4_1
          have hf4_1_0 : w4.cell? ⟨w.heap.size + 1, 0, none⟩ = some (.int .i64 ma) := (ha _).trans (by first | with_reducible assumption | (simp (maxDischargeDepth := 7) [go_sem]; done) | (simp (maxDischargeDepth := 7) [go_sem, *]; done))
          have hf4_1_1 : w4.cell? ⟨w.heap.size + 1, 1, none⟩ = some (.int .i64 mo) := (ha _).trans (by first | with_reducible assumption | (simp (maxDischargeDepth := 7) [go_sem]; done) | (simp (maxDischargeDepth := 7) [go_sem, *]; done))
          try have hg4_1 : ∀ o, w4.frozen? ⟨w.heap.size + 1, o, none⟩ = false := by intro o; rw [hb]; first | (simp (maxDischargeDepth := 7) [go_sem]; done) | (simp (maxDischargeDepth := 7) [go_sem, *]; done)
          clear ha hb
          refine kuz (b := w.heap.size + 2) hk4 (by first | (simp; done) | (simp; omega) | omega) ?_
          intro ha hb hz4_2 hn4_2 hm4_2
          have hf4_2_0 : w4.cell? ⟨w.heap.size + 2, 0, none⟩ = some (.int .i64 X) := (ha _).trans (by first | with_reducible assumption | (simp (maxDischargeDepth := 7) [go_sem]; done) | (simp (maxDischargeDepth := 7) [go_sem, *]; done))
          have hf4_2_1 : w4.cell? ⟨w.heap.size + 2, 1, none⟩ = some (.int .i64 Y) := (ha _).trans (by first | with_reducible assumption | (simp (maxDischargeDepth := 7) [go_sem]; done) | (simp (maxDischargeDepth := 7) [go_sem, *]; done))
          try have hg4_2 : ∀ o, w4.frozen? ⟨w.heap.size + 2, o, none⟩ = false := by intro o; rw [hb]; first | (simp (maxDischargeDepth := 7) [go_sem]; done) | (simp (maxDischargeDepth := 7) [go_sem, *]; done)
          clear ha hb
          refine kuz (b := w2.heap.size) hk4 (by first | (simp; done) | (simp; omega) | omega) ?_
          intro ha hb hz4_3 hn4_3 hm4_3
          have hf4_3_0 : w4.cell? ⟨w2.heap.size, 0, none⟩ = some (.int .i64 0) := (ha _).trans (by first | with_reducible assumption | (simp (maxDischargeDepth := 7) [go_sem]; done) | (simp (maxDischargeDepth := 7) [go_sem, *]; done))
          have hf4_3_1 : w4.cell? ⟨w2.heap.size, 1, none⟩ = some (.int .i64 0) := (ha _).trans (by first | with_reducible assumption | (simp (maxDischargeDepth := 7) [go_sem]; done) | (simp (maxDischargeDepth := 7) [go_sem, *]; done))
          try have hg4_3 : ∀ o, w4.frozen? ⟨w2.heap.size, o, none⟩ = false := by intro o; rw [hb]; first | (simp (maxDischargeDepth := 7) [go_sem]; done) | (simp (maxDischargeDepth := 7) [go_sem, *]; done)
          clear ha hb
          (try clear hf3_0_0); (try clear hf3_0_1); (try clear hf3_1_0); (try clear hf3_1_1); (try clear hf3_2_0); (try clear hf3_2_1); (try clear hf3_3_0); (try clear hf3_3_1); (try clear hg3_0); (try clear hg3_1); (try clear hg3_2); (try clear hg3_3); (try clear hz3_1); (try clear hz3_2); (try clear hz3_3)
          go_wp2_with fail
          with_reducible refine (pv_ok 0 0 rfl _).mono ?_
          rintro e w5 ⟨rfl, hk5⟩
          refine kuz (b := w.heap.size) hk5 (by first | (simp; done) | (simp; omega) | omega) ?_
          intro ha hb hz5_0 hn5_0 hm5_0
          have hf5_0_0 : w5.cell? ⟨w.heap.size, 0, none⟩ = some (.int .i64 la) := (ha _).trans (by first | with_reducible assumption | (simp (maxDischargeDepth := 7) [go_sem]; done) | (simp (maxDischargeDepth := 7) [go_sem, *]; done))
          have hf5_0_1 : w5.cell? ⟨w.heap.size, 1, none⟩ = some (.int .i64 lo) := (ha _).trans (by first | with_reducible assumption | (simp (maxDischargeDepth := 7) [go_sem]; done) | (simp (maxDischargeDepth := 7) [go_sem, *]; done))
          try have hg5_0 : ∀ o, w5.frozen? ⟨w.heap.size, o, none⟩ = false := by intro o; rw [hb]; first | (simp (maxDischargeDepth := 7) [go_sem]; done) | (simp (maxDischargeDepth := 7) [go_sem, *]; done)
          clear ha hb
          refine kuz (b := w.heap.size + 1) hk5 (by first | (simp; done) | (simp; omega) | omega) ?_
          intro ha hb hz5_1 hn5_1 hm5_1
          have hf5_1_0 : w5.cell? ⟨w.heap.size + 1, 0, none⟩ = some (.int .i64 ma) := (ha _).trans (by first | with_reducible assumption | (simp (maxDischargeDepth := 7) [go_sem]; done) | (simp (maxDischargeDepth := 7) [go_sem, *]; done))
          have hf5_1_1 : w5.cell? ⟨w.heap.size + 1, 1, none⟩ = some (.int .i64 mo) := (ha _).trans (by first | with_reducible assumption | (simp (maxDischargeDepth := 7) [go_sem]; done) | (simp (maxDischargeDepth := 7) [go_sem, *]; done))
          try have hg5_1 : ∀ o, w5.frozen? ⟨w.heap.size + 1, o, none⟩ = false := by intro o; rw [hb]; first | (simp (maxDischargeDepth := 7) [go_sem]; done) | (simp (maxDischargeDepth := 7) [go_sem, *]; done)
          clear ha hb
          refine kuz (b := w.heap.size + 2) hk5 (by first | (simp; done) | (simp; omega) | omega) ?_
          intro ha hb hz5_2 hn5_2 hm5_2
          have hf5_2_0 : w5.cell? ⟨w.heap.size + 2, 0, none⟩ = some (.int .i64 X) := (ha _).trans (by first | with_reducible assumption | (simp (maxDischargeDepth := 7) [go_sem]; done) | (simp (maxDischargeDepth := 7) [go_sem, *]; done))
          have hf5_2_1 : w5.cell? ⟨w.heap.size + 2, 1, none⟩ = some (.int .i64 Y) := (ha _).trans (by first | with_reducible assumption | (simp (maxDischargeDepth := 7) [go_sem]; done) | (simp (maxDischargeDepth := 7) [go_sem, *]; done))
          try have hg5_2 : ∀ o, w5.frozen? ⟨w.heap.size + 2, o, none⟩ = false := by intro o; rw [hb]; first | (simp (maxDischargeDepth := 7) [go_sem]; done) | (simp (maxDischargeDepth := 7) [go_sem, *]; done)
          clear ha hb
          refine kuz (b := w2.heap.size) hk5 (by first | (simp; done) | (simp; omega) | omega) ?_
          intro ha hb hz5_3 hn5_3 hm5_3
          have hf5_3_0 : w5.cell? ⟨w2.heap.size, 0, none⟩ = some (.int .i64 0) := (ha _).trans (by first | with_reducible assumption | (simp (maxDischargeDepth := 7) [go_sem]; done) | (simp (maxDischargeDepth := 7) [go_sem, *]; done))
          have hf5_3_1 : w5.cell? ⟨w2.heap.size, 1, none⟩ = some (.int .i64 0) := (ha _).trans (by first | with_reducible assumption | (simp (maxDischargeDepth := 7) [go_sem]; done) | (simp (maxDischargeDepth := 7) [go_sem, *]; done))
          try have hg5_3 : ∀ o, w5.frozen? ⟨w2.heap.size, o, none⟩ = false := by intro o; rw [hb]; first | (simp (maxDischargeDepth := 7) [go_sem]; done) | (simp (maxDischargeDepth := 7) [go_sem, *]; done)
          clear ha hb
          refine kuz (b := w4.heap.size) hk5 (by first | (simp; done) | (simp; omega) | omega) ?_
          intro ha hb hz5_4 hn5_4 hm5_4
          have hf5_4_0 : w5.cell? ⟨w4.heap.size, 0, none⟩ = some (.int .i64 0) := (ha _).trans (by first | with_reducible assumption | (simp (maxDischargeDepth := 7) [go_sem]; done) | (simp (maxDischargeDepth := 7) [go_sem, *]; done))
          have hf5_4_1 : w5.cell? ⟨w4.heap.size, 1, none⟩ = some (.int .i64 0) := (ha _).trans (by first | with_reducible assumption | (simp (maxDischargeDepth := 7) [go_sem]; done) | (simp (maxDischargeDepth := 7) [go_sem, *]; done))
          try have hg5_4 : ∀ o, w5.frozen? ⟨w4.heap.size, o, none⟩ = false := by intro o; rw [hb]; first | (simp (maxDischargeDepth := 7) [go_sem]; done) | (simp (maxDischargeDepth := 7) [go_sem, *]; done)
          clear ha hb
          (try clear hf4_0_0); (try clear hf4_0_1); (try clear hf4_1_0); (try clear hf4_1_1); (try clear hf4_2_0); (try clear hf4_2_1); (try clear hf4_3_0); (try clear hf4_3_1); (try clear hg4_0); (try clear hg4_1); (try clear hg4_2); (try clear hg4_3); (try clear hz4_1); (try clear hz4_2); (try clear hz4_3)
          go_wp2_with fail
          with_reducible refine (valid_ok ma mo ma0 ma1 mo0 mo1 _).mono ?_
          rintro e w6 ⟨rfl, hk6⟩
          refine kuz (b := w.heap.size) hk6 (by first | (simp; done) | (simp; omega) | omega) ?_
          intro ha hb hz6_0 hn6_0 hm6_0
          have hf6_0_0 : w6.cell? ⟨w.heap.size, 0, none⟩ = some (.int .i64 la) := (ha _).trans (by first | with_reducible assumption | (simp (maxDischargeDepth := 7) [go_sem]; done) | (simp (maxDischargeDepth := 7) [go_sem, *]; done))
          have hf6_0_1 : w6.cell? ⟨w.heap.size, 1, none⟩ = some (.int .i64 lo) := (ha _).trans (by first | with_reducible assumption | (simp (maxDischargeDepth := 7) [go_sem]; done) | (simp (maxDischargeDepth := 7) [go_sem, *]; done))
          try have hg6_0 : ∀ o, w6.frozen? ⟨w.heap.size, o, none⟩ = false := by intro o; rw [hb]; first | (simp (maxDischargeDepth := 7) [go_sem]; done) | (simp (maxDischargeDepth := 7) [go_sem, *]; done)
          clear ha hb
          refine kuz (b := w.heap.size + 1) hk6 (by first | (simp; done) | (simp; omega) | omega) ?_
          intro ha hb hz6_1 hn6_1 hm6_1
          have hf6_1_0 : w6.cell? ⟨w.heap.size + 1, 0, none⟩ = some (.int .i64 ma) := (ha _).trans (by first | with_reducible assumption | (simp (maxDischargeDepth := 7) [go_sem]; done) | (simp (maxDischargeDepth := 7) [go_sem, *]; done))
          have hf6_1_1 : w6.cell? ⟨w.heap.size + 1, 1, none⟩ = some (.int .i64 mo) := (ha _).trans (by first | with_reducible assumption | (simp (maxDischargeDepth := 7) [go_sem]; done) | (simp (maxDischargeDepth := 7) [go_sem, *]; done))
          try have hg6_1 : ∀ o, w6.frozen? ⟨w.heap.size + 1, o, none⟩ = false := by intro o; rw [hb]; first | (simp (maxDischargeDepth := 7) [go_sem]; done) | (simp (maxDischargeDepth := 7) [go_sem, *]; done)
          clear ha hb
          refine kuz (b := w.heap.size + 2) hk6 (by first | (simp; done) | (simp; omega) | omega) ?_
          intro ha hb hz6_2 hn6_2 hm6_2
          have hf6_2_0 : w6.cell? ⟨w.heap.size + 2, 0, none⟩ = some (.int .i64 X) := (ha _).trans (by first | with_reducible assumption | (simp (maxDischargeDepth := 7) [go_sem]; done) | (simp (maxDischargeDepth := 7) [go_sem, *]; done))
          have hf6_2_1 : w6.cell? ⟨w.heap.size + 2, 1, none⟩ = some (.int .i64 Y) := (ha _).trans (by first | with_reducible assumption | (simp (maxDischargeDepth := 7) [go_sem]; done) | (simp (maxDischargeDepth := 7) [go_sem, *]; done))
          try have hg6_2 : ∀ o, w6.frozen? ⟨w.heap.size + 2, o, none⟩ = false := by intro o; rw [hb]; first | (simp (maxDischargeDepth := 7) [go_sem]; done) | (simp (maxDischargeDepth := 7) [go_sem, *]; done)
          clear ha hb
          refine kuz (b := w2.heap.size) hk6 (by first | (simp; done) | (simp; omega) | omega) ?_
          intro ha hb hz6_3 hn6_3 hm6_3
          have hf6_3_0 : w6.cell? ⟨w2.heap.size, 0, none⟩ = some (.int .i64 0) := (ha _).trans (by first | with_reducible assumption | (simp (maxDischargeDepth := 7) [go_sem]; done) | (simp (maxDischargeDepth := 7) [go_sem, *]; done))
          have hf6_3_1 : w6.cell? ⟨w2.heap.size, 1, none⟩ = some (.int .i64 0) := (ha _).trans (by first | with_reducible assumption | (simp (maxDischargeDepth := 7) [go_sem]; done) | (simp (maxDischargeDepth := 7) [go_sem, *]; done))
          try have hg6_3 : ∀ o, w6.frozen? ⟨w2.heap.size, o, none⟩ = false := by intro o; rw [hb]; first | (simp (maxDischargeDepth := 7) [go_sem]; done) | (simp (maxDischargeDepth := 7) [go_sem, *]; done)
          clear ha hb
          refine kuz (b := w4.heap.size) hk6 (by first | (simp; done) | (simp; omega) | omega) ?_
          intro ha hb hz6_4 hn6_4 hm6_4
          have hf6_4_0 : w6.cell? ⟨w4.heap.size, 0, none⟩ = some (.int .i64 0) := (ha _).trans (by first | with_reducible assumption | (simp (maxDischargeDepth := 7) [go_sem]; done) | (simp (maxDischargeDepth := 7) [go_sem, *]; done))
          have hf6_4_1 : w6.cell? ⟨w4.heap.size, 1, none⟩ = some (.int .i64 0) := (ha _).trans (by first | with_reducible assumption | (simp (maxDischargeDepth := 7) [go_sem]; done) | (simp (maxDischargeDepth := 7) [go_sem, *]; done))
          try have hg6_4 : ∀ o, w6.frozen? ⟨w4.heap.size, o, none⟩ = false := by intro o; rw [hb]; first | (simp (maxDischargeDepth := 7) [go_sem]; done) | (simp (maxDischargeDepth := 7) [go_sem, *]; done)
          clear ha hb
          (try clear hf5_0_0); (try clear hf5_0_1); (try clear hf5_1_0); (try clear hf5_1_1); (try clear hf5_2_0); (try clear hf5_2_1); (try clear hf5_3_0); (try clear hf5_3_1); (try clear hf5_4_0); (try clear hf5_4_1); (try clear hg5_0); (try clear hg5_1); (try clear hg5_2); (try clear hg5_3); (try clear hg5_4); (try clear hz5_1); (try clear hz5_2); (try clear hz5_3); (try clear hz5_4)
          all_goals go_wp2_with fail
          all_goals first | (go_ret; refine ⟨?_, (by repeat (first | with_reducible exact Kept.refl _ | with_reducible assumption | with_reducible refine Kept.setCell ?_ (by first | (simp; done) | (simp; omega) | omega) _ | with_reducible refine Kept.alloc ?_ _ | with_reducible refine Kept.drewN ?_ _ | with_reducible refine Kept.drew ?_ | with_reducible refine Kept.trans ?_ (by with_reducible assumption) | with_reducible refine Kept.dr ?_ (by with_reducible assumption)))⟩; first | rfl | (refine retb ?_; simp; done) | (refine retb ?_; simp; omega)) | (exfalso; omega)

      · have hqb : ma < -32400000 ∨ 32400000 < ma ∨ mo ≤ -64800000 ∨ 64800000 < mo := by omega
        clear hq
        have EQ := fun w => peqP_yes 0 0 w
        have EQQ := fun w => peqQ_yes 0 0 w
        go_enter Try.func10, Try.ntmps10
        go_wp2_with fail
        with_reducible refine (awake_w _).mono ?_
        rintro e w1 ⟨rfl, hk1⟩
        refine kuz (b := w.heap.size) hk1 (by first | (simp; done) | (simp; omega) | omega) ?_
        intro ha hb hz1_0 hn1_0 hm1_0
        have hf1_0_0 : w1.cell? ⟨w.heap.size, 0, none⟩ = some (.int .i64 la) := (ha _).trans (by first | with_reducible assumption | (simp (maxDischargeDepth := 7) [go_sem]; done) | (simp (maxDischargeDepth := 7) [go_sem, *]; done))
        have hf1_0_1 : w1.cell? ⟨w.heap.size, 1, none⟩ = some (.int .i64 lo) := (ha _).trans (by first | with_reducible assumption | (simp (maxDischargeDepth := 7) [go_sem]; done) | (simp (maxDischargeDepth := 7) [go_sem, *]; done))
        try have hg1_0 : ∀ o, w1.frozen? ⟨w.heap.size, o, none⟩ = false := by intro o; rw [hb]; first | (simp (maxDischargeDepth := 7) [go_sem]; done) | (simp (maxDischargeDepth := 7) [go_sem, *]; done)
        clear ha hb
        refine kuz (b := w.heap.size + 1) hk1 (by first | (simp; done) | (simp; omega) | omega) ?_
        intro ha hb hz1_1 hn1_1 hm1_1
        have hf1_1_0 : w1.cell? ⟨w.heap.size + 1, 0, none⟩ = some (.int .i64 ma) := (ha _).trans (by first | with_reducible assumption | (simp (maxDischargeDepth := 7) [go_sem]; done) | (simp (maxDischargeDepth := 7) [go_sem, *]; done))
        have hf1_1_1 : w1.cell? ⟨w.heap.size + 1, 1, none⟩ = some (.int .i64 mo) := (ha _).trans (by first | with_reducible assumption | (simp (maxDischargeDepth := 7) [go_sem]; done) | (simp (maxDischargeDepth := 7) [go_sem, *]; done))
        try have hg1_1 : ∀ o, w1.frozen? ⟨w.heap.size + 1, o, none⟩ = false := by intro o; rw [hb]; first | (simp (maxDischargeDepth := 7) [go_sem]; done) | (simp (maxDischargeDepth := 7) [go_sem, *]; done)
        clear ha hb
        refine kuz (b := w.heap.size + 2) hk1 (by first | (simp; done) | (simp; omega) | omega) ?_
        intro ha hb hz1_2 hn1_2 hm1_2
        have hf1_2_0 : w1.cell? ⟨w.heap.size + 2, 0, none⟩ = some (.int .i64 X) := (ha _).trans (by first | with_reducible assumption | (simp (maxDischargeDepth := 7) [go_sem]; done) | (simp (maxDischargeDepth := 7) [go_sem, *]; done))
        have hf1_2_1 : w1.cell? ⟨w.heap.size + 2, 1, none⟩ = some (.int .i64 Y) := (ha _).trans (by first | with_reducible assumption | (simp (maxDischargeDepth := 7) [go_sem]; done) | (simp (maxDischargeDepth := 7) [go_sem, *]; done))
        try have hg1_2 : ∀ o, w1.frozen? ⟨w.heap.size + 2, o, none⟩ = false := by intro o; rw [hb]; first | (simp (maxDischargeDepth := 7) [go_sem]; done) | (simp (maxDischargeDepth := 7) [go_sem, *]; done)
        clear ha hb
        go_wp2_with fail
        with_reducible refine (from_badp la lo la0 la1 lo0 lo1 X Y hp _).mono ?_
        rintro e w2 ⟨rfl, hk2⟩
        refine kuz (b := w.heap.size) hk2 (by first | (simp; done) | (simp; omega) | omega) ?_
        intro ha hb hz2_0 hn2_0 hm2_0
        have hf2_0_0 : w2.cell? ⟨w.heap.size, 0, none⟩ = some (.int .i64 la) := (ha _).trans (by first | with_reducible assumption | (simp (maxDischargeDepth := 7) [go_sem]; done) | (simp (maxDischargeDepth := 7) [go_sem, *]; done))
        have hf2_0_1 : w2.cell? ⟨w.heap.size, 1, none⟩ = some (.int .i64 lo) := (ha _).trans (by first | with_reducible assumption | (simp (maxDischargeDepth := 7) [go_sem]; done) | (simp (maxDischargeDepth := 7) [go_sem, *]; done))
        try have hg2_0 : ∀ o, w2.frozen? ⟨w.heap.size, o, none⟩ = false := by intro o; rw [hb]; first | (simp (maxDischargeDepth := 7) [go_sem]; done) | (simp (maxDischargeDepth := 7) [go_sem, *]; done)
        clear ha hb
        refine kuz (b := w.heap.size + 1) hk2 (by first | (simp; done) | (simp; omega) | omega) ?_
        intro ha hb hz2_1 hn2_1 hm2_1
        have hf2_1_0 : w2.cell? ⟨w.heap.size + 1, 0, none⟩ = some (.int .i64 ma) := (ha _).trans (by first | with_reducible assumption | (simp (maxDischargeDepth := 7) [go_sem]; done) | (simp (maxDischargeDepth := 7) [go_sem, *]; done))
        have hf2_1_1 : w2.cell? ⟨w.heap.size + 1, 1, none⟩ = some (.int .i64 mo) := (ha _).trans (by first | with_reducible assumption | (simp (maxDischargeDepth := 7) [go_sem]; done) | (simp (maxDischargeDepth := 7) [go_sem, *]; done))
        try have hg2_1 : ∀ o, w2.frozen? ⟨w.heap.size + 1, o, none⟩ = false := by intro o; rw [hb]; first | (simp (maxDischargeDepth := 7) [go_sem]; done) | (simp (maxDischargeDepth := 7) [go_sem, *]; done)
        clear ha hb
        refine kuz (b := w.heap.size + 2) hk2 (by first | (simp; done) | (simp; omega) | omega) ?_
        intro ha hb hz2_2 hn2_2 hm2_2
        have hf2_2_0 : w2.cell? ⟨w.heap.size + 2, 0, none⟩ = some (.int .i64 X) := (ha _).trans (by first | with_reducible assumption | (simp (maxDischargeDepth := 7) [go_sem]; done) | (simp (maxDischargeDepth := 7) [go_sem, *]; done))
        have hf2_2_1 : w2.cell? ⟨w.heap.size + 2, 1, none⟩ = some (.int .i64 Y) := (ha _).trans (by first | with_reducible assumption | (simp (maxDischargeDepth := 7) [go_sem]; done) | (simp (maxDischargeDepth := 7) [go_sem, *]; done))
        try have hg2_2 : ∀ o, w2.frozen? ⟨w.heap.size + 2, o, none⟩ = false := by intro o; rw [hb]; first | (simp (maxDischargeDepth := 7) [go_sem]; done) | (simp (maxDischargeDepth := 7) [go_sem, *]; done)
        clear ha hb
        (try clear hf1_0_0); (try clear hf1_0_1); (try clear hf1_1_0); (try clear hf1_1_1); (try clear hf1_2_0); (try clear hf1_2_1); (try clear hg1_0); (try clear hg1_1); (try clear hg1_2); (try clear hz1_1); (try clear hz1_2)
        go_wp2_with fail
        with_reducible refine (pv_bad X Y hp _).mono ?_
        rintro e w3 ⟨rfl, hk3⟩
        refine kuz (b := w.heap.size) hk3 (by first | (simp; done) | (simp; omega) | omega) ?_
        intro ha hb hz3_0 hn3_0 hm3_0
        have hf3_0_0 : w3.cell? ⟨w.heap.size, 0, none⟩ = some (.int .i64 la) := (ha _).trans (by first | with_reducible assumption | (simp (maxDischargeDepth := 7) [go_sem]; done) | (simp (maxDischargeDepth := 7) [go_sem, *]; done))
        have hf3_0_1 : w3.cell? ⟨w.heap.size, 1, none⟩ = some (.int .i64 lo) := (ha _).trans (by first | with_reducible assumption | (simp (maxDischargeDepth := 7) [go_sem]; done) | (simp (maxDischargeDepth := 7) [go_sem, *]; done))
        try have hg3_0 : ∀ o, w3.frozen? ⟨w.heap.size, o, none⟩ = false := by intro o; rw [hb]; first | (simp (maxDischargeDepth := 7) [go_sem]; done) | (simp (maxDischargeDepth := 7) [go_sem, *]; done)
        clear ha hb
        refine kuz (b := w.heap.size + 1) hk3 (by first | (simp; done) | (simp; omega) | omega) ?_
        intro ha hb hz3_1 hn3_1 hm3_1
        have hf3_1_0 : w3.cell? ⟨w.heap.size + 1, 0, none⟩ = some (.int .i64 ma) := (ha _).trans (by first | with_reducible assumption | (simp (maxDischargeDepth := 7) [go_sem]; done) | (simp (maxDischargeDepth := 7) [go_sem, *]; done))
        have hf3_1_1 : w3.cell? ⟨w.heap.size + 1, 1, none⟩ = some (.int .i64 mo) := (ha _).trans (by first | with_reducible assumption | (simp (maxDischargeDepth := 7) [go_sem]; done) | (simp (maxDischargeDepth := 7) [go_sem, *]; done))
        try have hg3_1 : ∀ o, w3.frozen? ⟨w.heap.size + 1, o, none⟩ = false := by intro o; rw [hb]; first | (simp (maxDischargeDepth := 7) [go_sem]; done) | (simp (maxDischargeDepth := 7) [go_sem, *]; done)
        clear ha hb
        refine kuz (b := w.heap.size + 2) hk3 (by first | (simp; done) | (simp; omega) | omega) ?_
        intro ha hb hz3_2 hn3_2 hm3_2
        have hf3_2_0 : w3.cell? ⟨w.heap.size + 2, 0, none⟩ = some (.int .i64 X) := (ha _).trans (by first | with_reducible assumption | (simp (maxDischargeDepth := 7) [go_sem]; done) | (simp (maxDischargeDepth := 7) [go_sem, *]; done))
        have hf3_2_1 : w3.cell? ⟨w.heap.size + 2, 1, none⟩ = some (.int .i64 Y) := (ha _).trans (by first | with_reducible assumption | (simp (maxDischargeDepth := 7) [go_sem]; done) | (simp (maxDischargeDepth := 7) [go_sem, *]; done))
        try have hg3_2 : ∀ o, w3.frozen? ⟨w.heap.size + 2, o, none⟩ = false := by intro o; rw [hb]; first | (simp (maxDischargeDepth := 7) [go_sem]; done) | (simp (maxDischargeDepth := 7) [go_sem, *]; done)
        clear ha hb
        refine kuz (b := w2.heap.size) hk3 (by first | (simp; done) | (simp; omega) | omega) ?_
        intro ha hb hz3_3 hn3_3 hm3_3
        have hf3_3_0 : w3.cell? ⟨w2.heap.size, 0, none⟩ = some (.int .i64 0) := (ha _).trans (by first | with_reducible assumption | (simp (maxDischargeDepth := 7) [go_sem]; done) | (simp (maxDischargeDepth := 7) [go_sem, *]; done))
        have hf3_3_1 : w3.cell? ⟨w2.heap.size, 1, none⟩ = some (.int .i64 0) := (ha _).trans (by first | with_reducible assumption | (simp (maxDischargeDepth := 7) [go_sem]; done) | (simp (maxDischargeDepth := 7) [go_sem, *]; done))
        try have hg3_3 : ∀ o, w3.frozen? ⟨w2.heap.size, o, none⟩ = false := by intro o; rw [hb]; first | (simp (maxDischargeDepth := 7) [go_sem]; done) | (simp (maxDischargeDepth := 7) [go_sem, *]; done)
        clear ha hb
        (try clear hf2_0_0); (try clear hf2_0_1); (try clear hf2_1_0); (try clear hf2_1_1); (try clear hf2_2_0); (try clear hf2_2_1); (try clear hg2_0); (try clear hg2_1); (try clear hg2_2); (try clear hz2_1); (try clear hz2_2)
        go_wp2_with fail
        with_reducible refine (to_badq la lo la0 la1 lo0 lo1 ma mo hqb _).mono ?_
        rintro e w4 ⟨rfl, hk4⟩
        refine kuz (b := w.heap.size) hk4 (by first | (simp; done) | (simp; omega) | omega) ?_
        intro ha hb hz4_0 hn4_0 hm4_0
        have hf4_0_0 : w4.cell? ⟨w.heap.size, 0, none⟩ = some (.int .i64 la) := (ha _).trans (by first | with_reducible assumption | (simp (maxDischargeDepth := 7) [go_sem]; done) | (simp (maxDischargeDepth := 7) [go_sem, *]; done))
        have hf4_0_1 : w4.cell? ⟨w.heap.size, 1, none⟩ = some (.int .i64 lo) := (ha _).trans (by first | with_reducible assumption | (simp (maxDischargeDepth := 7) [go_sem]; done) | (simp (maxDischargeDepth := 7) [go_sem, *]; done))
        try have hg4_0 : ∀ o, w4.frozen? ⟨w.heap.size, o, none⟩ = false := by intro o; rw [hb]; first | (simp (maxDischargeDepth := 7) [go_sem]; done) | (simp (maxDischargeDepth := 7) [go_sem, *]; done)
        clear ha hb
        refine kuz (b := w.heap.size + 1) hk4 (by first | (simp; done) | (simp; omega) | omega) ?_
        intro ha hb hz4_1 hn4_1 hm4_1
        have hf4_1_0 : w4.cell? ⟨w.heap.size + 1, 0, none⟩ = some (.int .i64 ma) := (ha _).trans (by first | with_reducible assumption | (simp (maxDischargeDepth := 7) [go_sem]; done) | (simp (maxDischargeDepth := 7) [go_sem, *]; done))
        have hf4_1_1 : w4.cell? ⟨w.heap.size + 1, 1, none⟩ = some (.int .i64 mo) := (ha _).trans (by first | with_reducible assumption | (simp (maxDischargeDepth := 7) [go_sem]; done) | (simp (maxDischargeDepth := 7) [go_sem, *]; done))
        try have hg4_1 : ∀ o, w4.frozen? ⟨w.heap.size + 1, o, none⟩ = false := by intro o; rw [hb]; first | (simp (maxDischargeDepth := 7) [go_sem]; done) | (simp (maxDischargeDepth := 7) [go_sem, *]; done)
        clear ha hb
        refine kuz (b := w.heap.size + 2) hk4 (by first | (simp; done) | (simp; omega) | omega) ?_
        intro ha hb hz4_2 hn4_2 hm4_2
        have hf4_2_0 : w4.cell? ⟨w.heap.size + 2, 0, none⟩ = some (.int .i64 X) := (ha _).trans (by first | with_reducible assumption | (simp (maxDischargeDepth := 7) [go_sem]; done) | (simp (maxDischargeDepth := 7) [go_sem, *]; done))
        have hf4_2_1 : w4.cell? ⟨w.heap.size + 2, 1, none⟩ = some (.int .i64 Y) := (ha _).trans (by first | with_reducible assumption | (simp (maxDischargeDepth := 7) [go_sem]; done) | (simp (maxDischargeDepth := 7) [go_sem, *]; done))
        try have hg4_2 : ∀ o, w4.frozen? ⟨w.heap.size + 2, o, none⟩ = false := by intro o; rw [hb]; first | (simp (maxDischargeDepth := 7) [go_sem]; done) | (simp (maxDischargeDepth := 7) [go_sem, *]; done)
        clear ha hb
        refine kuz (b := w2.heap.size) hk4 (by first | (simp; done) | (simp; omega) | omega) ?_
        intro ha hb hz4_3 hn4_3 hm4_3
        have hf4_3_0 : w4.cell? ⟨w2.heap.size, 0, none⟩ = some (.int .i64 0) := (ha _).trans (by first | with_reducible assumption | (simp (maxDischargeDepth := 7) [go_sem]; done) | (simp (maxDischargeDepth := 7) [go_sem, *]; done))
        have hf4_3_1 : w4.cell? ⟨w2.heap.size, 1, none⟩ = some (.int .i64 0) := (ha _).trans (by first | with_reducible assumption | (simp (maxDischargeDepth := 7) [go_sem]; done) | (simp (maxDischargeDepth := 7) [go_sem, *]; done))
        try have hg4_3 : ∀ o, w4.frozen? ⟨w2.heap.size, o, none⟩ = false := by intro o; rw [hb]; first | (simp (maxDischargeDepth := 7) [go_sem]; done) | (simp (maxDischargeDepth := 7) [go_sem, *]; done)
        clear ha hb
        (try clear hf3_0_0); (try clear hf3_0_1); (try clear hf3_1_0); (try clear hf3_1_1); (try clear hf3_2_0); (try clear hf3_2_1); (try clear hf3_3_0); (try clear hf3_3_1); (try clear hg3_0); (try clear hg3_1); (try clear hg3_2); (try clear hg3_3); (try clear hz3_1); (try clear hz3_2); (try clear hz3_3)
        go_wp2_with fail
        with_reducible refine (pv_ok 0 0 rfl _).mono ?_
        rintro e w5 ⟨rfl, hk5⟩
        refine kuz (b := w.heap.size) hk5 (by first | (simp; done) | (simp; omega) | omega) ?_
        intro ha hb hz5_0 hn5_0 hm5_0
        have hf5_0_0 : w5.cell? ⟨w.heap.size, 0, none⟩ = some (.int .i64 la) := (ha _).trans (by first | with_reducible assumption | (simp (maxDischargeDepth := 7) [go_sem]; done) | (simp (maxDischargeDepth := 7) [go_sem, *]; done))
        have hf5_0_1 : w5.cell? ⟨w.heap.size, 1, none⟩ = some (.int .i64 lo) := (ha _).trans (by first | with_reducible assumption | (simp (maxDischargeDepth := 7) [go_sem]; done) | (simp (maxDischargeDepth := 7) [go_sem, *]; done))
        try have hg5_0 : ∀ o, w5.frozen? ⟨w.heap.size, o, none⟩ = false := by intro o; rw [hb]; first | (simp (maxDischargeDepth := 7) [go_sem]; done) | (simp (maxDischargeDepth := 7) [go_sem, *]; done)
        clear ha hb
        refine kuz (b := w.heap.size + 1) hk5 (by first | (simp; done) | (simp; omega) | omega) ?_
        intro ha hb hz5_1 hn5_1 hm5_1
        have hf5_1_0 : w5.cell? ⟨w.heap.size + 1, 0, none⟩ = some (.int .i64 ma) := (ha _).trans (by first | with_reducible assumption | (simp (maxDischargeDepth := 7) [go_sem]; done) | (simp (maxDischargeDepth := 7) [go_sem, *]; done))
        have hf5_1_1 : w5.cell? ⟨w.heap.size + 1, 1, none⟩ = some (.int .i64 mo) := (ha _).trans (by first | with_reducible assumption | (simp (maxDischargeDepth := 7) [go_sem]; done) | (simp (maxDischargeDepth := 7) [go_sem, *]; done))
        try have hg5_1 : ∀ o, w5.frozen? ⟨w.heap.size + 1, o, none⟩ = false := by intro o; rw [hb]; first | (simp (maxDischargeDepth := 7) [go_sem]; done) | (simp (maxDischargeDepth := 7) [go_sem, *]; done)
        clear ha hb
        refine kuz (b := w.heap.size + 2) hk5 (by first | (simp; done) | (simp; omega) | omega) ?_
        intro ha hb hz5_2 hn5_2 hm5_2
        have hf5_2_0 : w5.cell? ⟨w.heap.size + 2, 0, none⟩ = some (.int .i64 X) := (ha _).trans (by first | with_reducible assumption | (simp (maxDischargeDepth := 7) [go_sem]; done) | (simp (maxDischargeDepth := 7) [go_sem, *]; done))
        have hf5_2_1 : w5.cell? ⟨w.heap.size + 2, 1, none⟩ = some (.int .i64 Y) := (ha _).trans (by first | with_reducible assumption | (simp (maxDischargeDepth := 7) [go_sem]; done) | (simp (maxDischargeDepth := 7) [go_sem, *]; done))
        try have hg5_2 : ∀ o, w5.frozen? ⟨w.heap.size + 2, o, none⟩ = false := by intro o; rw [hb]; first | (simp (maxDischargeDepth := 7) [go_sem]; done) | (simp (maxDischargeDepth := 7) [go_sem, *]; done)
        clear ha hb
        refine kuz (b := w2.heap.size) hk5 (by first | (simp; done) | (simp; omega) | omega) ?_
        intro ha hb hz5_3 hn5_3 hm5_3
        have hf5_3_0 : w5.cell? ⟨w2.heap.size, 0, none⟩ = some (.int .i64 0) := (ha _).trans (by first | with_reducible assumption | (simp (maxDischargeDepth := 7) [go_sem]; done) | (simp (maxDischargeDepth := 7) [go_sem, *]; done))
        have hf5_3_1 : w5.cell? ⟨w2.heap.size, 1, none⟩ = some (.int .i64 0) := (ha _).trans (by first | with_reducible assumption | (simp (maxDischargeDepth := 7) [go_sem]; done) | (simp (maxDischargeDepth := 7) [go_sem, *]; done))
        try have hg5_3 : ∀ o, w5.frozen? ⟨w2.heap.size, o, none⟩ = false := by intro o; rw [hb]; first | (simp (maxDischargeDepth := 7) [go_sem]; done) | (simp (maxDischargeDepth := 7) [go_sem, *]; done)
        clear ha hb
        refine kuz (b := w4.heap.size) hk5 (by first | (simp; done) | (simp; omega) | omega) ?_
        intro ha hb hz5_4 hn5_4 hm5_4
        have hf5_4_0 : w5.cell? ⟨w4.heap.size, 0, none⟩ = some (.int .i64 0) := (ha _).trans (by first | with_reducible assumption | (simp (maxDischargeDepth := 7) [go_sem]; done) | (simp (maxDischargeDepth := 7) [go_sem, *]; done))
        have hf5_4_1 : w5.cell? ⟨w4.heap.size, 1, none⟩ = some (.int .i64 0) := (ha _).trans (by first | with_reducible assumption | (simp (maxDischargeDepth := 7) [go_sem]; done) | (simp (maxDischargeDepth := 7) [go_sem, *]; done))
        try have hg5_4 : ∀ o, w5.frozen? ⟨w4.heap.size, o, none⟩ = false := by intro o; rw [hb]; first | (simp (maxDischargeDepth := 7) [go_sem]; done) | (simp (maxDischargeDepth := 7) [go_sem, *]; done)
        clear ha hb
        (try clear hf4_0_0); (try clear hf4_0_1); (try clear hf4_1_0); (try clear hf4_1_1); (try clear hf4_2_0); (try clear hf4_2_1); (try clear hf4_3_0); (try clear hf4_3_1); (try clear hg4_0); (try clear hg4_1); (try clear hg4_2); (try clear hg4_3); (try clear hz4_1); (try clear hz4_2); (try clear hz4_3)
        go_wp2_with fail
        all_goals first | (go_ret; refine ⟨?_, (by repeat (first | with_reducible exact Kept.refl _ | with_reducible assumption | with_reducible refine Kept.setCell ?_ (by first | (simp; done) | (simp; omega) | omega) _ | with_reducible refine Kept.alloc ?_ _ | with_reducible refine Kept.drewN ?_ _ | with_reducible refine Kept.drew ?_ | with_reducible refine Kept.trans ?_ (by with_reducible assumption) | with_reducible refine Kept.dr ?_ (by with_reducible assumption)))⟩; first | rfl | (refine retb ?_; simp; done) | (refine retb ?_; simp; omega)) | (exfalso; omega)


  · have hb : la < -25200000 ∨ 25200000 < la ∨ lo ≤ -64800000 ∨ 64800000 < lo := by omega
    clear ho
    have EQ := fun w => peqP_yes 0 0 w
    have EQQ := fun w => peqQ_yes 0 0 w
    go_enter Try.func10, Try.ntmps10
    go_wp2_with fail
    with_reducible refine (awake_w _).mono ?_
    rintro e w1 ⟨rfl, hk1⟩
    refine kuz (b := w.heap.size) hk1 (by first | (simp; done) | (simp; omega) | omega) ?_
    intro ha hb hz1_0 hn1_0 hm1_0
    have hf1_0_0 : w1.cell? ⟨w.heap.size, 0, none⟩ = some (.int .i64 la) := (ha _).trans (by first | with_reducible assumption | (simp (maxDischargeDepth := 7) [go_sem]; done) | (simp (maxDischargeDepth := 7) [go_sem, *]; done))
    have hf1_0_1 : w1.cell? ⟨w.heap.size, 1, none⟩ = some (.int .i64 lo) := (ha _).trans (by first | with_reducible assumption | (simp (maxDischargeDepth := 7) [go_sem]; done) | (simp (maxDischargeDepth := 7) [go_sem, *]; done))
    try have hg1_0 : ∀ o, w1.frozen? ⟨w.heap.size, o, none⟩ = false := by intro o; rw [hb]; first | (simp (maxDischargeDepth := 7) [go_sem]; done) | (simp (maxDischargeDepth := 7) [go_sem, *]; done)
    clear ha hb
    refine kuz (b := w.heap.size + 1) hk1 (by first | (simp; done) | (simp; omega) | omega) ?_
    intro ha hb hz1_1 hn1_1 hm1_1
    have hf1_1_0 : w1.cell? ⟨w.heap.size + 1, 0, none⟩ = some (.int .i64 ma) := (ha _).trans (by first | with_reducible assumption | (simp (maxDischargeDepth := 7) [go_sem]; done) | (simp (maxDischargeDepth := 7) [go_sem, *]; done))
    have hf1_1_1 : w1.cell? ⟨w.heap.size + 1, 1, none⟩ = some (.int .i64 mo) := (ha _).trans (by first | with_reducible assumption | (simp (maxDischargeDepth := 7) [go_sem]; done) | (simp (maxDischargeDepth := 7) [go_sem, *]; done))
    try have hg1_1 : ∀ o, w1.frozen? ⟨w.heap.size + 1, o, none⟩ = false := by intro o; rw [hb]; first | (simp (maxDischargeDepth := 7) [go_sem]; done) | (simp (maxDischargeDepth := 7) [go_sem, *]; done)
    clear ha hb
    refine kuz (b := w.heap.size + 2) hk1 (by first | (simp; done) | (simp; omega) | omega) ?_
    intro ha hb hz1_2 hn1_2 hm1_2
    have hf1_2_0 : w1.cell? ⟨w.heap.size + 2, 0, none⟩ = some (.int .i64 X) := (ha _).trans (by first | with_reducible assumption | (simp (maxDischargeDepth := 7) [go_sem]; done) | (simp (maxDischargeDepth := 7) [go_sem, *]; done))
    have hf1_2_1 : w1.cell? ⟨w.heap.size + 2, 1, none⟩ = some (.int .i64 Y) := (ha _).trans (by first | with_reducible assumption | (simp (maxDischargeDepth := 7) [go_sem]; done) | (simp (maxDischargeDepth := 7) [go_sem, *]; done))
    try have hg1_2 : ∀ o, w1.frozen? ⟨w.heap.size + 2, o, none⟩ = false := by intro o; rw [hb]; first | (simp (maxDischargeDepth := 7) [go_sem]; done) | (simp (maxDischargeDepth := 7) [go_sem, *]; done)
    clear ha hb
    go_wp2_with fail
    with_reducible refine (from_bado la lo X Y hb _).mono ?_
    rintro e w2 ⟨rfl, hk2⟩
    refine kuz (b := w.heap.size) hk2 (by first | (simp; done) | (simp; omega) | omega) ?_
    intro ha hb hz2_0 hn2_0 hm2_0
    have hf2_0_0 : w2.cell? ⟨w.heap.size, 0, none⟩ = some (.int .i64 la) := (ha _).trans (by first | with_reducible assumption | (simp (maxDischargeDepth := 7) [go_sem]; done) | (simp (maxDischargeDepth := 7) [go_sem, *]; done))
    have hf2_0_1 : w2.cell? ⟨w.heap.size, 1, none⟩ = some (.int .i64 lo) := (ha _).trans (by first | with_reducible assumption | (simp (maxDischargeDepth := 7) [go_sem]; done) | (simp (maxDischargeDepth := 7) [go_sem, *]; done))
    try have hg2_0 : ∀ o, w2.frozen? ⟨w.heap.size, o, none⟩ = false := by intro o; rw [hb]; first | (simp (maxDischargeDepth := 7) [go_sem]; done) | (simp (maxDischargeDepth := 7) [go_sem, *]; done)
    clear ha hb
    refine kuz (b := w.heap.size + 1) hk2 (by first | (simp; done) | (simp; omega) | omega) ?_
    intro ha hb hz2_1 hn2_1 hm2_1
    have hf2_1_0 : w2.cell? ⟨w.heap.size + 1, 0, none⟩ = some (.int .i64 ma) := (ha _).trans (by first | with_reducible assumption | (simp (maxDischargeDepth := 7) [go_sem]; done) | (simp (maxDischargeDepth := 7) [go_sem, *]; done))
    have hf2_1_1 : w2.cell? ⟨w.heap.size + 1, 1, none⟩ = some (.int .i64 mo) := (ha _).trans (by first | with_reducible assumption | (simp (maxDischargeDepth := 7) [go_sem]; done) | (simp (maxDischargeDepth := 7) [go_sem, *]; done))
    try have hg2_1 : ∀ o, w2.frozen? ⟨w.heap.size + 1, o, none⟩ = false := by intro o; rw [hb]; first | (simp (maxDischargeDepth := 7) [go_sem]; done) | (simp (maxDischargeDepth := 7) [go_sem, *]; done)
    clear ha hb
    refine kuz (b := w.heap.size + 2) hk2 (by first | (simp; done) | (simp; omega) | omega) ?_
    intro ha hb hz2_2 hn2_2 hm2_2
    have hf2_2_0 : w2.cell? ⟨w.heap.size + 2, 0, none⟩ = some (.int .i64 X) := (ha _).trans (by first | with_reducible assumption | (simp (maxDischargeDepth := 7) [go_sem]; done) | (simp (maxDischargeDepth := 7) [go_sem, *]; done))
    have hf2_2_1 : w2.cell? ⟨w.heap.size + 2, 1, none⟩ = some (.int .i64 Y) := (ha _).trans (by first | with_reducible assumption | (simp (maxDischargeDepth := 7) [go_sem]; done) | (simp (maxDischargeDepth := 7) [go_sem, *]; done))
    try have hg2_2 : ∀ o, w2.frozen? ⟨w.heap.size + 2, o, none⟩ = false := by intro o; rw [hb]; first | (simp (maxDischargeDepth := 7) [go_sem]; done) | (simp (maxDischargeDepth := 7) [go_sem, *]; done)
    clear ha hb
    (try clear hf1_0_0); (try clear hf1_0_1); (try clear hf1_1_0); (try clear hf1_1_1); (try clear hf1_2_0); (try clear hf1_2_1); (try clear hg1_0); (try clear hg1_1); (try clear hg1_2); (try clear hz1_1); (try clear hz1_2)
    go_wp2_with fail
    with_reducible refine (to_bado la lo ma mo hb _).mono ?_
    rintro e w3 ⟨rfl, hk3⟩
    refine kuz (b := w.heap.size) hk3 (by first | (simp; done) | (simp; omega) | omega) ?_
    intro ha hb hz3_0 hn3_0 hm3_0
    have hf3_0_0 : w3.cell? ⟨w.heap.size, 0, none⟩ = some (.int .i64 la) := (ha _).trans (by first | with_reducible assumption | (simp (maxDischargeDepth := 7) [go_sem]; done) | (simp (maxDischargeDepth := 7) [go_sem, *]; done))
    have hf3_0_1 : w3.cell? ⟨w.heap.size, 1, none⟩ = some (.int .i64 lo) := (ha _).trans (by first | with_reducible assumption | (simp (maxDischargeDepth := 7) [go_sem]; done) | (simp (maxDischargeDepth := 7) [go_sem, *]; done))
    try have hg3_0 : ∀ o, w3.frozen? ⟨w.heap.size, o, none⟩ = false := by intro o; rw [hb]; first | (simp (maxDischargeDepth := 7) [go_sem]; done) | (simp (maxDischargeDepth := 7) [go_sem, *]; done)
    clear ha hb
    refine kuz (b := w.heap.size + 1) hk3 (by first | (simp; done) | (simp; omega) | omega) ?_
    intro ha hb hz3_1 hn3_1 hm3_1
    have hf3_1_0 : w3.cell? ⟨w.heap.size + 1, 0, none⟩ = some (.int .i64 ma) := (ha _).trans (by first | with_reducible assumption | (simp (maxDischargeDepth := 7) [go_sem]; done) | (simp (maxDischargeDepth := 7) [go_sem, *]; done))
    have hf3_1_1 : w3.cell? ⟨w.heap.size + 1, 1, none⟩ = some (.int .i64 mo) := (ha _).trans (by first | with_reducible assumption | (simp (maxDischargeDepth := 7) [go_sem]; done) | (simp (maxDischargeDepth := 7) [go_sem, *]; done))
    try have hg3_1 : ∀ o, w3.frozen? ⟨w.heap.size + 1, o, none⟩ = false := by intro o; rw [hb]; first | (simp (maxDischargeDepth := 7) [go_sem]; done) | (simp (maxDischargeDepth := 7) [go_sem, *]; done)
    clear ha hb
    refine kuz (b := w.heap.size + 2) hk3 (by first | (simp; done) | (simp; omega) | omega) ?_
    intro ha hb hz3_2 hn3_2 hm3_2
    have hf3_2_0 : w3.cell? ⟨w.heap.size + 2, 0, none⟩ = some (.int .i64 X) := (ha _).trans (by first | with_reducible assumption | (simp (maxDischargeDepth := 7) [go_sem]; done) | (simp (maxDischargeDepth := 7) [go_sem, *]; done))
    have hf3_2_1 : w3.cell? ⟨w.heap.size + 2, 1, none⟩ = some (.int .i64 Y) := (ha _).trans (by first | with_reducible assumption | (simp (maxDischargeDepth := 7) [go_sem]; done) | (simp (maxDischargeDepth := 7) [go_sem, *]; done))
    try have hg3_2 : ∀ o, w3.frozen? ⟨w.heap.size + 2, o, none⟩ = false := by intro o; rw [hb]; first | (simp (maxDischargeDepth := 7) [go_sem]; done) | (simp (maxDischargeDepth := 7) [go_sem, *]; done)
    clear ha hb
    refine kuz (b := w2.heap.size) hk3 (by first | (simp; done) | (simp; omega) | omega) ?_
    intro ha hb hz3_3 hn3_3 hm3_3
    have hf3_3_0 : w3.cell? ⟨w2.heap.size, 0, none⟩ = some (.int .i64 0) := (ha _).trans (by first | with_reducible assumption | (simp (maxDischargeDepth := 7) [go_sem]; done) | (simp (maxDischargeDepth := 7) [go_sem, *]; done))
    have hf3_3_1 : w3.cell? ⟨w2.heap.size, 1, none⟩ = some (.int .i64 0) := (ha _).trans (by first | with_reducible assumption | (simp (maxDischargeDepth := 7) [go_sem]; done) | (simp (maxDischargeDepth := 7) [go_sem, *]; done))
    try have hg3_3 : ∀ o, w3.frozen? ⟨w2.heap.size, o, none⟩ = false := by intro o; rw [hb]; first | (simp (maxDischargeDepth := 7) [go_sem]; done) | (simp (maxDischargeDepth := 7) [go_sem, *]; done)
    clear ha hb
    (try clear hf2_0_0); (try clear hf2_0_1); (try clear hf2_1_0); (try clear hf2_1_1); (try clear hf2_2_0); (try clear hf2_2_1); (try clear hg2_0); (try clear hg2_1); (try clear hg2_2); (try clear hz2_1); (try clear hz2_2)
    go_wp2_with fail
    with_reducible refine (pv_ok 0 0 rfl _).mono ?_
    rintro e w4 ⟨rfl, hk4⟩
    refine kuz (b := w.heap.size) hk4 (by first | (simp; done) | (simp; omega) | omega) ?_
    intro ha hb hz4_0 hn4_0 hm4_0
    have hf4_0_0 : w4.cell? ⟨w.heap.size, 0, none⟩ = some (.int .i64 la) := (ha _).trans (by first | with_reducible assumption | (simp (maxDischargeDepth := 7) [go_sem]; done) | (simp (maxDischargeDepth := 7) [go_sem, *]; done))
    have hf4_0_1 : w4.cell? ⟨w.heap.size, 1, none⟩ = some (.int .i64 lo) := (ha _).trans (by first | with_reducible assumption | (simp (maxDischargeDepth := 7) [go_sem]; done) | (simp (maxDischargeDepth := 7) [go_sem, *]; done))
    try have hg4_0 : ∀ o, w4.frozen? ⟨w.heap.size, o, none⟩ = false := by intro o; rw [hb]; first | (simp (maxDischargeDepth := 7) [go_sem]; done) | (simp (maxDischargeDepth := 7) [go_sem, *]; done)
    clear ha hb
    refine kuz (b := w.heap.size + 1) hk4 (by first | (simp; done) | (simp; omega) | omega) ?_
    intro ha hb hz4_1 hn4_1 hm4_1
    have hf4_1_0 : w4.cell? ⟨w.heap.size + 1, 0, none⟩ = some (.int .i64 ma) := (ha _).trans (by first | with_reducible assumption | (simp (maxDischargeDepth := 7) [go_sem]; done) | (simp (maxDischargeDepth := 7) [go_sem, *]; done))
    have hf4_1_1 : w4.cell? ⟨w.heap.size + 1, 1, none⟩ = some (.int .i64 mo) := (ha _).trans (by first | with_reducible assumption | (simp (maxDischargeDepth := 7) [go_sem]; done) | (simp (maxDischargeDepth := 7) [go_sem, *]; done))
    try have hg4_1 : ∀ o, w4.frozen? ⟨w.heap.size + 1, o, none⟩ = false := by intro o; rw [hb]; first | (simp (maxDischargeDepth := 7) [go_sem]; done) | (simp (maxDischargeDepth := 7) [go_sem, *]; done)
    clear ha hb
    refine kuz (b := w.heap.size + 2) hk4 (by first | (simp; done) | (simp; omega) | omega) ?_
    intro ha hb hz4_2 hn4_2 hm4_2
    have hf4_2_0 : w4.cell? ⟨w.heap.size + 2, 0, none⟩ = some (.int .i64 X) := (ha _).trans (by first | with_reducible assumption | (simp (maxDischargeDepth := 7) [go_sem]; done) | (simp (maxDischargeDepth := 7) [go_sem, *]; done))
    have hf4_2_1 : w4.cell? ⟨w.heap.size + 2, 1, none⟩ = some (.int .i64 Y) := (ha _).trans (by first | with_reducible assumption | (simp (maxDischargeDepth := 7) [go_sem]; done) | (simp (maxDischargeDepth := 7) [go_sem, *]; done))
    try have hg4_2 : ∀ o, w4.frozen? ⟨w.heap.size + 2, o, none⟩ = false := by intro o; rw [hb]; first | (simp (maxDischargeDepth := 7) [go_sem]; done) | (simp (maxDischargeDepth := 7) [go_sem, *]; done)
    clear ha hb
    refine kuz (b := w2.heap.size) hk4 (by first | (simp; done) | (simp; omega) | omega) ?_
    intro ha hb hz4_3 hn4_3 hm4_3
    have hf4_3_0 : w4.cell? ⟨w2.heap.size, 0, none⟩ = some (.int .i64 0) := (ha _).trans (by first | with_reducible assumption | (simp (maxDischargeDepth := 7) [go_sem]; done) | (simp (maxDischargeDepth := 7) [go_sem, *]; done))
    have hf4_3_1 : w4.cell? ⟨w2.heap.size, 1, none⟩ = some (.int .i64 0) := (ha _).trans (by first | with_reducible assumption | (simp (maxDischargeDepth := 7) [go_sem]; done) | (simp (maxDischargeDepth := 7) [go_sem, *]; done))
    try have hg4_3 : ∀ o, w4.frozen? ⟨w2.heap.size, o, none⟩ = false := by intro o; rw [hb]; first | (simp (maxDischargeDepth := 7) [go_sem]; done) | (simp (maxDischargeDepth := 7) [go_sem, *]; done)
    clear ha hb
    refine kuz (b := w3.heap.size) hk4 (by first | (simp; done) | (simp; omega) | omega) ?_
    intro ha hb hz4_4 hn4_4 hm4_4
    have hf4_4_0 : w4.cell? ⟨w3.heap.size, 0, none⟩ = some (.int .i64 0) := (ha _).trans (by first | with_reducible assumption | (simp (maxDischargeDepth := 7) [go_sem]; done) | (simp (maxDischargeDepth := 7) [go_sem, *]; done))
    have hf4_4_1 : w4.cell? ⟨w3.heap.size, 1, none⟩ = some (.int .i64 0) := (ha _).trans (by first | with_reducible assumption | (simp (maxDischargeDepth := 7) [go_sem]; done) | (simp (maxDischargeDepth := 7) [go_sem, *]; done))
    try have hg4_4 : ∀ o, w4.frozen? ⟨w3.heap.size, o, none⟩ = false := by intro o; rw [hb]; first | (simp (maxDischargeDepth := 7) [go_sem]; done) | (simp (maxDischargeDepth := 7) [go_sem, *]; done)
    clear ha hb
    (try clear hf3_0_0); (try clear hf3_0_1); (try clear hf3_1_0); (try clear hf3_1_1); (try clear hf3_2_0); (try clear hf3_2_1); (try clear hf3_3_0); (try clear hf3_3_1); (try clear hg3_0); (try clear hg3_1); (try clear hg3_2); (try clear hg3_3); (try clear hz3_1); (try clear hz3_2); (try clear hz3_3)
    go_wp2_with fail
    all_goals first | (go_ret; refine ⟨?_, (by repeat (first | with_reducible exact Kept.refl _ | with_reducible assumption | with_reducible refine Kept.setCell ?_ (by first | (simp; done) | (simp; omega) | omega) _ | with_reducible refine Kept.alloc ?_ _ | with_reducible refine Kept.drewN ?_ _ | with_reducible refine Kept.drew ?_ | with_reducible refine Kept.trans ?_ (by with_reducible assumption) | with_reducible refine Kept.dr ?_ (by with_reducible assumption)))⟩; first | rfl | (refine retb ?_; simp; done) | (refine retb ?_; simp; omega)) | (exfalso; omega)

end Go.Proofs.Ytoilodcadngcoaa
