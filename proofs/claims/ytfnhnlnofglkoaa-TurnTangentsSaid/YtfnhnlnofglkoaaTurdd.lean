/-
  Own contracts: package line and the document's answers of layer 11: turns.
-/
import Derived.Test.YtfnhnlnofglkoaaTura
import Derived.WalkKit
import Derived.ProofKit
import Derived.OpenShut
import Derived.WalkLawsBesides
import Derived.WalkSpells
import Derived.Lib.Hide
import Derived.Deep.DeepCutAuto
import Derived.Deep.CutBlock
import Derived.Deep.QuietTactic
import Derived.BigQuiet
import Derived.Handy
import Derived.StillTailTactics
import Derived.IntWalk
import Derived.LoopN
import Derived.Deep.RegionHeld3
namespace Go.Proofs.Ytfnhnlnofglkoaa
open Go.ChangeShapes Go.WideShapes Go.ChangeAt Go.RowKit
set_option linter.unusedVariables false
set_option linter.unusedSimpArgs false
def arS (s k : Int) : Int := if k = 1 then -(if s = 0 then 129600000 else s) else if s = 0 then 129600000 else s
theorem swT_bd2 (f t k : Int) : 0 ≤ swT f t k ∧ swT f t k < 129600000 := by
  unfold swT
  have a := swp_bd f t; have b := swp_bd t f
  split
  · exact a
  split
  · exact b
  · omega
set_option maxHeartbeats 4000000 in
set_option maxRecDepth 100000 in
theorem around_1 (aX aY cX cY bX bY : Int) (ha : pokB aX aY = true) (hc : pokB cX cY = true) (hb : pokB bX bY = true) (d1 : isq (dtp (aX - cX) (aY - cY) (aX - cX) (aY - cY)) ≠ 0) (d2 : isq (dtp (bX - cX) (bY - cY) (bX - cX) (bY - cY)) ≠ 0) (d3 : iabs (isq (dtp (aX - cX) (aY - cY) (aX - cX) (aY - cY)) - isq (dtp (bX - cX) (bY - cY) (bX - cX) (bY - cY))) ≤ 8) (w : World) : Calls Try.prog 36 #[.agg #[.int .i64 aX, .int .i64 aY], .agg #[.int .i64 cX, .int .i64 cY], .agg #[.int .i64 bX, .int .i64 bY], .int .u8 1] w fun e w' => e = .returned (.tuple #[.agg #[.int .i64 cX, .int .i64 cY, .int .i64 (isq (dtp (aX - cX) (aY - cY) (aX - cX) (aY - cY))), .int .i64 (csV cX cY aX aY), .int .i64 (arS (swT (csV cX cY aX aY) (csV cX cY bX bY) 1) 1)], .int .i64 0]) ∧ Kept w w' := by
  by_cases hz : (swT (csV cX cY aX aY) (csV cX cY bX bY) 1) = 0
  · obtain ⟨aX0, aX1, aY0, aY1⟩ := pok_yes ha
    obtain ⟨cX0, cX1, cY0, cY1⟩ := pok_yes hc
    obtain ⟨bX0, bX1, bY0, bY1⟩ := pok_yes hb
    have na := dtp_nn (aX - cX) (aY - cY)
    have la := dtp_lim4 (aX - cX) (aY - cY) (aX - cX) (aY - cY) (by omega) (by omega) (by omega) (by omega) (by omega) (by omega) (by omega) (by omega)
    have ia0 := (isq_ok _ na (by omega)).1
    have ia1 := isq_le _ 5656854 na (by omega) (by omega) (by omega)
    have nb := dtp_nn (bX - cX) (bY - cY)
    have lb := dtp_lim4 (bX - cX) (bY - cY) (bX - cX) (bY - cY) (by omega) (by omega) (by omega) (by omega) (by omega) (by omega) (by omega) (by omega)
    have ib0 := (isq_ok _ nb (by omega)).1
    have ib1 := isq_le _ 5656854 nb (by omega) (by omega) (by omega)
    have D1 := fun w => dist_ok cX cY aX aY hc ha w
    have D2 := fun w => dist_ok cX cY bX bY hc hb w
    have C1 := fun w => course_w cX cY aX aY w
    have C2 := fun w => course_w cX cY bX bY w
    obtain ⟨x0, x1⟩ := csV_bd cX cY aX aY
    obtain ⟨y0, y1⟩ := csV_bd cX cY bX bY
    generalize csE cX cY aX aY = E1 at *
    generalize csE cX cY bX bY = E2 at *
    have SW := fun w => sweep_w (csV cX cY aX aY) (csV cX cY bX bY) 1 (by omega) (by omega) (by omega) (by omega) (by omega) (by omega) w
    have sb : 0 ≤ (swT (csV cX cY aX aY) (csV cX cY bX bY) 1) ∧ (swT (csV cX cY aX aY) (csV cX cY bX bY) 1) < 129600000 := swT_bd2 _ _ _
    obtain ⟨sb0, sb1⟩ := sb
    have SA := fun w => sabs_w (isq (dtp (aX - cX) (aY - cY) (aX - cX) (aY - cY)) - isq (dtp (bX - cX) (bY - cY) (bX - cX) (bY - cY))) (by omega) (by omega) w
    generalize iabs (isq (dtp (aX - cX) (aY - cY) (aX - cX) (aY - cY)) - isq (dtp (bX - cX) (bY - cY) (bX - cX) (bY - cY))) = I at *
    generalize isq (dtp (aX - cX) (aY - cY) (aX - cX) (aY - cY)) = M at *
    generalize isq (dtp (bX - cX) (bY - cY) (bX - cX) (bY - cY)) = N at *
    rw [hz] at SW ⊢
    clear sb0 sb1 hz
    generalize (csV cX cY aX aY) = X at *
    generalize (csV cX cY bX bY) = Y at *
    have cm1 : (M == 0) = false := by rw [beq_eq_false_iff_ne]; exact d1
    have cm2 : (N == 0) = false := by rw [beq_eq_false_iff_ne]; exact d2
    clear na nb la lb
    have ea : arS 0 1 = -129600000 := by unfold arS; simp
    rw [ea]
    clear ea
    have HD1 := Lib.hid D1
    have HD2 := Lib.hid D2
    have HC1 := Lib.hid C1
    have HC2 := Lib.hid C2
    have HSW := Lib.hid SW
    have HSA := Lib.hid SA
    clear D1 D2 C1 C2 SW SA
    go_enter Try.func36, Try.ntmps36
    go_wp2_with fail
    with_reducible refine (pv_ok aX aY ha _).mono ?_
    rintro e w1 ⟨rfl, hk1⟩
    refine kuz (b := w.heap.size) hk1 (by first | (simp; done) | (simp; omega) | omega) ?_
    intro ha hb hz1_0 hn1_0 hm1_0
    have hf1_0_0 : w1.cell? ⟨w.heap.size, 0, none⟩ = some (.int .i64 aX) := (ha _).trans (by first | with_reducible assumption | (simp (maxDischargeDepth := 7) [go_sem]; done) | (simp (maxDischargeDepth := 7) [go_sem, *]; done))
    have hf1_0_1 : w1.cell? ⟨w.heap.size, 1, none⟩ = some (.int .i64 aY) := (ha _).trans (by first | with_reducible assumption | (simp (maxDischargeDepth := 7) [go_sem]; done) | (simp (maxDischargeDepth := 7) [go_sem, *]; done))
    try have hg1_0 : ∀ o, w1.frozen? ⟨w.heap.size, o, none⟩ = false := by intro o; rw [hb]; first | (simp (maxDischargeDepth := 7) [go_sem]; done) | (simp (maxDischargeDepth := 7) [go_sem, *]; done)
    clear ha hb
    refine kuz (b := w.heap.size + 1) hk1 (by first | (simp; done) | (simp; omega) | omega) ?_
    intro ha hb hz1_1 hn1_1 hm1_1
    have hf1_1_0 : w1.cell? ⟨w.heap.size + 1, 0, none⟩ = some (.int .i64 cX) := (ha _).trans (by first | with_reducible assumption | (simp (maxDischargeDepth := 7) [go_sem]; done) | (simp (maxDischargeDepth := 7) [go_sem, *]; done))
    have hf1_1_1 : w1.cell? ⟨w.heap.size + 1, 1, none⟩ = some (.int .i64 cY) := (ha _).trans (by first | with_reducible assumption | (simp (maxDischargeDepth := 7) [go_sem]; done) | (simp (maxDischargeDepth := 7) [go_sem, *]; done))
    try have hg1_1 : ∀ o, w1.frozen? ⟨w.heap.size + 1, o, none⟩ = false := by intro o; rw [hb]; first | (simp (maxDischargeDepth := 7) [go_sem]; done) | (simp (maxDischargeDepth := 7) [go_sem, *]; done)
    clear ha hb
    refine kuz (b := w.heap.size + 2) hk1 (by first | (simp; done) | (simp; omega) | omega) ?_
    intro ha hb hz1_2 hn1_2 hm1_2
    have hf1_2_0 : w1.cell? ⟨w.heap.size + 2, 0, none⟩ = some (.int .i64 bX) := (ha _).trans (by first | with_reducible assumption | (simp (maxDischargeDepth := 7) [go_sem]; done) | (simp (maxDischargeDepth := 7) [go_sem, *]; done))
    have hf1_2_1 : w1.cell? ⟨w.heap.size + 2, 1, none⟩ = some (.int .i64 bY) := (ha _).trans (by first | with_reducible assumption | (simp (maxDischargeDepth := 7) [go_sem]; done) | (simp (maxDischargeDepth := 7) [go_sem, *]; done))
    try have hg1_2 : ∀ o, w1.frozen? ⟨w.heap.size + 2, o, none⟩ = false := by intro o; rw [hb]; first | (simp (maxDischargeDepth := 7) [go_sem]; done) | (simp (maxDischargeDepth := 7) [go_sem, *]; done)
    clear ha hb
    refine kuz (b := w.heap.size + 3) hk1 (by first | (simp; done) | (simp; omega) | omega) ?_
    intro ha hb hz1_3 hn1_3 hm1_3
    have hf1_3_0 : w1.cell? ⟨w.heap.size + 3, 0, none⟩ = some (.int .i64 0) := (ha _).trans (by first | with_reducible assumption | (simp (maxDischargeDepth := 7) [go_sem]; done) | (simp (maxDischargeDepth := 7) [go_sem, *]; done))
    have hf1_3_1 : w1.cell? ⟨w.heap.size + 3, 1, none⟩ = some (.int .i64 0) := (ha _).trans (by first | with_reducible assumption | (simp (maxDischargeDepth := 7) [go_sem]; done) | (simp (maxDischargeDepth := 7) [go_sem, *]; done))
    have hf1_3_2 : w1.cell? ⟨w.heap.size + 3, 2, none⟩ = some (.int .i64 0) := (ha _).trans (by first | with_reducible assumption | (simp (maxDischargeDepth := 7) [go_sem]; done) | (simp (maxDischargeDepth := 7) [go_sem, *]; done))
    have hf1_3_3 : w1.cell? ⟨w.heap.size + 3, 3, none⟩ = some (.int .i64 0) := (ha _).trans (by first | with_reducible assumption | (simp (maxDischargeDepth := 7) [go_sem]; done) | (simp (maxDischargeDepth := 7) [go_sem, *]; done))
    have hf1_3_4 : w1.cell? ⟨w.heap.size + 3, 4, none⟩ = some (.int .i64 0) := (ha _).trans (by first | with_reducible assumption | (simp (maxDischargeDepth := 7) [go_sem]; done) | (simp (maxDischargeDepth := 7) [go_sem, *]; done))
    try have hg1_3 : ∀ o, w1.frozen? ⟨w.heap.size + 3, o, none⟩ = false := by intro o; rw [hb]; first | (simp (maxDischargeDepth := 7) [go_sem]; done) | (simp (maxDischargeDepth := 7) [go_sem, *]; done)
    clear ha hb
    go_wp2_with fail
    with_reducible refine (pv_ok cX cY hc _).mono ?_
    rintro e w2 ⟨rfl, hk2⟩
    refine kuz (b := w.heap.size) hk2 (by first | (simp; done) | (simp; omega) | omega) ?_
    intro ha hb hz2_0 hn2_0 hm2_0
    have hf2_0_0 : w2.cell? ⟨w.heap.size, 0, none⟩ = some (.int .i64 aX) := (ha _).trans (by first | with_reducible assumption | (simp (maxDischargeDepth := 7) [go_sem]; done) | (simp (maxDischargeDepth := 7) [go_sem, *]; done))
    have hf2_0_1 : w2.cell? ⟨w.heap.size, 1, none⟩ = some (.int .i64 aY) := (ha _).trans (by first | with_reducible assumption | (simp (maxDischargeDepth := 7) [go_sem]; done) | (simp (maxDischargeDepth := 7) [go_sem, *]; done))
    try have hg2_0 : ∀ o, w2.frozen? ⟨w.heap.size, o, none⟩ = false := by intro o; rw [hb]; first | (simp (maxDischargeDepth := 7) [go_sem]; done) | (simp (maxDischargeDepth := 7) [go_sem, *]; done)
    clear ha hb
    refine kuz (b := w.heap.size + 1) hk2 (by first | (simp; done) | (simp; omega) | omega) ?_
    intro ha hb hz2_1 hn2_1 hm2_1
    have hf2_1_0 : w2.cell? ⟨w.heap.size + 1, 0, none⟩ = some (.int .i64 cX) := (ha _).trans (by first | with_reducible assumption | (simp (maxDischargeDepth := 7) [go_sem]; done) | (simp (maxDischargeDepth := 7) [go_sem, *]; done))
    have hf2_1_1 : w2.cell? ⟨w.heap.size + 1, 1, none⟩ = some (.int .i64 cY) := (ha _).trans (by first | with_reducible assumption | (simp (maxDischargeDepth := 7) [go_sem]; done) | (simp (maxDischargeDepth := 7) [go_sem, *]; done))
    try have hg2_1 : ∀ o, w2.frozen? ⟨w.heap.size + 1, o, none⟩ = false := by intro o; rw [hb]; first | (simp (maxDischargeDepth := 7) [go_sem]; done) | (simp (maxDischargeDepth := 7) [go_sem, *]; done)
    clear ha hb
    refine kuz (b := w.heap.size + 2) hk2 (by first | (simp; done) | (simp; omega) | omega) ?_
    intro ha hb hz2_2 hn2_2 hm2_2
    have hf2_2_0 : w2.cell? ⟨w.heap.size + 2, 0, none⟩ = some (.int .i64 bX) := (ha _).trans (by first | with_reducible assumption | (simp (maxDischargeDepth := 7) [go_sem]; done) | (simp (maxDischargeDepth := 7) [go_sem, *]; done))
    have hf2_2_1 : w2.cell? ⟨w.heap.size + 2, 1, none⟩ = some (.int .i64 bY) := (ha _).trans (by first | with_reducible assumption | (simp (maxDischargeDepth := 7) [go_sem]; done) | (simp (maxDischargeDepth := 7) [go_sem, *]; done))
    try have hg2_2 : ∀ o, w2.frozen? ⟨w.heap.size + 2, o, none⟩ = false := by intro o; rw [hb]; first | (simp (maxDischargeDepth := 7) [go_sem]; done) | (simp (maxDischargeDepth := 7) [go_sem, *]; done)
    clear ha hb
    refine kuz (b := w.heap.size + 3) hk2 (by first | (simp; done) | (simp; omega) | omega) ?_
    intro ha hb hz2_3 hn2_3 hm2_3
    have hf2_3_0 : w2.cell? ⟨w.heap.size + 3, 0, none⟩ = some (.int .i64 0) := (ha _).trans (by first | with_reducible assumption | (simp (maxDischargeDepth := 7) [go_sem]; done) | (simp (maxDischargeDepth := 7) [go_sem, *]; done))
    have hf2_3_1 : w2.cell? ⟨w.heap.size + 3, 1, none⟩ = some (.int .i64 0) := (ha _).trans (by first | with_reducible assumption | (simp (maxDischargeDepth := 7) [go_sem]; done) | (simp (maxDischargeDepth := 7) [go_sem, *]; done))
    have hf2_3_2 : w2.cell? ⟨w.heap.size + 3, 2, none⟩ = some (.int .i64 0) := (ha _).trans (by first | with_reducible assumption | (simp (maxDischargeDepth := 7) [go_sem]; done) | (simp (maxDischargeDepth := 7) [go_sem, *]; done))
    have hf2_3_3 : w2.cell? ⟨w.heap.size + 3, 3, none⟩ = some (.int .i64 0) := (ha _).trans (by first | with_reducible assumption | (simp (maxDischargeDepth := 7) [go_sem]; done) | (simp (maxDischargeDepth := 7) [go_sem, *]; done))
    have hf2_3_4 : w2.cell? ⟨w.heap.size + 3, 4, none⟩ = some (.int .i64 0) := (ha _).trans (by first | with_reducible assumption | (simp (maxDischargeDepth := 7) [go_sem]; done) | (simp (maxDischargeDepth := 7) [go_sem, *]; done))
    try have hg2_3 : ∀ o, w2.frozen? ⟨w.heap.size + 3, o, none⟩ = false := by intro o; rw [hb]; first | (simp (maxDischargeDepth := 7) [go_sem]; done) | (simp (maxDischargeDepth := 7) [go_sem, *]; done)
    clear ha hb
    (try clear hf1_0_0); (try clear hf1_0_1); (try clear hf1_1_0); (try clear hf1_1_1); (try clear hf1_2_0); (try clear hf1_2_1); (try clear hf1_3_0); (try clear hf1_3_1); (try clear hf1_3_2); (try clear hf1_3_3); (try clear hf1_3_4); (try clear hg1_0); (try clear hg1_1); (try clear hg1_2); (try clear hg1_3); (try clear hz1_1); (try clear hz1_2); (try clear hz1_3)
    go_wp2_with fail
    with_reducible refine (pv_ok bX bY hb _).mono ?_
    rintro e w3 ⟨rfl, hk3⟩
    refine kuz (b := w.heap.size) hk3 (by first | (simp; done) | (simp; omega) | omega) ?_
    intro ha hb hz3_0 hn3_0 hm3_0
    have hf3_0_0 : w3.cell? ⟨w.heap.size, 0, none⟩ = some (.int .i64 aX) := (ha _).trans (by first | with_reducible assumption | (simp (maxDischargeDepth := 7) [go_sem]; done) | (simp (maxDischargeDepth := 7) [go_sem, *]; done))
    have hf3_0_1 : w3.cell? ⟨w.heap.size, 1, none⟩ = some (.int .i64 aY) := (ha _).trans (by first | with_reducible assumption | (simp (maxDischargeDepth := 7) [go_sem]; done) | (simp (maxDischargeDepth := 7) [go_sem, *]; done))
    try have hg3_0 : ∀ o, w3.frozen? ⟨w.heap.size, o, none⟩ = false := by intro o; rw [hb]; first | (simp (maxDischargeDepth := 7) [go_sem]; done) | (simp (maxDischargeDepth := 7) [go_sem, *]; done)
    clear ha hb
    refine kuz (b := w.heap.size + 1) hk3 (by first | (simp; done) | (simp; omega) | omega) ?_
    intro ha hb hz3_1 hn3_1 hm3_1
    have hf3_1_0 : w3.cell? ⟨w.heap.size + 1, 0, none⟩ = some (.int .i64 cX) := (ha _).trans (by first | with_reducible assumption | (simp (maxDischargeDepth := 7) [go_sem]; done) | (simp (maxDischargeDepth := 7) [go_sem, *]; done))
    have hf3_1_1 : w3.cell? ⟨w.heap.size + 1, 1, none⟩ = some (.int .i64 cY) := (ha _).trans (by first | with_reducible assumption | (simp (maxDischargeDepth := 7) [go_sem]; done) | (simp (maxDischargeDepth := 7) [go_sem, *]; done))
    try have hg3_1 : ∀ o, w3.frozen? ⟨w.heap.size + 1, o, none⟩ = false := by intro o; rw [hb]; first | (simp (maxDischargeDepth := 7) [go_sem]; done) | (simp (maxDischargeDepth := 7) [go_sem, *]; done)
    clear ha hb
    refine kuz (b := w.heap.size + 2) hk3 (by first | (simp; done) | (simp; omega) | omega) ?_
    intro ha hb hz3_2 hn3_2 hm3_2
    have hf3_2_0 : w3.cell? ⟨w.heap.size + 2, 0, none⟩ = some (.int .i64 bX) := (ha _).trans (by first | with_reducible assumption | (simp (maxDischargeDepth := 7) [go_sem]; done) | (simp (maxDischargeDepth := 7) [go_sem, *]; done))
    have hf3_2_1 : w3.cell? ⟨w.heap.size + 2, 1, none⟩ = some (.int .i64 bY) := (ha _).trans (by first | with_reducible assumption | (simp (maxDischargeDepth := 7) [go_sem]; done) | (simp (maxDischargeDepth := 7) [go_sem, *]; done))
    try have hg3_2 : ∀ o, w3.frozen? ⟨w.heap.size + 2, o, none⟩ = false := by intro o; rw [hb]; first | (simp (maxDischargeDepth := 7) [go_sem]; done) | (simp (maxDischargeDepth := 7) [go_sem, *]; done)
    clear ha hb
    refine kuz (b := w.heap.size + 3) hk3 (by first | (simp; done) | (simp; omega) | omega) ?_
    intro ha hb hz3_3 hn3_3 hm3_3
    have hf3_3_0 : w3.cell? ⟨w.heap.size + 3, 0, none⟩ = some (.int .i64 0) := (ha _).trans (by first | with_reducible assumption | (simp (maxDischargeDepth := 7) [go_sem]; done) | (simp (maxDischargeDepth := 7) [go_sem, *]; done))
    have hf3_3_1 : w3.cell? ⟨w.heap.size + 3, 1, none⟩ = some (.int .i64 0) := (ha _).trans (by first | with_reducible assumption | (simp (maxDischargeDepth := 7) [go_sem]; done) | (simp (maxDischargeDepth := 7) [go_sem, *]; done))
    have hf3_3_2 : w3.cell? ⟨w.heap.size + 3, 2, none⟩ = some (.int .i64 0) := (ha _).trans (by first | with_reducible assumption | (simp (maxDischargeDepth := 7) [go_sem]; done) | (simp (maxDischargeDepth := 7) [go_sem, *]; done))
    have hf3_3_3 : w3.cell? ⟨w.heap.size + 3, 3, none⟩ = some (.int .i64 0) := (ha _).trans (by first | with_reducible assumption | (simp (maxDischargeDepth := 7) [go_sem]; done) | (simp (maxDischargeDepth := 7) [go_sem, *]; done))
    have hf3_3_4 : w3.cell? ⟨w.heap.size + 3, 4, none⟩ = some (.int .i64 0) := (ha _).trans (by first | with_reducible assumption | (simp (maxDischargeDepth := 7) [go_sem]; done) | (simp (maxDischargeDepth := 7) [go_sem, *]; done))
    try have hg3_3 : ∀ o, w3.frozen? ⟨w.heap.size + 3, o, none⟩ = false := by intro o; rw [hb]; first | (simp (maxDischargeDepth := 7) [go_sem]; done) | (simp (maxDischargeDepth := 7) [go_sem, *]; done)
    clear ha hb
    (try clear hf2_0_0); (try clear hf2_0_1); (try clear hf2_1_0); (try clear hf2_1_1); (try clear hf2_2_0); (try clear hf2_2_1); (try clear hf2_3_0); (try clear hf2_3_1); (try clear hf2_3_2); (try clear hf2_3_3); (try clear hf2_3_4); (try clear hg2_0); (try clear hg2_1); (try clear hg2_2); (try clear hg2_3); (try clear hz2_1); (try clear hz2_2); (try clear hz2_3)
    go_wp2_with fail
    go_region_held3 (fun W => W.cell? ⟨w.heap.size, 0, none⟩ = some (.int .i64 aX) ∧ W.cell? ⟨w.heap.size, 1, none⟩ = some (.int .i64 aY) ∧ W.cell? ⟨w.heap.size + 1, 0, none⟩ = some (.int .i64 cX) ∧ W.cell? ⟨w.heap.size + 1, 1, none⟩ = some (.int .i64 cY) ∧ W.cell? ⟨w.heap.size + 2, 0, none⟩ = some (.int .i64 bX) ∧ W.cell? ⟨w.heap.size + 2, 1, none⟩ = some (.int .i64 bY)) (first | (go_keep; done) | (simp (maxDischargeDepth := 9) [*, World.cell?_alloc_some, World.cell?_setCell_far]; done) | (simp (maxDischargeDepth := 9) [go_sem, *]; done)) (first | (go_at_call 34; (first | with_reducible refine (HD1.out _).mono ?_); rintro e w' ⟨rfl, hk⟩; have hz := hk.size; (try (refine kuse (b := w.heap.size) hk (by first | (simp; done) | (simp; omega) | omega) ?_; intro hq0 hg0; have hy0 : w.heap.size < w'.heap.size := (by (try simp at hz); omega); have hn0 : ¬ w.heap.size = w'.heap.size := (by omega); have hm0 : ¬ w.heap.size = w'.heap.size + 1 := (by omega); refine withF (p := w'.cell? ⟨w.heap.size, 0, none⟩ = some (.int .i64 aX)) (by first | (rw [hq0]; with_reducible assumption) | (simp (maxDischargeDepth := 7) [go_sem, hq0]; done) | (simp (maxDischargeDepth := 7) [go_sem, hq0, *]; done) | fail) ?_; intro ff00; refine withF (p := w'.cell? ⟨w.heap.size, 1, none⟩ = some (.int .i64 aY)) (by first | (rw [hq0]; with_reducible assumption) | (simp (maxDischargeDepth := 7) [go_sem, hq0]; done) | (simp (maxDischargeDepth := 7) [go_sem, hq0, *]; done) | fail) ?_; intro ff01)); (try (refine kuse (b := w.heap.size + 1) hk (by first | (simp; done) | (simp; omega) | omega) ?_; intro hq1 hg1; have hy1 : w.heap.size + 1 < w'.heap.size := (by (try simp at hz); omega); have hn1 : ¬ w.heap.size + 1 = w'.heap.size := (by omega); have hm1 : ¬ w.heap.size + 1 = w'.heap.size + 1 := (by omega); refine withF (p := w'.cell? ⟨w.heap.size + 1, 0, none⟩ = some (.int .i64 cX)) (by first | (rw [hq1]; with_reducible assumption) | (simp (maxDischargeDepth := 7) [go_sem, hq1]; done) | (simp (maxDischargeDepth := 7) [go_sem, hq1, *]; done) | fail) ?_; intro ff10; refine withF (p := w'.cell? ⟨w.heap.size + 1, 1, none⟩ = some (.int .i64 cY)) (by first | (rw [hq1]; with_reducible assumption) | (simp (maxDischargeDepth := 7) [go_sem, hq1]; done) | (simp (maxDischargeDepth := 7) [go_sem, hq1, *]; done) | fail) ?_; intro ff11)); (try (refine kuse (b := w.heap.size + 2) hk (by first | (simp; done) | (simp; omega) | omega) ?_; intro hq2 hg2; have hy2 : w.heap.size + 2 < w'.heap.size := (by (try simp at hz); omega); have hn2 : ¬ w.heap.size + 2 = w'.heap.size := (by omega); have hm2 : ¬ w.heap.size + 2 = w'.heap.size + 1 := (by omega); refine withF (p := w'.cell? ⟨w.heap.size + 2, 0, none⟩ = some (.int .i64 bX)) (by first | (rw [hq2]; with_reducible assumption) | (simp (maxDischargeDepth := 7) [go_sem, hq2]; done) | (simp (maxDischargeDepth := 7) [go_sem, hq2, *]; done) | fail) ?_; intro ff20; refine withF (p := w'.cell? ⟨w.heap.size + 2, 1, none⟩ = some (.int .i64 bY)) (by first | (rw [hq2]; with_reducible assumption) | (simp (maxDischargeDepth := 7) [go_sem, hq2]; done) | (simp (maxDischargeDepth := 7) [go_sem, hq2, *]; done) | fail) ?_; intro ff21)); (try (refine kuse (b := w.heap.size + 3) hk (by first | (simp; done) | (simp; omega) | omega) ?_; intro hq3 hg3; have hy3 : w.heap.size + 3 < w'.heap.size := (by (try simp at hz); omega); have hn3 : ¬ w.heap.size + 3 = w'.heap.size := (by omega); have hm3 : ¬ w.heap.size + 3 = w'.heap.size + 1 := (by omega); refine withF (p := w'.cell? ⟨w.heap.size + 3, 0, none⟩ = some (.int .i64 0)) (by first | (rw [hq3]; with_reducible assumption) | (simp (maxDischargeDepth := 7) [go_sem, hq3]; done) | (simp (maxDischargeDepth := 7) [go_sem, hq3, *]; done) | fail) ?_; intro ff30; refine withF (p := w'.cell? ⟨w.heap.size + 3, 1, none⟩ = some (.int .i64 0)) (by first | (rw [hq3]; with_reducible assumption) | (simp (maxDischargeDepth := 7) [go_sem, hq3]; done) | (simp (maxDischargeDepth := 7) [go_sem, hq3, *]; done) | fail) ?_; intro ff31; refine withF (p := w'.cell? ⟨w.heap.size + 3, 2, none⟩ = some (.int .i64 0)) (by first | (rw [hq3]; with_reducible assumption) | (simp (maxDischargeDepth := 7) [go_sem, hq3]; done) | (simp (maxDischargeDepth := 7) [go_sem, hq3, *]; done) | fail) ?_; intro ff32; refine withF (p := w'.cell? ⟨w.heap.size + 3, 3, none⟩ = some (.int .i64 0)) (by first | (rw [hq3]; with_reducible assumption) | (simp (maxDischargeDepth := 7) [go_sem, hq3]; done) | (simp (maxDischargeDepth := 7) [go_sem, hq3, *]; done) | fail) ?_; intro ff33; refine withF (p := w'.cell? ⟨w.heap.size + 3, 4, none⟩ = some (.int .i64 0)) (by first | (rw [hq3]; with_reducible assumption) | (simp (maxDischargeDepth := 7) [go_sem, hq3]; done) | (simp (maxDischargeDepth := 7) [go_sem, hq3, *]; done) | fail) ?_; intro ff34))) | (go_at_call 34; (first | with_reducible refine (HD2.out _).mono ?_); rintro e w' ⟨rfl, hk⟩; have hz := hk.size; (try (refine kuse (b := w.heap.size) hk (by first | (simp; done) | (simp; omega) | omega) ?_; intro hq0 hg0; have hy0 : w.heap.size < w'.heap.size := (by (try simp at hz); omega); have hn0 : ¬ w.heap.size = w'.heap.size := (by omega); have hm0 : ¬ w.heap.size = w'.heap.size + 1 := (by omega); refine withF (p := w'.cell? ⟨w.heap.size, 0, none⟩ = some (.int .i64 aX)) (by first | (rw [hq0]; with_reducible assumption) | (simp (maxDischargeDepth := 7) [go_sem, hq0]; done) | (simp (maxDischargeDepth := 7) [go_sem, hq0, *]; done) | fail) ?_; intro ff00; refine withF (p := w'.cell? ⟨w.heap.size, 1, none⟩ = some (.int .i64 aY)) (by first | (rw [hq0]; with_reducible assumption) | (simp (maxDischargeDepth := 7) [go_sem, hq0]; done) | (simp (maxDischargeDepth := 7) [go_sem, hq0, *]; done) | fail) ?_; intro ff01)); (try (refine kuse (b := w.heap.size + 1) hk (by first | (simp; done) | (simp; omega) | omega) ?_; intro hq1 hg1; have hy1 : w.heap.size + 1 < w'.heap.size := (by (try simp at hz); omega); have hn1 : ¬ w.heap.size + 1 = w'.heap.size := (by omega); have hm1 : ¬ w.heap.size + 1 = w'.heap.size + 1 := (by omega); refine withF (p := w'.cell? ⟨w.heap.size + 1, 0, none⟩ = some (.int .i64 cX)) (by first | (rw [hq1]; with_reducible assumption) | (simp (maxDischargeDepth := 7) [go_sem, hq1]; done) | (simp (maxDischargeDepth := 7) [go_sem, hq1, *]; done) | fail) ?_; intro ff10; refine withF (p := w'.cell? ⟨w.heap.size + 1, 1, none⟩ = some (.int .i64 cY)) (by first | (rw [hq1]; with_reducible assumption) | (simp (maxDischargeDepth := 7) [go_sem, hq1]; done) | (simp (maxDischargeDepth := 7) [go_sem, hq1, *]; done) | fail) ?_; intro ff11)); (try (refine kuse (b := w.heap.size + 2) hk (by first | (simp; done) | (simp; omega) | omega) ?_; intro hq2 hg2; have hy2 : w.heap.size + 2 < w'.heap.size := (by (try simp at hz); omega); have hn2 : ¬ w.heap.size + 2 = w'.heap.size := (by omega); have hm2 : ¬ w.heap.size + 2 = w'.heap.size + 1 := (by omega); refine withF (p := w'.cell? ⟨w.heap.size + 2, 0, none⟩ = some (.int .i64 bX)) (by first | (rw [hq2]; with_reducible assumption) | (simp (maxDischargeDepth := 7) [go_sem, hq2]; done) | (simp (maxDischargeDepth := 7) [go_sem, hq2, *]; done) | fail) ?_; intro ff20; refine withF (p := w'.cell? ⟨w.heap.size + 2, 1, none⟩ = some (.int .i64 bY)) (by first | (rw [hq2]; with_reducible assumption) | (simp (maxDischargeDepth := 7) [go_sem, hq2]; done) | (simp (maxDischargeDepth := 7) [go_sem, hq2, *]; done) | fail) ?_; intro ff21)); (try (refine kuse (b := w.heap.size + 3) hk (by first | (simp; done) | (simp; omega) | omega) ?_; intro hq3 hg3; have hy3 : w.heap.size + 3 < w'.heap.size := (by (try simp at hz); omega); have hn3 : ¬ w.heap.size + 3 = w'.heap.size := (by omega); have hm3 : ¬ w.heap.size + 3 = w'.heap.size + 1 := (by omega); refine withF (p := w'.cell? ⟨w.heap.size + 3, 0, none⟩ = some (.int .i64 0)) (by first | (rw [hq3]; with_reducible assumption) | (simp (maxDischargeDepth := 7) [go_sem, hq3]; done) | (simp (maxDischargeDepth := 7) [go_sem, hq3, *]; done) | fail) ?_; intro ff30; refine withF (p := w'.cell? ⟨w.heap.size + 3, 1, none⟩ = some (.int .i64 0)) (by first | (rw [hq3]; with_reducible assumption) | (simp (maxDischargeDepth := 7) [go_sem, hq3]; done) | (simp (maxDischargeDepth := 7) [go_sem, hq3, *]; done) | fail) ?_; intro ff31; refine withF (p := w'.cell? ⟨w.heap.size + 3, 2, none⟩ = some (.int .i64 0)) (by first | (rw [hq3]; with_reducible assumption) | (simp (maxDischargeDepth := 7) [go_sem, hq3]; done) | (simp (maxDischargeDepth := 7) [go_sem, hq3, *]; done) | fail) ?_; intro ff32; refine withF (p := w'.cell? ⟨w.heap.size + 3, 3, none⟩ = some (.int .i64 0)) (by first | (rw [hq3]; with_reducible assumption) | (simp (maxDischargeDepth := 7) [go_sem, hq3]; done) | (simp (maxDischargeDepth := 7) [go_sem, hq3, *]; done) | fail) ?_; intro ff33; refine withF (p := w'.cell? ⟨w.heap.size + 3, 4, none⟩ = some (.int .i64 0)) (by first | (rw [hq3]; with_reducible assumption) | (simp (maxDischargeDepth := 7) [go_sem, hq3]; done) | (simp (maxDischargeDepth := 7) [go_sem, hq3, *]; done) | fail) ?_; intro ff34))))
    all_goals go_wp2_with fail
    with_reducible refine (HSA.out _).mono ?_
    rintro e w' ⟨rfl, rfl⟩
    go_wp2_with fail
    with_reducible refine (HC1.out _).mono ?_
    rintro e w5 ⟨rfl, hk5⟩
    refine kuz (b := w.heap.size) hk5 (by first | (simp; done) | (simp; omega) | omega) ?_
    intro ha hb hz5_0 hn5_0 hm5_0
    have hf5_0_0 : w5.cell? ⟨w.heap.size, 0, none⟩ = some (.int .i64 aX) := (ha _).trans (by first | with_reducible assumption | (simp (maxDischargeDepth := 7) [go_sem]; done) | (simp (maxDischargeDepth := 7) [go_sem, *]; done))
    have hf5_0_1 : w5.cell? ⟨w.heap.size, 1, none⟩ = some (.int .i64 aY) := (ha _).trans (by first | with_reducible assumption | (simp (maxDischargeDepth := 7) [go_sem]; done) | (simp (maxDischargeDepth := 7) [go_sem, *]; done))
    try have hg5_0 : ∀ o, w5.frozen? ⟨w.heap.size, o, none⟩ = false := by intro o; rw [hb]; first | (simp (maxDischargeDepth := 7) [go_sem]; done) | (simp (maxDischargeDepth := 7) [go_sem, *]; done)
    clear ha hb
    refine kuz (b := w.heap.size + 1) hk5 (by first | (simp; done) | (simp; omega) | omega) ?_
    intro ha hb hz5_1 hn5_1 hm5_1
    have hf5_1_0 : w5.cell? ⟨w.heap.size + 1, 0, none⟩ = some (.int .i64 cX) := (ha _).trans (by first | with_reducible assumption | (simp (maxDischargeDepth := 7) [go_sem]; done) | (simp (maxDischargeDepth := 7) [go_sem, *]; done))
    have hf5_1_1 : w5.cell? ⟨w.heap.size + 1, 1, none⟩ = some (.int .i64 cY) := (ha _).trans (by first | with_reducible assumption | (simp (maxDischargeDepth := 7) [go_sem]; done) | (simp (maxDischargeDepth := 7) [go_sem, *]; done))
    try have hg5_1 : ∀ o, w5.frozen? ⟨w.heap.size + 1, o, none⟩ = false := by intro o; rw [hb]; first | (simp (maxDischargeDepth := 7) [go_sem]; done) | (simp (maxDischargeDepth := 7) [go_sem, *]; done)
    clear ha hb
    refine kuz (b := w.heap.size + 2) hk5 (by first | (simp; done) | (simp; omega) | omega) ?_
    intro ha hb hz5_2 hn5_2 hm5_2
    have hf5_2_0 : w5.cell? ⟨w.heap.size + 2, 0, none⟩ = some (.int .i64 bX) := (ha _).trans (by first | with_reducible assumption | (simp (maxDischargeDepth := 7) [go_sem]; done) | (simp (maxDischargeDepth := 7) [go_sem, *]; done))
    have hf5_2_1 : w5.cell? ⟨w.heap.size + 2, 1, none⟩ = some (.int .i64 bY) := (ha _).trans (by first | with_reducible assumption | (simp (maxDischargeDepth := 7) [go_sem]; done) | (simp (maxDischargeDepth := 7) [go_sem, *]; done))
    try have hg5_2 : ∀ o, w5.frozen? ⟨w.heap.size + 2, o, none⟩ = false := by intro o; rw [hb]; first | (simp (maxDischargeDepth := 7) [go_sem]; done) | (simp (maxDischargeDepth := 7) [go_sem, *]; done)
    clear ha hb
    refine kuz (b := w.heap.size + 3) hk5 (by first | (simp; done) | (simp; omega) | omega) ?_
    intro ha hb hz5_3 hn5_3 hm5_3
    have hf5_3_0 : w5.cell? ⟨w.heap.size + 3, 0, none⟩ = some (.int .i64 0) := (ha _).trans (by first | with_reducible assumption | (simp (maxDischargeDepth := 7) [go_sem]; done) | (simp (maxDischargeDepth := 7) [go_sem, *]; done))
    have hf5_3_1 : w5.cell? ⟨w.heap.size + 3, 1, none⟩ = some (.int .i64 0) := (ha _).trans (by first | with_reducible assumption | (simp (maxDischargeDepth := 7) [go_sem]; done) | (simp (maxDischargeDepth := 7) [go_sem, *]; done))
    have hf5_3_2 : w5.cell? ⟨w.heap.size + 3, 2, none⟩ = some (.int .i64 0) := (ha _).trans (by first | with_reducible assumption | (simp (maxDischargeDepth := 7) [go_sem]; done) | (simp (maxDischargeDepth := 7) [go_sem, *]; done))
    have hf5_3_3 : w5.cell? ⟨w.heap.size + 3, 3, none⟩ = some (.int .i64 0) := (ha _).trans (by first | with_reducible assumption | (simp (maxDischargeDepth := 7) [go_sem]; done) | (simp (maxDischargeDepth := 7) [go_sem, *]; done))
    have hf5_3_4 : w5.cell? ⟨w.heap.size + 3, 4, none⟩ = some (.int .i64 0) := (ha _).trans (by first | with_reducible assumption | (simp (maxDischargeDepth := 7) [go_sem]; done) | (simp (maxDischargeDepth := 7) [go_sem, *]; done))
    try have hg5_3 : ∀ o, w5.frozen? ⟨w.heap.size + 3, o, none⟩ = false := by intro o; rw [hb]; first | (simp (maxDischargeDepth := 7) [go_sem]; done) | (simp (maxDischargeDepth := 7) [go_sem, *]; done)
    clear ha hb
    (try clear hf3_0_0); (try clear hf3_0_1); (try clear hf3_1_0); (try clear hf3_1_1); (try clear hf3_2_0); (try clear hf3_2_1); (try clear hf3_3_0); (try clear hf3_3_1); (try clear hf3_3_2); (try clear hf3_3_3); (try clear hf3_3_4); (try clear hg3_0); (try clear hg3_1); (try clear hg3_2); (try clear hg3_3); (try clear hz3_1); (try clear hz3_2); (try clear hz3_3)
    go_wp2_with fail
    with_reducible refine (HC2.out _).mono ?_
    rintro e w6 ⟨rfl, hk6⟩
    refine kuz (b := w.heap.size) hk6 (by first | (simp; done) | (simp; omega) | omega) ?_
    intro ha hb hz6_0 hn6_0 hm6_0
    have hf6_0_0 : w6.cell? ⟨w.heap.size, 0, none⟩ = some (.int .i64 aX) := (ha _).trans (by first | with_reducible assumption | (simp (maxDischargeDepth := 7) [go_sem]; done) | (simp (maxDischargeDepth := 7) [go_sem, *]; done))
    have hf6_0_1 : w6.cell? ⟨w.heap.size, 1, none⟩ = some (.int .i64 aY) := (ha _).trans (by first | with_reducible assumption | (simp (maxDischargeDepth := 7) [go_sem]; done) | (simp (maxDischargeDepth := 7) [go_sem, *]; done))
    try have hg6_0 : ∀ o, w6.frozen? ⟨w.heap.size, o, none⟩ = false := by intro o; rw [hb]; first | (simp (maxDischargeDepth := 7) [go_sem]; done) | (simp (maxDischargeDepth := 7) [go_sem, *]; done)
    clear ha hb
    refine kuz (b := w.heap.size + 1) hk6 (by first | (simp; done) | (simp; omega) | omega) ?_
    intro ha hb hz6_1 hn6_1 hm6_1
    have hf6_1_0 : w6.cell? ⟨w.heap.size + 1, 0, none⟩ = some (.int .i64 cX) := (ha _).trans (by first | with_reducible assumption | (simp (maxDischargeDepth := 7) [go_sem]; done) | (simp (maxDischargeDepth := 7) [go_sem, *]; done))
    have hf6_1_1 : w6.cell? ⟨w.heap.size + 1, 1, none⟩ = some (.int .i64 cY) := (ha _).trans (by first | with_reducible assumption | (simp (maxDischargeDepth := 7) [go_sem]; done) | (simp (maxDischargeDepth := 7) [go_sem, *]; done))
    try have hg6_1 : ∀ o, w6.frozen? ⟨w.heap.size + 1, o, none⟩ = false := by intro o; rw [hb]; first | (simp (maxDischargeDepth := 7) [go_sem]; done) | (simp (maxDischargeDepth := 7) [go_sem, *]; done)
    clear ha hb
    refine kuz (b := w.heap.size + 2) hk6 (by first | (simp; done) | (simp; omega) | omega) ?_
    intro ha hb hz6_2 hn6_2 hm6_2
    have hf6_2_0 : w6.cell? ⟨w.heap.size + 2, 0, none⟩ = some (.int .i64 bX) := (ha _).trans (by first | with_reducible assumption | (simp (maxDischargeDepth := 7) [go_sem]; done) | (simp (maxDischargeDepth := 7) [go_sem, *]; done))
    have hf6_2_1 : w6.cell? ⟨w.heap.size + 2, 1, none⟩ = some (.int .i64 bY) := (ha _).trans (by first | with_reducible assumption | (simp (maxDischargeDepth := 7) [go_sem]; done) | (simp (maxDischargeDepth := 7) [go_sem, *]; done))
    try have hg6_2 : ∀ o, w6.frozen? ⟨w.heap.size + 2, o, none⟩ = false := by intro o; rw [hb]; first | (simp (maxDischargeDepth := 7) [go_sem]; done) | (simp (maxDischargeDepth := 7) [go_sem, *]; done)
    clear ha hb
    refine kuz (b := w.heap.size + 3) hk6 (by first | (simp; done) | (simp; omega) | omega) ?_
    intro ha hb hz6_3 hn6_3 hm6_3
    have hf6_3_0 : w6.cell? ⟨w.heap.size + 3, 0, none⟩ = some (.int .i64 0) := (ha _).trans (by first | with_reducible assumption | (simp (maxDischargeDepth := 7) [go_sem]; done) | (simp (maxDischargeDepth := 7) [go_sem, *]; done))
    have hf6_3_1 : w6.cell? ⟨w.heap.size + 3, 1, none⟩ = some (.int .i64 0) := (ha _).trans (by first | with_reducible assumption | (simp (maxDischargeDepth := 7) [go_sem]; done) | (simp (maxDischargeDepth := 7) [go_sem, *]; done))
    have hf6_3_2 : w6.cell? ⟨w.heap.size + 3, 2, none⟩ = some (.int .i64 0) := (ha _).trans (by first | with_reducible assumption | (simp (maxDischargeDepth := 7) [go_sem]; done) | (simp (maxDischargeDepth := 7) [go_sem, *]; done))
    have hf6_3_3 : w6.cell? ⟨w.heap.size + 3, 3, none⟩ = some (.int .i64 0) := (ha _).trans (by first | with_reducible assumption | (simp (maxDischargeDepth := 7) [go_sem]; done) | (simp (maxDischargeDepth := 7) [go_sem, *]; done))
    have hf6_3_4 : w6.cell? ⟨w.heap.size + 3, 4, none⟩ = some (.int .i64 0) := (ha _).trans (by first | with_reducible assumption | (simp (maxDischargeDepth := 7) [go_sem]; done) | (simp (maxDischargeDepth := 7) [go_sem, *]; done))
    try have hg6_3 : ∀ o, w6.frozen? ⟨w.heap.size + 3, o, none⟩ = false := by intro o; rw [hb]; first | (simp (maxDischargeDepth := 7) [go_sem]; done) | (simp (maxDischargeDepth := 7) [go_sem, *]; done)
    clear ha hb
    (try clear hf5_0_0); (try clear hf5_0_1); (try clear hf5_1_0); (try clear hf5_1_1); (try clear hf5_2_0); (try clear hf5_2_1); (try clear hf5_3_0); (try clear hf5_3_1); (try clear hf5_3_2); (try clear hf5_3_3); (try clear hf5_3_4); (try clear hg5_0); (try clear hg5_1); (try clear hg5_2); (try clear hg5_3); (try clear hz5_1); (try clear hz5_2); (try clear hz5_3)
    go_wp2_with fail
    with_reducible refine (HSW.out _).mono ?_
    rintro e w' ⟨rfl, rfl⟩
    go_wp2_with fail
    all_goals exact bodyPost_ret (v := .tuple #[.agg #[.int .i64 cX, .int .i64 cY, .int .i64 M, .int .i64 X, .int .i64 (-129600000)], .int .i64 0]) (by first | (simp [results, Try.results36, go_sem]; done) | (simp (maxDischargeDepth := 7) [results, Try.results36, go_sem, *]; done)) rfl ⟨rfl, (by repeat (first | with_reducible exact Kept.refl _ | with_reducible assumption | with_reducible refine Kept.setCell ?_ (by first | (simp; done) | (simp; omega) | omega) _ | with_reducible refine Kept.alloc ?_ _ | with_reducible refine Kept.drewN ?_ _ | with_reducible refine Kept.drew ?_ | with_reducible refine Kept.trans ?_ (by with_reducible assumption) | with_reducible refine Kept.dr ?_ (by with_reducible assumption)))⟩
  · obtain ⟨aX0, aX1, aY0, aY1⟩ := pok_yes ha
    obtain ⟨cX0, cX1, cY0, cY1⟩ := pok_yes hc
    obtain ⟨bX0, bX1, bY0, bY1⟩ := pok_yes hb
    have na := dtp_nn (aX - cX) (aY - cY)
    have la := dtp_lim4 (aX - cX) (aY - cY) (aX - cX) (aY - cY) (by omega) (by omega) (by omega) (by omega) (by omega) (by omega) (by omega) (by omega)
    have ia0 := (isq_ok _ na (by omega)).1
    have ia1 := isq_le _ 5656854 na (by omega) (by omega) (by omega)
    have nb := dtp_nn (bX - cX) (bY - cY)
    have lb := dtp_lim4 (bX - cX) (bY - cY) (bX - cX) (bY - cY) (by omega) (by omega) (by omega) (by omega) (by omega) (by omega) (by omega) (by omega)
    have ib0 := (isq_ok _ nb (by omega)).1
    have ib1 := isq_le _ 5656854 nb (by omega) (by omega) (by omega)
    have D1 := fun w => dist_ok cX cY aX aY hc ha w
    have D2 := fun w => dist_ok cX cY bX bY hc hb w
    have C1 := fun w => course_w cX cY aX aY w
    have C2 := fun w => course_w cX cY bX bY w
    obtain ⟨x0, x1⟩ := csV_bd cX cY aX aY
    obtain ⟨y0, y1⟩ := csV_bd cX cY bX bY
    generalize csE cX cY aX aY = E1 at *
    generalize csE cX cY bX bY = E2 at *
    have SW := fun w => sweep_w (csV cX cY aX aY) (csV cX cY bX bY) 1 (by omega) (by omega) (by omega) (by omega) (by omega) (by omega) w
    have sb : 0 ≤ (swT (csV cX cY aX aY) (csV cX cY bX bY) 1) ∧ (swT (csV cX cY aX aY) (csV cX cY bX bY) 1) < 129600000 := swT_bd2 _ _ _
    obtain ⟨sb0, sb1⟩ := sb
    have SA := fun w => sabs_w (isq (dtp (aX - cX) (aY - cY) (aX - cX) (aY - cY)) - isq (dtp (bX - cX) (bY - cY) (bX - cX) (bY - cY))) (by omega) (by omega) w
    generalize iabs (isq (dtp (aX - cX) (aY - cY) (aX - cX) (aY - cY)) - isq (dtp (bX - cX) (bY - cY) (bX - cX) (bY - cY))) = I at *
    generalize isq (dtp (aX - cX) (aY - cY) (aX - cX) (aY - cY)) = M at *
    generalize isq (dtp (bX - cX) (bY - cY) (bX - cX) (bY - cY)) = N at *
    generalize (swT (csV cX cY aX aY) (csV cX cY bX bY) 1) = SV at *
    generalize (csV cX cY aX aY) = X at *
    generalize (csV cX cY bX bY) = Y at *
    have cm1 : (M == 0) = false := by rw [beq_eq_false_iff_ne]; exact d1
    have cm2 : (N == 0) = false := by rw [beq_eq_false_iff_ne]; exact d2
    clear na nb la lb
    have ea : arS SV 1 = -SV := by unfold arS; simp [hz]
    rw [ea]
    clear ea
    have cm3 : (SV == 0) = false := by rw [beq_eq_false_iff_ne]; exact hz
    have HD1 := Lib.hid D1
    have HD2 := Lib.hid D2
    have HC1 := Lib.hid C1
    have HC2 := Lib.hid C2
    have HSW := Lib.hid SW
    have HSA := Lib.hid SA
    clear D1 D2 C1 C2 SW SA
    go_enter Try.func36, Try.ntmps36
    go_wp2_with fail
    with_reducible refine (pv_ok aX aY ha _).mono ?_
    rintro e w1 ⟨rfl, hk1⟩
    refine kuz (b := w.heap.size) hk1 (by first | (simp; done) | (simp; omega) | omega) ?_
    intro ha hb hz1_0 hn1_0 hm1_0
    have hf1_0_0 : w1.cell? ⟨w.heap.size, 0, none⟩ = some (.int .i64 aX) := (ha _).trans (by first | with_reducible assumption | (simp (maxDischargeDepth := 7) [go_sem]; done) | (simp (maxDischargeDepth := 7) [go_sem, *]; done))
    have hf1_0_1 : w1.cell? ⟨w.heap.size, 1, none⟩ = some (.int .i64 aY) := (ha _).trans (by first | with_reducible assumption | (simp (maxDischargeDepth := 7) [go_sem]; done) | (simp (maxDischargeDepth := 7) [go_sem, *]; done))
    try have hg1_0 : ∀ o, w1.frozen? ⟨w.heap.size, o, none⟩ = false := by intro o; rw [hb]; first | (simp (maxDischargeDepth := 7) [go_sem]; done) | (simp (maxDischargeDepth := 7) [go_sem, *]; done)
    clear ha hb
    refine kuz (b := w.heap.size + 1) hk1 (by first | (simp; done) | (simp; omega) | omega) ?_
    intro ha hb hz1_1 hn1_1 hm1_1
    have hf1_1_0 : w1.cell? ⟨w.heap.size + 1, 0, none⟩ = some (.int .i64 cX) := (ha _).trans (by first | with_reducible assumption | (simp (maxDischargeDepth := 7) [go_sem]; done) | (simp (maxDischargeDepth := 7) [go_sem, *]; done))
    have hf1_1_1 : w1.cell? ⟨w.heap.size + 1, 1, none⟩ = some (.int .i64 cY) := (ha _).trans (by first | with_reducible assumption | (simp (maxDischargeDepth := 7) [go_sem]; done) | (simp (maxDischargeDepth := 7) [go_sem, *]; done))
    try have hg1_1 : ∀ o, w1.frozen? ⟨w.heap.size + 1, o, none⟩ = false := by intro o; rw [hb]; first | (simp (maxDischargeDepth := 7) [go_sem]; done) | (simp (maxDischargeDepth := 7) [go_sem, *]; done)
    clear ha hb
    refine kuz (b := w.heap.size + 2) hk1 (by first | (simp; done) | (simp; omega) | omega) ?_
    intro ha hb hz1_2 hn1_2 hm1_2
    have hf1_2_0 : w1.cell? ⟨w.heap.size + 2, 0, none⟩ = some (.int .i64 bX) := (ha _).trans (by first | with_reducible assumption | (simp (maxDischargeDepth := 7) [go_sem]; done) | (simp (maxDischargeDepth := 7) [go_sem, *]; done))
    have hf1_2_1 : w1.cell? ⟨w.heap.size + 2, 1, none⟩ = some (.int .i64 bY) := (ha _).trans (by first | with_reducible assumption | (simp (maxDischargeDepth := 7) [go_sem]; done) | (simp (maxDischargeDepth := 7) [go_sem, *]; done))
    try have hg1_2 : ∀ o, w1.frozen? ⟨w.heap.size + 2, o, none⟩ = false := by intro o; rw [hb]; first | (simp (maxDischargeDepth := 7) [go_sem]; done) | (simp (maxDischargeDepth := 7) [go_sem, *]; done)
    clear ha hb
    refine kuz (b := w.heap.size + 3) hk1 (by first | (simp; done) | (simp; omega) | omega) ?_
    intro ha hb hz1_3 hn1_3 hm1_3
    have hf1_3_0 : w1.cell? ⟨w.heap.size + 3, 0, none⟩ = some (.int .i64 0) := (ha _).trans (by first | with_reducible assumption | (simp (maxDischargeDepth := 7) [go_sem]; done) | (simp (maxDischargeDepth := 7) [go_sem, *]; done))
    have hf1_3_1 : w1.cell? ⟨w.heap.size + 3, 1, none⟩ = some (.int .i64 0) := (ha _).trans (by first | with_reducible assumption | (simp (maxDischargeDepth := 7) [go_sem]; done) | (simp (maxDischargeDepth := 7) [go_sem, *]; done))
    have hf1_3_2 : w1.cell? ⟨w.heap.size + 3, 2, none⟩ = some (.int .i64 0) := (ha _).trans (by first | with_reducible assumption | (simp (maxDischargeDepth := 7) [go_sem]; done) | (simp (maxDischargeDepth := 7) [go_sem, *]; done))
    have hf1_3_3 : w1.cell? ⟨w.heap.size + 3, 3, none⟩ = some (.int .i64 0) := (ha _).trans (by first | with_reducible assumption | (simp (maxDischargeDepth := 7) [go_sem]; done) | (simp (maxDischargeDepth := 7) [go_sem, *]; done))
    have hf1_3_4 : w1.cell? ⟨w.heap.size + 3, 4, none⟩ = some (.int .i64 0) := (ha _).trans (by first | with_reducible assumption | (simp (maxDischargeDepth := 7) [go_sem]; done) | (simp (maxDischargeDepth := 7) [go_sem, *]; done))
    try have hg1_3 : ∀ o, w1.frozen? ⟨w.heap.size + 3, o, none⟩ = false := by intro o; rw [hb]; first | (simp (maxDischargeDepth := 7) [go_sem]; done) | (simp (maxDischargeDepth := 7) [go_sem, *]; done)
    clear ha hb
    go_wp2_with fail
    with_reducible refine (pv_ok cX cY hc _).mono ?_
    rintro e w2 ⟨rfl, hk2⟩
    refine kuz (b := w.heap.size) hk2 (by first | (simp; done) | (simp; omega) | omega) ?_
    intro ha hb hz2_0 hn2_0 hm2_0
    have hf2_0_0 : w2.cell? ⟨w.heap.size, 0, none⟩ = some (.int .i64 aX) := (ha _).trans (by first | with_reducible assumption | (simp (maxDischargeDepth := 7) [go_sem]; done) | (simp (maxDischargeDepth := 7) [go_sem, *]; done))
    have hf2_0_1 : w2.cell? ⟨w.heap.size, 1, none⟩ = some (.int .i64 aY) := (ha _).trans (by first | with_reducible assumption | (simp (maxDischargeDepth := 7) [go_sem]; done) | (simp (maxDischargeDepth := 7) [go_sem, *]; done))
    try have hg2_0 : ∀ o, w2.frozen? ⟨w.heap.size, o, none⟩ = false := by intro o; rw [hb]; first | (simp (maxDischargeDepth := 7) [go_sem]; done) | (simp (maxDischargeDepth := 7) [go_sem, *]; done)
    clear ha hb
    refine kuz (b := w.heap.size + 1) hk2 (by first | (simp; done) | (simp; omega) | omega) ?_
    intro ha hb hz2_1 hn2_1 hm2_1
    have hf2_1_0 : w2.cell? ⟨w.heap.size + 1, 0, none⟩ = some (.int .i64 cX) := (ha _).trans (by first | with_reducible assumption | (simp (maxDischargeDepth := 7) [go_sem]; done) | (simp (maxDischargeDepth := 7) [go_sem, *]; done))
    have hf2_1_1 : w2.cell? ⟨w.heap.size + 1, 1, none⟩ = some (.int .i64 cY) := (ha _).trans (by first | with_reducible assumption | (simp (maxDischargeDepth := 7) [go_sem]; done) | (simp (maxDischargeDepth := 7) [go_sem, *]; done))
    try have hg2_1 : ∀ o, w2.frozen? ⟨w.heap.size + 1, o, none⟩ = false := by intro o; rw [hb]; first | (simp (maxDischargeDepth := 7) [go_sem]; done) | (simp (maxDischargeDepth := 7) [go_sem, *]; done)
    clear ha hb
    refine kuz (b := w.heap.size + 2) hk2 (by first | (simp; done) | (simp; omega) | omega) ?_
    intro ha hb hz2_2 hn2_2 hm2_2
    have hf2_2_0 : w2.cell? ⟨w.heap.size + 2, 0, none⟩ = some (.int .i64 bX) := (ha _).trans (by first | with_reducible assumption | (simp (maxDischargeDepth := 7) [go_sem]; done) | (simp (maxDischargeDepth := 7) [go_sem, *]; done))
    have hf2_2_1 : w2.cell? ⟨w.heap.size + 2, 1, none⟩ = some (.int .i64 bY) := (ha _).trans (by first | with_reducible assumption | (simp (maxDischargeDepth := 7) [go_sem]; done) | (simp (maxDischargeDepth := 7) [go_sem, *]; done))
    try have hg2_2 : ∀ o, w2.frozen? ⟨w.heap.size + 2, o, none⟩ = false := by intro o; rw [hb]; first | (simp (maxDischargeDepth := 7) [go_sem]; done) | (simp (maxDischargeDepth := 7) [go_sem, *]; done)
    clear ha hb
    refine kuz (b := w.heap.size + 3) hk2 (by first | (simp; done) | (simp; omega) | omega) ?_
    intro ha hb hz2_3 hn2_3 hm2_3
    have hf2_3_0 : w2.cell? ⟨w.heap.size + 3, 0, none⟩ = some (.int .i64 0) := (ha _).trans (by first | with_reducible assumption | (simp (maxDischargeDepth := 7) [go_sem]; done) | (simp (maxDischargeDepth := 7) [go_sem, *]; done))
    have hf2_3_1 : w2.cell? ⟨w.heap.size + 3, 1, none⟩ = some (.int .i64 0) := (ha _).trans (by first | with_reducible assumption | (simp (maxDischargeDepth := 7) [go_sem]; done) | (simp (maxDischargeDepth := 7) [go_sem, *]; done))
    have hf2_3_2 : w2.cell? ⟨w.heap.size + 3, 2, none⟩ = some (.int .i64 0) := (ha _).trans (by first | with_reducible assumption | (simp (maxDischargeDepth := 7) [go_sem]; done) | (simp (maxDischargeDepth := 7) [go_sem, *]; done))
    have hf2_3_3 : w2.cell? ⟨w.heap.size + 3, 3, none⟩ = some (.int .i64 0) := (ha _).trans (by first | with_reducible assumption | (simp (maxDischargeDepth := 7) [go_sem]; done) | (simp (maxDischargeDepth := 7) [go_sem, *]; done))
    have hf2_3_4 : w2.cell? ⟨w.heap.size + 3, 4, none⟩ = some (.int .i64 0) := (ha _).trans (by first | with_reducible assumption | (simp (maxDischargeDepth := 7) [go_sem]; done) | (simp (maxDischargeDepth := 7) [go_sem, *]; done))
    try have hg2_3 : ∀ o, w2.frozen? ⟨w.heap.size + 3, o, none⟩ = false := by intro o; rw [hb]; first | (simp (maxDischargeDepth := 7) [go_sem]; done) | (simp (maxDischargeDepth := 7) [go_sem, *]; done)
    clear ha hb
    (try clear hf1_0_0); (try clear hf1_0_1); (try clear hf1_1_0); (try clear hf1_1_1); (try clear hf1_2_0); (try clear hf1_2_1); (try clear hf1_3_0); (try clear hf1_3_1); (try clear hf1_3_2); (try clear hf1_3_3); (try clear hf1_3_4); (try clear hg1_0); (try clear hg1_1); (try clear hg1_2); (try clear hg1_3); (try clear hz1_1); (try clear hz1_2); (try clear hz1_3)
    go_wp2_with fail
    with_reducible refine (pv_ok bX bY hb _).mono ?_
    rintro e w3 ⟨rfl, hk3⟩
    refine kuz (b := w.heap.size) hk3 (by first | (simp; done) | (simp; omega) | omega) ?_
    intro ha hb hz3_0 hn3_0 hm3_0
    have hf3_0_0 : w3.cell? ⟨w.heap.size, 0, none⟩ = some (.int .i64 aX) := (ha _).trans (by first | with_reducible assumption | (simp (maxDischargeDepth := 7) [go_sem]; done) | (simp (maxDischargeDepth := 7) [go_sem, *]; done))
    have hf3_0_1 : w3.cell? ⟨w.heap.size, 1, none⟩ = some (.int .i64 aY) := (ha _).trans (by first | with_reducible assumption | (simp (maxDischargeDepth := 7) [go_sem]; done) | (simp (maxDischargeDepth := 7) [go_sem, *]; done))
    try have hg3_0 : ∀ o, w3.frozen? ⟨w.heap.size, o, none⟩ = false := by intro o; rw [hb]; first | (simp (maxDischargeDepth := 7) [go_sem]; done) | (simp (maxDischargeDepth := 7) [go_sem, *]; done)
    clear ha hb
    refine kuz (b := w.heap.size + 1) hk3 (by first | (simp; done) | (simp; omega) | omega) ?_
    intro ha hb hz3_1 hn3_1 hm3_1
    have hf3_1_0 : w3.cell? ⟨w.heap.size + 1, 0, none⟩ = some (.int .i64 cX) := (ha _).trans (by first | with_reducible assumption | (simp (maxDischargeDepth := 7) [go_sem]; done) | (simp (maxDischargeDepth := 7) [go_sem, *]; done))
    have hf3_1_1 : w3.cell? ⟨w.heap.size + 1, 1, none⟩ = some (.int .i64 cY) := (ha _).trans (by first | with_reducible assumption | (simp (maxDischargeDepth := 7) [go_sem]; done) | (simp (maxDischargeDepth := 7) [go_sem, *]; done))
    try have hg3_1 : ∀ o, w3.frozen? ⟨w.heap.size + 1, o, none⟩ = false := by intro o; rw [hb]; first | (simp (maxDischargeDepth := 7) [go_sem]; done) | (simp (maxDischargeDepth := 7) [go_sem, *]; done)
    clear ha hb
    refine kuz (b := w.heap.size + 2) hk3 (by first | (simp; done) | (simp; omega) | omega) ?_
    intro ha hb hz3_2 hn3_2 hm3_2
    have hf3_2_0 : w3.cell? ⟨w.heap.size + 2, 0, none⟩ = some (.int .i64 bX) := (ha _).trans (by first | with_reducible assumption | (simp (maxDischargeDepth := 7) [go_sem]; done) | (simp (maxDischargeDepth := 7) [go_sem, *]; done))
    have hf3_2_1 : w3.cell? ⟨w.heap.size + 2, 1, none⟩ = some (.int .i64 bY) := (ha _).trans (by first | with_reducible assumption | (simp (maxDischargeDepth := 7) [go_sem]; done) | (simp (maxDischargeDepth := 7) [go_sem, *]; done))
    try have hg3_2 : ∀ o, w3.frozen? ⟨w.heap.size + 2, o, none⟩ = false := by intro o; rw [hb]; first | (simp (maxDischargeDepth := 7) [go_sem]; done) | (simp (maxDischargeDepth := 7) [go_sem, *]; done)
    clear ha hb
    refine kuz (b := w.heap.size + 3) hk3 (by first | (simp; done) | (simp; omega) | omega) ?_
    intro ha hb hz3_3 hn3_3 hm3_3
    have hf3_3_0 : w3.cell? ⟨w.heap.size + 3, 0, none⟩ = some (.int .i64 0) := (ha _).trans (by first | with_reducible assumption | (simp (maxDischargeDepth := 7) [go_sem]; done) | (simp (maxDischargeDepth := 7) [go_sem, *]; done))
    have hf3_3_1 : w3.cell? ⟨w.heap.size + 3, 1, none⟩ = some (.int .i64 0) := (ha _).trans (by first | with_reducible assumption | (simp (maxDischargeDepth := 7) [go_sem]; done) | (simp (maxDischargeDepth := 7) [go_sem, *]; done))
    have hf3_3_2 : w3.cell? ⟨w.heap.size + 3, 2, none⟩ = some (.int .i64 0) := (ha _).trans (by first | with_reducible assumption | (simp (maxDischargeDepth := 7) [go_sem]; done) | (simp (maxDischargeDepth := 7) [go_sem, *]; done))
    have hf3_3_3 : w3.cell? ⟨w.heap.size + 3, 3, none⟩ = some (.int .i64 0) := (ha _).trans (by first | with_reducible assumption | (simp (maxDischargeDepth := 7) [go_sem]; done) | (simp (maxDischargeDepth := 7) [go_sem, *]; done))
    have hf3_3_4 : w3.cell? ⟨w.heap.size + 3, 4, none⟩ = some (.int .i64 0) := (ha _).trans (by first | with_reducible assumption | (simp (maxDischargeDepth := 7) [go_sem]; done) | (simp (maxDischargeDepth := 7) [go_sem, *]; done))
    try have hg3_3 : ∀ o, w3.frozen? ⟨w.heap.size + 3, o, none⟩ = false := by intro o; rw [hb]; first | (simp (maxDischargeDepth := 7) [go_sem]; done) | (simp (maxDischargeDepth := 7) [go_sem, *]; done)
    clear ha hb
    (try clear hf2_0_0); (try clear hf2_0_1); (try clear hf2_1_0); (try clear hf2_1_1); (try clear hf2_2_0); (try clear hf2_2_1); (try clear hf2_3_0); (try clear hf2_3_1); (try clear hf2_3_2); (try clear hf2_3_3); (try clear hf2_3_4); (try clear hg2_0); (try clear hg2_1); (try clear hg2_2); (try clear hg2_3); (try clear hz2_1); (try clear hz2_2); (try clear hz2_3)
    go_wp2_with fail
    go_region_held3 (fun W => W.cell? ⟨w.heap.size, 0, none⟩ = some (.int .i64 aX) ∧ W.cell? ⟨w.heap.size, 1, none⟩ = some (.int .i64 aY) ∧ W.cell? ⟨w.heap.size + 1, 0, none⟩ = some (.int .i64 cX) ∧ W.cell? ⟨w.heap.size + 1, 1, none⟩ = some (.int .i64 cY) ∧ W.cell? ⟨w.heap.size + 2, 0, none⟩ = some (.int .i64 bX) ∧ W.cell? ⟨w.heap.size + 2, 1, none⟩ = some (.int .i64 bY)) (first | (go_keep; done) | (simp (maxDischargeDepth := 9) [*, World.cell?_alloc_some, World.cell?_setCell_far]; done) | (simp (maxDischargeDepth := 9) [go_sem, *]; done)) (first | (go_at_call 34; (first | with_reducible refine (HD1.out _).mono ?_); rintro e w' ⟨rfl, hk⟩; have hz := hk.size; (try (refine kuse (b := w.heap.size) hk (by first | (simp; done) | (simp; omega) | omega) ?_; intro hq0 hg0; have hy0 : w.heap.size < w'.heap.size := (by (try simp at hz); omega); have hn0 : ¬ w.heap.size = w'.heap.size := (by omega); have hm0 : ¬ w.heap.size = w'.heap.size + 1 := (by omega); refine withF (p := w'.cell? ⟨w.heap.size, 0, none⟩ = some (.int .i64 aX)) (by first | (rw [hq0]; with_reducible assumption) | (simp (maxDischargeDepth := 7) [go_sem, hq0]; done) | (simp (maxDischargeDepth := 7) [go_sem, hq0, *]; done) | fail) ?_; intro ff00; refine withF (p := w'.cell? ⟨w.heap.size, 1, none⟩ = some (.int .i64 aY)) (by first | (rw [hq0]; with_reducible assumption) | (simp (maxDischargeDepth := 7) [go_sem, hq0]; done) | (simp (maxDischargeDepth := 7) [go_sem, hq0, *]; done) | fail) ?_; intro ff01)); (try (refine kuse (b := w.heap.size + 1) hk (by first | (simp; done) | (simp; omega) | omega) ?_; intro hq1 hg1; have hy1 : w.heap.size + 1 < w'.heap.size := (by (try simp at hz); omega); have hn1 : ¬ w.heap.size + 1 = w'.heap.size := (by omega); have hm1 : ¬ w.heap.size + 1 = w'.heap.size + 1 := (by omega); refine withF (p := w'.cell? ⟨w.heap.size + 1, 0, none⟩ = some (.int .i64 cX)) (by first | (rw [hq1]; with_reducible assumption) | (simp (maxDischargeDepth := 7) [go_sem, hq1]; done) | (simp (maxDischargeDepth := 7) [go_sem, hq1, *]; done) | fail) ?_; intro ff10; refine withF (p := w'.cell? ⟨w.heap.size + 1, 1, none⟩ = some (.int .i64 cY)) (by first | (rw [hq1]; with_reducible assumption) | (simp (maxDischargeDepth := 7) [go_sem, hq1]; done) | (simp (maxDischargeDepth := 7) [go_sem, hq1, *]; done) | fail) ?_; intro ff11)); (try (refine kuse (b := w.heap.size + 2) hk (by first | (simp; done) | (simp; omega) | omega) ?_; intro hq2 hg2; have hy2 : w.heap.size + 2 < w'.heap.size := (by (try simp at hz); omega); have hn2 : ¬ w.heap.size + 2 = w'.heap.size := (by omega); have hm2 : ¬ w.heap.size + 2 = w'.heap.size + 1 := (by omega); refine withF (p := w'.cell? ⟨w.heap.size + 2, 0, none⟩ = some (.int .i64 bX)) (by first | (rw [hq2]; with_reducible assumption) | (simp (maxDischargeDepth := 7) [go_sem, hq2]; done) | (simp (maxDischargeDepth := 7) [go_sem, hq2, *]; done) | fail) ?_; intro ff20; refine withF (p := w'.cell? ⟨w.heap.size + 2, 1, none⟩ = some (.int .i64 bY)) (by first | (rw [hq2]; with_reducible assumption) | (simp (maxDischargeDepth := 7) [go_sem, hq2]; done) | (simp (maxDischargeDepth := 7) [go_sem, hq2, *]; done) | fail) ?_; intro ff21)); (try (refine kuse (b := w.heap.size + 3) hk (by first | (simp; done) | (simp; omega) | omega) ?_; intro hq3 hg3; have hy3 : w.heap.size + 3 < w'.heap.size := (by (try simp at hz); omega); have hn3 : ¬ w.heap.size + 3 = w'.heap.size := (by omega); have hm3 : ¬ w.heap.size + 3 = w'.heap.size + 1 := (by omega); refine withF (p := w'.cell? ⟨w.heap.size + 3, 0, none⟩ = some (.int .i64 0)) (by first | (rw [hq3]; with_reducible assumption) | (simp (maxDischargeDepth := 7) [go_sem, hq3]; done) | (simp (maxDischargeDepth := 7) [go_sem, hq3, *]; done) | fail) ?_; intro ff30; refine withF (p := w'.cell? ⟨w.heap.size + 3, 1, none⟩ = some (.int .i64 0)) (by first | (rw [hq3]; with_reducible assumption) | (simp (maxDischargeDepth := 7) [go_sem, hq3]; done) | (simp (maxDischargeDepth := 7) [go_sem, hq3, *]; done) | fail) ?_; intro ff31; refine withF (p := w'.cell? ⟨w.heap.size + 3, 2, none⟩ = some (.int .i64 0)) (by first | (rw [hq3]; with_reducible assumption) | (simp (maxDischargeDepth := 7) [go_sem, hq3]; done) | (simp (maxDischargeDepth := 7) [go_sem, hq3, *]; done) | fail) ?_; intro ff32; refine withF (p := w'.cell? ⟨w.heap.size + 3, 3, none⟩ = some (.int .i64 0)) (by first | (rw [hq3]; with_reducible assumption) | (simp (maxDischargeDepth := 7) [go_sem, hq3]; done) | (simp (maxDischargeDepth := 7) [go_sem, hq3, *]; done) | fail) ?_; intro ff33; refine withF (p := w'.cell? ⟨w.heap.size + 3, 4, none⟩ = some (.int .i64 0)) (by first | (rw [hq3]; with_reducible assumption) | (simp (maxDischargeDepth := 7) [go_sem, hq3]; done) | (simp (maxDischargeDepth := 7) [go_sem, hq3, *]; done) | fail) ?_; intro ff34))) | (go_at_call 34; (first | with_reducible refine (HD2.out _).mono ?_); rintro e w' ⟨rfl, hk⟩; have hz := hk.size; (try (refine kuse (b := w.heap.size) hk (by first | (simp; done) | (simp; omega) | omega) ?_; intro hq0 hg0; have hy0 : w.heap.size < w'.heap.size := (by (try simp at hz); omega); have hn0 : ¬ w.heap.size = w'.heap.size := (by omega); have hm0 : ¬ w.heap.size = w'.heap.size + 1 := (by omega); refine withF (p := w'.cell? ⟨w.heap.size, 0, none⟩ = some (.int .i64 aX)) (by first | (rw [hq0]; with_reducible assumption) | (simp (maxDischargeDepth := 7) [go_sem, hq0]; done) | (simp (maxDischargeDepth := 7) [go_sem, hq0, *]; done) | fail) ?_; intro ff00; refine withF (p := w'.cell? ⟨w.heap.size, 1, none⟩ = some (.int .i64 aY)) (by first | (rw [hq0]; with_reducible assumption) | (simp (maxDischargeDepth := 7) [go_sem, hq0]; done) | (simp (maxDischargeDepth := 7) [go_sem, hq0, *]; done) | fail) ?_; intro ff01)); (try (refine kuse (b := w.heap.size + 1) hk (by first | (simp; done) | (simp; omega) | omega) ?_; intro hq1 hg1; have hy1 : w.heap.size + 1 < w'.heap.size := (by (try simp at hz); omega); have hn1 : ¬ w.heap.size + 1 = w'.heap.size := (by omega); have hm1 : ¬ w.heap.size + 1 = w'.heap.size + 1 := (by omega); refine withF (p := w'.cell? ⟨w.heap.size + 1, 0, none⟩ = some (.int .i64 cX)) (by first | (rw [hq1]; with_reducible assumption) | (simp (maxDischargeDepth := 7) [go_sem, hq1]; done) | (simp (maxDischargeDepth := 7) [go_sem, hq1, *]; done) | fail) ?_; intro ff10; refine withF (p := w'.cell? ⟨w.heap.size + 1, 1, none⟩ = some (.int .i64 cY)) (by first | (rw [hq1]; with_reducible assumption) | (simp (maxDischargeDepth := 7) [go_sem, hq1]; done) | (simp (maxDischargeDepth := 7) [go_sem, hq1, *]; done) | fail) ?_; intro ff11)); (try (refine kuse (b := w.heap.size + 2) hk (by first | (simp; done) | (simp; omega) | omega) ?_; intro hq2 hg2; have hy2 : w.heap.size + 2 < w'.heap.size := (by (try simp at hz); omega); have hn2 : ¬ w.heap.size + 2 = w'.heap.size := (by omega); have hm2 : ¬ w.heap.size + 2 = w'.heap.size + 1 := (by omega); refine withF (p := w'.cell? ⟨w.heap.size + 2, 0, none⟩ = some (.int .i64 bX)) (by first | (rw [hq2]; with_reducible assumption) | (simp (maxDischargeDepth := 7) [go_sem, hq2]; done) | (simp (maxDischargeDepth := 7) [go_sem, hq2, *]; done) | fail) ?_; intro ff20; refine withF (p := w'.cell? ⟨w.heap.size + 2, 1, none⟩ = some (.int .i64 bY)) (by first | (rw [hq2]; with_reducible assumption) | (simp (maxDischargeDepth := 7) [go_sem, hq2]; done) | (simp (maxDischargeDepth := 7) [go_sem, hq2, *]; done) | fail) ?_; intro ff21)); (try (refine kuse (b := w.heap.size + 3) hk (by first | (simp; done) | (simp; omega) | omega) ?_; intro hq3 hg3; have hy3 : w.heap.size + 3 < w'.heap.size := (by (try simp at hz); omega); have hn3 : ¬ w.heap.size + 3 = w'.heap.size := (by omega); have hm3 : ¬ w.heap.size + 3 = w'.heap.size + 1 := (by omega); refine withF (p := w'.cell? ⟨w.heap.size + 3, 0, none⟩ = some (.int .i64 0)) (by first | (rw [hq3]; with_reducible assumption) | (simp (maxDischargeDepth := 7) [go_sem, hq3]; done) | (simp (maxDischargeDepth := 7) [go_sem, hq3, *]; done) | fail) ?_; intro ff30; refine withF (p := w'.cell? ⟨w.heap.size + 3, 1, none⟩ = some (.int .i64 0)) (by first | (rw [hq3]; with_reducible assumption) | (simp (maxDischargeDepth := 7) [go_sem, hq3]; done) | (simp (maxDischargeDepth := 7) [go_sem, hq3, *]; done) | fail) ?_; intro ff31; refine withF (p := w'.cell? ⟨w.heap.size + 3, 2, none⟩ = some (.int .i64 0)) (by first | (rw [hq3]; with_reducible assumption) | (simp (maxDischargeDepth := 7) [go_sem, hq3]; done) | (simp (maxDischargeDepth := 7) [go_sem, hq3, *]; done) | fail) ?_; intro ff32; refine withF (p := w'.cell? ⟨w.heap.size + 3, 3, none⟩ = some (.int .i64 0)) (by first | (rw [hq3]; with_reducible assumption) | (simp (maxDischargeDepth := 7) [go_sem, hq3]; done) | (simp (maxDischargeDepth := 7) [go_sem, hq3, *]; done) | fail) ?_; intro ff33; refine withF (p := w'.cell? ⟨w.heap.size + 3, 4, none⟩ = some (.int .i64 0)) (by first | (rw [hq3]; with_reducible assumption) | (simp (maxDischargeDepth := 7) [go_sem, hq3]; done) | (simp (maxDischargeDepth := 7) [go_sem, hq3, *]; done) | fail) ?_; intro ff34))))
    all_goals go_wp2_with fail
    with_reducible refine (HSA.out _).mono ?_
    rintro e w' ⟨rfl, rfl⟩
    go_wp2_with fail
    with_reducible refine (HC1.out _).mono ?_
    rintro e w5 ⟨rfl, hk5⟩
    refine kuz (b := w.heap.size) hk5 (by first | (simp; done) | (simp; omega) | omega) ?_
    intro ha hb hz5_0 hn5_0 hm5_0
    have hf5_0_0 : w5.cell? ⟨w.heap.size, 0, none⟩ = some (.int .i64 aX) := (ha _).trans (by first | with_reducible assumption | (simp (maxDischargeDepth := 7) [go_sem]; done) | (simp (maxDischargeDepth := 7) [go_sem, *]; done))
    have hf5_0_1 : w5.cell? ⟨w.heap.size, 1, none⟩ = some (.int .i64 aY) := (ha _).trans (by first | with_reducible assumption | (simp (maxDischargeDepth := 7) [go_sem]; done) | (simp (maxDischargeDepth := 7) [go_sem, *]; done))
    try have hg5_0 : ∀ o, w5.frozen? ⟨w.heap.size, o, none⟩ = false := by intro o; rw [hb]; first | (simp (maxDischargeDepth := 7) [go_sem]; done) | (simp (maxDischargeDepth := 7) [go_sem, *]; done)
    clear ha hb
    refine kuz (b := w.heap.size + 1) hk5 (by first | (simp; done) | (simp; omega) | omega) ?_
    intro ha hb hz5_1 hn5_1 hm5_1
    have hf5_1_0 : w5.cell? ⟨w.heap.size + 1, 0, none⟩ = some (.int .i64 cX) := (ha _).trans (by first | with_reducible assumption | (simp (maxDischargeDepth := 7) [go_sem]; done) | (simp (maxDischargeDepth := 7) [go_sem, *]; done))
    have hf5_1_1 : w5.cell? ⟨w.heap.size + 1, 1, none⟩ = some (.int .i64 cY) := (ha _).trans (by first | with_reducible assumption | (simp (maxDischargeDepth := 7) [go_sem]; done) | (simp (maxDischargeDepth := 7) [go_sem, *]; done))
    try have hg5_1 : ∀ o, w5.frozen? ⟨w.heap.size + 1, o, none⟩ = false := by intro o; rw [hb]; first | (simp (maxDischargeDepth := 7) [go_sem]; done) | (simp (maxDischargeDepth := 7) [go_sem, *]; done)
    clear ha hb
    refine kuz (b := w.heap.size + 2) hk5 (by first | (simp; done) | (simp; omega) | omega) ?_
    intro ha hb hz5_2 hn5_2 hm5_2
    have hf5_2_0 : w5.cell? ⟨w.heap.size + 2, 0, none⟩ = some (.int .i64 bX) := (ha _).trans (by first | with_reducible assumption | (simp (maxDischargeDepth := 7) [go_sem]; done) | (simp (maxDischargeDepth := 7) [go_sem, *]; done))
    have hf5_2_1 : w5.cell? ⟨w.heap.size + 2, 1, none⟩ = some (.int .i64 bY) := (ha _).trans (by first | with_reducible assumption | (simp (maxDischargeDepth := 7) [go_sem]; done) | (simp (maxDischargeDepth := 7) [go_sem, *]; done))
    try have hg5_2 : ∀ o, w5.frozen? ⟨w.heap.size + 2, o, none⟩ = false := by intro o; rw [hb]; first | (simp (maxDischargeDepth := 7) [go_sem]; done) | (simp (maxDischargeDepth := 7) [go_sem, *]; done)
    clear ha hb
    refine kuz (b := w.heap.size + 3) hk5 (by first | (simp; done) | (simp; omega) | omega) ?_
    intro ha hb hz5_3 hn5_3 hm5_3
    have hf5_3_0 : w5.cell? ⟨w.heap.size + 3, 0, none⟩ = some (.int .i64 0) := (ha _).trans (by first | with_reducible assumption | (simp (maxDischargeDepth := 7) [go_sem]; done) | (simp (maxDischargeDepth := 7) [go_sem, *]; done))
    have hf5_3_1 : w5.cell? ⟨w.heap.size + 3, 1, none⟩ = some (.int .i64 0) := (ha _).trans (by first | with_reducible assumption | (simp (maxDischargeDepth := 7) [go_sem]; done) | (simp (maxDischargeDepth := 7) [go_sem, *]; done))
    have hf5_3_2 : w5.cell? ⟨w.heap.size + 3, 2, none⟩ = some (.int .i64 0) := (ha _).trans (by first | with_reducible assumption | (simp (maxDischargeDepth := 7) [go_sem]; done) | (simp (maxDischargeDepth := 7) [go_sem, *]; done))
    have hf5_3_3 : w5.cell? ⟨w.heap.size + 3, 3, none⟩ = some (.int .i64 0) := (ha _).trans (by first | with_reducible assumption | (simp (maxDischargeDepth := 7) [go_sem]; done) | (simp (maxDischargeDepth := 7) [go_sem, *]; done))
    have hf5_3_4 : w5.cell? ⟨w.heap.size + 3, 4, none⟩ = some (.int .i64 0) := (ha _).trans (by first | with_reducible assumption | (simp (maxDischargeDepth := 7) [go_sem]; done) | (simp (maxDischargeDepth := 7) [go_sem, *]; done))
    try have hg5_3 : ∀ o, w5.frozen? ⟨w.heap.size + 3, o, none⟩ = false := by intro o; rw [hb]; first | (simp (maxDischargeDepth := 7) [go_sem]; done) | (simp (maxDischargeDepth := 7) [go_sem, *]; done)
    clear ha hb
    (try clear hf3_0_0); (try clear hf3_0_1); (try clear hf3_1_0); (try clear hf3_1_1); (try clear hf3_2_0); (try clear hf3_2_1); (try clear hf3_3_0); (try clear hf3_3_1); (try clear hf3_3_2); (try clear hf3_3_3); (try clear hf3_3_4); (try clear hg3_0); (try clear hg3_1); (try clear hg3_2); (try clear hg3_3); (try clear hz3_1); (try clear hz3_2); (try clear hz3_3)
    go_wp2_with fail
    with_reducible refine (HC2.out _).mono ?_
    rintro e w6 ⟨rfl, hk6⟩
    refine kuz (b := w.heap.size) hk6 (by first | (simp; done) | (simp; omega) | omega) ?_
    intro ha hb hz6_0 hn6_0 hm6_0
    have hf6_0_0 : w6.cell? ⟨w.heap.size, 0, none⟩ = some (.int .i64 aX) := (ha _).trans (by first | with_reducible assumption | (simp (maxDischargeDepth := 7) [go_sem]; done) | (simp (maxDischargeDepth := 7) [go_sem, *]; done))
    have hf6_0_1 : w6.cell? ⟨w.heap.size, 1, none⟩ = some (.int .i64 aY) := (ha _).trans (by first | with_reducible assumption | (simp (maxDischargeDepth := 7) [go_sem]; done) | (simp (maxDischargeDepth := 7) [go_sem, *]; done))
    try have hg6_0 : ∀ o, w6.frozen? ⟨w.heap.size, o, none⟩ = false := by intro o; rw [hb]; first | (simp (maxDischargeDepth := 7) [go_sem]; done) | (simp (maxDischargeDepth := 7) [go_sem, *]; done)
    clear ha hb
    refine kuz (b := w.heap.size + 1) hk6 (by first | (simp; done) | (simp; omega) | omega) ?_
    intro ha hb hz6_1 hn6_1 hm6_1
    have hf6_1_0 : w6.cell? ⟨w.heap.size + 1, 0, none⟩ = some (.int .i64 cX) := (ha _).trans (by first | with_reducible assumption | (simp (maxDischargeDepth := 7) [go_sem]; done) | (simp (maxDischargeDepth := 7) [go_sem, *]; done))
    have hf6_1_1 : w6.cell? ⟨w.heap.size + 1, 1, none⟩ = some (.int .i64 cY) := (ha _).trans (by first | with_reducible assumption | (simp (maxDischargeDepth := 7) [go_sem]; done) | (simp (maxDischargeDepth := 7) [go_sem, *]; done))
    try have hg6_1 : ∀ o, w6.frozen? ⟨w.heap.size + 1, o, none⟩ = false := by intro o; rw [hb]; first | (simp (maxDischargeDepth := 7) [go_sem]; done) | (simp (maxDischargeDepth := 7) [go_sem, *]; done)
    clear ha hb
    refine kuz (b := w.heap.size + 2) hk6 (by first | (simp; done) | (simp; omega) | omega) ?_
    intro ha hb hz6_2 hn6_2 hm6_2
    have hf6_2_0 : w6.cell? ⟨w.heap.size + 2, 0, none⟩ = some (.int .i64 bX) := (ha _).trans (by first | with_reducible assumption | (simp (maxDischargeDepth := 7) [go_sem]; done) | (simp (maxDischargeDepth := 7) [go_sem, *]; done))
    have hf6_2_1 : w6.cell? ⟨w.heap.size + 2, 1, none⟩ = some (.int .i64 bY) := (ha _).trans (by first | with_reducible assumption | (simp (maxDischargeDepth := 7) [go_sem]; done) | (simp (maxDischargeDepth := 7) [go_sem, *]; done))
    try have hg6_2 : ∀ o, w6.frozen? ⟨w.heap.size + 2, o, none⟩ = false := by intro o; rw [hb]; first | (simp (maxDischargeDepth := 7) [go_sem]; done) | (simp (maxDischargeDepth := 7) [go_sem, *]; done)
    clear ha hb
    refine kuz (b := w.heap.size + 3) hk6 (by first | (simp; done) | (simp; omega) | omega) ?_
    intro ha hb hz6_3 hn6_3 hm6_3
    have hf6_3_0 : w6.cell? ⟨w.heap.size + 3, 0, none⟩ = some (.int .i64 0) := (ha _).trans (by first | with_reducible assumption | (simp (maxDischargeDepth := 7) [go_sem]; done) | (simp (maxDischargeDepth := 7) [go_sem, *]; done))
    have hf6_3_1 : w6.cell? ⟨w.heap.size + 3, 1, none⟩ = some (.int .i64 0) := (ha _).trans (by first | with_reducible assumption | (simp (maxDischargeDepth := 7) [go_sem]; done) | (simp (maxDischargeDepth := 7) [go_sem, *]; done))
    have hf6_3_2 : w6.cell? ⟨w.heap.size + 3, 2, none⟩ = some (.int .i64 0) := (ha _).trans (by first | with_reducible assumption | (simp (maxDischargeDepth := 7) [go_sem]; done) | (simp (maxDischargeDepth := 7) [go_sem, *]; done))
    have hf6_3_3 : w6.cell? ⟨w.heap.size + 3, 3, none⟩ = some (.int .i64 0) := (ha _).trans (by first | with_reducible assumption | (simp (maxDischargeDepth := 7) [go_sem]; done) | (simp (maxDischargeDepth := 7) [go_sem, *]; done))
    have hf6_3_4 : w6.cell? ⟨w.heap.size + 3, 4, none⟩ = some (.int .i64 0) := (ha _).trans (by first | with_reducible assumption | (simp (maxDischargeDepth := 7) [go_sem]; done) | (simp (maxDischargeDepth := 7) [go_sem, *]; done))
    try have hg6_3 : ∀ o, w6.frozen? ⟨w.heap.size + 3, o, none⟩ = false := by intro o; rw [hb]; first | (simp (maxDischargeDepth := 7) [go_sem]; done) | (simp (maxDischargeDepth := 7) [go_sem, *]; done)
    clear ha hb
    (try clear hf5_0_0); (try clear hf5_0_1); (try clear hf5_1_0); (try clear hf5_1_1); (try clear hf5_2_0); (try clear hf5_2_1); (try clear hf5_3_0); (try clear hf5_3_1); (try clear hf5_3_2); (try clear hf5_3_3); (try clear hf5_3_4); (try clear hg5_0); (try clear hg5_1); (try clear hg5_2); (try clear hg5_3); (try clear hz5_1); (try clear hz5_2); (try clear hz5_3)
    go_wp2_with fail
    with_reducible refine (HSW.out _).mono ?_
    rintro e w' ⟨rfl, rfl⟩
    go_wp2_with fail
    all_goals exact bodyPost_ret (v := .tuple #[.agg #[.int .i64 cX, .int .i64 cY, .int .i64 M, .int .i64 X, .int .i64 (-SV)], .int .i64 0]) (by first | (simp [results, Try.results36, go_sem]; done) | (simp (maxDischargeDepth := 7) [results, Try.results36, go_sem, *]; done)) rfl ⟨rfl, (by repeat (first | with_reducible exact Kept.refl _ | with_reducible assumption | with_reducible refine Kept.setCell ?_ (by first | (simp; done) | (simp; omega) | omega) _ | with_reducible refine Kept.alloc ?_ _ | with_reducible refine Kept.drewN ?_ _ | with_reducible refine Kept.drew ?_ | with_reducible refine Kept.trans ?_ (by with_reducible assumption) | with_reducible refine Kept.dr ?_ (by with_reducible assumption)))⟩

end Go.Proofs.Ytfnhnlnofglkoaa
