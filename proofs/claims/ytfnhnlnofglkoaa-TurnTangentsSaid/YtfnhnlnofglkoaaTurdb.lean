/-
  Own contracts: package line and the document's answers of layer 11: turns.
-/
import Derived.Test.YtfnhnlnofglkoaaTura
import Derived.WalkKit
import Derived.ProofKit
import Derived.OpenShut
import Derived.WalkLawsBesides
import Derived.WalkSpells
import Derived.Lib.Hide
import Derived.Deep.DeepCutAuto
import Derived.Deep.CutBlock
import Derived.Deep.QuietTactic
import Derived.BigQuiet
import Derived.Handy
import Derived.StillTailTactics
import Derived.IntWalk
import Derived.LoopN
import Derived.Deep.RegionHeld3
namespace Go.Proofs.Ytfnhnlnofglkoaa
open Go.ChangeShapes Go.WideShapes Go.ChangeAt Go.RowKit
set_option linter.unusedVariables false
set_option linter.unusedSimpArgs false
def dsF (aX aY bX bY : Int) : Int := isq (dtp (bX - aX) (bY - aY) (bX - aX) (bY - aY))
theorem dsF_bd (aX aY bX bY : Int) (ha : pokB aX aY = true) (hb : pokB bX bY = true) : 0 ≤ dsF aX aY bX bY ∧ dsF aX aY bX bY ≤ 5656854 := by
  obtain ⟨a0, a1, a2, a3⟩ := pok_yes ha
  obtain ⟨b0, b1, b2, b3⟩ := pok_yes hb
  have n := dtp_nn (bX - aX) (bY - aY)
  have l := dtp_lim4 (bX - aX) (bY - aY) (bX - aX) (bY - aY) (by omega) (by omega) (by omega) (by omega) (by omega) (by omega) (by omega) (by omega)
  exact ⟨(isq_ok _ n (by omega)).1, isq_le _ _ n (by omega) (by omega) (by omega)⟩
theorem tmdu2_w (a b c : Int) (a0 : -9223372036854775808 ≤ a) (a1 : a ≤ 9223372036854775807) (b0 : -9223372036854775808 ≤ b) (b1 : b ≤ 9223372036854775807) (c0 : -9223372036854775808 ≤ c) (c1 : c ≤ 9223372036854775807) (w : World) : Calls Try.prog 41 #[.int .i64 a, .int .i64 b, .int .i64 c] w fun e w' => e = .returned (.tuple #[.int .i64 (mqv 1 a b c), .int .i64 (mqe 1 a b c)]) ∧ Kept w w' := (muldivup_w a b c a0 a1 b0 b1 c0 c1 w).mono fun _ _ k => ⟨k.1, k.2.kept⟩
set_option maxHeartbeats 4000000 in
set_option maxRecDepth 100000 in
theorem FlyBy_ok (aX aY bX bY cX cY r f0 f1 f2 f3 f4 f5 f6 f7 f8 f9 : Int) (ha : pokB aX aY = true) (hb : pokB bX bY = true) (hc : pokB cX cY = true) (r0 : 1 ≤ r) (r1 : r ≤ 8000000) (E1 : csE aX aY bX bY = 0) (E2 : csE bX bY cX cY = 0) (dd : iabs (dif (csV aX aY bX bY) (csV bX bY cX cY)) ≤ 54000000) (ld1 : (mqv 1 r (sinV (iabs (dif (csV aX aY bX bY) (csV bX bY cX cY)) / 2)) (cosV (iabs (dif (csV aX aY bX bY) (csV bX bY cX cY)) / 2))) ≤ dsF aX aY bX bY) (ld2 : (mqv 1 r (sinV (iabs (dif (csV aX aY bX bY) (csV bX bY cX cY)) / 2)) (cosV (iabs (dif (csV aX aY bX bY) (csV bX bY cX cY)) / 2))) ≤ dsF bX bY cX cY) (FB : ∀ w, Calls Try.prog 69 #[.agg #[.int .i64 bX, .int .i64 bY], .int .i64 (csV aX aY bX bY), .int .i64 (csV bX bY cX cY), .int .i64 r, .int .i64 (mqv 1 r (sinV (iabs (dif (csV aX aY bX bY) (csV bX bY cX cY)) / 2)) (cosV (iabs (dif (csV aX aY bX bY) (csV bX bY cX cY)) / 2)))] w fun e w' => e = .returned (.tuple #[.agg #[.int .i64 f0, .int .i64 f1, .int .i64 f2, .int .i64 f3, .int .i64 f4, .int .i64 f5, .int .i64 f6, .int .i64 f7, .int .i64 f8, .int .i64 f9], .int .i64 0]) ∧ Kept w w') (w : World) : Calls Try.prog 29 #[.agg #[.int .i64 aX, .int .i64 aY], .agg #[.int .i64 bX, .int .i64 bY], .agg #[.int .i64 cX, .int .i64 cY], .int .i64 r] w fun e w' => e = .returned (.tuple #[.agg #[.int .i64 f0, .int .i64 f1, .int .i64 f2, .int .i64 f3, .int .i64 f4, .int .i64 f5, .int .i64 f6, .int .i64 f7, .int .i64 f8, .int .i64 f9], .int .i64 0]) ∧ Kept w w' := by
  have xb := csV_bd aX aY bX bY
  have yb := csV_bd bX bY cX cY
  have db := dif_bd (csV aX aY bX bY) (csV bX bY cX cY)
  have C1 := fun w => course_w aX aY bX bY w
  have C2 := fun w => course_w bX bY cX cY w
  rw [E1] at C1
  rw [E2] at C2
  clear E1 E2
  have DF := fun w => diff_w (csV aX aY bX bY) (csV bX bY cX cY) (by omega) (by omega) (by omega) (by omega) w
  have SA := fun w => sabs_w (dif (csV aX aY bX bY) (csV bX bY cX cY)) (by omega) (by omega) w
  have D1 := fun w => dist_ok aX aY bX bY ha hb w
  have D2 := fun w => dist_ok bX bY cX cY hb hc w
  have e1 : isq (dtp (bX - aX) (bY - aY) (bX - aX) (bY - aY)) = dsF aX aY bX bY := rfl
  have e2 : isq (dtp (cX - bX) (cY - bY) (cX - bX) (cY - bY)) = dsF bX bY cX cY := rfl
  rw [e1] at D1
  rw [e2] at D2
  clear e1 e2
  have ib : 0 ≤ iabs (dif (csV aX aY bX bY) (csV bX bY cX cY)) := by unfold iabs; split <;> omega
  have SN := fun w => sin_w (iabs (dif (csV aX aY bX bY) (csV bX bY cX cY)) / 2) (by omega) (by omega) w
  have CN := fun w => cos_w (iabs (dif (csV aX aY bX bY) (csV bX bY cX cY)) / 2) (by omega) (by omega) w
  obtain ⟨sb0, sb1⟩ := sinV_bd (iabs (dif (csV aX aY bX bY) (csV bX bY cX cY)) / 2)
  obtain ⟨kb0, kb1⟩ := cosV_bd (iabs (dif (csV aX aY bX bY) (csV bX bY cX cY)) / 2)
  have MD := fun w => tmdu2_w r (sinV (iabs (dif (csV aX aY bX bY) (csV bX bY cX cY)) / 2)) (cosV (iabs (dif (csV aX aY bX bY) (csV bX bY cX cY)) / 2)) (by omega) (by omega) (by omega) (by omega) (by omega) (by omega) w
  generalize mqe 1 r (sinV (iabs (dif (csV aX aY bX bY) (csV bX bY cX cY)) / 2)) (cosV (iabs (dif (csV aX aY bX bY) (csV bX bY cX cY)) / 2)) = ME at *
  generalize (mqv 1 r (sinV (iabs (dif (csV aX aY bX bY) (csV bX bY cX cY)) / 2)) (cosV (iabs (dif (csV aX aY bX bY) (csV bX bY cX cY)) / 2))) = L at *
  generalize sinV (iabs (dif (csV aX aY bX bY) (csV bX bY cX cY)) / 2) = S at *
  generalize cosV (iabs (dif (csV aX aY bX bY) (csV bX bY cX cY)) / 2) = K at *
  generalize iabs (dif (csV aX aY bX bY) (csV bX bY cX cY)) = I at *
  generalize (dif (csV aX aY bX bY) (csV bX bY cX cY)) = D at *
  generalize (csV aX aY bX bY) = X at *
  generalize (csV bX bY cX cY) = Y at *
  generalize dsF aX aY bX bY = G1 at *
  generalize dsF bX bY cX cY = G2 at *
  have HC1 := Lib.hid C1
  have HC2 := Lib.hid C2
  have HDF := Lib.hid DF
  have HSA := Lib.hid SA
  have HD1 := Lib.hid D1
  have HD2 := Lib.hid D2
  have HSN := Lib.hid SN
  have HCN := Lib.hid CN
  have HMD := Lib.hid MD
  have HFB := Lib.hid FB
  clear C1 C2 DF SA D1 D2 SN CN MD FB
  go_enter Try.func29, Try.ntmps29
  go_wp2_with fail
  with_reducible refine (pv_ok aX aY ha _).mono ?_
  rintro e w1 ⟨rfl, hk1⟩
  refine kuz (b := w.heap.size) hk1 (by first | (simp; done) | (simp; omega) | omega) ?_
  intro ha hb hz1_0 hn1_0 hm1_0
  have hf1_0_0 : w1.cell? ⟨w.heap.size, 0, none⟩ = some (.int .i64 aX) := (ha _).trans (by first | with_reducible assumption | (simp (maxDischargeDepth := 7) [go_sem]; done) | (simp (maxDischargeDepth := 7) [go_sem, *]; done))
  have hf1_0_1 : w1.cell? ⟨w.heap.size, 1, none⟩ = some (.int .i64 aY) := (ha _).trans (by first | with_reducible assumption | (simp (maxDischargeDepth := 7) [go_sem]; done) | (simp (maxDischargeDepth := 7) [go_sem, *]; done))
  try have hg1_0 : ∀ o, w1.frozen? ⟨w.heap.size, o, none⟩ = false := by intro o; rw [hb]; first | (simp (maxDischargeDepth := 7) [go_sem]; done) | (simp (maxDischargeDepth := 7) [go_sem, *]; done)
  clear ha hb
  refine kuz (b := w.heap.size + 1) hk1 (by first | (simp; done) | (simp; omega) | omega) ?_
  intro ha hb hz1_1 hn1_1 hm1_1
  have hf1_1_0 : w1.cell? ⟨w.heap.size + 1, 0, none⟩ = some (.int .i64 bX) := (ha _).trans (by first | with_reducible assumption | (simp (maxDischargeDepth := 7) [go_sem]; done) | (simp (maxDischargeDepth := 7) [go_sem, *]; done))
  have hf1_1_1 : w1.cell? ⟨w.heap.size + 1, 1, none⟩ = some (.int .i64 bY) := (ha _).trans (by first | with_reducible assumption | (simp (maxDischargeDepth := 7) [go_sem]; done) | (simp (maxDischargeDepth := 7) [go_sem, *]; done))
  try have hg1_1 : ∀ o, w1.frozen? ⟨w.heap.size + 1, o, none⟩ = false := by intro o; rw [hb]; first | (simp (maxDischargeDepth := 7) [go_sem]; done) | (simp (maxDischargeDepth := 7) [go_sem, *]; done)
  clear ha hb
  refine kuz (b := w.heap.size + 2) hk1 (by first | (simp; done) | (simp; omega) | omega) ?_
  intro ha hb hz1_2 hn1_2 hm1_2
  have hf1_2_0 : w1.cell? ⟨w.heap.size + 2, 0, none⟩ = some (.int .i64 cX) := (ha _).trans (by first | with_reducible assumption | (simp (maxDischargeDepth := 7) [go_sem]; done) | (simp (maxDischargeDepth := 7) [go_sem, *]; done))
  have hf1_2_1 : w1.cell? ⟨w.heap.size + 2, 1, none⟩ = some (.int .i64 cY) := (ha _).trans (by first | with_reducible assumption | (simp (maxDischargeDepth := 7) [go_sem]; done) | (simp (maxDischargeDepth := 7) [go_sem, *]; done))
  try have hg1_2 : ∀ o, w1.frozen? ⟨w.heap.size + 2, o, none⟩ = false := by intro o; rw [hb]; first | (simp (maxDischargeDepth := 7) [go_sem]; done) | (simp (maxDischargeDepth := 7) [go_sem, *]; done)
  clear ha hb
  refine kuz (b := w.heap.size + 3) hk1 (by first | (simp; done) | (simp; omega) | omega) ?_
  intro ha hb hz1_3 hn1_3 hm1_3
  have hf1_3_0 : w1.cell? ⟨w.heap.size + 3, 0, none⟩ = some (.int .i64 0) := (ha _).trans (by first | with_reducible assumption | (simp (maxDischargeDepth := 7) [go_sem]; done) | (simp (maxDischargeDepth := 7) [go_sem, *]; done))
  have hf1_3_1 : w1.cell? ⟨w.heap.size + 3, 1, none⟩ = some (.int .i64 0) := (ha _).trans (by first | with_reducible assumption | (simp (maxDischargeDepth := 7) [go_sem]; done) | (simp (maxDischargeDepth := 7) [go_sem, *]; done))
  have hf1_3_2 : w1.cell? ⟨w.heap.size + 3, 2, none⟩ = some (.int .i64 0) := (ha _).trans (by first | with_reducible assumption | (simp (maxDischargeDepth := 7) [go_sem]; done) | (simp (maxDischargeDepth := 7) [go_sem, *]; done))
  have hf1_3_3 : w1.cell? ⟨w.heap.size + 3, 3, none⟩ = some (.int .i64 0) := (ha _).trans (by first | with_reducible assumption | (simp (maxDischargeDepth := 7) [go_sem]; done) | (simp (maxDischargeDepth := 7) [go_sem, *]; done))
  have hf1_3_4 : w1.cell? ⟨w.heap.size + 3, 4, none⟩ = some (.int .i64 0) := (ha _).trans (by first | with_reducible assumption | (simp (maxDischargeDepth := 7) [go_sem]; done) | (simp (maxDischargeDepth := 7) [go_sem, *]; done))
  have hf1_3_5 : w1.cell? ⟨w.heap.size + 3, 5, none⟩ = some (.int .i64 0) := (ha _).trans (by first | with_reducible assumption | (simp (maxDischargeDepth := 7) [go_sem]; done) | (simp (maxDischargeDepth := 7) [go_sem, *]; done))
  have hf1_3_6 : w1.cell? ⟨w.heap.size + 3, 6, none⟩ = some (.int .i64 0) := (ha _).trans (by first | with_reducible assumption | (simp (maxDischargeDepth := 7) [go_sem]; done) | (simp (maxDischargeDepth := 7) [go_sem, *]; done))
  have hf1_3_7 : w1.cell? ⟨w.heap.size + 3, 7, none⟩ = some (.int .i64 0) := (ha _).trans (by first | with_reducible assumption | (simp (maxDischargeDepth := 7) [go_sem]; done) | (simp (maxDischargeDepth := 7) [go_sem, *]; done))
  have hf1_3_8 : w1.cell? ⟨w.heap.size + 3, 8, none⟩ = some (.int .i64 0) := (ha _).trans (by first | with_reducible assumption | (simp (maxDischargeDepth := 7) [go_sem]; done) | (simp (maxDischargeDepth := 7) [go_sem, *]; done))
  have hf1_3_9 : w1.cell? ⟨w.heap.size + 3, 9, none⟩ = some (.int .i64 0) := (ha _).trans (by first | with_reducible assumption | (simp (maxDischargeDepth := 7) [go_sem]; done) | (simp (maxDischargeDepth := 7) [go_sem, *]; done))
  try have hg1_3 : ∀ o, w1.frozen? ⟨w.heap.size + 3, o, none⟩ = false := by intro o; rw [hb]; first | (simp (maxDischargeDepth := 7) [go_sem]; done) | (simp (maxDischargeDepth := 7) [go_sem, *]; done)
  clear ha hb
  go_wp2_with fail
  with_reducible refine (pv_ok bX bY hb _).mono ?_
  rintro e w2 ⟨rfl, hk2⟩
  refine kuz (b := w.heap.size) hk2 (by first | (simp; done) | (simp; omega) | omega) ?_
  intro ha hb hz2_0 hn2_0 hm2_0
  have hf2_0_0 : w2.cell? ⟨w.heap.size, 0, none⟩ = some (.int .i64 aX) := (ha _).trans (by first | with_reducible assumption | (simp (maxDischargeDepth := 7) [go_sem]; done) | (simp (maxDischargeDepth := 7) [go_sem, *]; done))
  have hf2_0_1 : w2.cell? ⟨w.heap.size, 1, none⟩ = some (.int .i64 aY) := (ha _).trans (by first | with_reducible assumption | (simp (maxDischargeDepth := 7) [go_sem]; done) | (simp (maxDischargeDepth := 7) [go_sem, *]; done))
  try have hg2_0 : ∀ o, w2.frozen? ⟨w.heap.size, o, none⟩ = false := by intro o; rw [hb]; first | (simp (maxDischargeDepth := 7) [go_sem]; done) | (simp (maxDischargeDepth := 7) [go_sem, *]; done)
  clear ha hb
  refine kuz (b := w.heap.size + 1) hk2 (by first | (simp; done) | (simp; omega) | omega) ?_
  intro ha hb hz2_1 hn2_1 hm2_1
  have hf2_1_0 : w2.cell? ⟨w.heap.size + 1, 0, none⟩ = some (.int .i64 bX) := (ha _).trans (by first | with_reducible assumption | (simp (maxDischargeDepth := 7) [go_sem]; done) | (simp (maxDischargeDepth := 7) [go_sem, *]; done))
  have hf2_1_1 : w2.cell? ⟨w.heap.size + 1, 1, none⟩ = some (.int .i64 bY) := (ha _).trans (by first | with_reducible assumption | (simp (maxDischargeDepth := 7) [go_sem]; done) | (simp (maxDischargeDepth := 7) [go_sem, *]; done))
  try have hg2_1 : ∀ o, w2.frozen? ⟨w.heap.size + 1, o, none⟩ = false := by intro o; rw [hb]; first | (simp (maxDischargeDepth := 7) [go_sem]; done) | (simp (maxDischargeDepth := 7) [go_sem, *]; done)
  clear ha hb
  refine kuz (b := w.heap.size + 2) hk2 (by first | (simp; done) | (simp; omega) | omega) ?_
  intro ha hb hz2_2 hn2_2 hm2_2
  have hf2_2_0 : w2.cell? ⟨w.heap.size + 2, 0, none⟩ = some (.int .i64 cX) := (ha _).trans (by first | with_reducible assumption | (simp (maxDischargeDepth := 7) [go_sem]; done) | (simp (maxDischargeDepth := 7) [go_sem, *]; done))
  have hf2_2_1 : w2.cell? ⟨w.heap.size + 2, 1, none⟩ = some (.int .i64 cY) := (ha _).trans (by first | with_reducible assumption | (simp (maxDischargeDepth := 7) [go_sem]; done) | (simp (maxDischargeDepth := 7) [go_sem, *]; done))
  try have hg2_2 : ∀ o, w2.frozen? ⟨w.heap.size + 2, o, none⟩ = false := by intro o; rw [hb]; first | (simp (maxDischargeDepth := 7) [go_sem]; done) | (simp (maxDischargeDepth := 7) [go_sem, *]; done)
  clear ha hb
  refine kuz (b := w.heap.size + 3) hk2 (by first | (simp; done) | (simp; omega) | omega) ?_
  intro ha hb hz2_3 hn2_3 hm2_3
  have hf2_3_0 : w2.cell? ⟨w.heap.size + 3, 0, none⟩ = some (.int .i64 0) := (ha _).trans (by first | with_reducible assumption | (simp (maxDischargeDepth := 7) [go_sem]; done) | (simp (maxDischargeDepth := 7) [go_sem, *]; done))
  have hf2_3_1 : w2.cell? ⟨w.heap.size + 3, 1, none⟩ = some (.int .i64 0) := (ha _).trans (by first | with_reducible assumption | (simp (maxDischargeDepth := 7) [go_sem]; done) | (simp (maxDischargeDepth := 7) [go_sem, *]; done))
  have hf2_3_2 : w2.cell? ⟨w.heap.size + 3, 2, none⟩ = some (.int .i64 0) := (ha _).trans (by first | with_reducible assumption | (simp (maxDischargeDepth := 7) [go_sem]; done) | (simp (maxDischargeDepth := 7) [go_sem, *]; done))
  have hf2_3_3 : w2.cell? ⟨w.heap.size + 3, 3, none⟩ = some (.int .i64 0) := (ha _).trans (by first | with_reducible assumption | (simp (maxDischargeDepth := 7) [go_sem]; done) | (simp (maxDischargeDepth := 7) [go_sem, *]; done))
  have hf2_3_4 : w2.cell? ⟨w.heap.size + 3, 4, none⟩ = some (.int .i64 0) := (ha _).trans (by first | with_reducible assumption | (simp (maxDischargeDepth := 7) [go_sem]; done) | (simp (maxDischargeDepth := 7) [go_sem, *]; done))
  have hf2_3_5 : w2.cell? ⟨w.heap.size + 3, 5, none⟩ = some (.int .i64 0) := (ha _).trans (by first | with_reducible assumption | (simp (maxDischargeDepth := 7) [go_sem]; done) | (simp (maxDischargeDepth := 7) [go_sem, *]; done))
  have hf2_3_6 : w2.cell? ⟨w.heap.size + 3, 6, none⟩ = some (.int .i64 0) := (ha _).trans (by first | with_reducible assumption | (simp (maxDischargeDepth := 7) [go_sem]; done) | (simp (maxDischargeDepth := 7) [go_sem, *]; done))
  have hf2_3_7 : w2.cell? ⟨w.heap.size + 3, 7, none⟩ = some (.int .i64 0) := (ha _).trans (by first | with_reducible assumption | (simp (maxDischargeDepth := 7) [go_sem]; done) | (simp (maxDischargeDepth := 7) [go_sem, *]; done))
  have hf2_3_8 : w2.cell? ⟨w.heap.size + 3, 8, none⟩ = some (.int .i64 0) := (ha _).trans (by first | with_reducible assumption | (simp (maxDischargeDepth := 7) [go_sem]; done) | (simp (maxDischargeDepth := 7) [go_sem, *]; done))
  have hf2_3_9 : w2.cell? ⟨w.heap.size + 3, 9, none⟩ = some (.int .i64 0) := (ha _).trans (by first | with_reducible assumption | (simp (maxDischargeDepth := 7) [go_sem]; done) | (simp (maxDischargeDepth := 7) [go_sem, *]; done))
  try have hg2_3 : ∀ o, w2.frozen? ⟨w.heap.size + 3, o, none⟩ = false := by intro o; rw [hb]; first | (simp (maxDischargeDepth := 7) [go_sem]; done) | (simp (maxDischargeDepth := 7) [go_sem, *]; done)
  clear ha hb
  (try clear hf1_0_0); (try clear hf1_0_1); (try clear hf1_1_0); (try clear hf1_1_1); (try clear hf1_2_0); (try clear hf1_2_1); (try clear hf1_3_0); (try clear hf1_3_1); (try clear hf1_3_2); (try clear hf1_3_3); (try clear hf1_3_4); (try clear hf1_3_5); (try clear hf1_3_6); (try clear hf1_3_7); (try clear hf1_3_8); (try clear hf1_3_9); (try clear hg1_0); (try clear hg1_1); (try clear hg1_2); (try clear hg1_3); (try clear hz1_1); (try clear hz1_2); (try clear hz1_3)
  go_wp2_with fail
  with_reducible refine (pv_ok cX cY hc _).mono ?_
  rintro e w3 ⟨rfl, hk3⟩
  refine kuz (b := w.heap.size) hk3 (by first | (simp; done) | (simp; omega) | omega) ?_
  intro ha hb hz3_0 hn3_0 hm3_0
  have hf3_0_0 : w3.cell? ⟨w.heap.size, 0, none⟩ = some (.int .i64 aX) := (ha _).trans (by first | with_reducible assumption | (simp (maxDischargeDepth := 7) [go_sem]; done) | (simp (maxDischargeDepth := 7) [go_sem, *]; done))
  have hf3_0_1 : w3.cell? ⟨w.heap.size, 1, none⟩ = some (.int .i64 aY) := (ha _).trans (by first | with_reducible assumption | (simp (maxDischargeDepth := 7) [go_sem]; done) | (simp (maxDischargeDepth := 7) [go_sem, *]; done))
  try have hg3_0 : ∀ o, w3.frozen? ⟨w.heap.size, o, none⟩ = false := by intro o; rw [hb]; first | (simp (maxDischargeDepth := 7) [go_sem]; done) | (simp (maxDischargeDepth := 7) [go_sem, *]; done)
  clear ha hb
  refine kuz (b := w.heap.size + 1) hk3 (by first | (simp; done) | (simp; omega) | omega) ?_
  intro ha hb hz3_1 hn3_1 hm3_1
  have hf3_1_0 : w3.cell? ⟨w.heap.size + 1, 0, none⟩ = some (.int .i64 bX) := (ha _).trans (by first | with_reducible assumption | (simp (maxDischargeDepth := 7) [go_sem]; done) | (simp (maxDischargeDepth := 7) [go_sem, *]; done))
  have hf3_1_1 : w3.cell? ⟨w.heap.size + 1, 1, none⟩ = some (.int .i64 bY) := (ha _).trans (by first | with_reducible assumption | (simp (maxDischargeDepth := 7) [go_sem]; done) | (simp (maxDischargeDepth := 7) [go_sem, *]; done))
  try have hg3_1 : ∀ o, w3.frozen? ⟨w.heap.size + 1, o, none⟩ = false := by intro o; rw [hb]; first | (simp (maxDischargeDepth := 7) [go_sem]; done) | (simp (maxDischargeDepth := 7) [go_sem, *]; done)
  clear ha hb
  refine kuz (b := w.heap.size + 2) hk3 (by first | (simp; done) | (simp; omega) | omega) ?_
  intro ha hb hz3_2 hn3_2 hm3_2
  have hf3_2_0 : w3.cell? ⟨w.heap.size + 2, 0, none⟩ = some (.int .i64 cX) := (ha _).trans (by first | with_reducible assumption | (simp (maxDischargeDepth := 7) [go_sem]; done) | (simp (maxDischargeDepth := 7) [go_sem, *]; done))
  have hf3_2_1 : w3.cell? ⟨w.heap.size + 2, 1, none⟩ = some (.int .i64 cY) := (ha _).trans (by first | with_reducible assumption | (simp (maxDischargeDepth := 7) [go_sem]; done) | (simp (maxDischargeDepth := 7) [go_sem, *]; done))
  try have hg3_2 : ∀ o, w3.frozen? ⟨w.heap.size + 2, o, none⟩ = false := by intro o; rw [hb]; first | (simp (maxDischargeDepth := 7) [go_sem]; done) | (simp (maxDischargeDepth := 7) [go_sem, *]; done)
  clear ha hb
  refine kuz (b := w.heap.size + 3) hk3 (by first | (simp; done) | (simp; omega) | omega) ?_
  intro ha hb hz3_3 hn3_3 hm3_3
  have hf3_3_0 : w3.cell? ⟨w.heap.size + 3, 0, none⟩ = some (.int .i64 0) := (ha _).trans (by first | with_reducible assumption | (simp (maxDischargeDepth := 7) [go_sem]; done) | (simp (maxDischargeDepth := 7) [go_sem, *]; done))
  have hf3_3_1 : w3.cell? ⟨w.heap.size + 3, 1, none⟩ = some (.int .i64 0) := (ha _).trans (by first | with_reducible assumption | (simp (maxDischargeDepth := 7) [go_sem]; done) | (simp (maxDischargeDepth := 7) [go_sem, *]; done))
  have hf3_3_2 : w3.cell? ⟨w.heap.size + 3, 2, none⟩ = some (.int .i64 0) := (ha _).trans (by first | with_reducible assumption | (simp (maxDischargeDepth := 7) [go_sem]; done) | (simp (maxDischargeDepth := 7) [go_sem, *]; done))
  have hf3_3_3 : w3.cell? ⟨w.heap.size + 3, 3, none⟩ = some (.int .i64 0) := (ha _).trans (by first | with_reducible assumption | (simp (maxDischargeDepth := 7) [go_sem]; done) | (simp (maxDischargeDepth := 7) [go_sem, *]; done))
  have hf3_3_4 : w3.cell? ⟨w.heap.size + 3, 4, none⟩ = some (.int .i64 0) := (ha _).trans (by first | with_reducible assumption | (simp (maxDischargeDepth := 7) [go_sem]; done) | (simp (maxDischargeDepth := 7) [go_sem, *]; done))
  have hf3_3_5 : w3.cell? ⟨w.heap.size + 3, 5, none⟩ = some (.int .i64 0) := (ha _).trans (by first | with_reducible assumption | (simp (maxDischargeDepth := 7) [go_sem]; done) | (simp (maxDischargeDepth := 7) [go_sem, *]; done))
  have hf3_3_6 : w3.cell? ⟨w.heap.size + 3, 6, none⟩ = some (.int .i64 0) := (ha _).trans (by first | with_reducible assumption | (simp (maxDischargeDepth := 7) [go_sem]; done) | (simp (maxDischargeDepth := 7) [go_sem, *]; done))
  have hf3_3_7 : w3.cell? ⟨w.heap.size + 3, 7, none⟩ = some (.int .i64 0) := (ha _).trans (by first | with_reducible assumption | (simp (maxDischargeDepth := 7) [go_sem]; done) | (simp (maxDischargeDepth := 7) [go_sem, *]; done))
  have hf3_3_8 : w3.cell? ⟨w.heap.size + 3, 8, none⟩ = some (.int .i64 0) := (ha _).trans (by first | with_reducible assumption | (simp (maxDischargeDepth := 7) [go_sem]; done) | (simp (maxDischargeDepth := 7) [go_sem, *]; done))
  have hf3_3_9 : w3.cell? ⟨w.heap.size + 3, 9, none⟩ = some (.int .i64 0) := (ha _).trans (by first | with_reducible assumption | (simp (maxDischargeDepth := 7) [go_sem]; done) | (simp (maxDischargeDepth := 7) [go_sem, *]; done))
  try have hg3_3 : ∀ o, w3.frozen? ⟨w.heap.size + 3, o, none⟩ = false := by intro o; rw [hb]; first | (simp (maxDischargeDepth := 7) [go_sem]; done) | (simp (maxDischargeDepth := 7) [go_sem, *]; done)
  clear ha hb
  (try clear hf2_0_0); (try clear hf2_0_1); (try clear hf2_1_0); (try clear hf2_1_1); (try clear hf2_2_0); (try clear hf2_2_1); (try clear hf2_3_0); (try clear hf2_3_1); (try clear hf2_3_2); (try clear hf2_3_3); (try clear hf2_3_4); (try clear hf2_3_5); (try clear hf2_3_6); (try clear hf2_3_7); (try clear hf2_3_8); (try clear hf2_3_9); (try clear hg2_0); (try clear hg2_1); (try clear hg2_2); (try clear hg2_3); (try clear hz2_1); (try clear hz2_2); (try clear hz2_3)
  go_wp2_with fail
  with_reducible refine (vr_ok r r0 r1 _).mono ?_
  rintro e w' ⟨rfl, rfl⟩
  go_wp2_with fail
  with_reducible refine (HC1.out _).mono ?_
  rintro e w5 ⟨rfl, hk5⟩
  refine kuz (b := w.heap.size) hk5 (by first | (simp; done) | (simp; omega) | omega) ?_
  intro ha hb hz5_0 hn5_0 hm5_0
  have hf5_0_0 : w5.cell? ⟨w.heap.size, 0, none⟩ = some (.int .i64 aX) := (ha _).trans (by first | with_reducible assumption | (simp (maxDischargeDepth := 7) [go_sem]; done) | (simp (maxDischargeDepth := 7) [go_sem, *]; done))
  have hf5_0_1 : w5.cell? ⟨w.heap.size, 1, none⟩ = some (.int .i64 aY) := (ha _).trans (by first | with_reducible assumption | (simp (maxDischargeDepth := 7) [go_sem]; done) | (simp (maxDischargeDepth := 7) [go_sem, *]; done))
  try have hg5_0 : ∀ o, w5.frozen? ⟨w.heap.size, o, none⟩ = false := by intro o; rw [hb]; first | (simp (maxDischargeDepth := 7) [go_sem]; done) | (simp (maxDischargeDepth := 7) [go_sem, *]; done)
  clear ha hb
  refine kuz (b := w.heap.size + 1) hk5 (by first | (simp; done) | (simp; omega) | omega) ?_
  intro ha hb hz5_1 hn5_1 hm5_1
  have hf5_1_0 : w5.cell? ⟨w.heap.size + 1, 0, none⟩ = some (.int .i64 bX) := (ha _).trans (by first | with_reducible assumption | (simp (maxDischargeDepth := 7) [go_sem]; done) | (simp (maxDischargeDepth := 7) [go_sem, *]; done))
  have hf5_1_1 : w5.cell? ⟨w.heap.size + 1, 1, none⟩ = some (.int .i64 bY) := (ha _).trans (by first | with_reducible assumption | (simp (maxDischargeDepth := 7) [go_sem]; done) | (simp (maxDischargeDepth := 7) [go_sem, *]; done))
  try have hg5_1 : ∀ o, w5.frozen? ⟨w.heap.size + 1, o, none⟩ = false := by intro o; rw [hb]; first | (simp (maxDischargeDepth := 7) [go_sem]; done) | (simp (maxDischargeDepth := 7) [go_sem, *]; done)
  clear ha hb
  refine kuz (b := w.heap.size + 2) hk5 (by first | (simp; done) | (simp; omega) | omega) ?_
  intro ha hb hz5_2 hn5_2 hm5_2
  have hf5_2_0 : w5.cell? ⟨w.heap.size + 2, 0, none⟩ = some (.int .i64 cX) := (ha _).trans (by first | with_reducible assumption | (simp (maxDischargeDepth := 7) [go_sem]; done) | (simp (maxDischargeDepth := 7) [go_sem, *]; done))
  have hf5_2_1 : w5.cell? ⟨w.heap.size + 2, 1, none⟩ = some (.int .i64 cY) := (ha _).trans (by first | with_reducible assumption | (simp (maxDischargeDepth := 7) [go_sem]; done) | (simp (maxDischargeDepth := 7) [go_sem, *]; done))
  try have hg5_2 : ∀ o, w5.frozen? ⟨w.heap.size + 2, o, none⟩ = false := by intro o; rw [hb]; first | (simp (maxDischargeDepth := 7) [go_sem]; done) | (simp (maxDischargeDepth := 7) [go_sem, *]; done)
  clear ha hb
  refine kuz (b := w.heap.size + 3) hk5 (by first | (simp; done) | (simp; omega) | omega) ?_
  intro ha hb hz5_3 hn5_3 hm5_3
  have hf5_3_0 : w5.cell? ⟨w.heap.size + 3, 0, none⟩ = some (.int .i64 0) := (ha _).trans (by first | with_reducible assumption | (simp (maxDischargeDepth := 7) [go_sem]; done) | (simp (maxDischargeDepth := 7) [go_sem, *]; done))
  have hf5_3_1 : w5.cell? ⟨w.heap.size + 3, 1, none⟩ = some (.int .i64 0) := (ha _).trans (by first | with_reducible assumption | (simp (maxDischargeDepth := 7) [go_sem]; done) | (simp (maxDischargeDepth := 7) [go_sem, *]; done))
  have hf5_3_2 : w5.cell? ⟨w.heap.size + 3, 2, none⟩ = some (.int .i64 0) := (ha _).trans (by first | with_reducible assumption | (simp (maxDischargeDepth := 7) [go_sem]; done) | (simp (maxDischargeDepth := 7) [go_sem, *]; done))
  have hf5_3_3 : w5.cell? ⟨w.heap.size + 3, 3, none⟩ = some (.int .i64 0) := (ha _).trans (by first | with_reducible assumption | (simp (maxDischargeDepth := 7) [go_sem]; done) | (simp (maxDischargeDepth := 7) [go_sem, *]; done))
  have hf5_3_4 : w5.cell? ⟨w.heap.size + 3, 4, none⟩ = some (.int .i64 0) := (ha _).trans (by first | with_reducible assumption | (simp (maxDischargeDepth := 7) [go_sem]; done) | (simp (maxDischargeDepth := 7) [go_sem, *]; done))
  have hf5_3_5 : w5.cell? ⟨w.heap.size + 3, 5, none⟩ = some (.int .i64 0) := (ha _).trans (by first | with_reducible assumption | (simp (maxDischargeDepth := 7) [go_sem]; done) | (simp (maxDischargeDepth := 7) [go_sem, *]; done))
  have hf5_3_6 : w5.cell? ⟨w.heap.size + 3, 6, none⟩ = some (.int .i64 0) := (ha _).trans (by first | with_reducible assumption | (simp (maxDischargeDepth := 7) [go_sem]; done) | (simp (maxDischargeDepth := 7) [go_sem, *]; done))
  have hf5_3_7 : w5.cell? ⟨w.heap.size + 3, 7, none⟩ = some (.int .i64 0) := (ha _).trans (by first | with_reducible assumption | (simp (maxDischargeDepth := 7) [go_sem]; done) | (simp (maxDischargeDepth := 7) [go_sem, *]; done))
  have hf5_3_8 : w5.cell? ⟨w.heap.size + 3, 8, none⟩ = some (.int .i64 0) := (ha _).trans (by first | with_reducible assumption | (simp (maxDischargeDepth := 7) [go_sem]; done) | (simp (maxDischargeDepth := 7) [go_sem, *]; done))
  have hf5_3_9 : w5.cell? ⟨w.heap.size + 3, 9, none⟩ = some (.int .i64 0) := (ha _).trans (by first | with_reducible assumption | (simp (maxDischargeDepth := 7) [go_sem]; done) | (simp (maxDischargeDepth := 7) [go_sem, *]; done))
  try have hg5_3 : ∀ o, w5.frozen? ⟨w.heap.size + 3, o, none⟩ = false := by intro o; rw [hb]; first | (simp (maxDischargeDepth := 7) [go_sem]; done) | (simp (maxDischargeDepth := 7) [go_sem, *]; done)
  clear ha hb
  (try clear hf3_0_0); (try clear hf3_0_1); (try clear hf3_1_0); (try clear hf3_1_1); (try clear hf3_2_0); (try clear hf3_2_1); (try clear hf3_3_0); (try clear hf3_3_1); (try clear hf3_3_2); (try clear hf3_3_3); (try clear hf3_3_4); (try clear hf3_3_5); (try clear hf3_3_6); (try clear hf3_3_7); (try clear hf3_3_8); (try clear hf3_3_9); (try clear hg3_0); (try clear hg3_1); (try clear hg3_2); (try clear hg3_3); (try clear hz3_1); (try clear hz3_2); (try clear hz3_3)
  go_wp2_with fail
  with_reducible refine (HC2.out _).mono ?_
  rintro e w6 ⟨rfl, hk6⟩
  refine kuz (b := w.heap.size) hk6 (by first | (simp; done) | (simp; omega) | omega) ?_
  intro ha hb hz6_0 hn6_0 hm6_0
  have hf6_0_0 : w6.cell? ⟨w.heap.size, 0, none⟩ = some (.int .i64 aX) := (ha _).trans (by first | with_reducible assumption | (simp (maxDischargeDepth := 7) [go_sem]; done) | (simp (maxDischargeDepth := 7) [go_sem, *]; done))
  have hf6_0_1 : w6.cell? ⟨w.heap.size, 1, none⟩ = some (.int .i64 aY) := (ha _).trans (by first | with_reducible assumption | (simp (maxDischargeDepth := 7) [go_sem]; done) | (simp (maxDischargeDepth := 7) [go_sem, *]; done))
  try have hg6_0 : ∀ o, w6.frozen? ⟨w.heap.size, o, none⟩ = false := by intro o; rw [hb]; first | (simp (maxDischargeDepth := 7) [go_sem]; done) | (simp (maxDischargeDepth := 7) [go_sem, *]; done)
  clear ha hb
  refine kuz (b := w.heap.size + 1) hk6 (by first | (simp; done) | (simp; omega) | omega) ?_
  intro ha hb hz6_1 hn6_1 hm6_1
  have hf6_1_0 : w6.cell? ⟨w.heap.size + 1, 0, none⟩ = some (.int .i64 bX) := (ha _).trans (by first | with_reducible assumption | (simp (maxDischargeDepth := 7) [go_sem]; done) | (simp (maxDischargeDepth := 7) [go_sem, *]; done))
  have hf6_1_1 : w6.cell? ⟨w.heap.size + 1, 1, none⟩ = some (.int .i64 bY) := (ha _).trans (by first | with_reducible assumption | (simp (maxDischargeDepth := 7) [go_sem]; done) | (simp (maxDischargeDepth := 7) [go_sem, *]; done))
  try have hg6_1 : ∀ o, w6.frozen? ⟨w.heap.size + 1, o, none⟩ = false := by intro o; rw [hb]; first | (simp (maxDischargeDepth := 7) [go_sem]; done) | (simp (maxDischargeDepth := 7) [go_sem, *]; done)
  clear ha hb
  refine kuz (b := w.heap.size + 2) hk6 (by first | (simp; done) | (simp; omega) | omega) ?_
  intro ha hb hz6_2 hn6_2 hm6_2
  have hf6_2_0 : w6.cell? ⟨w.heap.size + 2, 0, none⟩ = some (.int .i64 cX) := (ha _).trans (by first | with_reducible assumption | (simp (maxDischargeDepth := 7) [go_sem]; done) | (simp (maxDischargeDepth := 7) [go_sem, *]; done))
  have hf6_2_1 : w6.cell? ⟨w.heap.size + 2, 1, none⟩ = some (.int .i64 cY) := (ha _).trans (by first | with_reducible assumption | (simp (maxDischargeDepth := 7) [go_sem]; done) | (simp (maxDischargeDepth := 7) [go_sem, *]; done))
  try have hg6_2 : ∀ o, w6.frozen? ⟨w.heap.size + 2, o, none⟩ = false := by intro o; rw [hb]; first | (simp (maxDischargeDepth := 7) [go_sem]; done) | (simp (maxDischargeDepth := 7) [go_sem, *]; done)
  clear ha hb
  refine kuz (b := w.heap.size + 3) hk6 (by first | (simp; done) | (simp; omega) | omega) ?_
  intro ha hb hz6_3 hn6_3 hm6_3
  have hf6_3_0 : w6.cell? ⟨w.heap.size + 3, 0, none⟩ = some (.int .i64 0) := (ha _).trans (by first | with_reducible assumption | (simp (maxDischargeDepth := 7) [go_sem]; done) | (simp (maxDischargeDepth := 7) [go_sem, *]; done))
  have hf6_3_1 : w6.cell? ⟨w.heap.size + 3, 1, none⟩ = some (.int .i64 0) := (ha _).trans (by first | with_reducible assumption | (simp (maxDischargeDepth := 7) [go_sem]; done) | (simp (maxDischargeDepth := 7) [go_sem, *]; done))
  have hf6_3_2 : w6.cell? ⟨w.heap.size + 3, 2, none⟩ = some (.int .i64 0) := (ha _).trans (by first | with_reducible assumption | (simp (maxDischargeDepth := 7) [go_sem]; done) | (simp (maxDischargeDepth := 7) [go_sem, *]; done))
  have hf6_3_3 : w6.cell? ⟨w.heap.size + 3, 3, none⟩ = some (.int .i64 0) := (ha _).trans (by first | with_reducible assumption | (simp (maxDischargeDepth := 7) [go_sem]; done) | (simp (maxDischargeDepth := 7) [go_sem, *]; done))
  have hf6_3_4 : w6.cell? ⟨w.heap.size + 3, 4, none⟩ = some (.int .i64 0) := (ha _).trans (by first | with_reducible assumption | (simp (maxDischargeDepth := 7) [go_sem]; done) | (simp (maxDischargeDepth := 7) [go_sem, *]; done))
  have hf6_3_5 : w6.cell? ⟨w.heap.size + 3, 5, none⟩ = some (.int .i64 0) := (ha _).trans (by first | with_reducible assumption | (simp (maxDischargeDepth := 7) [go_sem]; done) | (simp (maxDischargeDepth := 7) [go_sem, *]; done))
  have hf6_3_6 : w6.cell? ⟨w.heap.size + 3, 6, none⟩ = some (.int .i64 0) := (ha _).trans (by first | with_reducible assumption | (simp (maxDischargeDepth := 7) [go_sem]; done) | (simp (maxDischargeDepth := 7) [go_sem, *]; done))
  have hf6_3_7 : w6.cell? ⟨w.heap.size + 3, 7, none⟩ = some (.int .i64 0) := (ha _).trans (by first | with_reducible assumption | (simp (maxDischargeDepth := 7) [go_sem]; done) | (simp (maxDischargeDepth := 7) [go_sem, *]; done))
  have hf6_3_8 : w6.cell? ⟨w.heap.size + 3, 8, none⟩ = some (.int .i64 0) := (ha _).trans (by first | with_reducible assumption | (simp (maxDischargeDepth := 7) [go_sem]; done) | (simp (maxDischargeDepth := 7) [go_sem, *]; done))
  have hf6_3_9 : w6.cell? ⟨w.heap.size + 3, 9, none⟩ = some (.int .i64 0) := (ha _).trans (by first | with_reducible assumption | (simp (maxDischargeDepth := 7) [go_sem]; done) | (simp (maxDischargeDepth := 7) [go_sem, *]; done))
  try have hg6_3 : ∀ o, w6.frozen? ⟨w.heap.size + 3, o, none⟩ = false := by intro o; rw [hb]; first | (simp (maxDischargeDepth := 7) [go_sem]; done) | (simp (maxDischargeDepth := 7) [go_sem, *]; done)
  clear ha hb
  (try clear hf5_0_0); (try clear hf5_0_1); (try clear hf5_1_0); (try clear hf5_1_1); (try clear hf5_2_0); (try clear hf5_2_1); (try clear hf5_3_0); (try clear hf5_3_1); (try clear hf5_3_2); (try clear hf5_3_3); (try clear hf5_3_4); (try clear hf5_3_5); (try clear hf5_3_6); (try clear hf5_3_7); (try clear hf5_3_8); (try clear hf5_3_9); (try clear hg5_0); (try clear hg5_1); (try clear hg5_2); (try clear hg5_3); (try clear hz5_1); (try clear hz5_2); (try clear hz5_3)
  go_wp2_with fail
  with_reducible refine (HDF.out _).mono ?_
  rintro e w' ⟨rfl, rfl⟩
  go_wp2_with fail
  with_reducible refine (HSA.out _).mono ?_
  rintro e w' ⟨rfl, rfl⟩
  go_wp2_with fail
  with_reducible refine (HSA.out _).mono ?_
  rintro e w' ⟨rfl, rfl⟩
  go_wp2_with fail
  with_reducible refine (HSN.out _).mono ?_
  rintro e w10 ⟨rfl, hk10⟩
  refine kuz (b := w.heap.size) hk10 (by first | (simp; done) | (simp; omega) | omega) ?_
  intro ha hb hz10_0 hn10_0 hm10_0
  have hf10_0_0 : w10.cell? ⟨w.heap.size, 0, none⟩ = some (.int .i64 aX) := (ha _).trans (by first | with_reducible assumption | (simp (maxDischargeDepth := 7) [go_sem]; done) | (simp (maxDischargeDepth := 7) [go_sem, *]; done))
  have hf10_0_1 : w10.cell? ⟨w.heap.size, 1, none⟩ = some (.int .i64 aY) := (ha _).trans (by first | with_reducible assumption | (simp (maxDischargeDepth := 7) [go_sem]; done) | (simp (maxDischargeDepth := 7) [go_sem, *]; done))
  try have hg10_0 : ∀ o, w10.frozen? ⟨w.heap.size, o, none⟩ = false := by intro o; rw [hb]; first | (simp (maxDischargeDepth := 7) [go_sem]; done) | (simp (maxDischargeDepth := 7) [go_sem, *]; done)
  clear ha hb
  refine kuz (b := w.heap.size + 1) hk10 (by first | (simp; done) | (simp; omega) | omega) ?_
  intro ha hb hz10_1 hn10_1 hm10_1
  have hf10_1_0 : w10.cell? ⟨w.heap.size + 1, 0, none⟩ = some (.int .i64 bX) := (ha _).trans (by first | with_reducible assumption | (simp (maxDischargeDepth := 7) [go_sem]; done) | (simp (maxDischargeDepth := 7) [go_sem, *]; done))
  have hf10_1_1 : w10.cell? ⟨w.heap.size + 1, 1, none⟩ = some (.int .i64 bY) := (ha _).trans (by first | with_reducible assumption | (simp (maxDischargeDepth := 7) [go_sem]; done) | (simp (maxDischargeDepth := 7) [go_sem, *]; done))
  try have hg10_1 : ∀ o, w10.frozen? ⟨w.heap.size + 1, o, none⟩ = false := by intro o; rw [hb]; first | (simp (maxDischargeDepth := 7) [go_sem]; done) | (simp (maxDischargeDepth := 7) [go_sem, *]; done)
  clear ha hb
  refine kuz (b := w.heap.size + 2) hk10 (by first | (simp; done) | (simp; omega) | omega) ?_
  intro ha hb hz10_2 hn10_2 hm10_2
  have hf10_2_0 : w10.cell? ⟨w.heap.size + 2, 0, none⟩ = some (.int .i64 cX) := (ha _).trans (by first | with_reducible assumption | (simp (maxDischargeDepth := 7) [go_sem]; done) | (simp (maxDischargeDepth := 7) [go_sem, *]; done))
  have hf10_2_1 : w10.cell? ⟨w.heap.size + 2, 1, none⟩ = some (.int .i64 cY) := (ha _).trans (by first | with_reducible assumption | (simp (maxDischargeDepth := 7) [go_sem]; done) | (simp (maxDischargeDepth := 7) [go_sem, *]; done))
  try have hg10_2 : ∀ o, w10.frozen? ⟨w.heap.size + 2, o, none⟩ = false := by intro o; rw [hb]; first | (simp (maxDischargeDepth := 7) [go_sem]; done) | (simp (maxDischargeDepth := 7) [go_sem, *]; done)
  clear ha hb
  refine kuz (b := w.heap.size + 3) hk10 (by first | (simp; done) | (simp; omega) | omega) ?_
  intro ha hb hz10_3 hn10_3 hm10_3
  have hf10_3_0 : w10.cell? ⟨w.heap.size + 3, 0, none⟩ = some (.int .i64 0) := (ha _).trans (by first | with_reducible assumption | (simp (maxDischargeDepth := 7) [go_sem]; done) | (simp (maxDischargeDepth := 7) [go_sem, *]; done))
  have hf10_3_1 : w10.cell? ⟨w.heap.size + 3, 1, none⟩ = some (.int .i64 0) := (ha _).trans (by first | with_reducible assumption | (simp (maxDischargeDepth := 7) [go_sem]; done) | (simp (maxDischargeDepth := 7) [go_sem, *]; done))
  have hf10_3_2 : w10.cell? ⟨w.heap.size + 3, 2, none⟩ = some (.int .i64 0) := (ha _).trans (by first | with_reducible assumption | (simp (maxDischargeDepth := 7) [go_sem]; done) | (simp (maxDischargeDepth := 7) [go_sem, *]; done))
  have hf10_3_3 : w10.cell? ⟨w.heap.size + 3, 3, none⟩ = some (.int .i64 0) := (ha _).trans (by first | with_reducible assumption | (simp (maxDischargeDepth := 7) [go_sem]; done) | (simp (maxDischargeDepth := 7) [go_sem, *]; done))
  have hf10_3_4 : w10.cell? ⟨w.heap.size + 3, 4, none⟩ = some (.int .i64 0) := (ha _).trans (by first | with_reducible assumption | (simp (maxDischargeDepth := 7) [go_sem]; done) | (simp (maxDischargeDepth := 7) [go_sem, *]; done))
  have hf10_3_5 : w10.cell? ⟨w.heap.size + 3, 5, none⟩ = some (.int .i64 0) := (ha _).trans (by first | with_reducible assumption | (simp (maxDischargeDepth := 7) [go_sem]; done) | (simp (maxDischargeDepth := 7) [go_sem, *]; done))
  have hf10_3_6 : w10.cell? ⟨w.heap.size + 3, 6, none⟩ = some (.int .i64 0) := (ha _).trans (by first | with_reducible assumption | (simp (maxDischargeDepth := 7) [go_sem]; done) | (simp (maxDischargeDepth := 7) [go_sem, *]; done))
  have hf10_3_7 : w10.cell? ⟨w.heap.size + 3, 7, none⟩ = some (.int .i64 0) := (ha _).trans (by first | with_reducible assumption | (simp (maxDischargeDepth := 7) [go_sem]; done) | (simp (maxDischargeDepth := 7) [go_sem, *]; done))
  have hf10_3_8 : w10.cell? ⟨w.heap.size + 3, 8, none⟩ = some (.int .i64 0) := (ha _).trans (by first | with_reducible assumption | (simp (maxDischargeDepth := 7) [go_sem]; done) | (simp (maxDischargeDepth := 7) [go_sem, *]; done))
  have hf10_3_9 : w10.cell? ⟨w.heap.size + 3, 9, none⟩ = some (.int .i64 0) := (ha _).trans (by first | with_reducible assumption | (simp (maxDischargeDepth := 7) [go_sem]; done) | (simp (maxDischargeDepth := 7) [go_sem, *]; done))
  try have hg10_3 : ∀ o, w10.frozen? ⟨w.heap.size + 3, o, none⟩ = false := by intro o; rw [hb]; first | (simp (maxDischargeDepth := 7) [go_sem]; done) | (simp (maxDischargeDepth := 7) [go_sem, *]; done)
  clear ha hb
  (try clear hf6_0_0); (try clear hf6_0_1); (try clear hf6_1_0); (try clear hf6_1_1); (try clear hf6_2_0); (try clear hf6_2_1); (try clear hf6_3_0); (try clear hf6_3_1); (try clear hf6_3_2); (try clear hf6_3_3); (try clear hf6_3_4); (try clear hf6_3_5); (try clear hf6_3_6); (try clear hf6_3_7); (try clear hf6_3_8); (try clear hf6_3_9); (try clear hg6_0); (try clear hg6_1); (try clear hg6_2); (try clear hg6_3); (try clear hz6_1); (try clear hz6_2); (try clear hz6_3)
  go_wp2_with fail
  with_reducible refine (HCN.out _).mono ?_
  rintro e w11 ⟨rfl, hk11⟩
  refine kuz (b := w.heap.size) hk11 (by first | (simp; done) | (simp; omega) | omega) ?_
  intro ha hb hz11_0 hn11_0 hm11_0
  have hf11_0_0 : w11.cell? ⟨w.heap.size, 0, none⟩ = some (.int .i64 aX) := (ha _).trans (by first | with_reducible assumption | (simp (maxDischargeDepth := 7) [go_sem]; done) | (simp (maxDischargeDepth := 7) [go_sem, *]; done))
  have hf11_0_1 : w11.cell? ⟨w.heap.size, 1, none⟩ = some (.int .i64 aY) := (ha _).trans (by first | with_reducible assumption | (simp (maxDischargeDepth := 7) [go_sem]; done) | (simp (maxDischargeDepth := 7) [go_sem, *]; done))
  try have hg11_0 : ∀ o, w11.frozen? ⟨w.heap.size, o, none⟩ = false := by intro o; rw [hb]; first | (simp (maxDischargeDepth := 7) [go_sem]; done) | (simp (maxDischargeDepth := 7) [go_sem, *]; done)
  clear ha hb
  refine kuz (b := w.heap.size + 1) hk11 (by first | (simp; done) | (simp; omega) | omega) ?_
  intro ha hb hz11_1 hn11_1 hm11_1
  have hf11_1_0 : w11.cell? ⟨w.heap.size + 1, 0, none⟩ = some (.int .i64 bX) := (ha _).trans (by first | with_reducible assumption | (simp (maxDischargeDepth := 7) [go_sem]; done) | (simp (maxDischargeDepth := 7) [go_sem, *]; done))
  have hf11_1_1 : w11.cell? ⟨w.heap.size + 1, 1, none⟩ = some (.int .i64 bY) := (ha _).trans (by first | with_reducible assumption | (simp (maxDischargeDepth := 7) [go_sem]; done) | (simp (maxDischargeDepth := 7) [go_sem, *]; done))
  try have hg11_1 : ∀ o, w11.frozen? ⟨w.heap.size + 1, o, none⟩ = false := by intro o; rw [hb]; first | (simp (maxDischargeDepth := 7) [go_sem]; done) | (simp (maxDischargeDepth := 7) [go_sem, *]; done)
  clear ha hb
  refine kuz (b := w.heap.size + 2) hk11 (by first | (simp; done) | (simp; omega) | omega) ?_
  intro ha hb hz11_2 hn11_2 hm11_2
  have hf11_2_0 : w11.cell? ⟨w.heap.size + 2, 0, none⟩ = some (.int .i64 cX) := (ha _).trans (by first | with_reducible assumption | (simp (maxDischargeDepth := 7) [go_sem]; done) | (simp (maxDischargeDepth := 7) [go_sem, *]; done))
  have hf11_2_1 : w11.cell? ⟨w.heap.size + 2, 1, none⟩ = some (.int .i64 cY) := (ha _).trans (by first | with_reducible assumption | (simp (maxDischargeDepth := 7) [go_sem]; done) | (simp (maxDischargeDepth := 7) [go_sem, *]; done))
  try have hg11_2 : ∀ o, w11.frozen? ⟨w.heap.size + 2, o, none⟩ = false := by intro o; rw [hb]; first | (simp (maxDischargeDepth := 7) [go_sem]; done) | (simp (maxDischargeDepth := 7) [go_sem, *]; done)
  clear ha hb
  refine kuz (b := w.heap.size + 3) hk11 (by first | (simp; done) | (simp; omega) | omega) ?_
  intro ha hb hz11_3 hn11_3 hm11_3
  have hf11_3_0 : w11.cell? ⟨w.heap.size + 3, 0, none⟩ = some (.int .i64 0) := (ha _).trans (by first | with_reducible assumption | (simp (maxDischargeDepth := 7) [go_sem]; done) | (simp (maxDischargeDepth := 7) [go_sem, *]; done))
  have hf11_3_1 : w11.cell? ⟨w.heap.size + 3, 1, none⟩ = some (.int .i64 0) := (ha _).trans (by first | with_reducible assumption | (simp (maxDischargeDepth := 7) [go_sem]; done) | (simp (maxDischargeDepth := 7) [go_sem, *]; done))
  have hf11_3_2 : w11.cell? ⟨w.heap.size + 3, 2, none⟩ = some (.int .i64 0) := (ha _).trans (by first | with_reducible assumption | (simp (maxDischargeDepth := 7) [go_sem]; done) | (simp (maxDischargeDepth := 7) [go_sem, *]; done))
  have hf11_3_3 : w11.cell? ⟨w.heap.size + 3, 3, none⟩ = some (.int .i64 0) := (ha _).trans (by first | with_reducible assumption | (simp (maxDischargeDepth := 7) [go_sem]; done) | (simp (maxDischargeDepth := 7) [go_sem, *]; done))
  have hf11_3_4 : w11.cell? ⟨w.heap.size + 3, 4, none⟩ = some (.int .i64 0) := (ha _).trans (by first | with_reducible assumption | (simp (maxDischargeDepth := 7) [go_sem]; done) | (simp (maxDischargeDepth := 7) [go_sem, *]; done))
  have hf11_3_5 : w11.cell? ⟨w.heap.size + 3, 5, none⟩ = some (.int .i64 0) := (ha _).trans (by first | with_reducible assumption | (simp (maxDischargeDepth := 7) [go_sem]; done) | (simp (maxDischargeDepth := 7) [go_sem, *]; done))
  have hf11_3_6 : w11.cell? ⟨w.heap.size + 3, 6, none⟩ = some (.int .i64 0) := (ha _).trans (by first | with_reducible assumption | (simp (maxDischargeDepth := 7) [go_sem]; done) | (simp (maxDischargeDepth := 7) [go_sem, *]; done))
  have hf11_3_7 : w11.cell? ⟨w.heap.size + 3, 7, none⟩ = some (.int .i64 0) := (ha _).trans (by first | with_reducible assumption | (simp (maxDischargeDepth := 7) [go_sem]; done) | (simp (maxDischargeDepth := 7) [go_sem, *]; done))
  have hf11_3_8 : w11.cell? ⟨w.heap.size + 3, 8, none⟩ = some (.int .i64 0) := (ha _).trans (by first | with_reducible assumption | (simp (maxDischargeDepth := 7) [go_sem]; done) | (simp (maxDischargeDepth := 7) [go_sem, *]; done))
  have hf11_3_9 : w11.cell? ⟨w.heap.size + 3, 9, none⟩ = some (.int .i64 0) := (ha _).trans (by first | with_reducible assumption | (simp (maxDischargeDepth := 7) [go_sem]; done) | (simp (maxDischargeDepth := 7) [go_sem, *]; done))
  try have hg11_3 : ∀ o, w11.frozen? ⟨w.heap.size + 3, o, none⟩ = false := by intro o; rw [hb]; first | (simp (maxDischargeDepth := 7) [go_sem]; done) | (simp (maxDischargeDepth := 7) [go_sem, *]; done)
  clear ha hb
  (try clear hf10_0_0); (try clear hf10_0_1); (try clear hf10_1_0); (try clear hf10_1_1); (try clear hf10_2_0); (try clear hf10_2_1); (try clear hf10_3_0); (try clear hf10_3_1); (try clear hf10_3_2); (try clear hf10_3_3); (try clear hf10_3_4); (try clear hf10_3_5); (try clear hf10_3_6); (try clear hf10_3_7); (try clear hf10_3_8); (try clear hf10_3_9); (try clear hg10_0); (try clear hg10_1); (try clear hg10_2); (try clear hg10_3); (try clear hz10_1); (try clear hz10_2); (try clear hz10_3)
  go_wp2_with fail
  with_reducible refine (HMD.out _).mono ?_
  rintro e w12 ⟨rfl, hk12⟩
  refine kuz (b := w.heap.size) hk12 (by first | (simp; done) | (simp; omega) | omega) ?_
  intro ha hb hz12_0 hn12_0 hm12_0
  have hf12_0_0 : w12.cell? ⟨w.heap.size, 0, none⟩ = some (.int .i64 aX) := (ha _).trans (by first | with_reducible assumption | (simp (maxDischargeDepth := 7) [go_sem]; done) | (simp (maxDischargeDepth := 7) [go_sem, *]; done))
  have hf12_0_1 : w12.cell? ⟨w.heap.size, 1, none⟩ = some (.int .i64 aY) := (ha _).trans (by first | with_reducible assumption | (simp (maxDischargeDepth := 7) [go_sem]; done) | (simp (maxDischargeDepth := 7) [go_sem, *]; done))
  try have hg12_0 : ∀ o, w12.frozen? ⟨w.heap.size, o, none⟩ = false := by intro o; rw [hb]; first | (simp (maxDischargeDepth := 7) [go_sem]; done) | (simp (maxDischargeDepth := 7) [go_sem, *]; done)
  clear ha hb
  refine kuz (b := w.heap.size + 1) hk12 (by first | (simp; done) | (simp; omega) | omega) ?_
  intro ha hb hz12_1 hn12_1 hm12_1
  have hf12_1_0 : w12.cell? ⟨w.heap.size + 1, 0, none⟩ = some (.int .i64 bX) := (ha _).trans (by first | with_reducible assumption | (simp (maxDischargeDepth := 7) [go_sem]; done) | (simp (maxDischargeDepth := 7) [go_sem, *]; done))
  have hf12_1_1 : w12.cell? ⟨w.heap.size + 1, 1, none⟩ = some (.int .i64 bY) := (ha _).trans (by first | with_reducible assumption | (simp (maxDischargeDepth := 7) [go_sem]; done) | (simp (maxDischargeDepth := 7) [go_sem, *]; done))
  try have hg12_1 : ∀ o, w12.frozen? ⟨w.heap.size + 1, o, none⟩ = false := by intro o; rw [hb]; first | (simp (maxDischargeDepth := 7) [go_sem]; done) | (simp (maxDischargeDepth := 7) [go_sem, *]; done)
  clear ha hb
  refine kuz (b := w.heap.size + 2) hk12 (by first | (simp; done) | (simp; omega) | omega) ?_
  intro ha hb hz12_2 hn12_2 hm12_2
  have hf12_2_0 : w12.cell? ⟨w.heap.size + 2, 0, none⟩ = some (.int .i64 cX) := (ha _).trans (by first | with_reducible assumption | (simp (maxDischargeDepth := 7) [go_sem]; done) | (simp (maxDischargeDepth := 7) [go_sem, *]; done))
  have hf12_2_1 : w12.cell? ⟨w.heap.size + 2, 1, none⟩ = some (.int .i64 cY) := (ha _).trans (by first | with_reducible assumption | (simp (maxDischargeDepth := 7) [go_sem]; done) | (simp (maxDischargeDepth := 7) [go_sem, *]; done))
  try have hg12_2 : ∀ o, w12.frozen? ⟨w.heap.size + 2, o, none⟩ = false := by intro o; rw [hb]; first | (simp (maxDischargeDepth := 7) [go_sem]; done) | (simp (maxDischargeDepth := 7) [go_sem, *]; done)
  clear ha hb
  refine kuz (b := w.heap.size + 3) hk12 (by first | (simp; done) | (simp; omega) | omega) ?_
  intro ha hb hz12_3 hn12_3 hm12_3
  have hf12_3_0 : w12.cell? ⟨w.heap.size + 3, 0, none⟩ = some (.int .i64 0) := (ha _).trans (by first | with_reducible assumption | (simp (maxDischargeDepth := 7) [go_sem]; done) | (simp (maxDischargeDepth := 7) [go_sem, *]; done))
  have hf12_3_1 : w12.cell? ⟨w.heap.size + 3, 1, none⟩ = some (.int .i64 0) := (ha _).trans (by first | with_reducible assumption | (simp (maxDischargeDepth := 7) [go_sem]; done) | (simp (maxDischargeDepth := 7) [go_sem, *]; done))
  have hf12_3_2 : w12.cell? ⟨w.heap.size + 3, 2, none⟩ = some (.int .i64 0) := (ha _).trans (by first | with_reducible assumption | (simp (maxDischargeDepth := 7) [go_sem]; done) | (simp (maxDischargeDepth := 7) [go_sem, *]; done))
  have hf12_3_3 : w12.cell? ⟨w.heap.size + 3, 3, none⟩ = some (.int .i64 0) := (ha _).trans (by first | with_reducible assumption | (simp (maxDischargeDepth := 7) [go_sem]; done) | (simp (maxDischargeDepth := 7) [go_sem, *]; done))
  have hf12_3_4 : w12.cell? ⟨w.heap.size + 3, 4, none⟩ = some (.int .i64 0) := (ha _).trans (by first | with_reducible assumption | (simp (maxDischargeDepth := 7) [go_sem]; done) | (simp (maxDischargeDepth := 7) [go_sem, *]; done))
  have hf12_3_5 : w12.cell? ⟨w.heap.size + 3, 5, none⟩ = some (.int .i64 0) := (ha _).trans (by first | with_reducible assumption | (simp (maxDischargeDepth := 7) [go_sem]; done) | (simp (maxDischargeDepth := 7) [go_sem, *]; done))
  have hf12_3_6 : w12.cell? ⟨w.heap.size + 3, 6, none⟩ = some (.int .i64 0) := (ha _).trans (by first | with_reducible assumption | (simp (maxDischargeDepth := 7) [go_sem]; done) | (simp (maxDischargeDepth := 7) [go_sem, *]; done))
  have hf12_3_7 : w12.cell? ⟨w.heap.size + 3, 7, none⟩ = some (.int .i64 0) := (ha _).trans (by first | with_reducible assumption | (simp (maxDischargeDepth := 7) [go_sem]; done) | (simp (maxDischargeDepth := 7) [go_sem, *]; done))
  have hf12_3_8 : w12.cell? ⟨w.heap.size + 3, 8, none⟩ = some (.int .i64 0) := (ha _).trans (by first | with_reducible assumption | (simp (maxDischargeDepth := 7) [go_sem]; done) | (simp (maxDischargeDepth := 7) [go_sem, *]; done))
  have hf12_3_9 : w12.cell? ⟨w.heap.size + 3, 9, none⟩ = some (.int .i64 0) := (ha _).trans (by first | with_reducible assumption | (simp (maxDischargeDepth := 7) [go_sem]; done) | (simp (maxDischargeDepth := 7) [go_sem, *]; done))
  try have hg12_3 : ∀ o, w12.frozen? ⟨w.heap.size + 3, o, none⟩ = false := by intro o; rw [hb]; first | (simp (maxDischargeDepth := 7) [go_sem]; done) | (simp (maxDischargeDepth := 7) [go_sem, *]; done)
  clear ha hb
  (try clear hf11_0_0); (try clear hf11_0_1); (try clear hf11_1_0); (try clear hf11_1_1); (try clear hf11_2_0); (try clear hf11_2_1); (try clear hf11_3_0); (try clear hf11_3_1); (try clear hf11_3_2); (try clear hf11_3_3); (try clear hf11_3_4); (try clear hf11_3_5); (try clear hf11_3_6); (try clear hf11_3_7); (try clear hf11_3_8); (try clear hf11_3_9); (try clear hg11_0); (try clear hg11_1); (try clear hg11_2); (try clear hg11_3); (try clear hz11_1); (try clear hz11_2); (try clear hz11_3)
  go_wp2_with fail
  with_reducible refine (HD1.out _).mono ?_
  rintro e w13 ⟨rfl, hk13⟩
  refine kuz (b := w.heap.size) hk13 (by first | (simp; done) | (simp; omega) | omega) ?_
  intro ha hb hz13_0 hn13_0 hm13_0
  have hf13_0_0 : w13.cell? ⟨w.heap.size, 0, none⟩ = some (.int .i64 aX) := (ha _).trans (by first | with_reducible assumption | (simp (maxDischargeDepth := 7) [go_sem]; done) | (simp (maxDischargeDepth := 7) [go_sem, *]; done))
  have hf13_0_1 : w13.cell? ⟨w.heap.size, 1, none⟩ = some (.int .i64 aY) := (ha _).trans (by first | with_reducible assumption | (simp (maxDischargeDepth := 7) [go_sem]; done) | (simp (maxDischargeDepth := 7) [go_sem, *]; done))
  try have hg13_0 : ∀ o, w13.frozen? ⟨w.heap.size, o, none⟩ = false := by intro o; rw [hb]; first | (simp (maxDischargeDepth := 7) [go_sem]; done) | (simp (maxDischargeDepth := 7) [go_sem, *]; done)
  clear ha hb
  refine kuz (b := w.heap.size + 1) hk13 (by first | (simp; done) | (simp; omega) | omega) ?_
  intro ha hb hz13_1 hn13_1 hm13_1
  have hf13_1_0 : w13.cell? ⟨w.heap.size + 1, 0, none⟩ = some (.int .i64 bX) := (ha _).trans (by first | with_reducible assumption | (simp (maxDischargeDepth := 7) [go_sem]; done) | (simp (maxDischargeDepth := 7) [go_sem, *]; done))
  have hf13_1_1 : w13.cell? ⟨w.heap.size + 1, 1, none⟩ = some (.int .i64 bY) := (ha _).trans (by first | with_reducible assumption | (simp (maxDischargeDepth := 7) [go_sem]; done) | (simp (maxDischargeDepth := 7) [go_sem, *]; done))
  try have hg13_1 : ∀ o, w13.frozen? ⟨w.heap.size + 1, o, none⟩ = false := by intro o; rw [hb]; first | (simp (maxDischargeDepth := 7) [go_sem]; done) | (simp (maxDischargeDepth := 7) [go_sem, *]; done)
  clear ha hb
  refine kuz (b := w.heap.size + 2) hk13 (by first | (simp; done) | (simp; omega) | omega) ?_
  intro ha hb hz13_2 hn13_2 hm13_2
  have hf13_2_0 : w13.cell? ⟨w.heap.size + 2, 0, none⟩ = some (.int .i64 cX) := (ha _).trans (by first | with_reducible assumption | (simp (maxDischargeDepth := 7) [go_sem]; done) | (simp (maxDischargeDepth := 7) [go_sem, *]; done))
  have hf13_2_1 : w13.cell? ⟨w.heap.size + 2, 1, none⟩ = some (.int .i64 cY) := (ha _).trans (by first | with_reducible assumption | (simp (maxDischargeDepth := 7) [go_sem]; done) | (simp (maxDischargeDepth := 7) [go_sem, *]; done))
  try have hg13_2 : ∀ o, w13.frozen? ⟨w.heap.size + 2, o, none⟩ = false := by intro o; rw [hb]; first | (simp (maxDischargeDepth := 7) [go_sem]; done) | (simp (maxDischargeDepth := 7) [go_sem, *]; done)
  clear ha hb
  refine kuz (b := w.heap.size + 3) hk13 (by first | (simp; done) | (simp; omega) | omega) ?_
  intro ha hb hz13_3 hn13_3 hm13_3
  have hf13_3_0 : w13.cell? ⟨w.heap.size + 3, 0, none⟩ = some (.int .i64 0) := (ha _).trans (by first | with_reducible assumption | (simp (maxDischargeDepth := 7) [go_sem]; done) | (simp (maxDischargeDepth := 7) [go_sem, *]; done))
  have hf13_3_1 : w13.cell? ⟨w.heap.size + 3, 1, none⟩ = some (.int .i64 0) := (ha _).trans (by first | with_reducible assumption | (simp (maxDischargeDepth := 7) [go_sem]; done) | (simp (maxDischargeDepth := 7) [go_sem, *]; done))
  have hf13_3_2 : w13.cell? ⟨w.heap.size + 3, 2, none⟩ = some (.int .i64 0) := (ha _).trans (by first | with_reducible assumption | (simp (maxDischargeDepth := 7) [go_sem]; done) | (simp (maxDischargeDepth := 7) [go_sem, *]; done))
  have hf13_3_3 : w13.cell? ⟨w.heap.size + 3, 3, none⟩ = some (.int .i64 0) := (ha _).trans (by first | with_reducible assumption | (simp (maxDischargeDepth := 7) [go_sem]; done) | (simp (maxDischargeDepth := 7) [go_sem, *]; done))
  have hf13_3_4 : w13.cell? ⟨w.heap.size + 3, 4, none⟩ = some (.int .i64 0) := (ha _).trans (by first | with_reducible assumption | (simp (maxDischargeDepth := 7) [go_sem]; done) | (simp (maxDischargeDepth := 7) [go_sem, *]; done))
  have hf13_3_5 : w13.cell? ⟨w.heap.size + 3, 5, none⟩ = some (.int .i64 0) := (ha _).trans (by first | with_reducible assumption | (simp (maxDischargeDepth := 7) [go_sem]; done) | (simp (maxDischargeDepth := 7) [go_sem, *]; done))
  have hf13_3_6 : w13.cell? ⟨w.heap.size + 3, 6, none⟩ = some (.int .i64 0) := (ha _).trans (by first | with_reducible assumption | (simp (maxDischargeDepth := 7) [go_sem]; done) | (simp (maxDischargeDepth := 7) [go_sem, *]; done))
  have hf13_3_7 : w13.cell? ⟨w.heap.size + 3, 7, none⟩ = some (.int .i64 0) := (ha _).trans (by first | with_reducible assumption | (simp (maxDischargeDepth := 7) [go_sem]; done) | (simp (maxDischargeDepth := 7) [go_sem, *]; done))
  have hf13_3_8 : w13.cell? ⟨w.heap.size + 3, 8, none⟩ = some (.int .i64 0) := (ha _).trans (by first | with_reducible assumption | (simp (maxDischargeDepth := 7) [go_sem]; done) | (simp (maxDischargeDepth := 7) [go_sem, *]; done))
  have hf13_3_9 : w13.cell? ⟨w.heap.size + 3, 9, none⟩ = some (.int .i64 0) := (ha _).trans (by first | with_reducible assumption | (simp (maxDischargeDepth := 7) [go_sem]; done) | (simp (maxDischargeDepth := 7) [go_sem, *]; done))
  try have hg13_3 : ∀ o, w13.frozen? ⟨w.heap.size + 3, o, none⟩ = false := by intro o; rw [hb]; first | (simp (maxDischargeDepth := 7) [go_sem]; done) | (simp (maxDischargeDepth := 7) [go_sem, *]; done)
  clear ha hb
  (try clear hf12_0_0); (try clear hf12_0_1); (try clear hf12_1_0); (try clear hf12_1_1); (try clear hf12_2_0); (try clear hf12_2_1); (try clear hf12_3_0); (try clear hf12_3_1); (try clear hf12_3_2); (try clear hf12_3_3); (try clear hf12_3_4); (try clear hf12_3_5); (try clear hf12_3_6); (try clear hf12_3_7); (try clear hf12_3_8); (try clear hf12_3_9); (try clear hg12_0); (try clear hg12_1); (try clear hg12_2); (try clear hg12_3); (try clear hz12_1); (try clear hz12_2); (try clear hz12_3)
  go_wp2_with fail
  with_reducible refine (HD2.out _).mono ?_
  rintro e w14 ⟨rfl, hk14⟩
  refine kuz (b := w.heap.size) hk14 (by first | (simp; done) | (simp; omega) | omega) ?_
  intro ha hb hz14_0 hn14_0 hm14_0
  have hf14_0_0 : w14.cell? ⟨w.heap.size, 0, none⟩ = some (.int .i64 aX) := (ha _).trans (by first | with_reducible assumption | (simp (maxDischargeDepth := 7) [go_sem]; done) | (simp (maxDischargeDepth := 7) [go_sem, *]; done))
  have hf14_0_1 : w14.cell? ⟨w.heap.size, 1, none⟩ = some (.int .i64 aY) := (ha _).trans (by first | with_reducible assumption | (simp (maxDischargeDepth := 7) [go_sem]; done) | (simp (maxDischargeDepth := 7) [go_sem, *]; done))
  try have hg14_0 : ∀ o, w14.frozen? ⟨w.heap.size, o, none⟩ = false := by intro o; rw [hb]; first | (simp (maxDischargeDepth := 7) [go_sem]; done) | (simp (maxDischargeDepth := 7) [go_sem, *]; done)
  clear ha hb
  refine kuz (b := w.heap.size + 1) hk14 (by first | (simp; done) | (simp; omega) | omega) ?_
  intro ha hb hz14_1 hn14_1 hm14_1
  have hf14_1_0 : w14.cell? ⟨w.heap.size + 1, 0, none⟩ = some (.int .i64 bX) := (ha _).trans (by first | with_reducible assumption | (simp (maxDischargeDepth := 7) [go_sem]; done) | (simp (maxDischargeDepth := 7) [go_sem, *]; done))
  have hf14_1_1 : w14.cell? ⟨w.heap.size + 1, 1, none⟩ = some (.int .i64 bY) := (ha _).trans (by first | with_reducible assumption | (simp (maxDischargeDepth := 7) [go_sem]; done) | (simp (maxDischargeDepth := 7) [go_sem, *]; done))
  try have hg14_1 : ∀ o, w14.frozen? ⟨w.heap.size + 1, o, none⟩ = false := by intro o; rw [hb]; first | (simp (maxDischargeDepth := 7) [go_sem]; done) | (simp (maxDischargeDepth := 7) [go_sem, *]; done)
  clear ha hb
  refine kuz (b := w.heap.size + 2) hk14 (by first | (simp; done) | (simp; omega) | omega) ?_
  intro ha hb hz14_2 hn14_2 hm14_2
  have hf14_2_0 : w14.cell? ⟨w.heap.size + 2, 0, none⟩ = some (.int .i64 cX) := (ha _).trans (by first | with_reducible assumption | (simp (maxDischargeDepth := 7) [go_sem]; done) | (simp (maxDischargeDepth := 7) [go_sem, *]; done))
  have hf14_2_1 : w14.cell? ⟨w.heap.size + 2, 1, none⟩ = some (.int .i64 cY) := (ha _).trans (by first | with_reducible assumption | (simp (maxDischargeDepth := 7) [go_sem]; done) | (simp (maxDischargeDepth := 7) [go_sem, *]; done))
  try have hg14_2 : ∀ o, w14.frozen? ⟨w.heap.size + 2, o, none⟩ = false := by intro o; rw [hb]; first | (simp (maxDischargeDepth := 7) [go_sem]; done) | (simp (maxDischargeDepth := 7) [go_sem, *]; done)
  clear ha hb
  refine kuz (b := w.heap.size + 3) hk14 (by first | (simp; done) | (simp; omega) | omega) ?_
  intro ha hb hz14_3 hn14_3 hm14_3
  have hf14_3_0 : w14.cell? ⟨w.heap.size + 3, 0, none⟩ = some (.int .i64 0) := (ha _).trans (by first | with_reducible assumption | (simp (maxDischargeDepth := 7) [go_sem]; done) | (simp (maxDischargeDepth := 7) [go_sem, *]; done))
  have hf14_3_1 : w14.cell? ⟨w.heap.size + 3, 1, none⟩ = some (.int .i64 0) := (ha _).trans (by first | with_reducible assumption | (simp (maxDischargeDepth := 7) [go_sem]; done) | (simp (maxDischargeDepth := 7) [go_sem, *]; done))
  have hf14_3_2 : w14.cell? ⟨w.heap.size + 3, 2, none⟩ = some (.int .i64 0) := (ha _).trans (by first | with_reducible assumption | (simp (maxDischargeDepth := 7) [go_sem]; done) | (simp (maxDischargeDepth := 7) [go_sem, *]; done))
  have hf14_3_3 : w14.cell? ⟨w.heap.size + 3, 3, none⟩ = some (.int .i64 0) := (ha _).trans (by first | with_reducible assumption | (simp (maxDischargeDepth := 7) [go_sem]; done) | (simp (maxDischargeDepth := 7) [go_sem, *]; done))
  have hf14_3_4 : w14.cell? ⟨w.heap.size + 3, 4, none⟩ = some (.int .i64 0) := (ha _).trans (by first | with_reducible assumption | (simp (maxDischargeDepth := 7) [go_sem]; done) | (simp (maxDischargeDepth := 7) [go_sem, *]; done))
  have hf14_3_5 : w14.cell? ⟨w.heap.size + 3, 5, none⟩ = some (.int .i64 0) := (ha _).trans (by first | with_reducible assumption | (simp (maxDischargeDepth := 7) [go_sem]; done) | (simp (maxDischargeDepth := 7) [go_sem, *]; done))
  have hf14_3_6 : w14.cell? ⟨w.heap.size + 3, 6, none⟩ = some (.int .i64 0) := (ha _).trans (by first | with_reducible assumption | (simp (maxDischargeDepth := 7) [go_sem]; done) | (simp (maxDischargeDepth := 7) [go_sem, *]; done))
  have hf14_3_7 : w14.cell? ⟨w.heap.size + 3, 7, none⟩ = some (.int .i64 0) := (ha _).trans (by first | with_reducible assumption | (simp (maxDischargeDepth := 7) [go_sem]; done) | (simp (maxDischargeDepth := 7) [go_sem, *]; done))
  have hf14_3_8 : w14.cell? ⟨w.heap.size + 3, 8, none⟩ = some (.int .i64 0) := (ha _).trans (by first | with_reducible assumption | (simp (maxDischargeDepth := 7) [go_sem]; done) | (simp (maxDischargeDepth := 7) [go_sem, *]; done))
  have hf14_3_9 : w14.cell? ⟨w.heap.size + 3, 9, none⟩ = some (.int .i64 0) := (ha _).trans (by first | with_reducible assumption | (simp (maxDischargeDepth := 7) [go_sem]; done) | (simp (maxDischargeDepth := 7) [go_sem, *]; done))
  try have hg14_3 : ∀ o, w14.frozen? ⟨w.heap.size + 3, o, none⟩ = false := by intro o; rw [hb]; first | (simp (maxDischargeDepth := 7) [go_sem]; done) | (simp (maxDischargeDepth := 7) [go_sem, *]; done)
  clear ha hb
  (try clear hf13_0_0); (try clear hf13_0_1); (try clear hf13_1_0); (try clear hf13_1_1); (try clear hf13_2_0); (try clear hf13_2_1); (try clear hf13_3_0); (try clear hf13_3_1); (try clear hf13_3_2); (try clear hf13_3_3); (try clear hf13_3_4); (try clear hf13_3_5); (try clear hf13_3_6); (try clear hf13_3_7); (try clear hf13_3_8); (try clear hf13_3_9); (try clear hg13_0); (try clear hg13_1); (try clear hg13_2); (try clear hg13_3); (try clear hz13_1); (try clear hz13_2); (try clear hz13_3)
  go_wp2_with fail
  with_reducible refine (HFB.out _).mono ?_
  rintro e w15 ⟨rfl, hk15⟩
  refine kuz (b := w.heap.size) hk15 (by first | (simp; done) | (simp; omega) | omega) ?_
  intro ha hb hz15_0 hn15_0 hm15_0
  have hf15_0_0 : w15.cell? ⟨w.heap.size, 0, none⟩ = some (.int .i64 aX) := (ha _).trans (by first | with_reducible assumption | (simp (maxDischargeDepth := 7) [go_sem]; done) | (simp (maxDischargeDepth := 7) [go_sem, *]; done))
  have hf15_0_1 : w15.cell? ⟨w.heap.size, 1, none⟩ = some (.int .i64 aY) := (ha _).trans (by first | with_reducible assumption | (simp (maxDischargeDepth := 7) [go_sem]; done) | (simp (maxDischargeDepth := 7) [go_sem, *]; done))
  try have hg15_0 : ∀ o, w15.frozen? ⟨w.heap.size, o, none⟩ = false := by intro o; rw [hb]; first | (simp (maxDischargeDepth := 7) [go_sem]; done) | (simp (maxDischargeDepth := 7) [go_sem, *]; done)
  clear ha hb
  refine kuz (b := w.heap.size + 1) hk15 (by first | (simp; done) | (simp; omega) | omega) ?_
  intro ha hb hz15_1 hn15_1 hm15_1
  have hf15_1_0 : w15.cell? ⟨w.heap.size + 1, 0, none⟩ = some (.int .i64 bX) := (ha _).trans (by first | with_reducible assumption | (simp (maxDischargeDepth := 7) [go_sem]; done) | (simp (maxDischargeDepth := 7) [go_sem, *]; done))
  have hf15_1_1 : w15.cell? ⟨w.heap.size + 1, 1, none⟩ = some (.int .i64 bY) := (ha _).trans (by first | with_reducible assumption | (simp (maxDischargeDepth := 7) [go_sem]; done) | (simp (maxDischargeDepth := 7) [go_sem, *]; done))
  try have hg15_1 : ∀ o, w15.frozen? ⟨w.heap.size + 1, o, none⟩ = false := by intro o; rw [hb]; first | (simp (maxDischargeDepth := 7) [go_sem]; done) | (simp (maxDischargeDepth := 7) [go_sem, *]; done)
  clear ha hb
  refine kuz (b := w.heap.size + 2) hk15 (by first | (simp; done) | (simp; omega) | omega) ?_
  intro ha hb hz15_2 hn15_2 hm15_2
  have hf15_2_0 : w15.cell? ⟨w.heap.size + 2, 0, none⟩ = some (.int .i64 cX) := (ha _).trans (by first | with_reducible assumption | (simp (maxDischargeDepth := 7) [go_sem]; done) | (simp (maxDischargeDepth := 7) [go_sem, *]; done))
  have hf15_2_1 : w15.cell? ⟨w.heap.size + 2, 1, none⟩ = some (.int .i64 cY) := (ha _).trans (by first | with_reducible assumption | (simp (maxDischargeDepth := 7) [go_sem]; done) | (simp (maxDischargeDepth := 7) [go_sem, *]; done))
  try have hg15_2 : ∀ o, w15.frozen? ⟨w.heap.size + 2, o, none⟩ = false := by intro o; rw [hb]; first | (simp (maxDischargeDepth := 7) [go_sem]; done) | (simp (maxDischargeDepth := 7) [go_sem, *]; done)
  clear ha hb
  refine kuz (b := w.heap.size + 3) hk15 (by first | (simp; done) | (simp; omega) | omega) ?_
  intro ha hb hz15_3 hn15_3 hm15_3
  have hf15_3_0 : w15.cell? ⟨w.heap.size + 3, 0, none⟩ = some (.int .i64 0) := (ha _).trans (by first | with_reducible assumption | (simp (maxDischargeDepth := 7) [go_sem]; done) | (simp (maxDischargeDepth := 7) [go_sem, *]; done))
  have hf15_3_1 : w15.cell? ⟨w.heap.size + 3, 1, none⟩ = some (.int .i64 0) := (ha _).trans (by first | with_reducible assumption | (simp (maxDischargeDepth := 7) [go_sem]; done) | (simp (maxDischargeDepth := 7) [go_sem, *]; done))
  have hf15_3_2 : w15.cell? ⟨w.heap.size + 3, 2, none⟩ = some (.int .i64 0) := (ha _).trans (by first | with_reducible assumption | (simp (maxDischargeDepth := 7) [go_sem]; done) | (simp (maxDischargeDepth := 7) [go_sem, *]; done))
  have hf15_3_3 : w15.cell? ⟨w.heap.size + 3, 3, none⟩ = some (.int .i64 0) := (ha _).trans (by first | with_reducible assumption | (simp (maxDischargeDepth := 7) [go_sem]; done) | (simp (maxDischargeDepth := 7) [go_sem, *]; done))
  have hf15_3_4 : w15.cell? ⟨w.heap.size + 3, 4, none⟩ = some (.int .i64 0) := (ha _).trans (by first | with_reducible assumption | (simp (maxDischargeDepth := 7) [go_sem]; done) | (simp (maxDischargeDepth := 7) [go_sem, *]; done))
  have hf15_3_5 : w15.cell? ⟨w.heap.size + 3, 5, none⟩ = some (.int .i64 0) := (ha _).trans (by first | with_reducible assumption | (simp (maxDischargeDepth := 7) [go_sem]; done) | (simp (maxDischargeDepth := 7) [go_sem, *]; done))
  have hf15_3_6 : w15.cell? ⟨w.heap.size + 3, 6, none⟩ = some (.int .i64 0) := (ha _).trans (by first | with_reducible assumption | (simp (maxDischargeDepth := 7) [go_sem]; done) | (simp (maxDischargeDepth := 7) [go_sem, *]; done))
  have hf15_3_7 : w15.cell? ⟨w.heap.size + 3, 7, none⟩ = some (.int .i64 0) := (ha _).trans (by first | with_reducible assumption | (simp (maxDischargeDepth := 7) [go_sem]; done) | (simp (maxDischargeDepth := 7) [go_sem, *]; done))
  have hf15_3_8 : w15.cell? ⟨w.heap.size + 3, 8, none⟩ = some (.int .i64 0) := (ha _).trans (by first | with_reducible assumption | (simp (maxDischargeDepth := 7) [go_sem]; done) | (simp (maxDischargeDepth := 7) [go_sem, *]; done))
  have hf15_3_9 : w15.cell? ⟨w.heap.size + 3, 9, none⟩ = some (.int .i64 0) := (ha _).trans (by first | with_reducible assumption | (simp (maxDischargeDepth := 7) [go_sem]; done) | (simp (maxDischargeDepth := 7) [go_sem, *]; done))
  try have hg15_3 : ∀ o, w15.frozen? ⟨w.heap.size + 3, o, none⟩ = false := by intro o; rw [hb]; first | (simp (maxDischargeDepth := 7) [go_sem]; done) | (simp (maxDischargeDepth := 7) [go_sem, *]; done)
  clear ha hb
  (try clear hf14_0_0); (try clear hf14_0_1); (try clear hf14_1_0); (try clear hf14_1_1); (try clear hf14_2_0); (try clear hf14_2_1); (try clear hf14_3_0); (try clear hf14_3_1); (try clear hf14_3_2); (try clear hf14_3_3); (try clear hf14_3_4); (try clear hf14_3_5); (try clear hf14_3_6); (try clear hf14_3_7); (try clear hf14_3_8); (try clear hf14_3_9); (try clear hg14_0); (try clear hg14_1); (try clear hg14_2); (try clear hg14_3); (try clear hz14_1); (try clear hz14_2); (try clear hz14_3)
  go_wp2_with fail
  all_goals exact bodyPost_ret (v := .tuple #[.agg #[.int .i64 f0, .int .i64 f1, .int .i64 f2, .int .i64 f3, .int .i64 f4, .int .i64 f5, .int .i64 f6, .int .i64 f7, .int .i64 f8, .int .i64 f9], .int .i64 0]) (by first | (simp [results, Try.results29, go_sem]; done) | (simp (maxDischargeDepth := 7) [results, Try.results29, go_sem, *]; done)) rfl ⟨rfl, (by repeat (first | with_reducible exact Kept.refl _ | with_reducible assumption | with_reducible refine Kept.setCell ?_ (by first | (simp; done) | (simp; omega) | omega) _ | with_reducible refine Kept.alloc ?_ _ | with_reducible refine Kept.drewN ?_ _ | with_reducible refine Kept.drew ?_ | with_reducible refine Kept.trans ?_ (by with_reducible assumption) | with_reducible refine Kept.dr ?_ (by with_reducible assumption)))⟩

end Go.Proofs.Ytfnhnlnofglkoaa
