/-
  Own contracts: package line and the document's answers of layer 11: turns.
-/
import Derived.Test.YtfnhnlnofglkoaaTura
import Derived.WalkKit
import Derived.ProofKit
import Derived.OpenShut
import Derived.WalkLawsBesides
import Derived.WalkSpells
import Derived.Lib.Hide
import Derived.Deep.DeepCutAuto
import Derived.Deep.CutBlock
import Derived.Deep.QuietTactic
import Derived.BigQuiet
import Derived.Handy
import Derived.StillTailTactics
import Derived.IntWalk
import Derived.LoopN
import Derived.Deep.RegionHeld3
namespace Go.Proofs.Ytfnhnlnofglkoaa
open Go.ChangeShapes Go.WideShapes Go.ChangeAt Go.RowKit
set_option linter.unusedVariables false
set_option linter.unusedSimpArgs false
set_option maxHeartbeats 4000000 in
set_option maxRecDepth 100000 in
theorem tangent_1 (cX cY pX pY r : Int) (hc : pokB cX cY = true) (hp : pokB pX pY = true) (r0 : 1 ≤ r) (r1 : r ≤ 8000000) (hs : r * r < dtp (pX - cX) (pY - cY) (pX - cX) (pY - cY)) (w : World) : Calls Try.prog 32 #[.agg #[.int .i64 cX, .int .i64 cY], .int .i64 r, .int .u8 1, .agg #[.int .i64 pX, .int .i64 pY]] w fun e w' => e = .returned (.tuple #[.agg #[.int .i64 (mvX cX cY (sinV (trn (csV cX cY pX pY) (at2V (isq (dtp (pX - cX) (pY - cY) (pX - cX) (pY - cY) - r * r)) r))) (cosV (trn (csV cX cY pX pY) (at2V (isq (dtp (pX - cX) (pY - cY) (pX - cX) (pY - cY) - r * r)) r))) r 1073741824), .int .i64 (mvY cX cY (sinV (trn (csV cX cY pX pY) (at2V (isq (dtp (pX - cX) (pY - cY) (pX - cX) (pY - cY) - r * r)) r))) (cosV (trn (csV cX cY pX pY) (at2V (isq (dtp (pX - cX) (pY - cY) (pX - cX) (pY - cY) - r * r)) r))) r 1073741824)], .int .i64 (mvE cX cY (sinV (trn (csV cX cY pX pY) (at2V (isq (dtp (pX - cX) (pY - cY) (pX - cX) (pY - cY) - r * r)) r))) (cosV (trn (csV cX cY pX pY) (at2V (isq (dtp (pX - cX) (pY - cY) (pX - cX) (pY - cY) - r * r)) r))) r 1073741824)]) ∧ Kept w w' := by
  obtain ⟨cX0, cX1, cY0, cY1⟩ := pok_yes hc
  obtain ⟨pX0, pX1, pY0, pY1⟩ := pok_yes hp
  obtain ⟨lm00, lm01⟩ := dtp_lim4 (pX - cX) (pY - cY) (pX - cX) (pY - cY) (by omega) (by omega) (by omega) (by omega) (by omega) (by omega) (by omega) (by omega)
  have rr := Int.mul_le_mul r1 r1 (by omega) (show (0 : Int) ≤ 8000000 by omega)
  have rn := Int.mul_nonneg (show 0 ≤ r by omega) (show 0 ≤ r by omega)
  obtain ⟨q0, q1, q2, q3⟩ := isq_ok (dtp (pX - cX) (pY - cY) (pX - cX) (pY - cY) - r * r) (by omega) (by omega)
  have CS := fun w => course_w cX cY pX pY w
  generalize csE cX cY pX pY = EE at *
  have cb := csV_bd cX cY pX pY
  obtain ⟨cb0, cb1⟩ := cb
  have SQ := fun w => sqrt_w (dtp (pX - cX) (pY - cY) (pX - cX) (pY - cY) - r * r) (by omega) (by omega) w
  have AT := fun w => atan2_w (isq (dtp (pX - cX) (pY - cY) (pX - cX) (pY - cY) - r * r)) r (by omega) (by omega) (by omega) (by omega) w
  have zb := at2V_lim (isq (dtp (pX - cX) (pY - cY) (pX - cX) (pY - cY) - r * r)) r
  obtain ⟨zb0, zb1⟩ := zb
  generalize at2E (isq (dtp (pX - cX) (pY - cY) (pX - cX) (pY - cY) - r * r)) r = AE at *
  have TN := fun w => turn_w (csV cX cY pX pY) (at2V (isq (dtp (pX - cX) (pY - cY) (pX - cX) (pY - cY) - r * r)) r) (by omega) (by omega) (by omega) (by omega) w
  have tb := trn_bd (csV cX cY pX pY) (at2V (isq (dtp (pX - cX) (pY - cY) (pX - cX) (pY - cY) - r * r)) r)
  obtain ⟨tb0, tb1⟩ := tb
  have RY := fun w => ray_ok cX cY (trn (csV cX cY pX pY) (at2V (isq (dtp (pX - cX) (pY - cY) (pX - cX) (pY - cY) - r * r)) r)) r hc (by omega) (by omega) (by omega) (by omega) w
  generalize mvX cX cY (sinV (trn (csV cX cY pX pY) (at2V (isq (dtp (pX - cX) (pY - cY) (pX - cX) (pY - cY) - r * r)) r))) (cosV (trn (csV cX cY pX pY) (at2V (isq (dtp (pX - cX) (pY - cY) (pX - cX) (pY - cY) - r * r)) r))) r 1073741824 = X at *
  generalize mvY cX cY (sinV (trn (csV cX cY pX pY) (at2V (isq (dtp (pX - cX) (pY - cY) (pX - cX) (pY - cY) - r * r)) r))) (cosV (trn (csV cX cY pX pY) (at2V (isq (dtp (pX - cX) (pY - cY) (pX - cX) (pY - cY) - r * r)) r))) r 1073741824 = Y at *
  generalize mvE cX cY (sinV (trn (csV cX cY pX pY) (at2V (isq (dtp (pX - cX) (pY - cY) (pX - cX) (pY - cY) - r * r)) r))) (cosV (trn (csV cX cY pX pY) (at2V (isq (dtp (pX - cX) (pY - cY) (pX - cX) (pY - cY) - r * r)) r))) r 1073741824 = E at *
  generalize trn (csV cX cY pX pY) (at2V (isq (dtp (pX - cX) (pY - cY) (pX - cX) (pY - cY) - r * r)) r) = T at *
  generalize (at2V (isq (dtp (pX - cX) (pY - cY) (pX - cX) (pY - cY) - r * r)) r) = Z at *
  generalize isq (dtp (pX - cX) (pY - cY) (pX - cX) (pY - cY) - r * r) = Q at *
  clear q2 q3
  have EU : (pX - cX) * (pX - cX) + (pY - cY) * (pY - cY) = dtp (pX - cX) (pY - cY) (pX - cX) (pY - cY) := rfl
  obtain ⟨u0, u1⟩ := lim4 (pX - cX) (pX - cX) (by omega) (by omega) (by omega) (by omega)
  obtain ⟨v0, v1⟩ := lim4 (pY - cY) (pY - cY) (by omega) (by omega) (by omega) (by omega)
  have wr0 : IntKind.i64.wrap (pX - cX) = pX - cX := IntWalk.i64_in _ (by omega)
  have wr1 : IntKind.i64.wrap (pY - cY) = pY - cY := IntWalk.i64_in _ (by omega)
  generalize dtp (pX - cX) (pY - cY) (pX - cX) (pY - cY) = SS at *
  generalize csV cX cY pX pY = C at *
  have HCS := Lib.hid CS
  have HSQ := Lib.hid SQ
  have HAT := Lib.hid AT
  have HTN := Lib.hid TN
  have HRY := Lib.hid RY
  clear CS SQ AT TN RY
  go_enter Try.func32, Try.ntmps32
  go_wp2_with fail
  with_reducible refine (pv_ok cX cY hc _).mono ?_
  rintro e w1 ⟨rfl, hk1⟩
  refine kuz (b := w.heap.size) hk1 (by first | (simp; done) | (simp; omega) | omega) ?_
  intro ha hb hz1_0 hn1_0 hm1_0
  have hf1_0_0 : w1.cell? ⟨w.heap.size, 0, none⟩ = some (.int .i64 cX) := (ha _).trans (by first | with_reducible assumption | (simp (maxDischargeDepth := 7) [go_sem]; done) | (simp (maxDischargeDepth := 7) [go_sem, *]; done))
  have hf1_0_1 : w1.cell? ⟨w.heap.size, 1, none⟩ = some (.int .i64 cY) := (ha _).trans (by first | with_reducible assumption | (simp (maxDischargeDepth := 7) [go_sem]; done) | (simp (maxDischargeDepth := 7) [go_sem, *]; done))
  try have hg1_0 : ∀ o, w1.frozen? ⟨w.heap.size, o, none⟩ = false := by intro o; rw [hb]; first | (simp (maxDischargeDepth := 7) [go_sem]; done) | (simp (maxDischargeDepth := 7) [go_sem, *]; done)
  clear ha hb
  refine kuz (b := w.heap.size + 1) hk1 (by first | (simp; done) | (simp; omega) | omega) ?_
  intro ha hb hz1_1 hn1_1 hm1_1
  have hf1_1_0 : w1.cell? ⟨w.heap.size + 1, 0, none⟩ = some (.int .i64 pX) := (ha _).trans (by first | with_reducible assumption | (simp (maxDischargeDepth := 7) [go_sem]; done) | (simp (maxDischargeDepth := 7) [go_sem, *]; done))
  have hf1_1_1 : w1.cell? ⟨w.heap.size + 1, 1, none⟩ = some (.int .i64 pY) := (ha _).trans (by first | with_reducible assumption | (simp (maxDischargeDepth := 7) [go_sem]; done) | (simp (maxDischargeDepth := 7) [go_sem, *]; done))
  try have hg1_1 : ∀ o, w1.frozen? ⟨w.heap.size + 1, o, none⟩ = false := by intro o; rw [hb]; first | (simp (maxDischargeDepth := 7) [go_sem]; done) | (simp (maxDischargeDepth := 7) [go_sem, *]; done)
  clear ha hb
  refine kuz (b := w.heap.size + 2) hk1 (by first | (simp; done) | (simp; omega) | omega) ?_
  intro ha hb hz1_2 hn1_2 hm1_2
  have hf1_2_0 : w1.cell? ⟨w.heap.size + 2, 0, none⟩ = some (.int .i64 0) := (ha _).trans (by first | with_reducible assumption | (simp (maxDischargeDepth := 7) [go_sem]; done) | (simp (maxDischargeDepth := 7) [go_sem, *]; done))
  have hf1_2_1 : w1.cell? ⟨w.heap.size + 2, 1, none⟩ = some (.int .i64 0) := (ha _).trans (by first | with_reducible assumption | (simp (maxDischargeDepth := 7) [go_sem]; done) | (simp (maxDischargeDepth := 7) [go_sem, *]; done))
  try have hg1_2 : ∀ o, w1.frozen? ⟨w.heap.size + 2, o, none⟩ = false := by intro o; rw [hb]; first | (simp (maxDischargeDepth := 7) [go_sem]; done) | (simp (maxDischargeDepth := 7) [go_sem, *]; done)
  clear ha hb
  go_wp2_with fail
  with_reducible refine (pv_ok pX pY hp _).mono ?_
  rintro e w2 ⟨rfl, hk2⟩
  refine kuz (b := w.heap.size) hk2 (by first | (simp; done) | (simp; omega) | omega) ?_
  intro ha hb hz2_0 hn2_0 hm2_0
  have hf2_0_0 : w2.cell? ⟨w.heap.size, 0, none⟩ = some (.int .i64 cX) := (ha _).trans (by first | with_reducible assumption | (simp (maxDischargeDepth := 7) [go_sem]; done) | (simp (maxDischargeDepth := 7) [go_sem, *]; done))
  have hf2_0_1 : w2.cell? ⟨w.heap.size, 1, none⟩ = some (.int .i64 cY) := (ha _).trans (by first | with_reducible assumption | (simp (maxDischargeDepth := 7) [go_sem]; done) | (simp (maxDischargeDepth := 7) [go_sem, *]; done))
  try have hg2_0 : ∀ o, w2.frozen? ⟨w.heap.size, o, none⟩ = false := by intro o; rw [hb]; first | (simp (maxDischargeDepth := 7) [go_sem]; done) | (simp (maxDischargeDepth := 7) [go_sem, *]; done)
  clear ha hb
  refine kuz (b := w.heap.size + 1) hk2 (by first | (simp; done) | (simp; omega) | omega) ?_
  intro ha hb hz2_1 hn2_1 hm2_1
  have hf2_1_0 : w2.cell? ⟨w.heap.size + 1, 0, none⟩ = some (.int .i64 pX) := (ha _).trans (by first | with_reducible assumption | (simp (maxDischargeDepth := 7) [go_sem]; done) | (simp (maxDischargeDepth := 7) [go_sem, *]; done))
  have hf2_1_1 : w2.cell? ⟨w.heap.size + 1, 1, none⟩ = some (.int .i64 pY) := (ha _).trans (by first | with_reducible assumption | (simp (maxDischargeDepth := 7) [go_sem]; done) | (simp (maxDischargeDepth := 7) [go_sem, *]; done))
  try have hg2_1 : ∀ o, w2.frozen? ⟨w.heap.size + 1, o, none⟩ = false := by intro o; rw [hb]; first | (simp (maxDischargeDepth := 7) [go_sem]; done) | (simp (maxDischargeDepth := 7) [go_sem, *]; done)
  clear ha hb
  refine kuz (b := w.heap.size + 2) hk2 (by first | (simp; done) | (simp; omega) | omega) ?_
  intro ha hb hz2_2 hn2_2 hm2_2
  have hf2_2_0 : w2.cell? ⟨w.heap.size + 2, 0, none⟩ = some (.int .i64 0) := (ha _).trans (by first | with_reducible assumption | (simp (maxDischargeDepth := 7) [go_sem]; done) | (simp (maxDischargeDepth := 7) [go_sem, *]; done))
  have hf2_2_1 : w2.cell? ⟨w.heap.size + 2, 1, none⟩ = some (.int .i64 0) := (ha _).trans (by first | with_reducible assumption | (simp (maxDischargeDepth := 7) [go_sem]; done) | (simp (maxDischargeDepth := 7) [go_sem, *]; done))
  try have hg2_2 : ∀ o, w2.frozen? ⟨w.heap.size + 2, o, none⟩ = false := by intro o; rw [hb]; first | (simp (maxDischargeDepth := 7) [go_sem]; done) | (simp (maxDischargeDepth := 7) [go_sem, *]; done)
  clear ha hb
  (try clear hf1_0_0); (try clear hf1_0_1); (try clear hf1_1_0); (try clear hf1_1_1); (try clear hf1_2_0); (try clear hf1_2_1); (try clear hg1_0); (try clear hg1_1); (try clear hg1_2); (try clear hz1_1); (try clear hz1_2)
  go_wp2_with fail
  with_reducible refine (vr_ok r r0 r1 _).mono ?_
  rintro e w' ⟨rfl, rfl⟩
  go_wp2_with fail
  go_quiet (fail)
  all_goals go_wp2_with fail
  with_reducible refine (HCS.out _).mono ?_
  rintro e w4 ⟨rfl, hk4⟩
  refine kuz (b := w.heap.size) hk4 (by first | (simp; done) | (simp; omega) | omega) ?_
  intro ha hb hz4_0 hn4_0 hm4_0
  have hf4_0_0 : w4.cell? ⟨w.heap.size, 0, none⟩ = some (.int .i64 cX) := (ha _).trans (by first | with_reducible assumption | (simp (maxDischargeDepth := 7) [go_sem]; done) | (simp (maxDischargeDepth := 7) [go_sem, *]; done))
  have hf4_0_1 : w4.cell? ⟨w.heap.size, 1, none⟩ = some (.int .i64 cY) := (ha _).trans (by first | with_reducible assumption | (simp (maxDischargeDepth := 7) [go_sem]; done) | (simp (maxDischargeDepth := 7) [go_sem, *]; done))
  try have hg4_0 : ∀ o, w4.frozen? ⟨w.heap.size, o, none⟩ = false := by intro o; rw [hb]; first | (simp (maxDischargeDepth := 7) [go_sem]; done) | (simp (maxDischargeDepth := 7) [go_sem, *]; done)
  clear ha hb
  refine kuz (b := w.heap.size + 1) hk4 (by first | (simp; done) | (simp; omega) | omega) ?_
  intro ha hb hz4_1 hn4_1 hm4_1
  have hf4_1_0 : w4.cell? ⟨w.heap.size + 1, 0, none⟩ = some (.int .i64 pX) := (ha _).trans (by first | with_reducible assumption | (simp (maxDischargeDepth := 7) [go_sem]; done) | (simp (maxDischargeDepth := 7) [go_sem, *]; done))
  have hf4_1_1 : w4.cell? ⟨w.heap.size + 1, 1, none⟩ = some (.int .i64 pY) := (ha _).trans (by first | with_reducible assumption | (simp (maxDischargeDepth := 7) [go_sem]; done) | (simp (maxDischargeDepth := 7) [go_sem, *]; done))
  try have hg4_1 : ∀ o, w4.frozen? ⟨w.heap.size + 1, o, none⟩ = false := by intro o; rw [hb]; first | (simp (maxDischargeDepth := 7) [go_sem]; done) | (simp (maxDischargeDepth := 7) [go_sem, *]; done)
  clear ha hb
  refine kuz (b := w.heap.size + 2) hk4 (by first | (simp; done) | (simp; omega) | omega) ?_
  intro ha hb hz4_2 hn4_2 hm4_2
  have hf4_2_0 : w4.cell? ⟨w.heap.size + 2, 0, none⟩ = some (.int .i64 0) := (ha _).trans (by first | with_reducible assumption | (simp (maxDischargeDepth := 7) [go_sem]; done) | (simp (maxDischargeDepth := 7) [go_sem, *]; done))
  have hf4_2_1 : w4.cell? ⟨w.heap.size + 2, 1, none⟩ = some (.int .i64 0) := (ha _).trans (by first | with_reducible assumption | (simp (maxDischargeDepth := 7) [go_sem]; done) | (simp (maxDischargeDepth := 7) [go_sem, *]; done))
  try have hg4_2 : ∀ o, w4.frozen? ⟨w.heap.size + 2, o, none⟩ = false := by intro o; rw [hb]; first | (simp (maxDischargeDepth := 7) [go_sem]; done) | (simp (maxDischargeDepth := 7) [go_sem, *]; done)
  clear ha hb
  (try clear hf2_0_0); (try clear hf2_0_1); (try clear hf2_1_0); (try clear hf2_1_1); (try clear hf2_2_0); (try clear hf2_2_1); (try clear hg2_0); (try clear hg2_1); (try clear hg2_2); (try clear hz2_1); (try clear hz2_2)
  go_wp2_with fail
  with_reducible refine (HSQ.out _).mono ?_
  rintro e w' ⟨rfl, rfl⟩
  go_wp2_with fail
  with_reducible refine (HAT.out _).mono ?_
  rintro e w6 ⟨rfl, hk6⟩
  refine kuz (b := w.heap.size) hk6 (by first | (simp; done) | (simp; omega) | omega) ?_
  intro ha hb hz6_0 hn6_0 hm6_0
  have hf6_0_0 : w6.cell? ⟨w.heap.size, 0, none⟩ = some (.int .i64 cX) := (ha _).trans (by first | with_reducible assumption | (simp (maxDischargeDepth := 7) [go_sem]; done) | (simp (maxDischargeDepth := 7) [go_sem, *]; done))
  have hf6_0_1 : w6.cell? ⟨w.heap.size, 1, none⟩ = some (.int .i64 cY) := (ha _).trans (by first | with_reducible assumption | (simp (maxDischargeDepth := 7) [go_sem]; done) | (simp (maxDischargeDepth := 7) [go_sem, *]; done))
  try have hg6_0 : ∀ o, w6.frozen? ⟨w.heap.size, o, none⟩ = false := by intro o; rw [hb]; first | (simp (maxDischargeDepth := 7) [go_sem]; done) | (simp (maxDischargeDepth := 7) [go_sem, *]; done)
  clear ha hb
  refine kuz (b := w.heap.size + 1) hk6 (by first | (simp; done) | (simp; omega) | omega) ?_
  intro ha hb hz6_1 hn6_1 hm6_1
  have hf6_1_0 : w6.cell? ⟨w.heap.size + 1, 0, none⟩ = some (.int .i64 pX) := (ha _).trans (by first | with_reducible assumption | (simp (maxDischargeDepth := 7) [go_sem]; done) | (simp (maxDischargeDepth := 7) [go_sem, *]; done))
  have hf6_1_1 : w6.cell? ⟨w.heap.size + 1, 1, none⟩ = some (.int .i64 pY) := (ha _).trans (by first | with_reducible assumption | (simp (maxDischargeDepth := 7) [go_sem]; done) | (simp (maxDischargeDepth := 7) [go_sem, *]; done))
  try have hg6_1 : ∀ o, w6.frozen? ⟨w.heap.size + 1, o, none⟩ = false := by intro o; rw [hb]; first | (simp (maxDischargeDepth := 7) [go_sem]; done) | (simp (maxDischargeDepth := 7) [go_sem, *]; done)
  clear ha hb
  refine kuz (b := w.heap.size + 2) hk6 (by first | (simp; done) | (simp; omega) | omega) ?_
  intro ha hb hz6_2 hn6_2 hm6_2
  have hf6_2_0 : w6.cell? ⟨w.heap.size + 2, 0, none⟩ = some (.int .i64 0) := (ha _).trans (by first | with_reducible assumption | (simp (maxDischargeDepth := 7) [go_sem]; done) | (simp (maxDischargeDepth := 7) [go_sem, *]; done))
  have hf6_2_1 : w6.cell? ⟨w.heap.size + 2, 1, none⟩ = some (.int .i64 0) := (ha _).trans (by first | with_reducible assumption | (simp (maxDischargeDepth := 7) [go_sem]; done) | (simp (maxDischargeDepth := 7) [go_sem, *]; done))
  try have hg6_2 : ∀ o, w6.frozen? ⟨w.heap.size + 2, o, none⟩ = false := by intro o; rw [hb]; first | (simp (maxDischargeDepth := 7) [go_sem]; done) | (simp (maxDischargeDepth := 7) [go_sem, *]; done)
  clear ha hb
  (try clear hf4_0_0); (try clear hf4_0_1); (try clear hf4_1_0); (try clear hf4_1_1); (try clear hf4_2_0); (try clear hf4_2_1); (try clear hg4_0); (try clear hg4_1); (try clear hg4_2); (try clear hz4_1); (try clear hz4_2)
  go_wp2_with fail
  go_region_held3 (fun W => W.cell? ⟨w.heap.size, 0, none⟩ = some (.int .i64 cX) ∧ W.cell? ⟨w.heap.size, 1, none⟩ = some (.int .i64 cY)) (first | (go_keep; done) | (simp (maxDischargeDepth := 9) [*, World.cell?_alloc_some, World.cell?_setCell_far]; done) | (simp (maxDischargeDepth := 9) [go_sem, *]; done)) (first | (go_at_call 58; (first | with_reducible refine (HRY.out _).mono ?_); rintro e w' ⟨rfl, hk⟩; have hz := hk.size; (try (refine kuse (b := w.heap.size) hk (by first | (simp; done) | (simp; omega) | omega) ?_; intro hq0 hg0; have hy0 : w.heap.size < w'.heap.size := (by (try simp at hz); omega); have hn0 : ¬ w.heap.size = w'.heap.size := (by omega); have hm0 : ¬ w.heap.size = w'.heap.size + 1 := (by omega); refine withF (p := w'.cell? ⟨w.heap.size, 0, none⟩ = some (.int .i64 cX)) (by first | (rw [hq0]; with_reducible assumption) | (simp (maxDischargeDepth := 7) [go_sem, hq0]; done) | (simp (maxDischargeDepth := 7) [go_sem, hq0, *]; done) | fail) ?_; intro ff00; refine withF (p := w'.cell? ⟨w.heap.size, 1, none⟩ = some (.int .i64 cY)) (by first | (rw [hq0]; with_reducible assumption) | (simp (maxDischargeDepth := 7) [go_sem, hq0]; done) | (simp (maxDischargeDepth := 7) [go_sem, hq0, *]; done) | fail) ?_; intro ff01)); (try (refine kuse (b := w.heap.size + 1) hk (by first | (simp; done) | (simp; omega) | omega) ?_; intro hq1 hg1; have hy1 : w.heap.size + 1 < w'.heap.size := (by (try simp at hz); omega); have hn1 : ¬ w.heap.size + 1 = w'.heap.size := (by omega); have hm1 : ¬ w.heap.size + 1 = w'.heap.size + 1 := (by omega); refine withF (p := w'.cell? ⟨w.heap.size + 1, 0, none⟩ = some (.int .i64 pX)) (by first | (rw [hq1]; with_reducible assumption) | (simp (maxDischargeDepth := 7) [go_sem, hq1]; done) | (simp (maxDischargeDepth := 7) [go_sem, hq1, *]; done) | fail) ?_; intro ff10; refine withF (p := w'.cell? ⟨w.heap.size + 1, 1, none⟩ = some (.int .i64 pY)) (by first | (rw [hq1]; with_reducible assumption) | (simp (maxDischargeDepth := 7) [go_sem, hq1]; done) | (simp (maxDischargeDepth := 7) [go_sem, hq1, *]; done) | fail) ?_; intro ff11)); (try (refine kuse (b := w.heap.size + 2) hk (by first | (simp; done) | (simp; omega) | omega) ?_; intro hq2 hg2; have hy2 : w.heap.size + 2 < w'.heap.size := (by (try simp at hz); omega); have hn2 : ¬ w.heap.size + 2 = w'.heap.size := (by omega); have hm2 : ¬ w.heap.size + 2 = w'.heap.size + 1 := (by omega); refine withF (p := w'.cell? ⟨w.heap.size + 2, 0, none⟩ = some (.int .i64 0)) (by first | (rw [hq2]; with_reducible assumption) | (simp (maxDischargeDepth := 7) [go_sem, hq2]; done) | (simp (maxDischargeDepth := 7) [go_sem, hq2, *]; done) | fail) ?_; intro ff20; refine withF (p := w'.cell? ⟨w.heap.size + 2, 1, none⟩ = some (.int .i64 0)) (by first | (rw [hq2]; with_reducible assumption) | (simp (maxDischargeDepth := 7) [go_sem, hq2]; done) | (simp (maxDischargeDepth := 7) [go_sem, hq2, *]; done) | fail) ?_; intro ff21))) | (go_at_call 56; with_reducible refine (HTN.out _).mono ?_; rintro e w' ⟨rfl, rfl⟩))
  all_goals go_wp2_with fail
  all_goals exact bodyPost_ret (v := .tuple #[.agg #[.int .i64 X, .int .i64 Y], .int .i64 E]) (by first | (simp [results, Try.results32, go_sem]; done) | (simp (maxDischargeDepth := 7) [results, Try.results32, go_sem, *]; done)) rfl ⟨rfl, (by repeat (first | with_reducible exact Kept.refl _ | with_reducible assumption | with_reducible refine Kept.setCell ?_ (by first | (simp; done) | (simp; omega) | omega) _ | with_reducible refine Kept.alloc ?_ _ | with_reducible refine Kept.drewN ?_ _ | with_reducible refine Kept.drew ?_ | with_reducible refine Kept.trans ?_ (by with_reducible assumption) | with_reducible refine Kept.dr ?_ (by with_reducible assumption)))⟩

end Go.Proofs.Ytfnhnlnofglkoaa
