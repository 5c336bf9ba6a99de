/-
  Own contracts: package line and the document's answers of layer 11: the law exact.
-/
import Derived.Test.YtokgmhicindibaaLine0
import Derived.Test.YtokgmhicindibaaLindx
import Derived.WalkKit
import Derived.ProofKit
import Derived.OpenShut
import Derived.WalkLawsBesides
import Derived.WalkSpells
import Derived.Lib.Hide
import Derived.Deep.DeepCutAuto
import Derived.Deep.CutBlock
import Derived.Deep.QuietTactic
import Derived.BigQuiet
import Derived.Handy
import Derived.StillTailTactics
import Derived.IntWalk
import Derived.LoopN
import Derived.Deep.RegionHeld3
namespace Go.Proofs.Ytokgmhicindibaa
open Go.ChangeShapes Go.WideShapes Go.ChangeAt Go.RowKit
set_option linter.unusedVariables false
set_option linter.unusedSimpArgs false
set_option maxHeartbeats 4000000 in
set_option maxRecDepth 100000 in
theorem law_exact (aX aY bX bY pX pY : Int) (aX_0 : -9223372036854775808 ≤ aX) (aX_1 : aX ≤ 9223372036854775807) (aY_0 : -9223372036854775808 ≤ aY) (aY_1 : aY ≤ 9223372036854775807) (bX_0 : -9223372036854775808 ≤ bX) (bX_1 : bX ≤ 9223372036854775807) (bY_0 : -9223372036854775808 ≤ bY) (bY_1 : bY ≤ 9223372036854775807) (pX_0 : -9223372036854775808 ≤ pX) (pX_1 : pX ≤ 9223372036854775807) (pY_0 : -9223372036854775808 ≤ pY) (pY_1 : pY ≤ 9223372036854775807) (w : World) : Calls Try.prog 8 #[.agg #[.int .i64 aX, .int .i64 aY], .agg #[.int .i64 bX, .int .i64 bY], .agg #[.int .i64 pX, .int .i64 pY]] w fun e w' => e = .returned (.bool true) ∧ Kept w w' := by
  by_cases hall : pokB aX aY = true ∧ pokB bX bY = true ∧ pokB pX pY = true
  · obtain ⟨ha, hb, hp⟩ := hall
    by_cases hne : aX = bX ∧ aY = bY
    · obtain ⟨rfl, rfl⟩ := hne
      have EQ := fun w => eqP_yes aX aY w
      go_enter Try.func8, Try.ntmps8
      go_wp2_with fail
      with_reducible refine (awake_w _).mono ?_
      rintro e w1 ⟨rfl, hk1⟩
      refine kuz (b := w.heap.size) hk1 (by first | (simp; done) | (simp; omega) | omega) ?_
      intro ha hb hz1_0 hn1_0 hm1_0
      have hf1_0_0 : w1.cell? ⟨w.heap.size, 0, none⟩ = some (.int .i64 aX) := (ha _).trans (by first | with_reducible assumption | (simp (maxDischargeDepth := 7) [go_sem]; done) | (simp (maxDischargeDepth := 7) [go_sem, *]; done))
      have hf1_0_1 : w1.cell? ⟨w.heap.size, 1, none⟩ = some (.int .i64 aY) := (ha _).trans (by first | with_reducible assumption | (simp (maxDischargeDepth := 7) [go_sem]; done) | (simp (maxDischargeDepth := 7) [go_sem, *]; done))
      try have hg1_0 : ∀ o, w1.frozen? ⟨w.heap.size, o, none⟩ = false := by intro o; rw [hb]; first | (simp (maxDischargeDepth := 7) [go_sem]; done) | (simp (maxDischargeDepth := 7) [go_sem, *]; done)
      clear ha hb
      refine kuz (b := w.heap.size + 1) hk1 (by first | (simp; done) | (simp; omega) | omega) ?_
      intro ha hb hz1_1 hn1_1 hm1_1
      have hf1_1_0 : w1.cell? ⟨w.heap.size + 1, 0, none⟩ = some (.int .i64 aX) := (ha _).trans (by first | with_reducible assumption | (simp (maxDischargeDepth := 7) [go_sem]; done) | (simp (maxDischargeDepth := 7) [go_sem, *]; done))
      have hf1_1_1 : w1.cell? ⟨w.heap.size + 1, 1, none⟩ = some (.int .i64 aY) := (ha _).trans (by first | with_reducible assumption | (simp (maxDischargeDepth := 7) [go_sem]; done) | (simp (maxDischargeDepth := 7) [go_sem, *]; done))
      try have hg1_1 : ∀ o, w1.frozen? ⟨w.heap.size + 1, o, none⟩ = false := by intro o; rw [hb]; first | (simp (maxDischargeDepth := 7) [go_sem]; done) | (simp (maxDischargeDepth := 7) [go_sem, *]; done)
      clear ha hb
      refine kuz (b := w.heap.size + 2) hk1 (by first | (simp; done) | (simp; omega) | omega) ?_
      intro ha hb hz1_2 hn1_2 hm1_2
      have hf1_2_0 : w1.cell? ⟨w.heap.size + 2, 0, none⟩ = some (.int .i64 pX) := (ha _).trans (by first | with_reducible assumption | (simp (maxDischargeDepth := 7) [go_sem]; done) | (simp (maxDischargeDepth := 7) [go_sem, *]; done))
      have hf1_2_1 : w1.cell? ⟨w.heap.size + 2, 1, none⟩ = some (.int .i64 pY) := (ha _).trans (by first | with_reducible assumption | (simp (maxDischargeDepth := 7) [go_sem]; done) | (simp (maxDischargeDepth := 7) [go_sem, *]; done))
      try have hg1_2 : ∀ o, w1.frozen? ⟨w.heap.size + 2, o, none⟩ = false := by intro o; rw [hb]; first | (simp (maxDischargeDepth := 7) [go_sem]; done) | (simp (maxDischargeDepth := 7) [go_sem, *]; done)
      clear ha hb
      go_wp2_with fail
      with_reducible refine (offset_eq aX aY pX pY ha hp _).mono ?_
      rintro e w2 ⟨rfl, hk2⟩
      refine kuz (b := w.heap.size) hk2 (by first | (simp; done) | (simp; omega) | omega) ?_
      intro ha hb hz2_0 hn2_0 hm2_0
      have hf2_0_0 : w2.cell? ⟨w.heap.size, 0, none⟩ = some (.int .i64 aX) := (ha _).trans (by first | with_reducible assumption | (simp (maxDischargeDepth := 7) [go_sem]; done) | (simp (maxDischargeDepth := 7) [go_sem, *]; done))
      have hf2_0_1 : w2.cell? ⟨w.heap.size, 1, none⟩ = some (.int .i64 aY) := (ha _).trans (by first | with_reducible assumption | (simp (maxDischargeDepth := 7) [go_sem]; done) | (simp (maxDischargeDepth := 7) [go_sem, *]; done))
      try have hg2_0 : ∀ o, w2.frozen? ⟨w.heap.size, o, none⟩ = false := by intro o; rw [hb]; first | (simp (maxDischargeDepth := 7) [go_sem]; done) | (simp (maxDischargeDepth := 7) [go_sem, *]; done)
      clear ha hb
      refine kuz (b := w.heap.size + 1) hk2 (by first | (simp; done) | (simp; omega) | omega) ?_
      intro ha hb hz2_1 hn2_1 hm2_1
      have hf2_1_0 : w2.cell? ⟨w.heap.size + 1, 0, none⟩ = some (.int .i64 aX) := (ha _).trans (by first | with_reducible assumption | (simp (maxDischargeDepth := 7) [go_sem]; done) | (simp (maxDischargeDepth := 7) [go_sem, *]; done))
      have hf2_1_1 : w2.cell? ⟨w.heap.size + 1, 1, none⟩ = some (.int .i64 aY) := (ha _).trans (by first | with_reducible assumption | (simp (maxDischargeDepth := 7) [go_sem]; done) | (simp (maxDischargeDepth := 7) [go_sem, *]; done))
      try have hg2_1 : ∀ o, w2.frozen? ⟨w.heap.size + 1, o, none⟩ = false := by intro o; rw [hb]; first | (simp (maxDischargeDepth := 7) [go_sem]; done) | (simp (maxDischargeDepth := 7) [go_sem, *]; done)
      clear ha hb
      refine kuz (b := w.heap.size + 2) hk2 (by first | (simp; done) | (simp; omega) | omega) ?_
      intro ha hb hz2_2 hn2_2 hm2_2
      have hf2_2_0 : w2.cell? ⟨w.heap.size + 2, 0, none⟩ = some (.int .i64 pX) := (ha _).trans (by first | with_reducible assumption | (simp (maxDischargeDepth := 7) [go_sem]; done) | (simp (maxDischargeDepth := 7) [go_sem, *]; done))
      have hf2_2_1 : w2.cell? ⟨w.heap.size + 2, 1, none⟩ = some (.int .i64 pY) := (ha _).trans (by first | with_reducible assumption | (simp (maxDischargeDepth := 7) [go_sem]; done) | (simp (maxDischargeDepth := 7) [go_sem, *]; done))
      try have hg2_2 : ∀ o, w2.frozen? ⟨w.heap.size + 2, o, none⟩ = false := by intro o; rw [hb]; first | (simp (maxDischargeDepth := 7) [go_sem]; done) | (simp (maxDischargeDepth := 7) [go_sem, *]; done)
      clear ha hb
      (try clear hf1_0_0); (try clear hf1_0_1); (try clear hf1_1_0); (try clear hf1_1_1); (try clear hf1_2_0); (try clear hf1_2_1); (try clear hg1_0); (try clear hg1_1); (try clear hg1_2); (try clear hz1_1); (try clear hz1_2)
      go_wp2_with fail
      all_goals first | (go_ret; refine ⟨?_, (by repeat (first | with_reducible exact Kept.refl _ | with_reducible assumption | with_reducible refine Kept.setCell ?_ (by first | (simp; done) | (simp; omega) | omega) _ | with_reducible refine Kept.alloc ?_ _ | with_reducible refine Kept.drewN ?_ _ | with_reducible refine Kept.drew ?_ | with_reducible refine Kept.trans ?_ (by with_reducible assumption) | with_reducible refine Kept.dr ?_ (by with_reducible assumption)))⟩; first | rfl | (refine retb ?_; simp; done) | (refine retb ?_; simp; omega)) | (exfalso; omega)
    · obtain ⟨aX0, aX1, aY0, aY1⟩ := pok_yes ha
      obtain ⟨bX0, bX1, bY0, bY1⟩ := pok_yes hb
      obtain ⟨pX0, pX1, pY0, pY1⟩ := pok_yes hp
      obtain ⟨lm00, lm01⟩ := crs_lim4 (bX - aX) (bY - aY) (pX - aX) (pY - aY) (by omega) (by omega) (by omega) (by omega) (by omega) (by omega) (by omega) (by omega)
      obtain ⟨lm10, lm11⟩ := dtp_lim4 (bX - aX) (bY - aY) (pX - aX) (pY - aY) (by omega) (by omega) (by omega) (by omega) (by omega) (by omega) (by omega) (by omega)
      obtain ⟨lm20, lm21⟩ := dtp_lim4 (bX - aX) (bY - aY) (bX - aX) (bY - aY) (by omega) (by omega) (by omega) (by omega) (by omega) (by omega) (by omega) (by omega)
      have sp := dtp_pos (bX - aX) (bY - aY) (by omega)
      have cq := cauchy' (bX - aX) (bY - aY) (pX - aX) (pY - aY)
      have dq := cauchy (bX - aX) (bY - aY) (pX - aX) (pY - aY)
      have qn := (dtp_lim4 (pX - aX) (pY - aY) (pX - aX) (pY - aY) (by omega) (by omega) (by omega) (by omega) (by omega) (by omega) (by omega) (by omega)).2
      have m1 := Int.mul_le_mul_of_nonneg_left qn (show 0 ≤ dtp (bX - aX) (bY - aY) (bX - aX) (bY - aY) by omega)
      rw [Int.mul_comm (dtp (bX - aX) (bY - aY) (bX - aX) (bY - aY)) 32000000000000] at m1
      have hc1 : crs (bX - aX) (bY - aY) (pX - aX) (pY - aY) * (crs (bX - aX) (bY - aY) (pX - aX) (pY - aY)) ≤ 32000000000000 * dtp (bX - aX) (bY - aY) (bX - aX) (bY - aY) := by omega
      have hc2 : dtp (bX - aX) (bY - aY) (pX - aX) (pY - aY) * (dtp (bX - aX) (bY - aY) (pX - aX) (pY - aY)) ≤ 32000000000000 * dtp (bX - aX) (bY - aY) (bX - aX) (bY - aY) := by omega
      clear cq dq qn m1
      obtain ⟨ll0, ll1⟩ := len_lim (crs (bX - aX) (bY - aY) (pX - aX) (pY - aY)) (dtp (bX - aX) (bY - aY) (bX - aX) (bY - aY)) sp hc1
      obtain ⟨lm0, lm1⟩ := len_lim (dtp (bX - aX) (bY - aY) (pX - aX) (pY - aY)) (dtp (bX - aX) (bY - aY) (bX - aX) (bY - aY)) sp hc2
      have O1 := fun w => offset_ok aX aY bX bY pX pY ha hb hp hne w
      have S1 := fun w => side_ok aX aY bX bY pX pY ha hb hp w
      obtain ⟨q0, q1, r2, r3, r4, r5⟩ := rtl_ok (crs (bX - aX) (bY - aY) (pX - aX) (pY - aY)) (dtp (bX - aX) (bY - aY) (bX - aX) (bY - aY)) 32000000000000 sp (by omega) hc1
      obtain ⟨t0, t1, t2, t3, t4, t5⟩ := rtl_ok (dtp (bX - aX) (bY - aY) (pX - aX) (pY - aY)) (dtp (bX - aX) (bY - aY) (bX - aX) (bY - aY)) 32000000000000 sp (by omega) hc2
      have sb := sgn_bd (crs (bX - aX) (bY - aY) (pX - aX) (pY - aY))
      have n1 : len (crs (bX - aX) (bY - aY) (pX - aX) (pY - aY)) (dtp (bX - aX) (bY - aY) (bX - aX) (bY - aY)) * len (crs (bX - aX) (bY - aY) (pX - aX) (pY - aY)) (dtp (bX - aX) (bY - aY) (bX - aX) (bY - aY)) = rtl (crs (bX - aX) (bY - aY) (pX - aX) (pY - aY)) (dtp (bX - aX) (bY - aY) (bX - aX) (bY - aY)) * rtl (crs (bX - aX) (bY - aY) (pX - aX) (pY - aY)) (dtp (bX - aX) (bY - aY) (bX - aX) (bY - aY)) := by unfold len; split <;> simp [Int.neg_mul_neg]
      have n2 : len (dtp (bX - aX) (bY - aY) (pX - aX) (pY - aY)) (dtp (bX - aX) (bY - aY) (bX - aX) (bY - aY)) * len (dtp (bX - aX) (bY - aY) (pX - aX) (pY - aY)) (dtp (bX - aX) (bY - aY) (bX - aX) (bY - aY)) = rtl (dtp (bX - aX) (bY - aY) (pX - aX) (pY - aY)) (dtp (bX - aX) (bY - aY) (bX - aX) (bY - aY)) * rtl (dtp (bX - aX) (bY - aY) (pX - aX) (pY - aY)) (dtp (bX - aX) (bY - aY) (bX - aX) (bY - aY)) := by unfold len; split <;> simp [Int.neg_mul_neg]
      have la := len_abs (crs (bX - aX) (bY - aY) (pX - aX) (pY - aY)) (dtp (bX - aX) (bY - aY) (bX - aX) (bY - aY)) r2
      have lb := len_abs (dtp (bX - aX) (bY - aY) (pX - aX) (pY - aY)) (dtp (bX - aX) (bY - aY) (bX - aX) (bY - aY)) t2
      have hh1 : (-len (crs (bX - aX) (bY - aY) (pX - aX) (pY - aY)) (dtp (bX - aX) (bY - aY) (bX - aX) (bY - aY)) < 0 → crs (bX - aX) (bY - aY) (pX - aX) (pY - aY) * (crs (bX - aX) (bY - aY) (pX - aX) (pY - aY)) < (- -len (crs (bX - aX) (bY - aY) (pX - aX) (pY - aY)) (dtp (bX - aX) (bY - aY) (bX - aX) (bY - aY)) + 1) * (- -len (crs (bX - aX) (bY - aY) (pX - aX) (pY - aY)) (dtp (bX - aX) (bY - aY) (bX - aX) (bY - aY)) + 1) * dtp (bX - aX) (bY - aY) (bX - aX) (bY - aY)) ∧ (0 ≤ -len (crs (bX - aX) (bY - aY) (pX - aX) (pY - aY)) (dtp (bX - aX) (bY - aY) (bX - aX) (bY - aY)) → crs (bX - aX) (bY - aY) (pX - aX) (pY - aY) * (crs (bX - aX) (bY - aY) (pX - aX) (pY - aY)) < (-len (crs (bX - aX) (bY - aY) (pX - aX) (pY - aY)) (dtp (bX - aX) (bY - aY) (bX - aX) (bY - aY)) + 1) * (-len (crs (bX - aX) (bY - aY) (pX - aX) (pY - aY)) (dtp (bX - aX) (bY - aY) (bX - aX) (bY - aY)) + 1) * dtp (bX - aX) (bY - aY) (bX - aX) (bY - aY)) := by
        constructor
        · intro g
          have h0 : len (crs (bX - aX) (bY - aY) (pX - aX) (pY - aY)) (dtp (bX - aX) (bY - aY) (bX - aX) (bY - aY)) = rtl (crs (bX - aX) (bY - aY) (pX - aX) (pY - aY)) (dtp (bX - aX) (bY - aY) (bX - aX) (bY - aY)) := by omega
          rw [Int.neg_neg, h0]; exact r4
        · intro g
          have h0 : -len (crs (bX - aX) (bY - aY) (pX - aX) (pY - aY)) (dtp (bX - aX) (bY - aY) (bX - aX) (bY - aY)) = rtl (crs (bX - aX) (bY - aY) (pX - aX) (pY - aY)) (dtp (bX - aX) (bY - aY) (bX - aX) (bY - aY)) := by omega
          rw [h0]; exact r4
      have hh2 : (len (dtp (bX - aX) (bY - aY) (pX - aX) (pY - aY)) (dtp (bX - aX) (bY - aY) (bX - aX) (bY - aY)) < 0 → dtp (bX - aX) (bY - aY) (pX - aX) (pY - aY) * (dtp (bX - aX) (bY - aY) (pX - aX) (pY - aY)) < (-len (dtp (bX - aX) (bY - aY) (pX - aX) (pY - aY)) (dtp (bX - aX) (bY - aY) (bX - aX) (bY - aY)) + 1) * (-len (dtp (bX - aX) (bY - aY) (pX - aX) (pY - aY)) (dtp (bX - aX) (bY - aY) (bX - aX) (bY - aY)) + 1) * dtp (bX - aX) (bY - aY) (bX - aX) (bY - aY)) ∧ (0 ≤ len (dtp (bX - aX) (bY - aY) (pX - aX) (pY - aY)) (dtp (bX - aX) (bY - aY) (bX - aX) (bY - aY)) → dtp (bX - aX) (bY - aY) (pX - aX) (pY - aY) * (dtp (bX - aX) (bY - aY) (pX - aX) (pY - aY)) < (len (dtp (bX - aX) (bY - aY) (pX - aX) (pY - aY)) (dtp (bX - aX) (bY - aY) (bX - aX) (bY - aY)) + 1) * (len (dtp (bX - aX) (bY - aY) (pX - aX) (pY - aY)) (dtp (bX - aX) (bY - aY) (bX - aX) (bY - aY)) + 1) * dtp (bX - aX) (bY - aY) (bX - aX) (bY - aY)) := by
        constructor
        · intro g
          have h0 : -len (dtp (bX - aX) (bY - aY) (pX - aX) (pY - aY)) (dtp (bX - aX) (bY - aY) (bX - aX) (bY - aY)) = rtl (dtp (bX - aX) (bY - aY) (pX - aX) (pY - aY)) (dtp (bX - aX) (bY - aY) (bX - aX) (bY - aY)) := by omega
          rw [h0]; exact t4
        · intro g
          have h0 : len (dtp (bX - aX) (bY - aY) (pX - aX) (pY - aY)) (dtp (bX - aX) (bY - aY) (bX - aX) (bY - aY)) = rtl (dtp (bX - aX) (bY - aY) (pX - aX) (pY - aY)) (dtp (bX - aX) (bY - aY) (bX - aX) (bY - aY)) := by omega
          rw [h0]; exact t4
      have Q1 := fun w => square_w (crs (bX - aX) (bY - aY) (pX - aX) (pY - aY)) (dtp (bX - aX) (bY - aY) (bX - aX) (bY - aY)) (-len (crs (bX - aX) (bY - aY) (pX - aX) (pY - aY)) (dtp (bX - aX) (bY - aY) (bX - aX) (bY - aY))) (by omega) (by omega) sp (by omega) (by omega) (by omega) (by rw [Int.neg_mul_neg, n1]; exact r3) hh1 w
      have Q2 := fun w => square_w (dtp (bX - aX) (bY - aY) (pX - aX) (pY - aY)) (dtp (bX - aX) (bY - aY) (bX - aX) (bY - aY)) (len (dtp (bX - aX) (bY - aY) (pX - aX) (pY - aY)) (dtp (bX - aX) (bY - aY) (bX - aX) (bY - aY))) (by omega) (by omega) sp (by omega) (by omega) (by omega) (by rw [n2]; exact t3) hh2 w
      clear hh1 hh2
      have sg : (0 < crs (bX - aX) (bY - aY) (pX - aX) (pY - aY) ∧ sgn (crs (bX - aX) (bY - aY) (pX - aX) (pY - aY)) = 1 ∧ 0 ≤ len (crs (bX - aX) (bY - aY) (pX - aX) (pY - aY)) (dtp (bX - aX) (bY - aY) (bX - aX) (bY - aY))) ∨ (crs (bX - aX) (bY - aY) (pX - aX) (pY - aY) < 0 ∧ sgn (crs (bX - aX) (bY - aY) (pX - aX) (pY - aY)) = -1 ∧ len (crs (bX - aX) (bY - aY) (pX - aX) (pY - aY)) (dtp (bX - aX) (bY - aY) (bX - aX) (bY - aY)) ≤ 0) ∨ (crs (bX - aX) (bY - aY) (pX - aX) (pY - aY) = 0 ∧ sgn (crs (bX - aX) (bY - aY) (pX - aX) (pY - aY)) = 0 ∧ len (crs (bX - aX) (bY - aY) (pX - aX) (pY - aY)) (dtp (bX - aX) (bY - aY) (bX - aX) (bY - aY)) = 0) := by
        rcases Int.lt_trichotomy (crs (bX - aX) (bY - aY) (pX - aX) (pY - aY)) 0 with h | h | h
        · refine Or.inr (Or.inl ⟨h, by unfold sgn; rw [if_pos h], by unfold len; rw [if_pos h]; omega⟩)
        · refine Or.inr (Or.inr ⟨h, by unfold sgn; rw [h]; rfl, len_zero _ _ (by rw [h]; omega)⟩)
        · refine Or.inl ⟨h, by unfold sgn; rw [if_neg (by omega), if_pos h], by unfold len; rw [if_neg (by omega)]; omega⟩
      have pr : 0 ≤ -len (crs (bX - aX) (bY - aY) (pX - aX) (pY - aY)) (dtp (bX - aX) (bY - aY) (bX - aX) (bY - aY)) * -sgn (crs (bX - aX) (bY - aY) (pX - aX) (pY - aY)) ∧ -len (crs (bX - aX) (bY - aY) (pX - aX) (pY - aY)) (dtp (bX - aX) (bY - aY) (bX - aX) (bY - aY)) * -sgn (crs (bX - aX) (bY - aY) (pX - aX) (pY - aY)) ≤ 5656854 := by rcases sg with ⟨_, h, g⟩ | ⟨_, h, g⟩ | ⟨_, h, g⟩ <;> rw [h] <;> omega
      have sz : ¬ sgn (crs (bX - aX) (bY - aY) (pX - aX) (pY - aY)) = 0 ∨ len (crs (bX - aX) (bY - aY) (pX - aX) (pY - aY)) (dtp (bX - aX) (bY - aY) (bX - aX) (bY - aY)) = 0 := by omega
      clear sg q0 q1 r2 r3 r4 r5 t0 t1 t2 t3 t4 t5 n1 n2 la lb hc1 hc2
      have EU : (bX - aX) * (bX - aX) + (bY - aY) * (bY - aY) = dtp (bX - aX) (bY - aY) (bX - aX) (bY - aY) := rfl
      have EC : (bX - aX) * (pY - aY) - (bY - aY) * (pX - aX) = crs (bX - aX) (bY - aY) (pX - aX) (pY - aY) := rfl
      have ED : (bX - aX) * (pX - aX) + (bY - aY) * (pY - aY) = dtp (bX - aX) (bY - aY) (pX - aX) (pY - aY) := rfl
      obtain ⟨z00, z01⟩ := lim4 (bX - aX) (bX - aX) (by omega) (by omega) (by omega) (by omega)
      obtain ⟨z10, z11⟩ := lim4 (bY - aY) (bY - aY) (by omega) (by omega) (by omega) (by omega)
      obtain ⟨z20, z21⟩ := lim4 (bX - aX) (pY - aY) (by omega) (by omega) (by omega) (by omega)
      obtain ⟨z30, z31⟩ := lim4 (bY - aY) (pX - aX) (by omega) (by omega) (by omega) (by omega)
      obtain ⟨z40, z41⟩ := lim4 (bX - aX) (pX - aX) (by omega) (by omega) (by omega) (by omega)
      obtain ⟨z50, z51⟩ := lim4 (bY - aY) (pY - aY) (by omega) (by omega) (by omega) (by omega)
      generalize len (crs (bX - aX) (bY - aY) (pX - aX) (pY - aY)) (dtp (bX - aX) (bY - aY) (bX - aX) (bY - aY)) = A at *
      generalize len (dtp (bX - aX) (bY - aY) (pX - aX) (pY - aY)) (dtp (bX - aX) (bY - aY) (bX - aX) (bY - aY)) = B at *
      generalize sgn (crs (bX - aX) (bY - aY) (pX - aX) (pY - aY)) = SG at *
      obtain ⟨sb0, sb1⟩ := sb
      obtain ⟨pr0, pr1⟩ := pr
      have wr0 : IntKind.i64.wrap (bX - aX) = bX - aX := IntWalk.i64_in _ (by omega)
      have wr1 : IntKind.i64.wrap (bY - aY) = bY - aY := IntWalk.i64_in _ (by omega)
      have wr2 : IntKind.i64.wrap (pX - aX) = pX - aX := IntWalk.i64_in _ (by omega)
      have wr3 : IntKind.i64.wrap (pY - aY) = pY - aY := IntWalk.i64_in _ (by omega)
      have HO1 := Lib.hid O1
      have HS1 := Lib.hid S1
      have HQ1 := Lib.hid Q1
      have HQ2 := Lib.hid Q2
      clear O1 S1 Q1 Q2
      go_enter Try.func8, Try.ntmps8
      go_wp2_with fail
      with_reducible refine (awake_w _).mono ?_
      rintro e w1 ⟨rfl, hk1⟩
      refine kuz (b := w.heap.size) hk1 (by first | (simp; done) | (simp; omega) | omega) ?_
      intro ha hb hz1_0 hn1_0 hm1_0
      have hf1_0_0 : w1.cell? ⟨w.heap.size, 0, none⟩ = some (.int .i64 aX) := (ha _).trans (by first | with_reducible assumption | (simp (maxDischargeDepth := 7) [go_sem]; done) | (simp (maxDischargeDepth := 7) [go_sem, *]; done))
      have hf1_0_1 : w1.cell? ⟨w.heap.size, 1, none⟩ = some (.int .i64 aY) := (ha _).trans (by first | with_reducible assumption | (simp (maxDischargeDepth := 7) [go_sem]; done) | (simp (maxDischargeDepth := 7) [go_sem, *]; done))
      try have hg1_0 : ∀ o, w1.frozen? ⟨w.heap.size, o, none⟩ = false := by intro o; rw [hb]; first | (simp (maxDischargeDepth := 7) [go_sem]; done) | (simp (maxDischargeDepth := 7) [go_sem, *]; done)
      clear ha hb
      refine kuz (b := w.heap.size + 1) hk1 (by first | (simp; done) | (simp; omega) | omega) ?_
      intro ha hb hz1_1 hn1_1 hm1_1
      have hf1_1_0 : w1.cell? ⟨w.heap.size + 1, 0, none⟩ = some (.int .i64 bX) := (ha _).trans (by first | with_reducible assumption | (simp (maxDischargeDepth := 7) [go_sem]; done) | (simp (maxDischargeDepth := 7) [go_sem, *]; done))
      have hf1_1_1 : w1.cell? ⟨w.heap.size + 1, 1, none⟩ = some (.int .i64 bY) := (ha _).trans (by first | with_reducible assumption | (simp (maxDischargeDepth := 7) [go_sem]; done) | (simp (maxDischargeDepth := 7) [go_sem, *]; done))
      try have hg1_1 : ∀ o, w1.frozen? ⟨w.heap.size + 1, o, none⟩ = false := by intro o; rw [hb]; first | (simp (maxDischargeDepth := 7) [go_sem]; done) | (simp (maxDischargeDepth := 7) [go_sem, *]; done)
      clear ha hb
      refine kuz (b := w.heap.size + 2) hk1 (by first | (simp; done) | (simp; omega) | omega) ?_
      intro ha hb hz1_2 hn1_2 hm1_2
      have hf1_2_0 : w1.cell? ⟨w.heap.size + 2, 0, none⟩ = some (.int .i64 pX) := (ha _).trans (by first | with_reducible assumption | (simp (maxDischargeDepth := 7) [go_sem]; done) | (simp (maxDischargeDepth := 7) [go_sem, *]; done))
      have hf1_2_1 : w1.cell? ⟨w.heap.size + 2, 1, none⟩ = some (.int .i64 pY) := (ha _).trans (by first | with_reducible assumption | (simp (maxDischargeDepth := 7) [go_sem]; done) | (simp (maxDischargeDepth := 7) [go_sem, *]; done))
      try have hg1_2 : ∀ o, w1.frozen? ⟨w.heap.size + 2, o, none⟩ = false := by intro o; rw [hb]; first | (simp (maxDischargeDepth := 7) [go_sem]; done) | (simp (maxDischargeDepth := 7) [go_sem, *]; done)
      clear ha hb
      go_wp2_with fail
      with_reducible refine (HO1.out _).mono ?_
      rintro e w2 ⟨rfl, hk2⟩
      refine kuz (b := w.heap.size) hk2 (by first | (simp; done) | (simp; omega) | omega) ?_
      intro ha hb hz2_0 hn2_0 hm2_0
      have hf2_0_0 : w2.cell? ⟨w.heap.size, 0, none⟩ = some (.int .i64 aX) := (ha _).trans (by first | with_reducible assumption | (simp (maxDischargeDepth := 7) [go_sem]; done) | (simp (maxDischargeDepth := 7) [go_sem, *]; done))
      have hf2_0_1 : w2.cell? ⟨w.heap.size, 1, none⟩ = some (.int .i64 aY) := (ha _).trans (by first | with_reducible assumption | (simp (maxDischargeDepth := 7) [go_sem]; done) | (simp (maxDischargeDepth := 7) [go_sem, *]; done))
      try have hg2_0 : ∀ o, w2.frozen? ⟨w.heap.size, o, none⟩ = false := by intro o; rw [hb]; first | (simp (maxDischargeDepth := 7) [go_sem]; done) | (simp (maxDischargeDepth := 7) [go_sem, *]; done)
      clear ha hb
      refine kuz (b := w.heap.size + 1) hk2 (by first | (simp; done) | (simp; omega) | omega) ?_
      intro ha hb hz2_1 hn2_1 hm2_1
      have hf2_1_0 : w2.cell? ⟨w.heap.size + 1, 0, none⟩ = some (.int .i64 bX) := (ha _).trans (by first | with_reducible assumption | (simp (maxDischargeDepth := 7) [go_sem]; done) | (simp (maxDischargeDepth := 7) [go_sem, *]; done))
      have hf2_1_1 : w2.cell? ⟨w.heap.size + 1, 1, none⟩ = some (.int .i64 bY) := (ha _).trans (by first | with_reducible assumption | (simp (maxDischargeDepth := 7) [go_sem]; done) | (simp (maxDischargeDepth := 7) [go_sem, *]; done))
      try have hg2_1 : ∀ o, w2.frozen? ⟨w.heap.size + 1, o, none⟩ = false := by intro o; rw [hb]; first | (simp (maxDischargeDepth := 7) [go_sem]; done) | (simp (maxDischargeDepth := 7) [go_sem, *]; done)
      clear ha hb
      refine kuz (b := w.heap.size + 2) hk2 (by first | (simp; done) | (simp; omega) | omega) ?_
      intro ha hb hz2_2 hn2_2 hm2_2
      have hf2_2_0 : w2.cell? ⟨w.heap.size + 2, 0, none⟩ = some (.int .i64 pX) := (ha _).trans (by first | with_reducible assumption | (simp (maxDischargeDepth := 7) [go_sem]; done) | (simp (maxDischargeDepth := 7) [go_sem, *]; done))
      have hf2_2_1 : w2.cell? ⟨w.heap.size + 2, 1, none⟩ = some (.int .i64 pY) := (ha _).trans (by first | with_reducible assumption | (simp (maxDischargeDepth := 7) [go_sem]; done) | (simp (maxDischargeDepth := 7) [go_sem, *]; done))
      try have hg2_2 : ∀ o, w2.frozen? ⟨w.heap.size + 2, o, none⟩ = false := by intro o; rw [hb]; first | (simp (maxDischargeDepth := 7) [go_sem]; done) | (simp (maxDischargeDepth := 7) [go_sem, *]; done)
      clear ha hb
      (try clear hf1_0_0); (try clear hf1_0_1); (try clear hf1_1_0); (try clear hf1_1_1); (try clear hf1_2_0); (try clear hf1_2_1); (try clear hg1_0); (try clear hg1_1); (try clear hg1_2); (try clear hz1_1); (try clear hz1_2)
      go_wp2_with fail
      go_quiet (fail)
      all_goals go_wp2_with fail
      with_reducible refine (HS1.out _).mono ?_
      rintro e w3 ⟨rfl, hk3⟩
      refine kuz (b := w.heap.size) hk3 (by first | (simp; done) | (simp; omega) | omega) ?_
      intro ha hb hz3_0 hn3_0 hm3_0
      have hf3_0_0 : w3.cell? ⟨w.heap.size, 0, none⟩ = some (.int .i64 aX) := (ha _).trans (by first | with_reducible assumption | (simp (maxDischargeDepth := 7) [go_sem]; done) | (simp (maxDischargeDepth := 7) [go_sem, *]; done))
      have hf3_0_1 : w3.cell? ⟨w.heap.size, 1, none⟩ = some (.int .i64 aY) := (ha _).trans (by first | with_reducible assumption | (simp (maxDischargeDepth := 7) [go_sem]; done) | (simp (maxDischargeDepth := 7) [go_sem, *]; done))
      try have hg3_0 : ∀ o, w3.frozen? ⟨w.heap.size, o, none⟩ = false := by intro o; rw [hb]; first | (simp (maxDischargeDepth := 7) [go_sem]; done) | (simp (maxDischargeDepth := 7) [go_sem, *]; done)
      clear ha hb
      refine kuz (b := w.heap.size + 1) hk3 (by first | (simp; done) | (simp; omega) | omega) ?_
      intro ha hb hz3_1 hn3_1 hm3_1
      have hf3_1_0 : w3.cell? ⟨w.heap.size + 1, 0, none⟩ = some (.int .i64 bX) := (ha _).trans (by first | with_reducible assumption | (simp (maxDischargeDepth := 7) [go_sem]; done) | (simp (maxDischargeDepth := 7) [go_sem, *]; done))
      have hf3_1_1 : w3.cell? ⟨w.heap.size + 1, 1, none⟩ = some (.int .i64 bY) := (ha _).trans (by first | with_reducible assumption | (simp (maxDischargeDepth := 7) [go_sem]; done) | (simp (maxDischargeDepth := 7) [go_sem, *]; done))
      try have hg3_1 : ∀ o, w3.frozen? ⟨w.heap.size + 1, o, none⟩ = false := by intro o; rw [hb]; first | (simp (maxDischargeDepth := 7) [go_sem]; done) | (simp (maxDischargeDepth := 7) [go_sem, *]; done)
      clear ha hb
      refine kuz (b := w.heap.size + 2) hk3 (by first | (simp; done) | (simp; omega) | omega) ?_
      intro ha hb hz3_2 hn3_2 hm3_2
      have hf3_2_0 : w3.cell? ⟨w.heap.size + 2, 0, none⟩ = some (.int .i64 pX) := (ha _).trans (by first | with_reducible assumption | (simp (maxDischargeDepth := 7) [go_sem]; done) | (simp (maxDischargeDepth := 7) [go_sem, *]; done))
      have hf3_2_1 : w3.cell? ⟨w.heap.size + 2, 1, none⟩ = some (.int .i64 pY) := (ha _).trans (by first | with_reducible assumption | (simp (maxDischargeDepth := 7) [go_sem]; done) | (simp (maxDischargeDepth := 7) [go_sem, *]; done))
      try have hg3_2 : ∀ o, w3.frozen? ⟨w.heap.size + 2, o, none⟩ = false := by intro o; rw [hb]; first | (simp (maxDischargeDepth := 7) [go_sem]; done) | (simp (maxDischargeDepth := 7) [go_sem, *]; done)
      clear ha hb
      (try clear hf2_0_0); (try clear hf2_0_1); (try clear hf2_1_0); (try clear hf2_1_1); (try clear hf2_2_0); (try clear hf2_2_1); (try clear hg2_0); (try clear hg2_1); (try clear hg2_2); (try clear hz2_1); (try clear hz2_2)
      go_wp2_with fail
      with_reducible refine (HQ1.out _).mono ?_
      rintro e w4 ⟨rfl, hk4⟩
      refine kuz (b := w.heap.size) hk4 (by first | (simp; done) | (simp; omega) | omega) ?_
      intro ha hb hz4_0 hn4_0 hm4_0
      have hf4_0_0 : w4.cell? ⟨w.heap.size, 0, none⟩ = some (.int .i64 aX) := (ha _).trans (by first | with_reducible assumption | (simp (maxDischargeDepth := 7) [go_sem]; done) | (simp (maxDischargeDepth := 7) [go_sem, *]; done))
      have hf4_0_1 : w4.cell? ⟨w.heap.size, 1, none⟩ = some (.int .i64 aY) := (ha _).trans (by first | with_reducible assumption | (simp (maxDischargeDepth := 7) [go_sem]; done) | (simp (maxDischargeDepth := 7) [go_sem, *]; done))
      try have hg4_0 : ∀ o, w4.frozen? ⟨w.heap.size, o, none⟩ = false := by intro o; rw [hb]; first | (simp (maxDischargeDepth := 7) [go_sem]; done) | (simp (maxDischargeDepth := 7) [go_sem, *]; done)
      clear ha hb
      refine kuz (b := w.heap.size + 1) hk4 (by first | (simp; done) | (simp; omega) | omega) ?_
      intro ha hb hz4_1 hn4_1 hm4_1
      have hf4_1_0 : w4.cell? ⟨w.heap.size + 1, 0, none⟩ = some (.int .i64 bX) := (ha _).trans (by first | with_reducible assumption | (simp (maxDischargeDepth := 7) [go_sem]; done) | (simp (maxDischargeDepth := 7) [go_sem, *]; done))
      have hf4_1_1 : w4.cell? ⟨w.heap.size + 1, 1, none⟩ = some (.int .i64 bY) := (ha _).trans (by first | with_reducible assumption | (simp (maxDischargeDepth := 7) [go_sem]; done) | (simp (maxDischargeDepth := 7) [go_sem, *]; done))
      try have hg4_1 : ∀ o, w4.frozen? ⟨w.heap.size + 1, o, none⟩ = false := by intro o; rw [hb]; first | (simp (maxDischargeDepth := 7) [go_sem]; done) | (simp (maxDischargeDepth := 7) [go_sem, *]; done)
      clear ha hb
      refine kuz (b := w.heap.size + 2) hk4 (by first | (simp; done) | (simp; omega) | omega) ?_
      intro ha hb hz4_2 hn4_2 hm4_2
      have hf4_2_0 : w4.cell? ⟨w.heap.size + 2, 0, none⟩ = some (.int .i64 pX) := (ha _).trans (by first | with_reducible assumption | (simp (maxDischargeDepth := 7) [go_sem]; done) | (simp (maxDischargeDepth := 7) [go_sem, *]; done))
      have hf4_2_1 : w4.cell? ⟨w.heap.size + 2, 1, none⟩ = some (.int .i64 pY) := (ha _).trans (by first | with_reducible assumption | (simp (maxDischargeDepth := 7) [go_sem]; done) | (simp (maxDischargeDepth := 7) [go_sem, *]; done))
      try have hg4_2 : ∀ o, w4.frozen? ⟨w.heap.size + 2, o, none⟩ = false := by intro o; rw [hb]; first | (simp (maxDischargeDepth := 7) [go_sem]; done) | (simp (maxDischargeDepth := 7) [go_sem, *]; done)
      clear ha hb
      (try clear hf3_0_0); (try clear hf3_0_1); (try clear hf3_1_0); (try clear hf3_1_1); (try clear hf3_2_0); (try clear hf3_2_1); (try clear hg3_0); (try clear hg3_1); (try clear hg3_2); (try clear hz3_1); (try clear hz3_2)
      go_wp2_with fail
      with_reducible refine (HQ2.out _).mono ?_
      rintro e w5 ⟨rfl, hk5⟩
      refine kuz (b := w.heap.size) hk5 (by first | (simp; done) | (simp; omega) | omega) ?_
      intro ha hb hz5_0 hn5_0 hm5_0
      have hf5_0_0 : w5.cell? ⟨w.heap.size, 0, none⟩ = some (.int .i64 aX) := (ha _).trans (by first | with_reducible assumption | (simp (maxDischargeDepth := 7) [go_sem]; done) | (simp (maxDischargeDepth := 7) [go_sem, *]; done))
      have hf5_0_1 : w5.cell? ⟨w.heap.size, 1, none⟩ = some (.int .i64 aY) := (ha _).trans (by first | with_reducible assumption | (simp (maxDischargeDepth := 7) [go_sem]; done) | (simp (maxDischargeDepth := 7) [go_sem, *]; done))
      try have hg5_0 : ∀ o, w5.frozen? ⟨w.heap.size, o, none⟩ = false := by intro o; rw [hb]; first | (simp (maxDischargeDepth := 7) [go_sem]; done) | (simp (maxDischargeDepth := 7) [go_sem, *]; done)
      clear ha hb
      refine kuz (b := w.heap.size + 1) hk5 (by first | (simp; done) | (simp; omega) | omega) ?_
      intro ha hb hz5_1 hn5_1 hm5_1
      have hf5_1_0 : w5.cell? ⟨w.heap.size + 1, 0, none⟩ = some (.int .i64 bX) := (ha _).trans (by first | with_reducible assumption | (simp (maxDischargeDepth := 7) [go_sem]; done) | (simp (maxDischargeDepth := 7) [go_sem, *]; done))
      have hf5_1_1 : w5.cell? ⟨w.heap.size + 1, 1, none⟩ = some (.int .i64 bY) := (ha _).trans (by first | with_reducible assumption | (simp (maxDischargeDepth := 7) [go_sem]; done) | (simp (maxDischargeDepth := 7) [go_sem, *]; done))
      try have hg5_1 : ∀ o, w5.frozen? ⟨w.heap.size + 1, o, none⟩ = false := by intro o; rw [hb]; first | (simp (maxDischargeDepth := 7) [go_sem]; done) | (simp (maxDischargeDepth := 7) [go_sem, *]; done)
      clear ha hb
      refine kuz (b := w.heap.size + 2) hk5 (by first | (simp; done) | (simp; omega) | omega) ?_
      intro ha hb hz5_2 hn5_2 hm5_2
      have hf5_2_0 : w5.cell? ⟨w.heap.size + 2, 0, none⟩ = some (.int .i64 pX) := (ha _).trans (by first | with_reducible assumption | (simp (maxDischargeDepth := 7) [go_sem]; done) | (simp (maxDischargeDepth := 7) [go_sem, *]; done))
      have hf5_2_1 : w5.cell? ⟨w.heap.size + 2, 1, none⟩ = some (.int .i64 pY) := (ha _).trans (by first | with_reducible assumption | (simp (maxDischargeDepth := 7) [go_sem]; done) | (simp (maxDischargeDepth := 7) [go_sem, *]; done))
      try have hg5_2 : ∀ o, w5.frozen? ⟨w.heap.size + 2, o, none⟩ = false := by intro o; rw [hb]; first | (simp (maxDischargeDepth := 7) [go_sem]; done) | (simp (maxDischargeDepth := 7) [go_sem, *]; done)
      clear ha hb
      (try clear hf4_0_0); (try clear hf4_0_1); (try clear hf4_1_0); (try clear hf4_1_1); (try clear hf4_2_0); (try clear hf4_2_1); (try clear hg4_0); (try clear hg4_1); (try clear hg4_2); (try clear hz4_1); (try clear hz4_2)
      all_goals go_wp2_with fail
      all_goals first | (go_ret; refine ⟨?_, (by repeat (first | with_reducible exact Kept.refl _ | with_reducible assumption | with_reducible refine Kept.setCell ?_ (by first | (simp; done) | (simp; omega) | omega) _ | with_reducible refine Kept.alloc ?_ _ | with_reducible refine Kept.drewN ?_ _ | with_reducible refine Kept.drew ?_ | with_reducible refine Kept.trans ?_ (by with_reducible assumption) | with_reducible refine Kept.dr ?_ (by with_reducible assumption)))⟩; first | rfl | (refine retb ?_; simp; done) | (refine retb ?_; simp; omega)) | (exfalso; omega)
  · have h : pokB aX aY = false ∨ pokB bX bY = false ∨ pokB pX pY = false := by cases h1 : pokB aX aY <;> cases h2 : pokB bX bY <;> cases h3 : pokB pX pY <;> simp_all
    clear hall
    go_enter Try.func8, Try.ntmps8
    go_wp2_with fail
    with_reducible refine (awake_w _).mono ?_
    rintro e w1 ⟨rfl, hk1⟩
    refine kuz (b := w.heap.size) hk1 (by first | (simp; done) | (simp; omega) | omega) ?_
    intro ha hb hz1_0 hn1_0 hm1_0
    have hf1_0_0 : w1.cell? ⟨w.heap.size, 0, none⟩ = some (.int .i64 aX) := (ha _).trans (by first | with_reducible assumption | (simp (maxDischargeDepth := 7) [go_sem]; done) | (simp (maxDischargeDepth := 7) [go_sem, *]; done))
    have hf1_0_1 : w1.cell? ⟨w.heap.size, 1, none⟩ = some (.int .i64 aY) := (ha _).trans (by first | with_reducible assumption | (simp (maxDischargeDepth := 7) [go_sem]; done) | (simp (maxDischargeDepth := 7) [go_sem, *]; done))
    try have hg1_0 : ∀ o, w1.frozen? ⟨w.heap.size, o, none⟩ = false := by intro o; rw [hb]; first | (simp (maxDischargeDepth := 7) [go_sem]; done) | (simp (maxDischargeDepth := 7) [go_sem, *]; done)
    clear ha hb
    refine kuz (b := w.heap.size + 1) hk1 (by first | (simp; done) | (simp; omega) | omega) ?_
    intro ha hb hz1_1 hn1_1 hm1_1
    have hf1_1_0 : w1.cell? ⟨w.heap.size + 1, 0, none⟩ = some (.int .i64 bX) := (ha _).trans (by first | with_reducible assumption | (simp (maxDischargeDepth := 7) [go_sem]; done) | (simp (maxDischargeDepth := 7) [go_sem, *]; done))
    have hf1_1_1 : w1.cell? ⟨w.heap.size + 1, 1, none⟩ = some (.int .i64 bY) := (ha _).trans (by first | with_reducible assumption | (simp (maxDischargeDepth := 7) [go_sem]; done) | (simp (maxDischargeDepth := 7) [go_sem, *]; done))
    try have hg1_1 : ∀ o, w1.frozen? ⟨w.heap.size + 1, o, none⟩ = false := by intro o; rw [hb]; first | (simp (maxDischargeDepth := 7) [go_sem]; done) | (simp (maxDischargeDepth := 7) [go_sem, *]; done)
    clear ha hb
    refine kuz (b := w.heap.size + 2) hk1 (by first | (simp; done) | (simp; omega) | omega) ?_
    intro ha hb hz1_2 hn1_2 hm1_2
    have hf1_2_0 : w1.cell? ⟨w.heap.size + 2, 0, none⟩ = some (.int .i64 pX) := (ha _).trans (by first | with_reducible assumption | (simp (maxDischargeDepth := 7) [go_sem]; done) | (simp (maxDischargeDepth := 7) [go_sem, *]; done))
    have hf1_2_1 : w1.cell? ⟨w.heap.size + 2, 1, none⟩ = some (.int .i64 pY) := (ha _).trans (by first | with_reducible assumption | (simp (maxDischargeDepth := 7) [go_sem]; done) | (simp (maxDischargeDepth := 7) [go_sem, *]; done))
    try have hg1_2 : ∀ o, w1.frozen? ⟨w.heap.size + 2, o, none⟩ = false := by intro o; rw [hb]; first | (simp (maxDischargeDepth := 7) [go_sem]; done) | (simp (maxDischargeDepth := 7) [go_sem, *]; done)
    clear ha hb
    go_wp2_with fail
    with_reducible refine (offset_bad aX aY bX bY pX pY h _).mono ?_
    rintro e w2 ⟨rfl, hk2⟩
    refine kuz (b := w.heap.size) hk2 (by first | (simp; done) | (simp; omega) | omega) ?_
    intro ha hb hz2_0 hn2_0 hm2_0
    have hf2_0_0 : w2.cell? ⟨w.heap.size, 0, none⟩ = some (.int .i64 aX) := (ha _).trans (by first | with_reducible assumption | (simp (maxDischargeDepth := 7) [go_sem]; done) | (simp (maxDischargeDepth := 7) [go_sem, *]; done))
    have hf2_0_1 : w2.cell? ⟨w.heap.size, 1, none⟩ = some (.int .i64 aY) := (ha _).trans (by first | with_reducible assumption | (simp (maxDischargeDepth := 7) [go_sem]; done) | (simp (maxDischargeDepth := 7) [go_sem, *]; done))
    try have hg2_0 : ∀ o, w2.frozen? ⟨w.heap.size, o, none⟩ = false := by intro o; rw [hb]; first | (simp (maxDischargeDepth := 7) [go_sem]; done) | (simp (maxDischargeDepth := 7) [go_sem, *]; done)
    clear ha hb
    refine kuz (b := w.heap.size + 1) hk2 (by first | (simp; done) | (simp; omega) | omega) ?_
    intro ha hb hz2_1 hn2_1 hm2_1
    have hf2_1_0 : w2.cell? ⟨w.heap.size + 1, 0, none⟩ = some (.int .i64 bX) := (ha _).trans (by first | with_reducible assumption | (simp (maxDischargeDepth := 7) [go_sem]; done) | (simp (maxDischargeDepth := 7) [go_sem, *]; done))
    have hf2_1_1 : w2.cell? ⟨w.heap.size + 1, 1, none⟩ = some (.int .i64 bY) := (ha _).trans (by first | with_reducible assumption | (simp (maxDischargeDepth := 7) [go_sem]; done) | (simp (maxDischargeDepth := 7) [go_sem, *]; done))
    try have hg2_1 : ∀ o, w2.frozen? ⟨w.heap.size + 1, o, none⟩ = false := by intro o; rw [hb]; first | (simp (maxDischargeDepth := 7) [go_sem]; done) | (simp (maxDischargeDepth := 7) [go_sem, *]; done)
    clear ha hb
    refine kuz (b := w.heap.size + 2) hk2 (by first | (simp; done) | (simp; omega) | omega) ?_
    intro ha hb hz2_2 hn2_2 hm2_2
    have hf2_2_0 : w2.cell? ⟨w.heap.size + 2, 0, none⟩ = some (.int .i64 pX) := (ha _).trans (by first | with_reducible assumption | (simp (maxDischargeDepth := 7) [go_sem]; done) | (simp (maxDischargeDepth := 7) [go_sem, *]; done))
    have hf2_2_1 : w2.cell? ⟨w.heap.size + 2, 1, none⟩ = some (.int .i64 pY) := (ha _).trans (by first | with_reducible assumption | (simp (maxDischargeDepth := 7) [go_sem]; done) | (simp (maxDischargeDepth := 7) [go_sem, *]; done))
    try have hg2_2 : ∀ o, w2.frozen? ⟨w.heap.size + 2, o, none⟩ = false := by intro o; rw [hb]; first | (simp (maxDischargeDepth := 7) [go_sem]; done) | (simp (maxDischargeDepth := 7) [go_sem, *]; done)
    clear ha hb
    (try clear hf1_0_0); (try clear hf1_0_1); (try clear hf1_1_0); (try clear hf1_1_1); (try clear hf1_2_0); (try clear hf1_2_1); (try clear hg1_0); (try clear hg1_1); (try clear hg1_2); (try clear hz1_1); (try clear hz1_2)
    go_wp2_with fail
    all_goals first | (go_ret; refine ⟨?_, (by repeat (first | with_reducible exact Kept.refl _ | with_reducible assumption | with_reducible refine Kept.setCell ?_ (by first | (simp; done) | (simp; omega) | omega) _ | with_reducible refine Kept.alloc ?_ _ | with_reducible refine Kept.drewN ?_ _ | with_reducible refine Kept.drew ?_ | with_reducible refine Kept.trans ?_ (by with_reducible assumption) | with_reducible refine Kept.dr ?_ (by with_reducible assumption)))⟩; first | rfl | (refine retb ?_; simp; done) | (refine retb ?_; simp; omega)) | (exfalso; omega)

end Go.Proofs.Ytokgmhicindibaa
