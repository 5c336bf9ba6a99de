/-
  Own contracts: package line and the document's answers of layer 11: the law feet.
-/
import Derived.Test.YtokgmhicindibaaLine0
import Derived.Test.YtokgmhicindibaaLinbfr
import Derived.WalkKit
import Derived.ProofKit
import Derived.OpenShut
import Derived.WalkLawsBesides
import Derived.WalkSpells
import Derived.Lib.Hide
import Derived.Deep.DeepCutAuto
import Derived.Deep.CutBlock
import Derived.Deep.QuietTactic
import Derived.BigQuiet
import Derived.Handy
import Derived.StillTailTactics
import Derived.IntWalk
import Derived.LoopN
import Derived.Deep.RegionHeld3
namespace Go.Proofs.Ytokgmhicindibaa
open Go.ChangeShapes Go.WideShapes Go.ChangeAt Go.RowKit
set_option linter.unusedVariables false
set_option linter.unusedSimpArgs false
theorem run_max2i {P : Program} {w : World} (ts : Array TypeId) (t : TypeId) (x y : Int) : (Builtin.max_ ts t #[.int .i64 x, .int .i64 y]).run P w = .ok (.int .i64 (if y > x then y else x)) w := by
  simp [Builtin.max_, Builtin.max2]
set_option maxHeartbeats 4000000 in
set_option maxRecDepth 100000 in
theorem law_feet (aX aY bX bY pX pY : Int) (aX_0 : -9223372036854775808 ≤ aX) (aX_1 : aX ≤ 9223372036854775807) (aY_0 : -9223372036854775808 ≤ aY) (aY_1 : aY ≤ 9223372036854775807) (bX_0 : -9223372036854775808 ≤ bX) (bX_1 : bX ≤ 9223372036854775807) (bY_0 : -9223372036854775808 ≤ bY) (bY_1 : bY ≤ 9223372036854775807) (pX_0 : -9223372036854775808 ≤ pX) (pX_1 : pX ≤ 9223372036854775807) (pY_0 : -9223372036854775808 ≤ pY) (pY_1 : pY ≤ 9223372036854775807) (w : World) : Calls Try.prog 9 #[.agg #[.int .i64 aX, .int .i64 aY], .agg #[.int .i64 bX, .int .i64 bY], .agg #[.int .i64 pX, .int .i64 pY]] w fun e w' => e = .returned (.bool true) ∧ Kept w w' := by
  by_cases hall : pokB aX aY = true ∧ pokB bX bY = true ∧ pokB pX pY = true
  · obtain ⟨ha, hb, hp⟩ := hall
    by_cases hne : aX = bX ∧ aY = bY
    · obtain ⟨rfl, rfl⟩ := hne
      have EQ := fun w => eqP_yes 0 0 w
      go_enter Try.func9, Try.ntmps9
      go_wp2_with fail
      with_reducible refine (awake_w _).mono ?_
      rintro e w1 ⟨rfl, hk1⟩
      refine kuz (b := w.heap.size) hk1 (by first | (simp; done) | (simp; omega) | omega) ?_
      intro ha hb hz1_0 hn1_0 hm1_0
      have hf1_0_0 : w1.cell? ⟨w.heap.size, 0, none⟩ = some (.int .i64 aX) := (ha _).trans (by first | with_reducible assumption | (simp (maxDischargeDepth := 7) [go_sem]; done) | (simp (maxDischargeDepth := 7) [go_sem, *]; done))
      have hf1_0_1 : w1.cell? ⟨w.heap.size, 1, none⟩ = some (.int .i64 aY) := (ha _).trans (by first | with_reducible assumption | (simp (maxDischargeDepth := 7) [go_sem]; done) | (simp (maxDischargeDepth := 7) [go_sem, *]; done))
      try have hg1_0 : ∀ o, w1.frozen? ⟨w.heap.size, o, none⟩ = false := by intro o; rw [hb]; first | (simp (maxDischargeDepth := 7) [go_sem]; done) | (simp (maxDischargeDepth := 7) [go_sem, *]; done)
      clear ha hb
      refine kuz (b := w.heap.size + 1) hk1 (by first | (simp; done) | (simp; omega) | omega) ?_
      intro ha hb hz1_1 hn1_1 hm1_1
      have hf1_1_0 : w1.cell? ⟨w.heap.size + 1, 0, none⟩ = some (.int .i64 aX) := (ha _).trans (by first | with_reducible assumption | (simp (maxDischargeDepth := 7) [go_sem]; done) | (simp (maxDischargeDepth := 7) [go_sem, *]; done))
      have hf1_1_1 : w1.cell? ⟨w.heap.size + 1, 1, none⟩ = some (.int .i64 aY) := (ha _).trans (by first | with_reducible assumption | (simp (maxDischargeDepth := 7) [go_sem]; done) | (simp (maxDischargeDepth := 7) [go_sem, *]; done))
      try have hg1_1 : ∀ o, w1.frozen? ⟨w.heap.size + 1, o, none⟩ = false := by intro o; rw [hb]; first | (simp (maxDischargeDepth := 7) [go_sem]; done) | (simp (maxDischargeDepth := 7) [go_sem, *]; done)
      clear ha hb
      refine kuz (b := w.heap.size + 2) hk1 (by first | (simp; done) | (simp; omega) | omega) ?_
      intro ha hb hz1_2 hn1_2 hm1_2
      have hf1_2_0 : w1.cell? ⟨w.heap.size + 2, 0, none⟩ = some (.int .i64 pX) := (ha _).trans (by first | with_reducible assumption | (simp (maxDischargeDepth := 7) [go_sem]; done) | (simp (maxDischargeDepth := 7) [go_sem, *]; done))
      have hf1_2_1 : w1.cell? ⟨w.heap.size + 2, 1, none⟩ = some (.int .i64 pY) := (ha _).trans (by first | with_reducible assumption | (simp (maxDischargeDepth := 7) [go_sem]; done) | (simp (maxDischargeDepth := 7) [go_sem, *]; done))
      try have hg1_2 : ∀ o, w1.frozen? ⟨w.heap.size + 2, o, none⟩ = false := by intro o; rw [hb]; first | (simp (maxDischargeDepth := 7) [go_sem]; done) | (simp (maxDischargeDepth := 7) [go_sem, *]; done)
      clear ha hb
      go_wp2_with fail
      with_reducible refine (foot_eq aX aY pX pY ha hp _).mono ?_
      rintro e w2 ⟨rfl, hk2⟩
      refine kuz (b := w.heap.size) hk2 (by first | (simp; done) | (simp; omega) | omega) ?_
      intro ha hb hz2_0 hn2_0 hm2_0
      have hf2_0_0 : w2.cell? ⟨w.heap.size, 0, none⟩ = some (.int .i64 aX) := (ha _).trans (by first | with_reducible assumption | (simp (maxDischargeDepth := 7) [go_sem]; done) | (simp (maxDischargeDepth := 7) [go_sem, *]; done))
      have hf2_0_1 : w2.cell? ⟨w.heap.size, 1, none⟩ = some (.int .i64 aY) := (ha _).trans (by first | with_reducible assumption | (simp (maxDischargeDepth := 7) [go_sem]; done) | (simp (maxDischargeDepth := 7) [go_sem, *]; done))
      try have hg2_0 : ∀ o, w2.frozen? ⟨w.heap.size, o, none⟩ = false := by intro o; rw [hb]; first | (simp (maxDischargeDepth := 7) [go_sem]; done) | (simp (maxDischargeDepth := 7) [go_sem, *]; done)
      clear ha hb
      refine kuz (b := w.heap.size + 1) hk2 (by first | (simp; done) | (simp; omega) | omega) ?_
      intro ha hb hz2_1 hn2_1 hm2_1
      have hf2_1_0 : w2.cell? ⟨w.heap.size + 1, 0, none⟩ = some (.int .i64 aX) := (ha _).trans (by first | with_reducible assumption | (simp (maxDischargeDepth := 7) [go_sem]; done) | (simp (maxDischargeDepth := 7) [go_sem, *]; done))
      have hf2_1_1 : w2.cell? ⟨w.heap.size + 1, 1, none⟩ = some (.int .i64 aY) := (ha _).trans (by first | with_reducible assumption | (simp (maxDischargeDepth := 7) [go_sem]; done) | (simp (maxDischargeDepth := 7) [go_sem, *]; done))
      try have hg2_1 : ∀ o, w2.frozen? ⟨w.heap.size + 1, o, none⟩ = false := by intro o; rw [hb]; first | (simp (maxDischargeDepth := 7) [go_sem]; done) | (simp (maxDischargeDepth := 7) [go_sem, *]; done)
      clear ha hb
      refine kuz (b := w.heap.size + 2) hk2 (by first | (simp; done) | (simp; omega) | omega) ?_
      intro ha hb hz2_2 hn2_2 hm2_2
      have hf2_2_0 : w2.cell? ⟨w.heap.size + 2, 0, none⟩ = some (.int .i64 pX) := (ha _).trans (by first | with_reducible assumption | (simp (maxDischargeDepth := 7) [go_sem]; done) | (simp (maxDischargeDepth := 7) [go_sem, *]; done))
      have hf2_2_1 : w2.cell? ⟨w.heap.size + 2, 1, none⟩ = some (.int .i64 pY) := (ha _).trans (by first | with_reducible assumption | (simp (maxDischargeDepth := 7) [go_sem]; done) | (simp (maxDischargeDepth := 7) [go_sem, *]; done))
      try have hg2_2 : ∀ o, w2.frozen? ⟨w.heap.size + 2, o, none⟩ = false := by intro o; rw [hb]; first | (simp (maxDischargeDepth := 7) [go_sem]; done) | (simp (maxDischargeDepth := 7) [go_sem, *]; done)
      clear ha hb
      (try clear hf1_0_0); (try clear hf1_0_1); (try clear hf1_1_0); (try clear hf1_1_1); (try clear hf1_2_0); (try clear hf1_2_1); (try clear hg1_0); (try clear hg1_1); (try clear hg1_2); (try clear hz1_1); (try clear hz1_2)
      go_wp2_with fail
      with_reducible refine (ref_foot_eq aX aY pX pY ha hp _).mono ?_
      rintro e w3 ⟨rfl, hk3⟩
      refine kuz (b := w.heap.size) hk3 (by first | (simp; done) | (simp; omega) | omega) ?_
      intro ha hb hz3_0 hn3_0 hm3_0
      have hf3_0_0 : w3.cell? ⟨w.heap.size, 0, none⟩ = some (.int .i64 aX) := (ha _).trans (by first | with_reducible assumption | (simp (maxDischargeDepth := 7) [go_sem]; done) | (simp (maxDischargeDepth := 7) [go_sem, *]; done))
      have hf3_0_1 : w3.cell? ⟨w.heap.size, 1, none⟩ = some (.int .i64 aY) := (ha _).trans (by first | with_reducible assumption | (simp (maxDischargeDepth := 7) [go_sem]; done) | (simp (maxDischargeDepth := 7) [go_sem, *]; done))
      try have hg3_0 : ∀ o, w3.frozen? ⟨w.heap.size, o, none⟩ = false := by intro o; rw [hb]; first | (simp (maxDischargeDepth := 7) [go_sem]; done) | (simp (maxDischargeDepth := 7) [go_sem, *]; done)
      clear ha hb
      refine kuz (b := w.heap.size + 1) hk3 (by first | (simp; done) | (simp; omega) | omega) ?_
      intro ha hb hz3_1 hn3_1 hm3_1
      have hf3_1_0 : w3.cell? ⟨w.heap.size + 1, 0, none⟩ = some (.int .i64 aX) := (ha _).trans (by first | with_reducible assumption | (simp (maxDischargeDepth := 7) [go_sem]; done) | (simp (maxDischargeDepth := 7) [go_sem, *]; done))
      have hf3_1_1 : w3.cell? ⟨w.heap.size + 1, 1, none⟩ = some (.int .i64 aY) := (ha _).trans (by first | with_reducible assumption | (simp (maxDischargeDepth := 7) [go_sem]; done) | (simp (maxDischargeDepth := 7) [go_sem, *]; done))
      try have hg3_1 : ∀ o, w3.frozen? ⟨w.heap.size + 1, o, none⟩ = false := by intro o; rw [hb]; first | (simp (maxDischargeDepth := 7) [go_sem]; done) | (simp (maxDischargeDepth := 7) [go_sem, *]; done)
      clear ha hb
      refine kuz (b := w.heap.size + 2) hk3 (by first | (simp; done) | (simp; omega) | omega) ?_
      intro ha hb hz3_2 hn3_2 hm3_2
      have hf3_2_0 : w3.cell? ⟨w.heap.size + 2, 0, none⟩ = some (.int .i64 pX) := (ha _).trans (by first | with_reducible assumption | (simp (maxDischargeDepth := 7) [go_sem]; done) | (simp (maxDischargeDepth := 7) [go_sem, *]; done))
      have hf3_2_1 : w3.cell? ⟨w.heap.size + 2, 1, none⟩ = some (.int .i64 pY) := (ha _).trans (by first | with_reducible assumption | (simp (maxDischargeDepth := 7) [go_sem]; done) | (simp (maxDischargeDepth := 7) [go_sem, *]; done))
      try have hg3_2 : ∀ o, w3.frozen? ⟨w.heap.size + 2, o, none⟩ = false := by intro o; rw [hb]; first | (simp (maxDischargeDepth := 7) [go_sem]; done) | (simp (maxDischargeDepth := 7) [go_sem, *]; done)
      clear ha hb
      refine kuz (b := w2.heap.size) hk3 (by first | (simp; done) | (simp; omega) | omega) ?_
      intro ha hb hz3_3 hn3_3 hm3_3
      have hf3_3_0 : w3.cell? ⟨w2.heap.size, 0, none⟩ = some (.int .i64 0) := (ha _).trans (by first | with_reducible assumption | (simp (maxDischargeDepth := 7) [go_sem]; done) | (simp (maxDischargeDepth := 7) [go_sem, *]; done))
      have hf3_3_1 : w3.cell? ⟨w2.heap.size, 1, none⟩ = some (.int .i64 0) := (ha _).trans (by first | with_reducible assumption | (simp (maxDischargeDepth := 7) [go_sem]; done) | (simp (maxDischargeDepth := 7) [go_sem, *]; done))
      try have hg3_3 : ∀ o, w3.frozen? ⟨w2.heap.size, o, none⟩ = false := by intro o; rw [hb]; first | (simp (maxDischargeDepth := 7) [go_sem]; done) | (simp (maxDischargeDepth := 7) [go_sem, *]; done)
      clear ha hb
      (try clear hf2_0_0); (try clear hf2_0_1); (try clear hf2_1_0); (try clear hf2_1_1); (try clear hf2_2_0); (try clear hf2_2_1); (try clear hg2_0); (try clear hg2_1); (try clear hg2_2); (try clear hz2_1); (try clear hz2_2)
      go_wp2_with fail
      all_goals first | (go_ret; refine ⟨?_, (by repeat (first | with_reducible exact Kept.refl _ | with_reducible assumption | with_reducible refine Kept.setCell ?_ (by first | (simp; done) | (simp; omega) | omega) _ | with_reducible refine Kept.alloc ?_ _ | with_reducible refine Kept.drewN ?_ _ | with_reducible refine Kept.drew ?_ | with_reducible refine Kept.trans ?_ (by with_reducible assumption) | with_reducible refine Kept.dr ?_ (by with_reducible assumption)))⟩; first | rfl | (refine retb ?_; simp; done) | (refine retb ?_; simp; omega)) | (exfalso; omega)
    · rcases mv_cases aX aY (bX - aX) (bY - aY) (dtp (bX - aX) (bY - aY) (pX - aX) (pY - aY)) (dtp (bX - aX) (bY - aY) (bX - aX) (bY - aY)) with hE | hE
      · obtain ⟨aX0, aX1, aY0, aY1⟩ := pok_yes ha
        obtain ⟨bX0, bX1, bY0, bY1⟩ := pok_yes hb
        obtain ⟨pX0, pX1, pY0, pY1⟩ := pok_yes hp
        obtain ⟨lm00, lm01⟩ := crs_lim4 (bX - aX) (bY - aY) (pX - aX) (pY - aY) (by omega) (by omega) (by omega) (by omega) (by omega) (by omega) (by omega) (by omega)
        obtain ⟨lm10, lm11⟩ := dtp_lim4 (bX - aX) (bY - aY) (pX - aX) (pY - aY) (by omega) (by omega) (by omega) (by omega) (by omega) (by omega) (by omega) (by omega)
        obtain ⟨lm20, lm21⟩ := dtp_lim4 (bX - aX) (bY - aY) (bX - aX) (bY - aY) (by omega) (by omega) (by omega) (by omega) (by omega) (by omega) (by omega) (by omega)
        have sp := dtp_pos (bX - aX) (bY - aY) (by omega)
        have cq := cauchy' (bX - aX) (bY - aY) (pX - aX) (pY - aY)
        have dq := cauchy (bX - aX) (bY - aY) (pX - aX) (pY - aY)
        have qn := (dtp_lim4 (pX - aX) (pY - aY) (pX - aX) (pY - aY) (by omega) (by omega) (by omega) (by omega) (by omega) (by omega) (by omega) (by omega)).2
        have m1 := Int.mul_le_mul_of_nonneg_left qn (show 0 ≤ dtp (bX - aX) (bY - aY) (bX - aX) (bY - aY) by omega)
        rw [Int.mul_comm (dtp (bX - aX) (bY - aY) (bX - aX) (bY - aY)) 32000000000000] at m1
        have hc1 : crs (bX - aX) (bY - aY) (pX - aX) (pY - aY) * (crs (bX - aX) (bY - aY) (pX - aX) (pY - aY)) ≤ 32000000000000 * dtp (bX - aX) (bY - aY) (bX - aX) (bY - aY) := by omega
        have hc2 : dtp (bX - aX) (bY - aY) (pX - aX) (pY - aY) * (dtp (bX - aX) (bY - aY) (pX - aX) (pY - aY)) ≤ 32000000000000 * dtp (bX - aX) (bY - aY) (bX - aX) (bY - aY) := by omega
        clear cq dq qn m1
        obtain ⟨ll0, ll1⟩ := len_lim (crs (bX - aX) (bY - aY) (pX - aX) (pY - aY)) (dtp (bX - aX) (bY - aY) (bX - aX) (bY - aY)) sp hc1
        obtain ⟨lm0, lm1⟩ := len_lim (dtp (bX - aX) (bY - aY) (pX - aX) (pY - aY)) (dtp (bX - aX) (bY - aY) (bX - aX) (bY - aY)) sp hc2
        have F1 := fun w => foot_ok aX aY bX bY pX pY ha hb hp hne w
        have F2 := fun w => ref_foot_ok aX aY bX bY pX pY ha hb hp hne w
        obtain ⟨E0, x0, y0, hq, hs⟩ := hE
        obtain ⟨hX, hY⟩ := hs aX0 aX1 aY0 aY1
        have rx := rnd2_bd ((bX - aX) * (dtp (bX - aX) (bY - aY) (pX - aX) (pY - aY))) (dtp (bX - aX) (bY - aY) (bX - aX) (bY - aY)) (by omega)
        have ry := rnd2_bd ((bY - aY) * (dtp (bX - aX) (bY - aY) (pX - aX) (pY - aY))) (dtp (bX - aX) (bY - aY) (bX - aX) (bY - aY)) (by omega)
        rw [← mqv_rnd _ _ _ (by omega) x0, iabs_pos _ (by omega)] at rx
        rw [← mqv_rnd _ _ _ (by omega) y0, iabs_pos _ (by omega)] at ry
        generalize mqv 2 (bX - aX) (dtp (bX - aX) (bY - aY) (pX - aX) (pY - aY)) (dtp (bX - aX) (bY - aY) (bX - aX) (bY - aY)) = fx at *
        generalize mqv 2 (bY - aY) (dtp (bX - aX) (bY - aY) (pX - aX) (pY - aY)) (dtp (bX - aX) (bY - aY) (bX - aX) (bY - aY)) = fy at *
        rw [E0] at F1 F2
        generalize mvX aX aY (bX - aX) (bY - aY) (dtp (bX - aX) (bY - aY) (pX - aX) (pY - aY)) (dtp (bX - aX) (bY - aY) (bX - aX) (bY - aY)) = X at *
        generalize mvY aX aY (bX - aX) (bY - aY) (dtp (bX - aX) (bY - aY) (pX - aX) (pY - aY)) (dtp (bX - aX) (bY - aY) (bX - aX) (bY - aY)) = Y at *
        obtain ⟨X0, X1, Y0, Y1⟩ := pok_yes hq
        have O1 := fun w => offset_ok aX aY bX bY pX pY ha hb hp hne w
        have D1 := fun w => dist_ok pX pY X Y hp hq w
        have ed : dtp (X - pX) (Y - pY) (X - pX) (Y - pY) = dtp (pX - aX - fx) (pY - aY - fy) (pX - aX - fx) (pY - aY - fy) := by
          have u1 : X - pX = -(pX - aX - fx) := by omega
          have u2 : Y - pY = -(pY - aY - fy) := by omega
          rw [u1, u2, dtp_neg2]
        rw [ed] at D1
        obtain ⟨q0, q1, r0, r1, r2, r3⟩ := rtl_ok (crs (bX - aX) (bY - aY) (pX - aX) (pY - aY)) (dtp (bX - aX) (bY - aY) (bX - aX) (bY - aY)) 32000000000000 sp (by omega) hc1
        have lE := dtp_lim4 (X - pX) (Y - pY) (X - pX) (Y - pY) (by omega) (by omega) (by omega) (by omega) (by omega) (by omega) (by omega) (by omega)
        rw [ed] at lE
        obtain ⟨g0, g1⟩ := foot_near (bX - aX) (bY - aY) (pX - aX) (pY - aY) fx fy (rtl (crs (bX - aX) (bY - aY) (pX - aX) (pY - aY)) (dtp (bX - aX) (bY - aY) (bX - aX) (bY - aY))) sp (by omega) ⟨by omega, by omega⟩ ⟨by omega, by omega⟩ r0 r1 r2
        have nn := dtp_nn (pX - aX - fx) (pY - aY - fy)
        have i0 := (isq_ok _ nn (by omega)).1
        have la := (len_abs (crs (bX - aX) (bY - aY) (pX - aX) (pY - aY)) (dtp (bX - aX) (bY - aY) (bX - aX) (bY - aY)) r0).1
        generalize isq (dtp (pX - aX - fx) (pY - aY - fy) (pX - aX - fx) (pY - aY - fy)) = DD at *
        generalize rtl (crs (bX - aX) (bY - aY) (pX - aX) (pY - aY)) (dtp (bX - aX) (bY - aY) (bX - aX) (bY - aY)) = RR at *
        obtain ⟨O, hO⟩ : ∃ A, -len (crs (bX - aX) (bY - aY) (pX - aX) (pY - aY)) (dtp (bX - aX) (bY - aY) (bX - aX) (bY - aY)) = A := ⟨_, rfl⟩
        rw [hO] at O1
        have O0 : -5656854 ≤ O ∧ O ≤ 5656854 ∧ (O = RR ∨ O = -RR) := by omega
        generalize len (dtp (bX - aX) (bY - aY) (pX - aX) (pY - aY)) (dtp (bX - aX) (bY - aY) (bX - aX) (bY - aY)) = B at *
        clear la hO ed nn lE r1 r2 r3 q0 q1 hX hY rx ry x0 y0 hc1 hc2 hs
        obtain ⟨O0, O1', O2⟩ := O0
        have EQ := fun w => eqP_yes X Y w
        have mxl : ∀ (ts : Array TypeId) (ty : TypeId) (w : World), (Builtin.max_ ts ty #[.int .i64 O, .int .i64 (-O)]).run Try.prog w = .ok (.int .i64 RR) w := fun ts ty w => by rw [run_max2i]; congr 2; split <;> omega
        have HF1 := Lib.hid F1
        have HF2 := Lib.hid F2
        have HO1 := Lib.hid O1
        have HD1 := Lib.hid D1
        clear F1 F2 O1 D1
        go_enter Try.func9, Try.ntmps9
        go_wp2_with fail
        with_reducible refine (awake_w _).mono ?_
        rintro e w1 ⟨rfl, hk1⟩
        refine kuz (b := w.heap.size) hk1 (by first | (simp; done) | (simp; omega) | omega) ?_
        intro ha hb hz1_0 hn1_0 hm1_0
        have hf1_0_0 : w1.cell? ⟨w.heap.size, 0, none⟩ = some (.int .i64 aX) := (ha _).trans (by first | with_reducible assumption | (simp (maxDischargeDepth := 7) [go_sem]; done) | (simp (maxDischargeDepth := 7) [go_sem, *]; done))
        have hf1_0_1 : w1.cell? ⟨w.heap.size, 1, none⟩ = some (.int .i64 aY) := (ha _).trans (by first | with_reducible assumption | (simp (maxDischargeDepth := 7) [go_sem]; done) | (simp (maxDischargeDepth := 7) [go_sem, *]; done))
        try have hg1_0 : ∀ o, w1.frozen? ⟨w.heap.size, o, none⟩ = false := by intro o; rw [hb]; first | (simp (maxDischargeDepth := 7) [go_sem]; done) | (simp (maxDischargeDepth := 7) [go_sem, *]; done)
        clear ha hb
        refine kuz (b := w.heap.size + 1) hk1 (by first | (simp; done) | (simp; omega) | omega) ?_
        intro ha hb hz1_1 hn1_1 hm1_1
        have hf1_1_0 : w1.cell? ⟨w.heap.size + 1, 0, none⟩ = some (.int .i64 bX) := (ha _).trans (by first | with_reducible assumption | (simp (maxDischargeDepth := 7) [go_sem]; done) | (simp (maxDischargeDepth := 7) [go_sem, *]; done))
        have hf1_1_1 : w1.cell? ⟨w.heap.size + 1, 1, none⟩ = some (.int .i64 bY) := (ha _).trans (by first | with_reducible assumption | (simp (maxDischargeDepth := 7) [go_sem]; done) | (simp (maxDischargeDepth := 7) [go_sem, *]; done))
        try have hg1_1 : ∀ o, w1.frozen? ⟨w.heap.size + 1, o, none⟩ = false := by intro o; rw [hb]; first | (simp (maxDischargeDepth := 7) [go_sem]; done) | (simp (maxDischargeDepth := 7) [go_sem, *]; done)
        clear ha hb
        refine kuz (b := w.heap.size + 2) hk1 (by first | (simp; done) | (simp; omega) | omega) ?_
        intro ha hb hz1_2 hn1_2 hm1_2
        have hf1_2_0 : w1.cell? ⟨w.heap.size + 2, 0, none⟩ = some (.int .i64 pX) := (ha _).trans (by first | with_reducible assumption | (simp (maxDischargeDepth := 7) [go_sem]; done) | (simp (maxDischargeDepth := 7) [go_sem, *]; done))
        have hf1_2_1 : w1.cell? ⟨w.heap.size + 2, 1, none⟩ = some (.int .i64 pY) := (ha _).trans (by first | with_reducible assumption | (simp (maxDischargeDepth := 7) [go_sem]; done) | (simp (maxDischargeDepth := 7) [go_sem, *]; done))
        try have hg1_2 : ∀ o, w1.frozen? ⟨w.heap.size + 2, o, none⟩ = false := by intro o; rw [hb]; first | (simp (maxDischargeDepth := 7) [go_sem]; done) | (simp (maxDischargeDepth := 7) [go_sem, *]; done)
        clear ha hb
        go_wp2_with fail
        with_reducible refine (HF1.out _).mono ?_
        rintro e w2 ⟨rfl, hk2⟩
        refine kuz (b := w.heap.size) hk2 (by first | (simp; done) | (simp; omega) | omega) ?_
        intro ha hb hz2_0 hn2_0 hm2_0
        have hf2_0_0 : w2.cell? ⟨w.heap.size, 0, none⟩ = some (.int .i64 aX) := (ha _).trans (by first | with_reducible assumption | (simp (maxDischargeDepth := 7) [go_sem]; done) | (simp (maxDischargeDepth := 7) [go_sem, *]; done))
        have hf2_0_1 : w2.cell? ⟨w.heap.size, 1, none⟩ = some (.int .i64 aY) := (ha _).trans (by first | with_reducible assumption | (simp (maxDischargeDepth := 7) [go_sem]; done) | (simp (maxDischargeDepth := 7) [go_sem, *]; done))
        try have hg2_0 : ∀ o, w2.frozen? ⟨w.heap.size, o, none⟩ = false := by intro o; rw [hb]; first | (simp (maxDischargeDepth := 7) [go_sem]; done) | (simp (maxDischargeDepth := 7) [go_sem, *]; done)
        clear ha hb
        refine kuz (b := w.heap.size + 1) hk2 (by first | (simp; done) | (simp; omega) | omega) ?_
        intro ha hb hz2_1 hn2_1 hm2_1
        have hf2_1_0 : w2.cell? ⟨w.heap.size + 1, 0, none⟩ = some (.int .i64 bX) := (ha _).trans (by first | with_reducible assumption | (simp (maxDischargeDepth := 7) [go_sem]; done) | (simp (maxDischargeDepth := 7) [go_sem, *]; done))
        have hf2_1_1 : w2.cell? ⟨w.heap.size + 1, 1, none⟩ = some (.int .i64 bY) := (ha _).trans (by first | with_reducible assumption | (simp (maxDischargeDepth := 7) [go_sem]; done) | (simp (maxDischargeDepth := 7) [go_sem, *]; done))
        try have hg2_1 : ∀ o, w2.frozen? ⟨w.heap.size + 1, o, none⟩ = false := by intro o; rw [hb]; first | (simp (maxDischargeDepth := 7) [go_sem]; done) | (simp (maxDischargeDepth := 7) [go_sem, *]; done)
        clear ha hb
        refine kuz (b := w.heap.size + 2) hk2 (by first | (simp; done) | (simp; omega) | omega) ?_
        intro ha hb hz2_2 hn2_2 hm2_2
        have hf2_2_0 : w2.cell? ⟨w.heap.size + 2, 0, none⟩ = some (.int .i64 pX) := (ha _).trans (by first | with_reducible assumption | (simp (maxDischargeDepth := 7) [go_sem]; done) | (simp (maxDischargeDepth := 7) [go_sem, *]; done))
        have hf2_2_1 : w2.cell? ⟨w.heap.size + 2, 1, none⟩ = some (.int .i64 pY) := (ha _).trans (by first | with_reducible assumption | (simp (maxDischargeDepth := 7) [go_sem]; done) | (simp (maxDischargeDepth := 7) [go_sem, *]; done))
        try have hg2_2 : ∀ o, w2.frozen? ⟨w.heap.size + 2, o, none⟩ = false := by intro o; rw [hb]; first | (simp (maxDischargeDepth := 7) [go_sem]; done) | (simp (maxDischargeDepth := 7) [go_sem, *]; done)
        clear ha hb
        (try clear hf1_0_0); (try clear hf1_0_1); (try clear hf1_1_0); (try clear hf1_1_1); (try clear hf1_2_0); (try clear hf1_2_1); (try clear hg1_0); (try clear hg1_1); (try clear hg1_2); (try clear hz1_1); (try clear hz1_2)
        go_wp2_with fail
        with_reducible refine (HF2.out _).mono ?_
        rintro e w3 ⟨rfl, hk3⟩
        refine kuz (b := w.heap.size) hk3 (by first | (simp; done) | (simp; omega) | omega) ?_
        intro ha hb hz3_0 hn3_0 hm3_0
        have hf3_0_0 : w3.cell? ⟨w.heap.size, 0, none⟩ = some (.int .i64 aX) := (ha _).trans (by first | with_reducible assumption | (simp (maxDischargeDepth := 7) [go_sem]; done) | (simp (maxDischargeDepth := 7) [go_sem, *]; done))
        have hf3_0_1 : w3.cell? ⟨w.heap.size, 1, none⟩ = some (.int .i64 aY) := (ha _).trans (by first | with_reducible assumption | (simp (maxDischargeDepth := 7) [go_sem]; done) | (simp (maxDischargeDepth := 7) [go_sem, *]; done))
        try have hg3_0 : ∀ o, w3.frozen? ⟨w.heap.size, o, none⟩ = false := by intro o; rw [hb]; first | (simp (maxDischargeDepth := 7) [go_sem]; done) | (simp (maxDischargeDepth := 7) [go_sem, *]; done)
        clear ha hb
        refine kuz (b := w.heap.size + 1) hk3 (by first | (simp; done) | (simp; omega) | omega) ?_
        intro ha hb hz3_1 hn3_1 hm3_1
        have hf3_1_0 : w3.cell? ⟨w.heap.size + 1, 0, none⟩ = some (.int .i64 bX) := (ha _).trans (by first | with_reducible assumption | (simp (maxDischargeDepth := 7) [go_sem]; done) | (simp (maxDischargeDepth := 7) [go_sem, *]; done))
        have hf3_1_1 : w3.cell? ⟨w.heap.size + 1, 1, none⟩ = some (.int .i64 bY) := (ha _).trans (by first | with_reducible assumption | (simp (maxDischargeDepth := 7) [go_sem]; done) | (simp (maxDischargeDepth := 7) [go_sem, *]; done))
        try have hg3_1 : ∀ o, w3.frozen? ⟨w.heap.size + 1, o, none⟩ = false := by intro o; rw [hb]; first | (simp (maxDischargeDepth := 7) [go_sem]; done) | (simp (maxDischargeDepth := 7) [go_sem, *]; done)
        clear ha hb
        refine kuz (b := w.heap.size + 2) hk3 (by first | (simp; done) | (simp; omega) | omega) ?_
        intro ha hb hz3_2 hn3_2 hm3_2
        have hf3_2_0 : w3.cell? ⟨w.heap.size + 2, 0, none⟩ = some (.int .i64 pX) := (ha _).trans (by first | with_reducible assumption | (simp (maxDischargeDepth := 7) [go_sem]; done) | (simp (maxDischargeDepth := 7) [go_sem, *]; done))
        have hf3_2_1 : w3.cell? ⟨w.heap.size + 2, 1, none⟩ = some (.int .i64 pY) := (ha _).trans (by first | with_reducible assumption | (simp (maxDischargeDepth := 7) [go_sem]; done) | (simp (maxDischargeDepth := 7) [go_sem, *]; done))
        try have hg3_2 : ∀ o, w3.frozen? ⟨w.heap.size + 2, o, none⟩ = false := by intro o; rw [hb]; first | (simp (maxDischargeDepth := 7) [go_sem]; done) | (simp (maxDischargeDepth := 7) [go_sem, *]; done)
        clear ha hb
        refine kuz (b := w2.heap.size) hk3 (by first | (simp; done) | (simp; omega) | omega) ?_
        intro ha hb hz3_3 hn3_3 hm3_3
        have hf3_3_0 : w3.cell? ⟨w2.heap.size, 0, none⟩ = some (.int .i64 X) := (ha _).trans (by first | with_reducible assumption | (simp (maxDischargeDepth := 7) [go_sem]; done) | (simp (maxDischargeDepth := 7) [go_sem, *]; done))
        have hf3_3_1 : w3.cell? ⟨w2.heap.size, 1, none⟩ = some (.int .i64 Y) := (ha _).trans (by first | with_reducible assumption | (simp (maxDischargeDepth := 7) [go_sem]; done) | (simp (maxDischargeDepth := 7) [go_sem, *]; done))
        try have hg3_3 : ∀ o, w3.frozen? ⟨w2.heap.size, o, none⟩ = false := by intro o; rw [hb]; first | (simp (maxDischargeDepth := 7) [go_sem]; done) | (simp (maxDischargeDepth := 7) [go_sem, *]; done)
        clear ha hb
        (try clear hf2_0_0); (try clear hf2_0_1); (try clear hf2_1_0); (try clear hf2_1_1); (try clear hf2_2_0); (try clear hf2_2_1); (try clear hg2_0); (try clear hg2_1); (try clear hg2_2); (try clear hz2_1); (try clear hz2_2)
        go_wp2_with fail
        with_reducible refine (HO1.out _).mono ?_
        rintro e w4 ⟨rfl, hk4⟩
        refine kuz (b := w.heap.size) hk4 (by first | (simp; done) | (simp; omega) | omega) ?_
        intro ha hb hz4_0 hn4_0 hm4_0
        have hf4_0_0 : w4.cell? ⟨w.heap.size, 0, none⟩ = some (.int .i64 aX) := (ha _).trans (by first | with_reducible assumption | (simp (maxDischargeDepth := 7) [go_sem]; done) | (simp (maxDischargeDepth := 7) [go_sem, *]; done))
        have hf4_0_1 : w4.cell? ⟨w.heap.size, 1, none⟩ = some (.int .i64 aY) := (ha _).trans (by first | with_reducible assumption | (simp (maxDischargeDepth := 7) [go_sem]; done) | (simp (maxDischargeDepth := 7) [go_sem, *]; done))
        try have hg4_0 : ∀ o, w4.frozen? ⟨w.heap.size, o, none⟩ = false := by intro o; rw [hb]; first | (simp (maxDischargeDepth := 7) [go_sem]; done) | (simp (maxDischargeDepth := 7) [go_sem, *]; done)
        clear ha hb
        refine kuz (b := w.heap.size + 1) hk4 (by first | (simp; done) | (simp; omega) | omega) ?_
        intro ha hb hz4_1 hn4_1 hm4_1
        have hf4_1_0 : w4.cell? ⟨w.heap.size + 1, 0, none⟩ = some (.int .i64 bX) := (ha _).trans (by first | with_reducible assumption | (simp (maxDischargeDepth := 7) [go_sem]; done) | (simp (maxDischargeDepth := 7) [go_sem, *]; done))
        have hf4_1_1 : w4.cell? ⟨w.heap.size + 1, 1, none⟩ = some (.int .i64 bY) := (ha _).trans (by first | with_reducible assumption | (simp (maxDischargeDepth := 7) [go_sem]; done) | (simp (maxDischargeDepth := 7) [go_sem, *]; done))
        try have hg4_1 : ∀ o, w4.frozen? ⟨w.heap.size + 1, o, none⟩ = false := by intro o; rw [hb]; first | (simp (maxDischargeDepth := 7) [go_sem]; done) | (simp (maxDischargeDepth := 7) [go_sem, *]; done)
        clear ha hb
        refine kuz (b := w.heap.size + 2) hk4 (by first | (simp; done) | (simp; omega) | omega) ?_
        intro ha hb hz4_2 hn4_2 hm4_2
        have hf4_2_0 : w4.cell? ⟨w.heap.size + 2, 0, none⟩ = some (.int .i64 pX) := (ha _).trans (by first | with_reducible assumption | (simp (maxDischargeDepth := 7) [go_sem]; done) | (simp (maxDischargeDepth := 7) [go_sem, *]; done))
        have hf4_2_1 : w4.cell? ⟨w.heap.size + 2, 1, none⟩ = some (.int .i64 pY) := (ha _).trans (by first | with_reducible assumption | (simp (maxDischargeDepth := 7) [go_sem]; done) | (simp (maxDischargeDepth := 7) [go_sem, *]; done))
        try have hg4_2 : ∀ o, w4.frozen? ⟨w.heap.size + 2, o, none⟩ = false := by intro o; rw [hb]; first | (simp (maxDischargeDepth := 7) [go_sem]; done) | (simp (maxDischargeDepth := 7) [go_sem, *]; done)
        clear ha hb
        refine kuz (b := w2.heap.size) hk4 (by first | (simp; done) | (simp; omega) | omega) ?_
        intro ha hb hz4_3 hn4_3 hm4_3
        have hf4_3_0 : w4.cell? ⟨w2.heap.size, 0, none⟩ = some (.int .i64 X) := (ha _).trans (by first | with_reducible assumption | (simp (maxDischargeDepth := 7) [go_sem]; done) | (simp (maxDischargeDepth := 7) [go_sem, *]; done))
        have hf4_3_1 : w4.cell? ⟨w2.heap.size, 1, none⟩ = some (.int .i64 Y) := (ha _).trans (by first | with_reducible assumption | (simp (maxDischargeDepth := 7) [go_sem]; done) | (simp (maxDischargeDepth := 7) [go_sem, *]; done))
        try have hg4_3 : ∀ o, w4.frozen? ⟨w2.heap.size, o, none⟩ = false := by intro o; rw [hb]; first | (simp (maxDischargeDepth := 7) [go_sem]; done) | (simp (maxDischargeDepth := 7) [go_sem, *]; done)
        clear ha hb
        refine kuz (b := w3.heap.size) hk4 (by first | (simp; done) | (simp; omega) | omega) ?_
        intro ha hb hz4_4 hn4_4 hm4_4
        have hf4_4_0 : w4.cell? ⟨w3.heap.size, 0, none⟩ = some (.int .i64 X) := (ha _).trans (by first | with_reducible assumption | (simp (maxDischargeDepth := 7) [go_sem]; done) | (simp (maxDischargeDepth := 7) [go_sem, *]; done))
        have hf4_4_1 : w4.cell? ⟨w3.heap.size, 1, none⟩ = some (.int .i64 Y) := (ha _).trans (by first | with_reducible assumption | (simp (maxDischargeDepth := 7) [go_sem]; done) | (simp (maxDischargeDepth := 7) [go_sem, *]; done))
        try have hg4_4 : ∀ o, w4.frozen? ⟨w3.heap.size, o, none⟩ = false := by intro o; rw [hb]; first | (simp (maxDischargeDepth := 7) [go_sem]; done) | (simp (maxDischargeDepth := 7) [go_sem, *]; done)
        clear ha hb
        (try clear hf3_0_0); (try clear hf3_0_1); (try clear hf3_1_0); (try clear hf3_1_1); (try clear hf3_2_0); (try clear hf3_2_1); (try clear hf3_3_0); (try clear hf3_3_1); (try clear hg3_0); (try clear hg3_1); (try clear hg3_2); (try clear hg3_3); (try clear hz3_1); (try clear hz3_2); (try clear hz3_3)
        go_wp2_with fail
        with_reducible refine (HD1.out _).mono ?_
        rintro e w5 ⟨rfl, hk5⟩
        refine kuz (b := w.heap.size) hk5 (by first | (simp; done) | (simp; omega) | omega) ?_
        intro ha hb hz5_0 hn5_0 hm5_0
        have hf5_0_0 : w5.cell? ⟨w.heap.size, 0, none⟩ = some (.int .i64 aX) := (ha _).trans (by first | with_reducible assumption | (simp (maxDischargeDepth := 7) [go_sem]; done) | (simp (maxDischargeDepth := 7) [go_sem, *]; done))
        have hf5_0_1 : w5.cell? ⟨w.heap.size, 1, none⟩ = some (.int .i64 aY) := (ha _).trans (by first | with_reducible assumption | (simp (maxDischargeDepth := 7) [go_sem]; done) | (simp (maxDischargeDepth := 7) [go_sem, *]; done))
        try have hg5_0 : ∀ o, w5.frozen? ⟨w.heap.size, o, none⟩ = false := by intro o; rw [hb]; first | (simp (maxDischargeDepth := 7) [go_sem]; done) | (simp (maxDischargeDepth := 7) [go_sem, *]; done)
        clear ha hb
        refine kuz (b := w.heap.size + 1) hk5 (by first | (simp; done) | (simp; omega) | omega) ?_
        intro ha hb hz5_1 hn5_1 hm5_1
        have hf5_1_0 : w5.cell? ⟨w.heap.size + 1, 0, none⟩ = some (.int .i64 bX) := (ha _).trans (by first | with_reducible assumption | (simp (maxDischargeDepth := 7) [go_sem]; done) | (simp (maxDischargeDepth := 7) [go_sem, *]; done))
        have hf5_1_1 : w5.cell? ⟨w.heap.size + 1, 1, none⟩ = some (.int .i64 bY) := (ha _).trans (by first | with_reducible assumption | (simp (maxDischargeDepth := 7) [go_sem]; done) | (simp (maxDischargeDepth := 7) [go_sem, *]; done))
        try have hg5_1 : ∀ o, w5.frozen? ⟨w.heap.size + 1, o, none⟩ = false := by intro o; rw [hb]; first | (simp (maxDischargeDepth := 7) [go_sem]; done) | (simp (maxDischargeDepth := 7) [go_sem, *]; done)
        clear ha hb
        refine kuz (b := w.heap.size + 2) hk5 (by first | (simp; done) | (simp; omega) | omega) ?_
        intro ha hb hz5_2 hn5_2 hm5_2
        have hf5_2_0 : w5.cell? ⟨w.heap.size + 2, 0, none⟩ = some (.int .i64 pX) := (ha _).trans (by first | with_reducible assumption | (simp (maxDischargeDepth := 7) [go_sem]; done) | (simp (maxDischargeDepth := 7) [go_sem, *]; done))
        have hf5_2_1 : w5.cell? ⟨w.heap.size + 2, 1, none⟩ = some (.int .i64 pY) := (ha _).trans (by first | with_reducible assumption | (simp (maxDischargeDepth := 7) [go_sem]; done) | (simp (maxDischargeDepth := 7) [go_sem, *]; done))
        try have hg5_2 : ∀ o, w5.frozen? ⟨w.heap.size + 2, o, none⟩ = false := by intro o; rw [hb]; first | (simp (maxDischargeDepth := 7) [go_sem]; done) | (simp (maxDischargeDepth := 7) [go_sem, *]; done)
        clear ha hb
        refine kuz (b := w2.heap.size) hk5 (by first | (simp; done) | (simp; omega) | omega) ?_
        intro ha hb hz5_3 hn5_3 hm5_3
        have hf5_3_0 : w5.cell? ⟨w2.heap.size, 0, none⟩ = some (.int .i64 X) := (ha _).trans (by first | with_reducible assumption | (simp (maxDischargeDepth := 7) [go_sem]; done) | (simp (maxDischargeDepth := 7) [go_sem, *]; done))
        have hf5_3_1 : w5.cell? ⟨w2.heap.size, 1, none⟩ = some (.int .i64 Y) := (ha _).trans (by first | with_reducible assumption | (simp (maxDischargeDepth := 7) [go_sem]; done) | (simp (maxDischargeDepth := 7) [go_sem, *]; done))
        try have hg5_3 : ∀ o, w5.frozen? ⟨w2.heap.size, o, none⟩ = false := by intro o; rw [hb]; first | (simp (maxDischargeDepth := 7) [go_sem]; done) | (simp (maxDischargeDepth := 7) [go_sem, *]; done)
        clear ha hb
        refine kuz (b := w3.heap.size) hk5 (by first | (simp; done) | (simp; omega) | omega) ?_
        intro ha hb hz5_4 hn5_4 hm5_4
        have hf5_4_0 : w5.cell? ⟨w3.heap.size, 0, none⟩ = some (.int .i64 X) := (ha _).trans (by first | with_reducible assumption | (simp (maxDischargeDepth := 7) [go_sem]; done) | (simp (maxDischargeDepth := 7) [go_sem, *]; done))
        have hf5_4_1 : w5.cell? ⟨w3.heap.size, 1, none⟩ = some (.int .i64 Y) := (ha _).trans (by first | with_reducible assumption | (simp (maxDischargeDepth := 7) [go_sem]; done) | (simp (maxDischargeDepth := 7) [go_sem, *]; done))
        try have hg5_4 : ∀ o, w5.frozen? ⟨w3.heap.size, o, none⟩ = false := by intro o; rw [hb]; first | (simp (maxDischargeDepth := 7) [go_sem]; done) | (simp (maxDischargeDepth := 7) [go_sem, *]; done)
        clear ha hb
        (try clear hf4_0_0); (try clear hf4_0_1); (try clear hf4_1_0); (try clear hf4_1_1); (try clear hf4_2_0); (try clear hf4_2_1); (try clear hf4_3_0); (try clear hf4_3_1); (try clear hf4_4_0); (try clear hf4_4_1); (try clear hg4_0); (try clear hg4_1); (try clear hg4_2); (try clear hg4_3); (try clear hg4_4); (try clear hz4_1); (try clear hz4_2); (try clear hz4_3); (try clear hz4_4)
        all_goals go_wp2_with fail
        all_goals first | (go_ret; refine ⟨?_, (by repeat (first | with_reducible exact Kept.refl _ | with_reducible assumption | with_reducible refine Kept.setCell ?_ (by first | (simp; done) | (simp; omega) | omega) _ | with_reducible refine Kept.alloc ?_ _ | with_reducible refine Kept.drewN ?_ _ | with_reducible refine Kept.drew ?_ | with_reducible refine Kept.trans ?_ (by with_reducible assumption) | with_reducible refine Kept.dr ?_ (by with_reducible assumption)))⟩; first | rfl | (refine retb ?_; simp; done) | (refine retb ?_; simp; omega)) | (exfalso; omega)
      · obtain ⟨aX0, aX1, aY0, aY1⟩ := pok_yes ha
        obtain ⟨bX0, bX1, bY0, bY1⟩ := pok_yes hb
        obtain ⟨pX0, pX1, pY0, pY1⟩ := pok_yes hp
        obtain ⟨lm00, lm01⟩ := crs_lim4 (bX - aX) (bY - aY) (pX - aX) (pY - aY) (by omega) (by omega) (by omega) (by omega) (by omega) (by omega) (by omega) (by omega)
        obtain ⟨lm10, lm11⟩ := dtp_lim4 (bX - aX) (bY - aY) (pX - aX) (pY - aY) (by omega) (by omega) (by omega) (by omega) (by omega) (by omega) (by omega) (by omega)
        obtain ⟨lm20, lm21⟩ := dtp_lim4 (bX - aX) (bY - aY) (bX - aX) (bY - aY) (by omega) (by omega) (by omega) (by omega) (by omega) (by omega) (by omega) (by omega)
        have sp := dtp_pos (bX - aX) (bY - aY) (by omega)
        have cq := cauchy' (bX - aX) (bY - aY) (pX - aX) (pY - aY)
        have dq := cauchy (bX - aX) (bY - aY) (pX - aX) (pY - aY)
        have qn := (dtp_lim4 (pX - aX) (pY - aY) (pX - aX) (pY - aY) (by omega) (by omega) (by omega) (by omega) (by omega) (by omega) (by omega) (by omega)).2
        have m1 := Int.mul_le_mul_of_nonneg_left qn (show 0 ≤ dtp (bX - aX) (bY - aY) (bX - aX) (bY - aY) by omega)
        rw [Int.mul_comm (dtp (bX - aX) (bY - aY) (bX - aX) (bY - aY)) 32000000000000] at m1
        have hc1 : crs (bX - aX) (bY - aY) (pX - aX) (pY - aY) * (crs (bX - aX) (bY - aY) (pX - aX) (pY - aY)) ≤ 32000000000000 * dtp (bX - aX) (bY - aY) (bX - aX) (bY - aY) := by omega
        have hc2 : dtp (bX - aX) (bY - aY) (pX - aX) (pY - aY) * (dtp (bX - aX) (bY - aY) (pX - aX) (pY - aY)) ≤ 32000000000000 * dtp (bX - aX) (bY - aY) (bX - aX) (bY - aY) := by omega
        clear cq dq qn m1
        obtain ⟨ll0, ll1⟩ := len_lim (crs (bX - aX) (bY - aY) (pX - aX) (pY - aY)) (dtp (bX - aX) (bY - aY) (bX - aX) (bY - aY)) sp hc1
        obtain ⟨lm0, lm1⟩ := len_lim (dtp (bX - aX) (bY - aY) (pX - aX) (pY - aY)) (dtp (bX - aX) (bY - aY) (bX - aX) (bY - aY)) sp hc2
        have F1 := fun w => foot_ok aX aY bX bY pX pY ha hb hp hne w
        have F2 := fun w => ref_foot_ok aX aY bX bY pX pY ha hb hp hne w
        obtain ⟨E0, x0, y0⟩ := hE
        rw [E0, x0, y0] at F1 F2
        have EQ := fun w => eqP_yes 0 0 w
        have HF1 := Lib.hid F1
        have HF2 := Lib.hid F2
        clear F1 F2
        go_enter Try.func9, Try.ntmps9
        go_wp2_with fail
        with_reducible refine (awake_w _).mono ?_
        rintro e w1 ⟨rfl, hk1⟩
        refine kuz (b := w.heap.size) hk1 (by first | (simp; done) | (simp; omega) | omega) ?_
        intro ha hb hz1_0 hn1_0 hm1_0
        have hf1_0_0 : w1.cell? ⟨w.heap.size, 0, none⟩ = some (.int .i64 aX) := (ha _).trans (by first | with_reducible assumption | (simp (maxDischargeDepth := 7) [go_sem]; done) | (simp (maxDischargeDepth := 7) [go_sem, *]; done))
        have hf1_0_1 : w1.cell? ⟨w.heap.size, 1, none⟩ = some (.int .i64 aY) := (ha _).trans (by first | with_reducible assumption | (simp (maxDischargeDepth := 7) [go_sem]; done) | (simp (maxDischargeDepth := 7) [go_sem, *]; done))
        try have hg1_0 : ∀ o, w1.frozen? ⟨w.heap.size, o, none⟩ = false := by intro o; rw [hb]; first | (simp (maxDischargeDepth := 7) [go_sem]; done) | (simp (maxDischargeDepth := 7) [go_sem, *]; done)
        clear ha hb
        refine kuz (b := w.heap.size + 1) hk1 (by first | (simp; done) | (simp; omega) | omega) ?_
        intro ha hb hz1_1 hn1_1 hm1_1
        have hf1_1_0 : w1.cell? ⟨w.heap.size + 1, 0, none⟩ = some (.int .i64 bX) := (ha _).trans (by first | with_reducible assumption | (simp (maxDischargeDepth := 7) [go_sem]; done) | (simp (maxDischargeDepth := 7) [go_sem, *]; done))
        have hf1_1_1 : w1.cell? ⟨w.heap.size + 1, 1, none⟩ = some (.int .i64 bY) := (ha _).trans (by first | with_reducible assumption | (simp (maxDischargeDepth := 7) [go_sem]; done) | (simp (maxDischargeDepth := 7) [go_sem, *]; done))
        try have hg1_1 : ∀ o, w1.frozen? ⟨w.heap.size + 1, o, none⟩ = false := by intro o; rw [hb]; first | (simp (maxDischargeDepth := 7) [go_sem]; done) | (simp (maxDischargeDepth := 7) [go_sem, *]; done)
        clear ha hb
        refine kuz (b := w.heap.size + 2) hk1 (by first | (simp; done) | (simp; omega) | omega) ?_
        intro ha hb hz1_2 hn1_2 hm1_2
        have hf1_2_0 : w1.cell? ⟨w.heap.size + 2, 0, none⟩ = some (.int .i64 pX) := (ha _).trans (by first | with_reducible assumption | (simp (maxDischargeDepth := 7) [go_sem]; done) | (simp (maxDischargeDepth := 7) [go_sem, *]; done))
        have hf1_2_1 : w1.cell? ⟨w.heap.size + 2, 1, none⟩ = some (.int .i64 pY) := (ha _).trans (by first | with_reducible assumption | (simp (maxDischargeDepth := 7) [go_sem]; done) | (simp (maxDischargeDepth := 7) [go_sem, *]; done))
        try have hg1_2 : ∀ o, w1.frozen? ⟨w.heap.size + 2, o, none⟩ = false := by intro o; rw [hb]; first | (simp (maxDischargeDepth := 7) [go_sem]; done) | (simp (maxDischargeDepth := 7) [go_sem, *]; done)
        clear ha hb
        go_wp2_with fail
        with_reducible refine (HF1.out _).mono ?_
        rintro e w2 ⟨rfl, hk2⟩
        refine kuz (b := w.heap.size) hk2 (by first | (simp; done) | (simp; omega) | omega) ?_
        intro ha hb hz2_0 hn2_0 hm2_0
        have hf2_0_0 : w2.cell? ⟨w.heap.size, 0, none⟩ = some (.int .i64 aX) := (ha _).trans (by first | with_reducible assumption | (simp (maxDischargeDepth := 7) [go_sem]; done) | (simp (maxDischargeDepth := 7) [go_sem, *]; done))
        have hf2_0_1 : w2.cell? ⟨w.heap.size, 1, none⟩ = some (.int .i64 aY) := (ha _).trans (by first | with_reducible assumption | (simp (maxDischargeDepth := 7) [go_sem]; done) | (simp (maxDischargeDepth := 7) [go_sem, *]; done))
        try have hg2_0 : ∀ o, w2.frozen? ⟨w.heap.size, o, none⟩ = false := by intro o; rw [hb]; first | (simp (maxDischargeDepth := 7) [go_sem]; done) | (simp (maxDischargeDepth := 7) [go_sem, *]; done)
        clear ha hb
        refine kuz (b := w.heap.size + 1) hk2 (by first | (simp; done) | (simp; omega) | omega) ?_
        intro ha hb hz2_1 hn2_1 hm2_1
        have hf2_1_0 : w2.cell? ⟨w.heap.size + 1, 0, none⟩ = some (.int .i64 bX) := (ha _).trans (by first | with_reducible assumption | (simp (maxDischargeDepth := 7) [go_sem]; done) | (simp (maxDischargeDepth := 7) [go_sem, *]; done))
        have hf2_1_1 : w2.cell? ⟨w.heap.size + 1, 1, none⟩ = some (.int .i64 bY) := (ha _).trans (by first | with_reducible assumption | (simp (maxDischargeDepth := 7) [go_sem]; done) | (simp (maxDischargeDepth := 7) [go_sem, *]; done))
        try have hg2_1 : ∀ o, w2.frozen? ⟨w.heap.size + 1, o, none⟩ = false := by intro o; rw [hb]; first | (simp (maxDischargeDepth := 7) [go_sem]; done) | (simp (maxDischargeDepth := 7) [go_sem, *]; done)
        clear ha hb
        refine kuz (b := w.heap.size + 2) hk2 (by first | (simp; done) | (simp; omega) | omega) ?_
        intro ha hb hz2_2 hn2_2 hm2_2
        have hf2_2_0 : w2.cell? ⟨w.heap.size + 2, 0, none⟩ = some (.int .i64 pX) := (ha _).trans (by first | with_reducible assumption | (simp (maxDischargeDepth := 7) [go_sem]; done) | (simp (maxDischargeDepth := 7) [go_sem, *]; done))
        have hf2_2_1 : w2.cell? ⟨w.heap.size + 2, 1, none⟩ = some (.int .i64 pY) := (ha _).trans (by first | with_reducible assumption | (simp (maxDischargeDepth := 7) [go_sem]; done) | (simp (maxDischargeDepth := 7) [go_sem, *]; done))
        try have hg2_2 : ∀ o, w2.frozen? ⟨w.heap.size + 2, o, none⟩ = false := by intro o; rw [hb]; first | (simp (maxDischargeDepth := 7) [go_sem]; done) | (simp (maxDischargeDepth := 7) [go_sem, *]; done)
        clear ha hb
        (try clear hf1_0_0); (try clear hf1_0_1); (try clear hf1_1_0); (try clear hf1_1_1); (try clear hf1_2_0); (try clear hf1_2_1); (try clear hg1_0); (try clear hg1_1); (try clear hg1_2); (try clear hz1_1); (try clear hz1_2)
        go_wp2_with fail
        with_reducible refine (HF2.out _).mono ?_
        rintro e w3 ⟨rfl, hk3⟩
        refine kuz (b := w.heap.size) hk3 (by first | (simp; done) | (simp; omega) | omega) ?_
        intro ha hb hz3_0 hn3_0 hm3_0
        have hf3_0_0 : w3.cell? ⟨w.heap.size, 0, none⟩ = some (.int .i64 aX) := (ha _).trans (by first | with_reducible assumption | (simp (maxDischargeDepth := 7) [go_sem]; done) | (simp (maxDischargeDepth := 7) [go_sem, *]; done))
        have hf3_0_1 : w3.cell? ⟨w.heap.size, 1, none⟩ = some (.int .i64 aY) := (ha _).trans (by first | with_reducible assumption | (simp (maxDischargeDepth := 7) [go_sem]; done) | (simp (maxDischargeDepth := 7) [go_sem, *]; done))
        try have hg3_0 : ∀ o, w3.frozen? ⟨w.heap.size, o, none⟩ = false := by intro o; rw [hb]; first | (simp (maxDischargeDepth := 7) [go_sem]; done) | (simp (maxDischargeDepth := 7) [go_sem, *]; done)
        clear ha hb
        refine kuz (b := w.heap.size + 1) hk3 (by first | (simp; done) | (simp; omega) | omega) ?_
        intro ha hb hz3_1 hn3_1 hm3_1
        have hf3_1_0 : w3.cell? ⟨w.heap.size + 1, 0, none⟩ = some (.int .i64 bX) := (ha _).trans (by first | with_reducible assumption | (simp (maxDischargeDepth := 7) [go_sem]; done) | (simp (maxDischargeDepth := 7) [go_sem, *]; done))
        have hf3_1_1 : w3.cell? ⟨w.heap.size + 1, 1, none⟩ = some (.int .i64 bY) := (ha _).trans (by first | with_reducible assumption | (simp (maxDischargeDepth := 7) [go_sem]; done) | (simp (maxDischargeDepth := 7) [go_sem, *]; done))
        try have hg3_1 : ∀ o, w3.frozen? ⟨w.heap.size + 1, o, none⟩ = false := by intro o; rw [hb]; first | (simp (maxDischargeDepth := 7) [go_sem]; done) | (simp (maxDischargeDepth := 7) [go_sem, *]; done)
        clear ha hb
        refine kuz (b := w.heap.size + 2) hk3 (by first | (simp; done) | (simp; omega) | omega) ?_
        intro ha hb hz3_2 hn3_2 hm3_2
        have hf3_2_0 : w3.cell? ⟨w.heap.size + 2, 0, none⟩ = some (.int .i64 pX) := (ha _).trans (by first | with_reducible assumption | (simp (maxDischargeDepth := 7) [go_sem]; done) | (simp (maxDischargeDepth := 7) [go_sem, *]; done))
        have hf3_2_1 : w3.cell? ⟨w.heap.size + 2, 1, none⟩ = some (.int .i64 pY) := (ha _).trans (by first | with_reducible assumption | (simp (maxDischargeDepth := 7) [go_sem]; done) | (simp (maxDischargeDepth := 7) [go_sem, *]; done))
        try have hg3_2 : ∀ o, w3.frozen? ⟨w.heap.size + 2, o, none⟩ = false := by intro o; rw [hb]; first | (simp (maxDischargeDepth := 7) [go_sem]; done) | (simp (maxDischargeDepth := 7) [go_sem, *]; done)
        clear ha hb
        refine kuz (b := w2.heap.size) hk3 (by first | (simp; done) | (simp; omega) | omega) ?_
        intro ha hb hz3_3 hn3_3 hm3_3
        have hf3_3_0 : w3.cell? ⟨w2.heap.size, 0, none⟩ = some (.int .i64 0) := (ha _).trans (by first | with_reducible assumption | (simp (maxDischargeDepth := 7) [go_sem]; done) | (simp (maxDischargeDepth := 7) [go_sem, *]; done))
        have hf3_3_1 : w3.cell? ⟨w2.heap.size, 1, none⟩ = some (.int .i64 0) := (ha _).trans (by first | with_reducible assumption | (simp (maxDischargeDepth := 7) [go_sem]; done) | (simp (maxDischargeDepth := 7) [go_sem, *]; done))
        try have hg3_3 : ∀ o, w3.frozen? ⟨w2.heap.size, o, none⟩ = false := by intro o; rw [hb]; first | (simp (maxDischargeDepth := 7) [go_sem]; done) | (simp (maxDischargeDepth := 7) [go_sem, *]; done)
        clear ha hb
        (try clear hf2_0_0); (try clear hf2_0_1); (try clear hf2_1_0); (try clear hf2_1_1); (try clear hf2_2_0); (try clear hf2_2_1); (try clear hg2_0); (try clear hg2_1); (try clear hg2_2); (try clear hz2_1); (try clear hz2_2)
        go_wp2_with fail
        all_goals first | (go_ret; refine ⟨?_, (by repeat (first | with_reducible exact Kept.refl _ | with_reducible assumption | with_reducible refine Kept.setCell ?_ (by first | (simp; done) | (simp; omega) | omega) _ | with_reducible refine Kept.alloc ?_ _ | with_reducible refine Kept.drewN ?_ _ | with_reducible refine Kept.drew ?_ | with_reducible refine Kept.trans ?_ (by with_reducible assumption) | with_reducible refine Kept.dr ?_ (by with_reducible assumption)))⟩; first | rfl | (refine retb ?_; simp; done) | (refine retb ?_; simp; omega)) | (exfalso; omega)
  · have h : pokB aX aY = false ∨ pokB bX bY = false ∨ pokB pX pY = false := by cases h1 : pokB aX aY <;> cases h2 : pokB bX bY <;> cases h3 : pokB pX pY <;> simp_all
    clear hall
    have EQ := fun w => eqP_yes 0 0 w
    go_enter Try.func9, Try.ntmps9
    go_wp2_with fail
    with_reducible refine (awake_w _).mono ?_
    rintro e w1 ⟨rfl, hk1⟩
    refine kuz (b := w.heap.size) hk1 (by first | (simp; done) | (simp; omega) | omega) ?_
    intro ha hb hz1_0 hn1_0 hm1_0
    have hf1_0_0 : w1.cell? ⟨w.heap.size, 0, none⟩ = some (.int .i64 aX) := (ha _).trans (by first | with_reducible assumption | (simp (maxDischargeDepth := 7) [go_sem]; done) | (simp (maxDischargeDepth := 7) [go_sem, *]; done))
    have hf1_0_1 : w1.cell? ⟨w.heap.size, 1, none⟩ = some (.int .i64 aY) := (ha _).trans (by first | with_reducible assumption | (simp (maxDischargeDepth := 7) [go_sem]; done) | (simp (maxDischargeDepth := 7) [go_sem, *]; done))
    try have hg1_0 : ∀ o, w1.frozen? ⟨w.heap.size, o, none⟩ = false := by intro o; rw [hb]; first | (simp (maxDischargeDepth := 7) [go_sem]; done) | (simp (maxDischargeDepth := 7) [go_sem, *]; done)
    clear ha hb
    refine kuz (b := w.heap.size + 1) hk1 (by first | (simp; done) | (simp; omega) | omega) ?_
    intro ha hb hz1_1 hn1_1 hm1_1
    have hf1_1_0 : w1.cell? ⟨w.heap.size + 1, 0, none⟩ = some (.int .i64 bX) := (ha _).trans (by first | with_reducible assumption | (simp (maxDischargeDepth := 7) [go_sem]; done) | (simp (maxDischargeDepth := 7) [go_sem, *]; done))
    have hf1_1_1 : w1.cell? ⟨w.heap.size + 1, 1, none⟩ = some (.int .i64 bY) := (ha _).trans (by first | with_reducible assumption | (simp (maxDischargeDepth := 7) [go_sem]; done) | (simp (maxDischargeDepth := 7) [go_sem, *]; done))
    try have hg1_1 : ∀ o, w1.frozen? ⟨w.heap.size + 1, o, none⟩ = false := by intro o; rw [hb]; first | (simp (maxDischargeDepth := 7) [go_sem]; done) | (simp (maxDischargeDepth := 7) [go_sem, *]; done)
    clear ha hb
    refine kuz (b := w.heap.size + 2) hk1 (by first | (simp; done) | (simp; omega) | omega) ?_
    intro ha hb hz1_2 hn1_2 hm1_2
    have hf1_2_0 : w1.cell? ⟨w.heap.size + 2, 0, none⟩ = some (.int .i64 pX) := (ha _).trans (by first | with_reducible assumption | (simp (maxDischargeDepth := 7) [go_sem]; done) | (simp (maxDischargeDepth := 7) [go_sem, *]; done))
    have hf1_2_1 : w1.cell? ⟨w.heap.size + 2, 1, none⟩ = some (.int .i64 pY) := (ha _).trans (by first | with_reducible assumption | (simp (maxDischargeDepth := 7) [go_sem]; done) | (simp (maxDischargeDepth := 7) [go_sem, *]; done))
    try have hg1_2 : ∀ o, w1.frozen? ⟨w.heap.size + 2, o, none⟩ = false := by intro o; rw [hb]; first | (simp (maxDischargeDepth := 7) [go_sem]; done) | (simp (maxDischargeDepth := 7) [go_sem, *]; done)
    clear ha hb
    go_wp2_with fail
    with_reducible refine (foot_bad aX aY bX bY pX pY h _).mono ?_
    rintro e w2 ⟨rfl, hk2⟩
    refine kuz (b := w.heap.size) hk2 (by first | (simp; done) | (simp; omega) | omega) ?_
    intro ha hb hz2_0 hn2_0 hm2_0
    have hf2_0_0 : w2.cell? ⟨w.heap.size, 0, none⟩ = some (.int .i64 aX) := (ha _).trans (by first | with_reducible assumption | (simp (maxDischargeDepth := 7) [go_sem]; done) | (simp (maxDischargeDepth := 7) [go_sem, *]; done))
    have hf2_0_1 : w2.cell? ⟨w.heap.size, 1, none⟩ = some (.int .i64 aY) := (ha _).trans (by first | with_reducible assumption | (simp (maxDischargeDepth := 7) [go_sem]; done) | (simp (maxDischargeDepth := 7) [go_sem, *]; done))
    try have hg2_0 : ∀ o, w2.frozen? ⟨w.heap.size, o, none⟩ = false := by intro o; rw [hb]; first | (simp (maxDischargeDepth := 7) [go_sem]; done) | (simp (maxDischargeDepth := 7) [go_sem, *]; done)
    clear ha hb
    refine kuz (b := w.heap.size + 1) hk2 (by first | (simp; done) | (simp; omega) | omega) ?_
    intro ha hb hz2_1 hn2_1 hm2_1
    have hf2_1_0 : w2.cell? ⟨w.heap.size + 1, 0, none⟩ = some (.int .i64 bX) := (ha _).trans (by first | with_reducible assumption | (simp (maxDischargeDepth := 7) [go_sem]; done) | (simp (maxDischargeDepth := 7) [go_sem, *]; done))
    have hf2_1_1 : w2.cell? ⟨w.heap.size + 1, 1, none⟩ = some (.int .i64 bY) := (ha _).trans (by first | with_reducible assumption | (simp (maxDischargeDepth := 7) [go_sem]; done) | (simp (maxDischargeDepth := 7) [go_sem, *]; done))
    try have hg2_1 : ∀ o, w2.frozen? ⟨w.heap.size + 1, o, none⟩ = false := by intro o; rw [hb]; first | (simp (maxDischargeDepth := 7) [go_sem]; done) | (simp (maxDischargeDepth := 7) [go_sem, *]; done)
    clear ha hb
    refine kuz (b := w.heap.size + 2) hk2 (by first | (simp; done) | (simp; omega) | omega) ?_
    intro ha hb hz2_2 hn2_2 hm2_2
    have hf2_2_0 : w2.cell? ⟨w.heap.size + 2, 0, none⟩ = some (.int .i64 pX) := (ha _).trans (by first | with_reducible assumption | (simp (maxDischargeDepth := 7) [go_sem]; done) | (simp (maxDischargeDepth := 7) [go_sem, *]; done))
    have hf2_2_1 : w2.cell? ⟨w.heap.size + 2, 1, none⟩ = some (.int .i64 pY) := (ha _).trans (by first | with_reducible assumption | (simp (maxDischargeDepth := 7) [go_sem]; done) | (simp (maxDischargeDepth := 7) [go_sem, *]; done))
    try have hg2_2 : ∀ o, w2.frozen? ⟨w.heap.size + 2, o, none⟩ = false := by intro o; rw [hb]; first | (simp (maxDischargeDepth := 7) [go_sem]; done) | (simp (maxDischargeDepth := 7) [go_sem, *]; done)
    clear ha hb
    (try clear hf1_0_0); (try clear hf1_0_1); (try clear hf1_1_0); (try clear hf1_1_1); (try clear hf1_2_0); (try clear hf1_2_1); (try clear hg1_0); (try clear hg1_1); (try clear hg1_2); (try clear hz1_1); (try clear hz1_2)
    go_wp2_with fail
    with_reducible refine (ref_foot_bad aX aY bX bY pX pY h _).mono ?_
    rintro e w3 ⟨rfl, hk3⟩
    refine kuz (b := w.heap.size) hk3 (by first | (simp; done) | (simp; omega) | omega) ?_
    intro ha hb hz3_0 hn3_0 hm3_0
    have hf3_0_0 : w3.cell? ⟨w.heap.size, 0, none⟩ = some (.int .i64 aX) := (ha _).trans (by first | with_reducible assumption | (simp (maxDischargeDepth := 7) [go_sem]; done) | (simp (maxDischargeDepth := 7) [go_sem, *]; done))
    have hf3_0_1 : w3.cell? ⟨w.heap.size, 1, none⟩ = some (.int .i64 aY) := (ha _).trans (by first | with_reducible assumption | (simp (maxDischargeDepth := 7) [go_sem]; done) | (simp (maxDischargeDepth := 7) [go_sem, *]; done))
    try have hg3_0 : ∀ o, w3.frozen? ⟨w.heap.size, o, none⟩ = false := by intro o; rw [hb]; first | (simp (maxDischargeDepth := 7) [go_sem]; done) | (simp (maxDischargeDepth := 7) [go_sem, *]; done)
    clear ha hb
    refine kuz (b := w.heap.size + 1) hk3 (by first | (simp; done) | (simp; omega) | omega) ?_
    intro ha hb hz3_1 hn3_1 hm3_1
    have hf3_1_0 : w3.cell? ⟨w.heap.size + 1, 0, none⟩ = some (.int .i64 bX) := (ha _).trans (by first | with_reducible assumption | (simp (maxDischargeDepth := 7) [go_sem]; done) | (simp (maxDischargeDepth := 7) [go_sem, *]; done))
    have hf3_1_1 : w3.cell? ⟨w.heap.size + 1, 1, none⟩ = some (.int .i64 bY) := (ha _).trans (by first | with_reducible assumption | (simp (maxDischargeDepth := 7) [go_sem]; done) | (simp (maxDischargeDepth := 7) [go_sem, *]; done))
    try have hg3_1 : ∀ o, w3.frozen? ⟨w.heap.size + 1, o, none⟩ = false := by intro o; rw [hb]; first | (simp (maxDischargeDepth := 7) [go_sem]; done) | (simp (maxDischargeDepth := 7) [go_sem, *]; done)
    clear ha hb
    refine kuz (b := w.heap.size + 2) hk3 (by first | (simp; done) | (simp; omega) | omega) ?_
    intro ha hb hz3_2 hn3_2 hm3_2
    have hf3_2_0 : w3.cell? ⟨w.heap.size + 2, 0, none⟩ = some (.int .i64 pX) := (ha _).trans (by first | with_reducible assumption | (simp (maxDischargeDepth := 7) [go_sem]; done) | (simp (maxDischargeDepth := 7) [go_sem, *]; done))
    have hf3_2_1 : w3.cell? ⟨w.heap.size + 2, 1, none⟩ = some (.int .i64 pY) := (ha _).trans (by first | with_reducible assumption | (simp (maxDischargeDepth := 7) [go_sem]; done) | (simp (maxDischargeDepth := 7) [go_sem, *]; done))
    try have hg3_2 : ∀ o, w3.frozen? ⟨w.heap.size + 2, o, none⟩ = false := by intro o; rw [hb]; first | (simp (maxDischargeDepth := 7) [go_sem]; done) | (simp (maxDischargeDepth := 7) [go_sem, *]; done)
    clear ha hb
    refine kuz (b := w2.heap.size) hk3 (by first | (simp; done) | (simp; omega) | omega) ?_
    intro ha hb hz3_3 hn3_3 hm3_3
    have hf3_3_0 : w3.cell? ⟨w2.heap.size, 0, none⟩ = some (.int .i64 0) := (ha _).trans (by first | with_reducible assumption | (simp (maxDischargeDepth := 7) [go_sem]; done) | (simp (maxDischargeDepth := 7) [go_sem, *]; done))
    have hf3_3_1 : w3.cell? ⟨w2.heap.size, 1, none⟩ = some (.int .i64 0) := (ha _).trans (by first | with_reducible assumption | (simp (maxDischargeDepth := 7) [go_sem]; done) | (simp (maxDischargeDepth := 7) [go_sem, *]; done))
    try have hg3_3 : ∀ o, w3.frozen? ⟨w2.heap.size, o, none⟩ = false := by intro o; rw [hb]; first | (simp (maxDischargeDepth := 7) [go_sem]; done) | (simp (maxDischargeDepth := 7) [go_sem, *]; done)
    clear ha hb
    (try clear hf2_0_0); (try clear hf2_0_1); (try clear hf2_1_0); (try clear hf2_1_1); (try clear hf2_2_0); (try clear hf2_2_1); (try clear hg2_0); (try clear hg2_1); (try clear hg2_2); (try clear hz2_1); (try clear hz2_2)
    go_wp2_with fail
    all_goals first | (go_ret; refine ⟨?_, (by repeat (first | with_reducible exact Kept.refl _ | with_reducible assumption | with_reducible refine Kept.setCell ?_ (by first | (simp; done) | (simp; omega) | omega) _ | with_reducible refine Kept.alloc ?_ _ | with_reducible refine Kept.drewN ?_ _ | with_reducible refine Kept.drew ?_ | with_reducible refine Kept.trans ?_ (by with_reducible assumption) | with_reducible refine Kept.dr ?_ (by with_reducible assumption)))⟩; first | rfl | (refine retb ?_; simp; done) | (refine retb ?_; simp; omega)) | (exfalso; omega)

end Go.Proofs.Ytokgmhicindibaa
