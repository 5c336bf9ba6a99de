/-
  Own contracts: package line and the document's answers of layer 11: offsets.
-/
import Derived.Test.YtokgmhicindibaaLinb
import Derived.Test.YtokgmhicindibaaWidt
import Derived.Test.YtokgmhicindibaaWidp
import Derived.WalkKit
import Derived.ProofKit
import Derived.OpenShut
import Derived.WalkLawsBesides
import Derived.WalkSpells
import Derived.Lib.Hide
import Derived.Deep.DeepCutAuto
import Derived.Deep.CutBlock
import Derived.Deep.QuietTactic
import Derived.BigQuiet
import Derived.Handy
import Derived.StillTailTactics
import Derived.IntWalk
import Derived.LoopN
import Derived.Deep.RegionHeld3
namespace Go.Proofs.Ytokgmhicindibaa
open Go.ChangeShapes Go.WideShapes Go.ChangeAt Go.RowKit
set_option linter.unusedVariables false
set_option linter.unusedSimpArgs false
theorem wsq_isq (u : Int) (h0 : 0 ≤ u) (h1 : u < 18446744073709551616) : wsq u = isq u := by
  obtain ⟨a0, a1, a2, a3⟩ := isq_ok u h0 h1
  obtain ⟨b0, b1, b2, b3⟩ := wsq_spec u h0 (by omega)
  have c1 := lt_of_sq (a := wsq u) (b := isq u + 1) (by omega) (by omega)
  have c2 := lt_of_sq (a := isq u) (b := wsq u + 1) (by omega) (by omega)
  omega
theorem rnd0 (n s : Int) (hs : 0 < s) : rnd 0 n s = n / s := by unfold rnd; rw [if_pos rfl, Int.fdiv_eq_ediv_of_nonneg _ (by omega)]
theorem rtl_lim (c s : Int) (hs : 0 < s) (hc : c * c ≤ 32000000000000 * s) : 0 ≤ rtl c s ∧ rtl c s ≤ 5656854 := by
  obtain ⟨q0, q1, r0, r1, r2, r3⟩ := rtl_ok c s 32000000000000 hs (by omega) hc
  have := isq_le 32000000000000 5656854 (by omega) (by omega) (by omega) (by omega)
  omega
theorem len_lim (c s : Int) (hs : 0 < s) (hc : c * c ≤ 32000000000000 * s) : -5656854 ≤ len c s ∧ len c s ≤ 5656854 := by
  have := rtl_lim c s hs hc
  unfold len; split <;> omega
theorem sq_lim (c : Int) (c0 : -32000000000000 ≤ c) (c1 : c ≤ 32000000000000) : 0 ≤ c * c ∧ c * c ≤ 1024000000000000000000000000 := by
  have := mul_sb2 c c 32000000000000 32000000000000 c0 c1 c0 c1
  have := sq_nneg c
  omega
set_option maxHeartbeats 4000000 in
set_option maxRecDepth 100000 in
theorem root_w (c s : Int) (c0 : -32000000000000 ≤ c) (c1 : c ≤ 32000000000000) (s0 : 0 < s) (s1 : s ≤ 32000000000000) (hc : c * c ≤ 32000000000000 * s) (w : World) : Calls Try.prog 49 #[.int .i64 c, .int .i64 s] w fun e w' => e = .returned (.int .i64 (len c s)) ∧ Kept w w' := by
  obtain ⟨k0, k1⟩ := sq_lim c c0 c1
  obtain ⟨q0, q1, r0, r1, r2, r3⟩ := rtl_ok c s 32000000000000 s0 (by omega) hc
  have rl := rtl_lim c s s0 hc
  obtain ⟨rl0, rl1⟩ := rl
  have dv := fun w => wDiv_w (c * c) s (by omega) (by omega) (by omega) (by omega) w
  have ve := wqVE 0 (c * c) s (by omega)
  rw [ve.1, ve.2, wq_rnd 0 (c * c) s (Or.inl rfl) (by omega), rnd0 (c * c) s s0, (wfit_yes (u := c * c / s) (by omega) (by omega)).1, (wfit_yes (u := c * c / s) (by omega) (by omega)).2] at dv
  have sq := fun w => wsqrt_w (c * c / s) (by omega) (by omega) w
  rw [wsq_isq (c * c / s) q0 (by omega)] at sq
  have er : isq (c * c / s) = rtl c s := rfl
  rw [er] at sq
  obtain ⟨R, hR⟩ : ∃ A, rtl c s = A := ⟨_, rfl⟩
  rw [hR] at sq rl0 rl1
  have LE : len c s = if c < 0 then -R else R := by unfold len; rw [hR]
  rw [LE]
  obtain ⟨B, hB⟩ : ∃ A, wsqE (c * c / s) = A := ⟨_, rfl⟩
  rw [hB] at sq
  have mc := fun w => wmul_w c c (by omega) (by omega) (by omega) (by omega) w
  have oc := fun w => of_w s (by omega) (by omega) w
  generalize c * c / s = Q at *
  generalize c * c = CC at *
  obtain ⟨qh, hqh⟩ : ∃ A, wh Q = A := ⟨_, rfl⟩
  obtain ⟨ql, hql⟩ : ∃ A, wl Q = A := ⟨_, rfl⟩
  rw [hqh, hql] at dv sq
  have MC := Lib.hid mc; have OC := Lib.hid oc; have DV := Lib.hid dv; have SQ := Lib.hid sq
  clear mc oc dv sq er hR hB LE ve r0 r1 r2 r3 hc hqh hql q0 q1 k0 k1
  by_cases hc : c < 0
  · rw [if_pos hc]
    go_enter Try.func49, Try.ntmps49
    go_wp2_with fail
    with_reducible refine (MC.out _).mono ?_
    rintro e w1 ⟨rfl, hk1⟩
    go_wp2_with fail
    with_reducible refine (OC.out _).mono ?_
    rintro e w2 ⟨rfl, hk2⟩
    go_wp2_with fail
    with_reducible refine (DV.out _).mono ?_
    rintro e w3 ⟨rfl, hk3⟩
    go_wp2_with fail
    with_reducible refine (SQ.out _).mono ?_
    rintro e w4 ⟨rfl, hk4⟩
    refine kuz (b := w3.heap.size) hk4 (by first | (simp; done) | (simp; omega) | omega) ?_
    intro ha hb hz4_0 hn4_0 hm4_0
    have hf4_0_0 : w4.cell? ⟨w3.heap.size, 0, none⟩ = some (.int .i64 qh) := (ha _).trans (by first | with_reducible assumption | (simp (maxDischargeDepth := 7) [go_sem]; done) | (simp (maxDischargeDepth := 7) [go_sem, *]; done))
    have hf4_0_1 : w4.cell? ⟨w3.heap.size, 1, none⟩ = some (.int .u64 ql) := (ha _).trans (by first | with_reducible assumption | (simp (maxDischargeDepth := 7) [go_sem]; done) | (simp (maxDischargeDepth := 7) [go_sem, *]; done))
    try have hg4_0 : ∀ o, w4.frozen? ⟨w3.heap.size, o, none⟩ = false := by intro o; rw [hb]; first | (simp (maxDischargeDepth := 7) [go_sem]; done) | (simp (maxDischargeDepth := 7) [go_sem, *]; done)
    clear ha hb
    go_wp2_with fail
    all_goals go_ret
    all_goals exact ⟨rfl, (by repeat (first | with_reducible exact Kept.refl _ | with_reducible assumption | with_reducible refine Kept.setCell ?_ (by first | (simp; done) | (simp; omega) | omega) _ | with_reducible refine Kept.alloc ?_ _ | with_reducible refine Kept.drewN ?_ _ | with_reducible refine Kept.drew ?_ | with_reducible refine Kept.trans ?_ (by with_reducible assumption) | with_reducible refine Kept.dr ?_ (by with_reducible assumption)))⟩

  · rw [if_neg hc]
    go_enter Try.func49, Try.ntmps49
    go_wp2_with fail
    with_reducible refine (MC.out _).mono ?_
    rintro e w1 ⟨rfl, hk1⟩
    go_wp2_with fail
    with_reducible refine (OC.out _).mono ?_
    rintro e w2 ⟨rfl, hk2⟩
    go_wp2_with fail
    with_reducible refine (DV.out _).mono ?_
    rintro e w3 ⟨rfl, hk3⟩
    go_wp2_with fail
    with_reducible refine (SQ.out _).mono ?_
    rintro e w4 ⟨rfl, hk4⟩
    refine kuz (b := w3.heap.size) hk4 (by first | (simp; done) | (simp; omega) | omega) ?_
    intro ha hb hz4_0 hn4_0 hm4_0
    have hf4_0_0 : w4.cell? ⟨w3.heap.size, 0, none⟩ = some (.int .i64 qh) := (ha _).trans (by first | with_reducible assumption | (simp (maxDischargeDepth := 7) [go_sem]; done) | (simp (maxDischargeDepth := 7) [go_sem, *]; done))
    have hf4_0_1 : w4.cell? ⟨w3.heap.size, 1, none⟩ = some (.int .u64 ql) := (ha _).trans (by first | with_reducible assumption | (simp (maxDischargeDepth := 7) [go_sem]; done) | (simp (maxDischargeDepth := 7) [go_sem, *]; done))
    try have hg4_0 : ∀ o, w4.frozen? ⟨w3.heap.size, o, none⟩ = false := by intro o; rw [hb]; first | (simp (maxDischargeDepth := 7) [go_sem]; done) | (simp (maxDischargeDepth := 7) [go_sem, *]; done)
    clear ha hb
    go_wp2_with fail
    all_goals go_ret
    all_goals exact ⟨rfl, (by repeat (first | with_reducible exact Kept.refl _ | with_reducible assumption | with_reducible refine Kept.setCell ?_ (by first | (simp; done) | (simp; omega) | omega) _ | with_reducible refine Kept.alloc ?_ _ | with_reducible refine Kept.drewN ?_ _ | with_reducible refine Kept.drew ?_ | with_reducible refine Kept.trans ?_ (by with_reducible assumption) | with_reducible refine Kept.dr ?_ (by with_reducible assumption)))⟩
set_option maxHeartbeats 2000000 in
set_option maxRecDepth 100000 in
theorem offset_bad (aX aY bX bY pX pY : Int) (h : pokB aX aY = false ∨ pokB bX bY = false ∨ pokB pX pY = false) (w : World) : Calls Try.prog 24 #[.agg #[.int .i64 aX, .int .i64 aY], .agg #[.int .i64 bX, .int .i64 bY], .agg #[.int .i64 pX, .int .i64 pY]] w fun e w' => e = .returned (.tuple #[.int .i64 0, .int .i64 0, .int .i64 1]) ∧ Kept w w' := by
  go_enter Try.func24, Try.ntmps24
  go_wp2_with fail
  refine (valid3_bad aX aY bX bY pX pY h _ (w.heap.size + 3) (by simp) (by simp (maxDischargeDepth := 9) [go_sem]) (by simp (maxDischargeDepth := 9) [go_sem]) (by simp (maxDischargeDepth := 9) [go_sem]) (by simp (maxDischargeDepth := 9) [go_sem]) (by simp (maxDischargeDepth := 9) [go_sem]) (by simp (maxDischargeDepth := 9) [go_sem])).mono ?_
  rintro e w1 ⟨rfl, hk1⟩
  refine kuz (b := w.heap.size) hk1 (by first | (simp; done) | (simp; omega) | omega) ?_
  intro ha hb hz1_0 hn1_0 hm1_0
  have hf1_0_0 : w1.cell? ⟨w.heap.size, 0, none⟩ = some (.int .i64 aX) := (ha _).trans (by first | with_reducible assumption | (simp (maxDischargeDepth := 7) [go_sem]; done) | (simp (maxDischargeDepth := 7) [go_sem, *]; done))
  have hf1_0_1 : w1.cell? ⟨w.heap.size, 1, none⟩ = some (.int .i64 aY) := (ha _).trans (by first | with_reducible assumption | (simp (maxDischargeDepth := 7) [go_sem]; done) | (simp (maxDischargeDepth := 7) [go_sem, *]; done))
  try have hg1_0 : ∀ o, w1.frozen? ⟨w.heap.size, o, none⟩ = false := by intro o; rw [hb]; first | (simp (maxDischargeDepth := 7) [go_sem]; done) | (simp (maxDischargeDepth := 7) [go_sem, *]; done)
  clear ha hb
  refine kuz (b := w.heap.size + 1) hk1 (by first | (simp; done) | (simp; omega) | omega) ?_
  intro ha hb hz1_1 hn1_1 hm1_1
  have hf1_1_0 : w1.cell? ⟨w.heap.size + 1, 0, none⟩ = some (.int .i64 bX) := (ha _).trans (by first | with_reducible assumption | (simp (maxDischargeDepth := 7) [go_sem]; done) | (simp (maxDischargeDepth := 7) [go_sem, *]; done))
  have hf1_1_1 : w1.cell? ⟨w.heap.size + 1, 1, none⟩ = some (.int .i64 bY) := (ha _).trans (by first | with_reducible assumption | (simp (maxDischargeDepth := 7) [go_sem]; done) | (simp (maxDischargeDepth := 7) [go_sem, *]; done))
  try have hg1_1 : ∀ o, w1.frozen? ⟨w.heap.size + 1, o, none⟩ = false := by intro o; rw [hb]; first | (simp (maxDischargeDepth := 7) [go_sem]; done) | (simp (maxDischargeDepth := 7) [go_sem, *]; done)
  clear ha hb
  refine kuz (b := w.heap.size + 2) hk1 (by first | (simp; done) | (simp; omega) | omega) ?_
  intro ha hb hz1_2 hn1_2 hm1_2
  have hf1_2_0 : w1.cell? ⟨w.heap.size + 2, 0, none⟩ = some (.int .i64 pX) := (ha _).trans (by first | with_reducible assumption | (simp (maxDischargeDepth := 7) [go_sem]; done) | (simp (maxDischargeDepth := 7) [go_sem, *]; done))
  have hf1_2_1 : w1.cell? ⟨w.heap.size + 2, 1, none⟩ = some (.int .i64 pY) := (ha _).trans (by first | with_reducible assumption | (simp (maxDischargeDepth := 7) [go_sem]; done) | (simp (maxDischargeDepth := 7) [go_sem, *]; done))
  try have hg1_2 : ∀ o, w1.frozen? ⟨w.heap.size + 2, o, none⟩ = false := by intro o; rw [hb]; first | (simp (maxDischargeDepth := 7) [go_sem]; done) | (simp (maxDischargeDepth := 7) [go_sem, *]; done)
  clear ha hb
  go_wp2_with fail
  all_goals exact bodyPost_ret (v := .tuple #[.int .i64 0, .int .i64 0, .int .i64 1]) (by first | (simp [results, Try.results24, go_sem]; done) | (simp (maxDischargeDepth := 7) [results, Try.results24, go_sem, *]; done)) rfl ⟨rfl, (by repeat (first | with_reducible exact Kept.refl _ | with_reducible assumption | with_reducible refine Kept.setCell ?_ (by first | (simp; done) | (simp; omega) | omega) _ | with_reducible refine Kept.alloc ?_ _ | with_reducible refine Kept.drewN ?_ _ | with_reducible refine Kept.drew ?_ | with_reducible refine Kept.trans ?_ (by with_reducible assumption) | with_reducible refine Kept.dr ?_ (by with_reducible assumption)))⟩
set_option maxHeartbeats 2000000 in
set_option maxRecDepth 100000 in
theorem offset_eq (aX aY pX pY : Int) (ha : pokB aX aY = true) (hp : pokB pX pY = true) (w : World) : Calls Try.prog 24 #[.agg #[.int .i64 aX, .int .i64 aY], .agg #[.int .i64 aX, .int .i64 aY], .agg #[.int .i64 pX, .int .i64 pY]] w fun e w' => e = .returned (.tuple #[.int .i64 0, .int .i64 0, .int .i64 10]) ∧ Kept w w' := by
  have EQ := fun w => eqP_yes aX aY w
  go_enter Try.func24, Try.ntmps24
  go_wp2_with fail
  refine (valid3_ok aX aY aX aY pX pY ha ha hp _ (w.heap.size + 3) (by simp) (by simp (maxDischargeDepth := 9) [go_sem, *]) (by simp (maxDischargeDepth := 9) [go_sem, *]) (by simp (maxDischargeDepth := 9) [go_sem, *]) (by simp (maxDischargeDepth := 9) [go_sem, *]) (by simp (maxDischargeDepth := 9) [go_sem, *]) (by simp (maxDischargeDepth := 9) [go_sem, *])).mono ?_
  rintro e w1 ⟨rfl, hk1⟩
  refine kuz (b := w.heap.size) hk1 (by first | (simp; done) | (simp; omega) | omega) ?_
  intro ha hb hz1_0 hn1_0 hm1_0
  have hf1_0_0 : w1.cell? ⟨w.heap.size, 0, none⟩ = some (.int .i64 aX) := (ha _).trans (by first | with_reducible assumption | (simp (maxDischargeDepth := 7) [go_sem]; done) | (simp (maxDischargeDepth := 7) [go_sem, *]; done))
  have hf1_0_1 : w1.cell? ⟨w.heap.size, 1, none⟩ = some (.int .i64 aY) := (ha _).trans (by first | with_reducible assumption | (simp (maxDischargeDepth := 7) [go_sem]; done) | (simp (maxDischargeDepth := 7) [go_sem, *]; done))
  try have hg1_0 : ∀ o, w1.frozen? ⟨w.heap.size, o, none⟩ = false := by intro o; rw [hb]; first | (simp (maxDischargeDepth := 7) [go_sem]; done) | (simp (maxDischargeDepth := 7) [go_sem, *]; done)
  clear ha hb
  refine kuz (b := w.heap.size + 1) hk1 (by first | (simp; done) | (simp; omega) | omega) ?_
  intro ha hb hz1_1 hn1_1 hm1_1
  have hf1_1_0 : w1.cell? ⟨w.heap.size + 1, 0, none⟩ = some (.int .i64 aX) := (ha _).trans (by first | with_reducible assumption | (simp (maxDischargeDepth := 7) [go_sem]; done) | (simp (maxDischargeDepth := 7) [go_sem, *]; done))
  have hf1_1_1 : w1.cell? ⟨w.heap.size + 1, 1, none⟩ = some (.int .i64 aY) := (ha _).trans (by first | with_reducible assumption | (simp (maxDischargeDepth := 7) [go_sem]; done) | (simp (maxDischargeDepth := 7) [go_sem, *]; done))
  try have hg1_1 : ∀ o, w1.frozen? ⟨w.heap.size + 1, o, none⟩ = false := by intro o; rw [hb]; first | (simp (maxDischargeDepth := 7) [go_sem]; done) | (simp (maxDischargeDepth := 7) [go_sem, *]; done)
  clear ha hb
  refine kuz (b := w.heap.size + 2) hk1 (by first | (simp; done) | (simp; omega) | omega) ?_
  intro ha hb hz1_2 hn1_2 hm1_2
  have hf1_2_0 : w1.cell? ⟨w.heap.size + 2, 0, none⟩ = some (.int .i64 pX) := (ha _).trans (by first | with_reducible assumption | (simp (maxDischargeDepth := 7) [go_sem]; done) | (simp (maxDischargeDepth := 7) [go_sem, *]; done))
  have hf1_2_1 : w1.cell? ⟨w.heap.size + 2, 1, none⟩ = some (.int .i64 pY) := (ha _).trans (by first | with_reducible assumption | (simp (maxDischargeDepth := 7) [go_sem]; done) | (simp (maxDischargeDepth := 7) [go_sem, *]; done))
  try have hg1_2 : ∀ o, w1.frozen? ⟨w.heap.size + 2, o, none⟩ = false := by intro o; rw [hb]; first | (simp (maxDischargeDepth := 7) [go_sem]; done) | (simp (maxDischargeDepth := 7) [go_sem, *]; done)
  clear ha hb
  go_wp2_with fail
  all_goals exact bodyPost_ret (v := .tuple #[.int .i64 0, .int .i64 0, .int .i64 10]) (by first | (simp [results, Try.results24, go_sem]; done) | (simp (maxDischargeDepth := 7) [results, Try.results24, go_sem, *]; done)) rfl ⟨rfl, (by repeat (first | with_reducible exact Kept.refl _ | with_reducible assumption | with_reducible refine Kept.setCell ?_ (by first | (simp; done) | (simp; omega) | omega) _ | with_reducible refine Kept.alloc ?_ _ | with_reducible refine Kept.drewN ?_ _ | with_reducible refine Kept.drew ?_ | with_reducible refine Kept.trans ?_ (by with_reducible assumption) | with_reducible refine Kept.dr ?_ (by with_reducible assumption)))⟩
set_option maxHeartbeats 4000000 in
set_option maxRecDepth 100000 in
theorem offset_ok (aX aY bX bY pX pY : Int) (ha : pokB aX aY = true) (hb : pokB bX bY = true) (hp : pokB pX pY = true) (hne : ¬ (aX = bX ∧ aY = bY)) (w : World) : Calls Try.prog 24 #[.agg #[.int .i64 aX, .int .i64 aY], .agg #[.int .i64 bX, .int .i64 bY], .agg #[.int .i64 pX, .int .i64 pY]] w fun e w' => e = .returned (.tuple #[.int .i64 (-len (crs (bX - aX) (bY - aY) (pX - aX) (pY - aY)) (dtp (bX - aX) (bY - aY) (bX - aX) (bY - aY))), .int .i64 (len (dtp (bX - aX) (bY - aY) (pX - aX) (pY - aY)) (dtp (bX - aX) (bY - aY) (bX - aX) (bY - aY))), .int .i64 0]) ∧ Kept w w' := by
  obtain ⟨aX0, aX1, aY0, aY1⟩ := pok_yes ha
  obtain ⟨bX0, bX1, bY0, bY1⟩ := pok_yes hb
  obtain ⟨pX0, pX1, pY0, pY1⟩ := pok_yes hp
  obtain ⟨lm00, lm01⟩ := crs_lim4 (bX - aX) (bY - aY) (pX - aX) (pY - aY) (by omega) (by omega) (by omega) (by omega) (by omega) (by omega) (by omega) (by omega)
  obtain ⟨lm10, lm11⟩ := dtp_lim4 (bX - aX) (bY - aY) (pX - aX) (pY - aY) (by omega) (by omega) (by omega) (by omega) (by omega) (by omega) (by omega) (by omega)
  obtain ⟨lm20, lm21⟩ := dtp_lim4 (bX - aX) (bY - aY) (bX - aX) (bY - aY) (by omega) (by omega) (by omega) (by omega) (by omega) (by omega) (by omega) (by omega)
  have sp := dtp_pos (bX - aX) (bY - aY) (by omega)
  have cq := cauchy' (bX - aX) (bY - aY) (pX - aX) (pY - aY)
  have dq := cauchy (bX - aX) (bY - aY) (pX - aX) (pY - aY)
  have qn := (dtp_lim4 (pX - aX) (pY - aY) (pX - aX) (pY - aY) (by omega) (by omega) (by omega) (by omega) (by omega) (by omega) (by omega) (by omega)).2
  have m1 := Int.mul_le_mul_of_nonneg_left qn (show 0 ≤ dtp (bX - aX) (bY - aY) (bX - aX) (bY - aY) by omega)
  rw [Int.mul_comm (dtp (bX - aX) (bY - aY) (bX - aX) (bY - aY)) 32000000000000] at m1
  have hc1 : crs (bX - aX) (bY - aY) (pX - aX) (pY - aY) * (crs (bX - aX) (bY - aY) (pX - aX) (pY - aY)) ≤ 32000000000000 * dtp (bX - aX) (bY - aY) (bX - aX) (bY - aY) := by omega
  have hc2 : dtp (bX - aX) (bY - aY) (pX - aX) (pY - aY) * (dtp (bX - aX) (bY - aY) (pX - aX) (pY - aY)) ≤ 32000000000000 * dtp (bX - aX) (bY - aY) (bX - aX) (bY - aY) := by omega
  clear cq dq qn m1
  obtain ⟨ll0, ll1⟩ := len_lim (crs (bX - aX) (bY - aY) (pX - aX) (pY - aY)) (dtp (bX - aX) (bY - aY) (bX - aX) (bY - aY)) sp hc1
  obtain ⟨lm0, lm1⟩ := len_lim (dtp (bX - aX) (bY - aY) (pX - aX) (pY - aY)) (dtp (bX - aX) (bY - aY) (bX - aX) (bY - aY)) sp hc2
  have wr : IntKind.i64.wrap (-len (crs (bX - aX) (bY - aY) (pX - aX) (pY - aY)) (dtp (bX - aX) (bY - aY) (bX - aX) (bY - aY))) = -len (crs (bX - aX) (bY - aY) (pX - aX) (pY - aY)) (dtp (bX - aX) (bY - aY) (bX - aX) (bY - aY)) := IntWalk.i64_in _ (by omega)
  have wr2 : IntKind.i64.wrap (-(crs (bX - aX) (bY - aY) (pX - aX) (pY - aY))) = -(crs (bX - aX) (bY - aY) (pX - aX) (pY - aY)) := IntWalk.i64_in _ (by omega)
  have EQ := fun w => eqP_no aX aY bX bY hne w
  clear hne
  go_enter Try.func24, Try.ntmps24
  go_wp2_with fail
  refine (valid3_ok aX aY bX bY pX pY ha hb hp _ (w.heap.size + 3) (by simp) (by simp (maxDischargeDepth := 9) [go_sem, *]) (by simp (maxDischargeDepth := 9) [go_sem, *]) (by simp (maxDischargeDepth := 9) [go_sem, *]) (by simp (maxDischargeDepth := 9) [go_sem, *]) (by simp (maxDischargeDepth := 9) [go_sem, *]) (by simp (maxDischargeDepth := 9) [go_sem, *])).mono ?_
  rintro e w1 ⟨rfl, hk1⟩
  refine kuz (b := w.heap.size) hk1 (by first | (simp; done) | (simp; omega) | omega) ?_
  intro ha hb hz1_0 hn1_0 hm1_0
  have hf1_0_0 : w1.cell? ⟨w.heap.size, 0, none⟩ = some (.int .i64 aX) := (ha _).trans (by first | with_reducible assumption | (simp (maxDischargeDepth := 7) [go_sem]; done) | (simp (maxDischargeDepth := 7) [go_sem, *]; done))
  have hf1_0_1 : w1.cell? ⟨w.heap.size, 1, none⟩ = some (.int .i64 aY) := (ha _).trans (by first | with_reducible assumption | (simp (maxDischargeDepth := 7) [go_sem]; done) | (simp (maxDischargeDepth := 7) [go_sem, *]; done))
  try have hg1_0 : ∀ o, w1.frozen? ⟨w.heap.size, o, none⟩ = false := by intro o; rw [hb]; first | (simp (maxDischargeDepth := 7) [go_sem]; done) | (simp (maxDischargeDepth := 7) [go_sem, *]; done)
  clear ha hb
  refine kuz (b := w.heap.size + 1) hk1 (by first | (simp; done) | (simp; omega) | omega) ?_
  intro ha hb hz1_1 hn1_1 hm1_1
  have hf1_1_0 : w1.cell? ⟨w.heap.size + 1, 0, none⟩ = some (.int .i64 bX) := (ha _).trans (by first | with_reducible assumption | (simp (maxDischargeDepth := 7) [go_sem]; done) | (simp (maxDischargeDepth := 7) [go_sem, *]; done))
  have hf1_1_1 : w1.cell? ⟨w.heap.size + 1, 1, none⟩ = some (.int .i64 bY) := (ha _).trans (by first | with_reducible assumption | (simp (maxDischargeDepth := 7) [go_sem]; done) | (simp (maxDischargeDepth := 7) [go_sem, *]; done))
  try have hg1_1 : ∀ o, w1.frozen? ⟨w.heap.size + 1, o, none⟩ = false := by intro o; rw [hb]; first | (simp (maxDischargeDepth := 7) [go_sem]; done) | (simp (maxDischargeDepth := 7) [go_sem, *]; done)
  clear ha hb
  refine kuz (b := w.heap.size + 2) hk1 (by first | (simp; done) | (simp; omega) | omega) ?_
  intro ha hb hz1_2 hn1_2 hm1_2
  have hf1_2_0 : w1.cell? ⟨w.heap.size + 2, 0, none⟩ = some (.int .i64 pX) := (ha _).trans (by first | with_reducible assumption | (simp (maxDischargeDepth := 7) [go_sem]; done) | (simp (maxDischargeDepth := 7) [go_sem, *]; done))
  have hf1_2_1 : w1.cell? ⟨w.heap.size + 2, 1, none⟩ = some (.int .i64 pY) := (ha _).trans (by first | with_reducible assumption | (simp (maxDischargeDepth := 7) [go_sem]; done) | (simp (maxDischargeDepth := 7) [go_sem, *]; done))
  try have hg1_2 : ∀ o, w1.frozen? ⟨w.heap.size + 2, o, none⟩ = false := by intro o; rw [hb]; first | (simp (maxDischargeDepth := 7) [go_sem]; done) | (simp (maxDischargeDepth := 7) [go_sem, *]; done)
  clear ha hb
  go_wp2_with fail
  have B0 : OwnB w1 (w.heap.size) [.int .i64 aX, .int .i64 aY] := ⟨hz1_0, hg1_0, hf1_0_0, hf1_0_1, trivial⟩
  have HB0_0 := Lib.hid B0
  clear B0
  have B1 : OwnB w1 (w.heap.size + 1) [.int .i64 bX, .int .i64 bY] := ⟨hz1_1, hg1_1, hf1_1_0, hf1_1_1, trivial⟩
  have HB0_1 := Lib.hid B1
  clear B1
  have B2 : OwnB w1 (w.heap.size + 2) [.int .i64 pX, .int .i64 pY] := ⟨hz1_2, hg1_2, hf1_2_0, hf1_2_1, trivial⟩
  have HB0_2 := Lib.hid B2
  clear B2
  go_upto_region 5 with (fail)
  go_cut [9, 10] (fun p0 p1 wx => ∃ b0 b1 : Nat, p0 = .pointer (some ⟨b0, 0, none⟩) ∧ p1 = .pointer (some ⟨b1, 0, none⟩) ∧ w.heap.size + 1 + 1 < b0 ∧ w.heap.size + 1 + 1 < b1 ∧ b1 ≠ b0 ∧ OwnB wx (b0) [.int .i64 (bX - aX), .int .i64 (bY - aY)] ∧ OwnB wx (b1) [.int .i64 (pX - aX), .int .i64 (pY - aY)] ∧ OwnB wx (w.heap.size) [.int .i64 aX, .int .i64 aY] ∧ OwnB wx (w.heap.size + 1) [.int .i64 bX, .int .i64 bY] ∧ OwnB wx (w.heap.size + 2) [.int .i64 pX, .int .i64 pY] ∧ Kept w1 wx)
  case first =>
    go_region_held3 (fun W => W.cell? ⟨w.heap.size, 0, none⟩ = some (.int .i64 aX) ∧ W.cell? ⟨w.heap.size, 1, none⟩ = some (.int .i64 aY) ∧ W.cell? ⟨w.heap.size + 1, 0, none⟩ = some (.int .i64 bX) ∧ W.cell? ⟨w.heap.size + 1, 1, none⟩ = some (.int .i64 bY) ∧ W.cell? ⟨w.heap.size + 2, 0, none⟩ = some (.int .i64 pX) ∧ W.cell? ⟨w.heap.size + 2, 1, none⟩ = some (.int .i64 pY)) (first | (go_keep; done) | (simp (maxDischargeDepth := 9) [*, World.cell?_alloc_some, World.cell?_setCell_far]; done) | (simp (maxDischargeDepth := 9) [go_sem, *]; done)) (first | (go_at_call 38; (with_reducible refine (minus_w bX bY aX aY (by omega) (by omega) (by omega) (by omega) (by omega) (by omega) (by omega) (by omega) _).mono ?_); rintro e v0 ⟨rfl, hk⟩; have hz := hk.size; (try (refine kuse (b := w.heap.size) hk (by first | (simp; done) | (simp; omega) | omega) ?_; intro hq hg; have hy : w.heap.size < v0.heap.size := (by (try simp at hz); omega); have hn : ¬ w.heap.size = v0.heap.size := (by omega); have hm : ¬ w.heap.size = v0.heap.size + 1 := (by omega); have hn' : ¬ v0.heap.size = w.heap.size := (by omega); have hm' : ¬ v0.heap.size + 1 = w.heap.size := (by omega))); (try (refine kuse (b := w.heap.size + 1) hk (by first | (simp; done) | (simp; omega) | omega) ?_; intro hq hg; have hy : w.heap.size + 1 < v0.heap.size := (by (try simp at hz); omega); have hn : ¬ w.heap.size + 1 = v0.heap.size := (by omega); have hm : ¬ w.heap.size + 1 = v0.heap.size + 1 := (by omega); have hn' : ¬ v0.heap.size = w.heap.size + 1 := (by omega); have hm' : ¬ v0.heap.size + 1 = w.heap.size + 1 := (by omega))); (try (refine kuse (b := w.heap.size + 2) hk (by first | (simp; done) | (simp; omega) | omega) ?_; intro hq hg; have hy : w.heap.size + 2 < v0.heap.size := (by (try simp at hz); omega); have hn : ¬ w.heap.size + 2 = v0.heap.size := (by omega); have hm : ¬ w.heap.size + 2 = v0.heap.size + 1 := (by omega); have hn' : ¬ v0.heap.size = w.heap.size + 2 := (by omega); have hm' : ¬ v0.heap.size + 1 = w.heap.size + 2 := (by omega))); (try (have hle : w1.heap.size ≤ v0.heap.size := (by (try simp at hz); omega))); (try (refine kuse (b := w1.heap.size) hk (by first | (simp; done) | (simp; omega) | omega) ?_; intro hq hg; have hy : w1.heap.size < v0.heap.size := (by (try simp at hz); omega))); (try (refine kuse (b := w1.heap.size + 1) hk (by first | (simp; done) | (simp; omega) | omega) ?_; intro hq hg; have hy : w1.heap.size + 1 < v0.heap.size := (by (try simp at hz); omega))); (try (refine withF (p := v0.cell? ⟨w.heap.size, 0, none⟩ = some (.int .i64 aX)) (by first | (simp (maxDischargeDepth := 7) [go_sem, *]; done) | fail) ?_; intro ff)); (try (refine withF (p := v0.cell? ⟨w.heap.size, 1, none⟩ = some (.int .i64 aY)) (by first | (simp (maxDischargeDepth := 7) [go_sem, *]; done) | fail) ?_; intro ff)); (try (refine withF (p := v0.cell? ⟨w.heap.size + 1, 0, none⟩ = some (.int .i64 bX)) (by first | (simp (maxDischargeDepth := 7) [go_sem, *]; done) | fail) ?_; intro ff)); (try (refine withF (p := v0.cell? ⟨w.heap.size + 1, 1, none⟩ = some (.int .i64 bY)) (by first | (simp (maxDischargeDepth := 7) [go_sem, *]; done) | fail) ?_; intro ff)); (try (refine withF (p := v0.cell? ⟨w.heap.size + 2, 0, none⟩ = some (.int .i64 pX)) (by first | (simp (maxDischargeDepth := 7) [go_sem, *]; done) | fail) ?_; intro ff)); (try (refine withF (p := v0.cell? ⟨w.heap.size + 2, 1, none⟩ = some (.int .i64 pY)) (by first | (simp (maxDischargeDepth := 7) [go_sem, *]; done) | fail) ?_; intro ff))) | (go_at_call 38; (with_reducible refine (minus_w pX pY aX aY (by omega) (by omega) (by omega) (by omega) (by omega) (by omega) (by omega) (by omega) _).mono ?_); rintro e v1 ⟨rfl, hk⟩; have hz := hk.size; (try (refine kuse (b := w.heap.size) hk (by first | (simp; done) | (simp; omega) | omega) ?_; intro hq hg; have hy : w.heap.size < v1.heap.size := (by (try simp at hz); omega); have hn : ¬ w.heap.size = v1.heap.size := (by omega); have hm : ¬ w.heap.size = v1.heap.size + 1 := (by omega); have hn' : ¬ v1.heap.size = w.heap.size := (by omega); have hm' : ¬ v1.heap.size + 1 = w.heap.size := (by omega))); (try (refine kuse (b := w.heap.size + 1) hk (by first | (simp; done) | (simp; omega) | omega) ?_; intro hq hg; have hy : w.heap.size + 1 < v1.heap.size := (by (try simp at hz); omega); have hn : ¬ w.heap.size + 1 = v1.heap.size := (by omega); have hm : ¬ w.heap.size + 1 = v1.heap.size + 1 := (by omega); have hn' : ¬ v1.heap.size = w.heap.size + 1 := (by omega); have hm' : ¬ v1.heap.size + 1 = w.heap.size + 1 := (by omega))); (try (refine kuse (b := w.heap.size + 2) hk (by first | (simp; done) | (simp; omega) | omega) ?_; intro hq hg; have hy : w.heap.size + 2 < v1.heap.size := (by (try simp at hz); omega); have hn : ¬ w.heap.size + 2 = v1.heap.size := (by omega); have hm : ¬ w.heap.size + 2 = v1.heap.size + 1 := (by omega); have hn' : ¬ v1.heap.size = w.heap.size + 2 := (by omega); have hm' : ¬ v1.heap.size + 1 = w.heap.size + 2 := (by omega))); (try (have hle : w1.heap.size ≤ v1.heap.size := (by (try simp at hz); omega))); (try (have hle : v0.heap.size ≤ v1.heap.size := (by (try simp at hz); omega))); (try (refine kuse (b := v0.heap.size) hk (by first | (simp; done) | (simp; omega) | omega) ?_; intro hq hg; have hy : v0.heap.size < v1.heap.size := (by (try simp at hz); omega))); (try (refine kuse (b := v0.heap.size + 1) hk (by first | (simp; done) | (simp; omega) | omega) ?_; intro hq hg; have hy : v0.heap.size + 1 < v1.heap.size := (by (try simp at hz); omega))); (try (refine kuse (b := w1.heap.size) hk (by first | (simp; done) | (simp; omega) | omega) ?_; intro hq hg; have hy : w1.heap.size < v1.heap.size := (by (try simp at hz); omega))); (try (refine kuse (b := w1.heap.size + 1) hk (by first | (simp; done) | (simp; omega) | omega) ?_; intro hq hg; have hy : w1.heap.size + 1 < v1.heap.size := (by (try simp at hz); omega))); (try (refine withF (p := v1.cell? ⟨w.heap.size, 0, none⟩ = some (.int .i64 aX)) (by first | (simp (maxDischargeDepth := 7) [go_sem, *]; done) | fail) ?_; intro ff)); (try (refine withF (p := v1.cell? ⟨w.heap.size, 1, none⟩ = some (.int .i64 aY)) (by first | (simp (maxDischargeDepth := 7) [go_sem, *]; done) | fail) ?_; intro ff)); (try (refine withF (p := v1.cell? ⟨w.heap.size + 1, 0, none⟩ = some (.int .i64 bX)) (by first | (simp (maxDischargeDepth := 7) [go_sem, *]; done) | fail) ?_; intro ff)); (try (refine withF (p := v1.cell? ⟨w.heap.size + 1, 1, none⟩ = some (.int .i64 bY)) (by first | (simp (maxDischargeDepth := 7) [go_sem, *]; done) | fail) ?_; intro ff)); (try (refine withF (p := v1.cell? ⟨w.heap.size + 2, 0, none⟩ = some (.int .i64 pX)) (by first | (simp (maxDischargeDepth := 7) [go_sem, *]; done) | fail) ?_; intro ff)); (try (refine withF (p := v1.cell? ⟨w.heap.size + 2, 1, none⟩ = some (.int .i64 pY)) (by first | (simp (maxDischargeDepth := 7) [go_sem, *]; done) | fail) ?_; intro ff))))
    all_goals (try go_wp2_with fail)
    all_goals (go_meet; case rel => refine (fun (hkx : Kept w1 _) => ⟨_, _, rfl, rfl, (by first | with_reducible assumption | omega | (simp; omega)), (by first | with_reducible assumption | omega | (simp; omega)), (by first | with_reducible assumption | omega | (simp; omega)), (by repeat (first | with_reducible exact own_alloc _ [.int .i64 (bX - aX), .int .i64 (bY - aY)] 23 | with_reducible exact own_alloc _ [.int .i64 0, .int .i64 0] 23 | ((with_reducible refine own_allocE _ [.int .i64 (bX - aX), .int .i64 (bY - aY)] 23 _ ?_); (simp; done)) | ((with_reducible refine own_allocE _ [.int .i64 0, .int .i64 0] 23 _ ?_); (simp; done)) | with_reducible refine own_set2 (us := [.int .i64 0, .int .i64 0]) ?_ rfl | with_reducible refine OwnB.other2 ?_ (by first | with_reducible assumption | omega | (simp; done) | (simp; omega)) | with_reducible refine OwnB.alloc ?_ _ | with_reducible refine OwnB.drew ?_ | with_reducible refine OwnB.drewN ?_ _ | with_reducible refine OwnB.kept (by with_reducible assumption) ?_)), (by repeat (first | with_reducible exact own_alloc _ [.int .i64 (pX - aX), .int .i64 (pY - aY)] 23 | with_reducible exact own_alloc _ [.int .i64 0, .int .i64 0] 23 | ((with_reducible refine own_allocE _ [.int .i64 (pX - aX), .int .i64 (pY - aY)] 23 _ ?_); (simp; done)) | ((with_reducible refine own_allocE _ [.int .i64 0, .int .i64 0] 23 _ ?_); (simp; done)) | with_reducible refine own_set2 (us := [.int .i64 0, .int .i64 0]) ?_ rfl | with_reducible refine OwnB.other2 ?_ (by first | with_reducible assumption | omega | (simp; done) | (simp; omega)) | with_reducible refine OwnB.alloc ?_ _ | with_reducible refine OwnB.drew ?_ | with_reducible refine OwnB.drewN ?_ _ | with_reducible refine OwnB.kept (by with_reducible assumption) ?_)), OwnB.kept hkx HB0_0.out, OwnB.kept hkx HB0_1.out, OwnB.kept hkx HB0_2.out, hkx⟩) ?_; exact (by repeat (first | with_reducible exact Kept.refl _ | with_reducible assumption | with_reducible refine Kept.set12 ?_ (by first | with_reducible assumption | omega | (simp; done) | (simp; omega)) | with_reducible refine Kept.set11 ?_ (by first | with_reducible assumption | omega | (simp; done) | (simp; omega)) | with_reducible refine Kept.set10 ?_ (by first | with_reducible assumption | omega | (simp; done) | (simp; omega)) | with_reducible refine Kept.set9 ?_ (by first | with_reducible assumption | omega | (simp; done) | (simp; omega)) | with_reducible refine Kept.set8 ?_ (by first | with_reducible assumption | omega | (simp; done) | (simp; omega)) | with_reducible refine Kept.set7 ?_ (by first | with_reducible assumption | omega | (simp; done) | (simp; omega)) | with_reducible refine Kept.set6 ?_ (by first | with_reducible assumption | omega | (simp; done) | (simp; omega)) | with_reducible refine Kept.set5 ?_ (by first | with_reducible assumption | omega | (simp; done) | (simp; omega)) | with_reducible refine Kept.set4 ?_ (by first | with_reducible assumption | omega | (simp; done) | (simp; omega)) | with_reducible refine Kept.set3 ?_ (by first | with_reducible assumption | omega | (simp; done) | (simp; omega)) | with_reducible refine Kept.set2 ?_ (by first | with_reducible assumption | omega | (simp; done) | (simp; omega)) | with_reducible refine Kept.setCell ?_ (by first | with_reducible assumption | omega | (simp; done) | (simp; omega)) _ | with_reducible refine Kept.alloc ?_ _ | with_reducible refine Kept.drewN ?_ _ | with_reducible refine Kept.drew ?_ | with_reducible refine Kept.trans ?_ (by with_reducible assumption) | with_reducible refine Kept.dr ?_ (by with_reducible assumption))))
  case rest =>
  obtain ⟨b1_0, b1_1, rfl, rfl, lt1_0, lt1_1, ne1_1_0, O1_0, O1_1, O1_2, O1_3, O1_4, hkc1⟩ := hcut
  obtain ⟨hz_c1_0, hg_c1_0, hf_c1_0_0, hf_c1_0_1, _⟩ := O1_0
  obtain ⟨hz_c1_1, hg_c1_1, hf_c1_1_0, hf_c1_1_1, _⟩ := O1_1
  obtain ⟨hz_c1_2, hg_c1_2, hf_c1_2_0, hf_c1_2_1, _⟩ := O1_2
  obtain ⟨hz_c1_3, hg_c1_3, hf_c1_3_0, hf_c1_3_1, _⟩ := O1_3
  obtain ⟨hz_c1_4, hg_c1_4, hf_c1_4_0, hf_c1_4_1, _⟩ := O1_4
  (try clear hf1_0_0); (try clear hf1_0_1); (try clear hf1_1_0); (try clear hf1_1_1); (try clear hf1_2_0); (try clear hf1_2_1); (try clear hg1_0); (try clear hg1_1); (try clear hg1_2); (try clear hz1_1); (try clear hz1_2)
  go_wp2_with fail
  with_reducible refine (dot_w _ _ _ _ (by omega) (by omega) (by omega) (by omega) (by omega) (by omega) (by omega) (by omega) _).mono ?_
  rintro e w2 ⟨rfl, hk2⟩
  refine kuz (b := b1_0) hk2 (by first | (simp; done) | (simp; omega) | omega) ?_
  intro ha hb hz2_0 hn2_0 hm2_0
  have hf2_0_0 : w2.cell? ⟨b1_0, 0, none⟩ = some (.int .i64 (bX - aX)) := (ha _).trans (by first | with_reducible assumption | (simp (maxDischargeDepth := 7) [go_sem]; done) | (simp (maxDischargeDepth := 7) [go_sem, *]; done))
  have hf2_0_1 : w2.cell? ⟨b1_0, 1, none⟩ = some (.int .i64 (bY - aY)) := (ha _).trans (by first | with_reducible assumption | (simp (maxDischargeDepth := 7) [go_sem]; done) | (simp (maxDischargeDepth := 7) [go_sem, *]; done))
  try have hg2_0 : ∀ o, w2.frozen? ⟨b1_0, o, none⟩ = false := by intro o; rw [hb]; first | (simp (maxDischargeDepth := 7) [go_sem]; done) | (simp (maxDischargeDepth := 7) [go_sem, *]; done)
  clear ha hb
  refine kuz (b := b1_1) hk2 (by first | (simp; done) | (simp; omega) | omega) ?_
  intro ha hb hz2_1 hn2_1 hm2_1
  have hf2_1_0 : w2.cell? ⟨b1_1, 0, none⟩ = some (.int .i64 (pX - aX)) := (ha _).trans (by first | with_reducible assumption | (simp (maxDischargeDepth := 7) [go_sem]; done) | (simp (maxDischargeDepth := 7) [go_sem, *]; done))
  have hf2_1_1 : w2.cell? ⟨b1_1, 1, none⟩ = some (.int .i64 (pY - aY)) := (ha _).trans (by first | with_reducible assumption | (simp (maxDischargeDepth := 7) [go_sem]; done) | (simp (maxDischargeDepth := 7) [go_sem, *]; done))
  try have hg2_1 : ∀ o, w2.frozen? ⟨b1_1, o, none⟩ = false := by intro o; rw [hb]; first | (simp (maxDischargeDepth := 7) [go_sem]; done) | (simp (maxDischargeDepth := 7) [go_sem, *]; done)
  clear ha hb
  refine kuz (b := w.heap.size) hk2 (by first | (simp; done) | (simp; omega) | omega) ?_
  intro ha hb hz2_2 hn2_2 hm2_2
  have hf2_2_0 : w2.cell? ⟨w.heap.size, 0, none⟩ = some (.int .i64 aX) := (ha _).trans (by first | with_reducible assumption | (simp (maxDischargeDepth := 7) [go_sem]; done) | (simp (maxDischargeDepth := 7) [go_sem, *]; done))
  have hf2_2_1 : w2.cell? ⟨w.heap.size, 1, none⟩ = some (.int .i64 aY) := (ha _).trans (by first | with_reducible assumption | (simp (maxDischargeDepth := 7) [go_sem]; done) | (simp (maxDischargeDepth := 7) [go_sem, *]; done))
  try have hg2_2 : ∀ o, w2.frozen? ⟨w.heap.size, o, none⟩ = false := by intro o; rw [hb]; first | (simp (maxDischargeDepth := 7) [go_sem]; done) | (simp (maxDischargeDepth := 7) [go_sem, *]; done)
  clear ha hb
  refine kuz (b := w.heap.size + 1) hk2 (by first | (simp; done) | (simp; omega) | omega) ?_
  intro ha hb hz2_3 hn2_3 hm2_3
  have hf2_3_0 : w2.cell? ⟨w.heap.size + 1, 0, none⟩ = some (.int .i64 bX) := (ha _).trans (by first | with_reducible assumption | (simp (maxDischargeDepth := 7) [go_sem]; done) | (simp (maxDischargeDepth := 7) [go_sem, *]; done))
  have hf2_3_1 : w2.cell? ⟨w.heap.size + 1, 1, none⟩ = some (.int .i64 bY) := (ha _).trans (by first | with_reducible assumption | (simp (maxDischargeDepth := 7) [go_sem]; done) | (simp (maxDischargeDepth := 7) [go_sem, *]; done))
  try have hg2_3 : ∀ o, w2.frozen? ⟨w.heap.size + 1, o, none⟩ = false := by intro o; rw [hb]; first | (simp (maxDischargeDepth := 7) [go_sem]; done) | (simp (maxDischargeDepth := 7) [go_sem, *]; done)
  clear ha hb
  refine kuz (b := w.heap.size + 2) hk2 (by first | (simp; done) | (simp; omega) | omega) ?_
  intro ha hb hz2_4 hn2_4 hm2_4
  have hf2_4_0 : w2.cell? ⟨w.heap.size + 2, 0, none⟩ = some (.int .i64 pX) := (ha _).trans (by first | with_reducible assumption | (simp (maxDischargeDepth := 7) [go_sem]; done) | (simp (maxDischargeDepth := 7) [go_sem, *]; done))
  have hf2_4_1 : w2.cell? ⟨w.heap.size + 2, 1, none⟩ = some (.int .i64 pY) := (ha _).trans (by first | with_reducible assumption | (simp (maxDischargeDepth := 7) [go_sem]; done) | (simp (maxDischargeDepth := 7) [go_sem, *]; done))
  try have hg2_4 : ∀ o, w2.frozen? ⟨w.heap.size + 2, o, none⟩ = false := by intro o; rw [hb]; first | (simp (maxDischargeDepth := 7) [go_sem]; done) | (simp (maxDischargeDepth := 7) [go_sem, *]; done)
  clear ha hb
  (try clear hf_c1_0_0); (try clear hf_c1_0_1); (try clear hf_c1_1_0); (try clear hf_c1_1_1); (try clear hf_c1_2_0); (try clear hf_c1_2_1); (try clear hf_c1_3_0); (try clear hf_c1_3_1); (try clear hf_c1_4_0); (try clear hf_c1_4_1); (try clear hg_c1_0); (try clear hg_c1_1); (try clear hg_c1_2); (try clear hg_c1_3); (try clear hg_c1_4)
  go_wp2_with fail
  go_region_held3 (fun W => W.cell? ⟨b1_0, 0, none⟩ = some (.int .i64 (bX - aX)) ∧ W.cell? ⟨b1_0, 1, none⟩ = some (.int .i64 (bY - aY)) ∧ W.cell? ⟨b1_1, 0, none⟩ = some (.int .i64 (pX - aX)) ∧ W.cell? ⟨b1_1, 1, none⟩ = some (.int .i64 (pY - aY))) (first | (go_keep; done) | (simp (maxDischargeDepth := 9) [*, World.cell?_alloc_some, World.cell?_setCell_far]; done) | (simp (maxDischargeDepth := 9) [go_sem, *]; done)) (first | (go_at_call 37; (first | with_reducible refine (cross_w _ _ _ _ (by omega) (by omega) (by omega) (by omega) (by omega) (by omega) (by omega) (by omega) _).mono ?_); rintro e w' ⟨rfl, hk⟩; have hz := hk.size; (try (refine kuse (b := b1_0) hk (by first | (simp; done) | (simp; omega) | omega) ?_; intro hq0 hg0; have hy0 : b1_0 < w'.heap.size := (by (try simp at hz); omega); have hn0 : ¬ b1_0 = w'.heap.size := (by omega); have hm0 : ¬ b1_0 = w'.heap.size + 1 := (by omega); refine withF (p := w'.cell? ⟨b1_0, 0, none⟩ = some (.int .i64 (bX - aX))) (by first | (rw [hq0]; with_reducible assumption) | (simp (maxDischargeDepth := 7) [go_sem, hq0]; done) | (simp (maxDischargeDepth := 7) [go_sem, hq0, *]; done) | fail) ?_; intro ff00; refine withF (p := w'.cell? ⟨b1_0, 1, none⟩ = some (.int .i64 (bY - aY))) (by first | (rw [hq0]; with_reducible assumption) | (simp (maxDischargeDepth := 7) [go_sem, hq0]; done) | (simp (maxDischargeDepth := 7) [go_sem, hq0, *]; done) | fail) ?_; intro ff01)); (try (refine kuse (b := b1_1) hk (by first | (simp; done) | (simp; omega) | omega) ?_; intro hq1 hg1; have hy1 : b1_1 < w'.heap.size := (by (try simp at hz); omega); have hn1 : ¬ b1_1 = w'.heap.size := (by omega); have hm1 : ¬ b1_1 = w'.heap.size + 1 := (by omega); refine withF (p := w'.cell? ⟨b1_1, 0, none⟩ = some (.int .i64 (pX - aX))) (by first | (rw [hq1]; with_reducible assumption) | (simp (maxDischargeDepth := 7) [go_sem, hq1]; done) | (simp (maxDischargeDepth := 7) [go_sem, hq1, *]; done) | fail) ?_; intro ff10; refine withF (p := w'.cell? ⟨b1_1, 1, none⟩ = some (.int .i64 (pY - aY))) (by first | (rw [hq1]; with_reducible assumption) | (simp (maxDischargeDepth := 7) [go_sem, hq1]; done) | (simp (maxDischargeDepth := 7) [go_sem, hq1, *]; done) | fail) ?_; intro ff11)); (try (refine kuse (b := w.heap.size) hk (by first | (simp; done) | (simp; omega) | omega) ?_; intro hq2 hg2; have hy2 : w.heap.size < w'.heap.size := (by (try simp at hz); omega); have hn2 : ¬ w.heap.size = w'.heap.size := (by omega); have hm2 : ¬ w.heap.size = w'.heap.size + 1 := (by omega); refine withF (p := w'.cell? ⟨w.heap.size, 0, none⟩ = some (.int .i64 aX)) (by first | (rw [hq2]; with_reducible assumption) | (simp (maxDischargeDepth := 7) [go_sem, hq2]; done) | (simp (maxDischargeDepth := 7) [go_sem, hq2, *]; done) | fail) ?_; intro ff20; refine withF (p := w'.cell? ⟨w.heap.size, 1, none⟩ = some (.int .i64 aY)) (by first | (rw [hq2]; with_reducible assumption) | (simp (maxDischargeDepth := 7) [go_sem, hq2]; done) | (simp (maxDischargeDepth := 7) [go_sem, hq2, *]; done) | fail) ?_; intro ff21)); (try (refine kuse (b := w.heap.size + 1) hk (by first | (simp; done) | (simp; omega) | omega) ?_; intro hq3 hg3; have hy3 : w.heap.size + 1 < w'.heap.size := (by (try simp at hz); omega); have hn3 : ¬ w.heap.size + 1 = w'.heap.size := (by omega); have hm3 : ¬ w.heap.size + 1 = w'.heap.size + 1 := (by omega); refine withF (p := w'.cell? ⟨w.heap.size + 1, 0, none⟩ = some (.int .i64 bX)) (by first | (rw [hq3]; with_reducible assumption) | (simp (maxDischargeDepth := 7) [go_sem, hq3]; done) | (simp (maxDischargeDepth := 7) [go_sem, hq3, *]; done) | fail) ?_; intro ff30; refine withF (p := w'.cell? ⟨w.heap.size + 1, 1, none⟩ = some (.int .i64 bY)) (by first | (rw [hq3]; with_reducible assumption) | (simp (maxDischargeDepth := 7) [go_sem, hq3]; done) | (simp (maxDischargeDepth := 7) [go_sem, hq3, *]; done) | fail) ?_; intro ff31)); (try (refine kuse (b := w.heap.size + 2) hk (by first | (simp; done) | (simp; omega) | omega) ?_; intro hq4 hg4; have hy4 : w.heap.size + 2 < w'.heap.size := (by (try simp at hz); omega); have hn4 : ¬ w.heap.size + 2 = w'.heap.size := (by omega); have hm4 : ¬ w.heap.size + 2 = w'.heap.size + 1 := (by omega); refine withF (p := w'.cell? ⟨w.heap.size + 2, 0, none⟩ = some (.int .i64 pX)) (by first | (rw [hq4]; with_reducible assumption) | (simp (maxDischargeDepth := 7) [go_sem, hq4]; done) | (simp (maxDischargeDepth := 7) [go_sem, hq4, *]; done) | fail) ?_; intro ff40; refine withF (p := w'.cell? ⟨w.heap.size + 2, 1, none⟩ = some (.int .i64 pY)) (by first | (rw [hq4]; with_reducible assumption) | (simp (maxDischargeDepth := 7) [go_sem, hq4]; done) | (simp (maxDischargeDepth := 7) [go_sem, hq4, *]; done) | fail) ?_; intro ff41))) | (go_at_call 42; (first | with_reducible refine (dot_w _ _ _ _ (by omega) (by omega) (by omega) (by omega) (by omega) (by omega) (by omega) (by omega) _).mono ?_); rintro e w' ⟨rfl, hk⟩; have hz := hk.size; (try (refine kuse (b := b1_0) hk (by first | (simp; done) | (simp; omega) | omega) ?_; intro hq0 hg0; have hy0 : b1_0 < w'.heap.size := (by (try simp at hz); omega); have hn0 : ¬ b1_0 = w'.heap.size := (by omega); have hm0 : ¬ b1_0 = w'.heap.size + 1 := (by omega); refine withF (p := w'.cell? ⟨b1_0, 0, none⟩ = some (.int .i64 (bX - aX))) (by first | (rw [hq0]; with_reducible assumption) | (simp (maxDischargeDepth := 7) [go_sem, hq0]; done) | (simp (maxDischargeDepth := 7) [go_sem, hq0, *]; done) | fail) ?_; intro ff00; refine withF (p := w'.cell? ⟨b1_0, 1, none⟩ = some (.int .i64 (bY - aY))) (by first | (rw [hq0]; with_reducible assumption) | (simp (maxDischargeDepth := 7) [go_sem, hq0]; done) | (simp (maxDischargeDepth := 7) [go_sem, hq0, *]; done) | fail) ?_; intro ff01)); (try (refine kuse (b := b1_1) hk (by first | (simp; done) | (simp; omega) | omega) ?_; intro hq1 hg1; have hy1 : b1_1 < w'.heap.size := (by (try simp at hz); omega); have hn1 : ¬ b1_1 = w'.heap.size := (by omega); have hm1 : ¬ b1_1 = w'.heap.size + 1 := (by omega); refine withF (p := w'.cell? ⟨b1_1, 0, none⟩ = some (.int .i64 (pX - aX))) (by first | (rw [hq1]; with_reducible assumption) | (simp (maxDischargeDepth := 7) [go_sem, hq1]; done) | (simp (maxDischargeDepth := 7) [go_sem, hq1, *]; done) | fail) ?_; intro ff10; refine withF (p := w'.cell? ⟨b1_1, 1, none⟩ = some (.int .i64 (pY - aY))) (by first | (rw [hq1]; with_reducible assumption) | (simp (maxDischargeDepth := 7) [go_sem, hq1]; done) | (simp (maxDischargeDepth := 7) [go_sem, hq1, *]; done) | fail) ?_; intro ff11)); (try (refine kuse (b := w.heap.size) hk (by first | (simp; done) | (simp; omega) | omega) ?_; intro hq2 hg2; have hy2 : w.heap.size < w'.heap.size := (by (try simp at hz); omega); have hn2 : ¬ w.heap.size = w'.heap.size := (by omega); have hm2 : ¬ w.heap.size = w'.heap.size + 1 := (by omega); refine withF (p := w'.cell? ⟨w.heap.size, 0, none⟩ = some (.int .i64 aX)) (by first | (rw [hq2]; with_reducible assumption) | (simp (maxDischargeDepth := 7) [go_sem, hq2]; done) | (simp (maxDischargeDepth := 7) [go_sem, hq2, *]; done) | fail) ?_; intro ff20; refine withF (p := w'.cell? ⟨w.heap.size, 1, none⟩ = some (.int .i64 aY)) (by first | (rw [hq2]; with_reducible assumption) | (simp (maxDischargeDepth := 7) [go_sem, hq2]; done) | (simp (maxDischargeDepth := 7) [go_sem, hq2, *]; done) | fail) ?_; intro ff21)); (try (refine kuse (b := w.heap.size + 1) hk (by first | (simp; done) | (simp; omega) | omega) ?_; intro hq3 hg3; have hy3 : w.heap.size + 1 < w'.heap.size := (by (try simp at hz); omega); have hn3 : ¬ w.heap.size + 1 = w'.heap.size := (by omega); have hm3 : ¬ w.heap.size + 1 = w'.heap.size + 1 := (by omega); refine withF (p := w'.cell? ⟨w.heap.size + 1, 0, none⟩ = some (.int .i64 bX)) (by first | (rw [hq3]; with_reducible assumption) | (simp (maxDischargeDepth := 7) [go_sem, hq3]; done) | (simp (maxDischargeDepth := 7) [go_sem, hq3, *]; done) | fail) ?_; intro ff30; refine withF (p := w'.cell? ⟨w.heap.size + 1, 1, none⟩ = some (.int .i64 bY)) (by first | (rw [hq3]; with_reducible assumption) | (simp (maxDischargeDepth := 7) [go_sem, hq3]; done) | (simp (maxDischargeDepth := 7) [go_sem, hq3, *]; done) | fail) ?_; intro ff31)); (try (refine kuse (b := w.heap.size + 2) hk (by first | (simp; done) | (simp; omega) | omega) ?_; intro hq4 hg4; have hy4 : w.heap.size + 2 < w'.heap.size := (by (try simp at hz); omega); have hn4 : ¬ w.heap.size + 2 = w'.heap.size := (by omega); have hm4 : ¬ w.heap.size + 2 = w'.heap.size + 1 := (by omega); refine withF (p := w'.cell? ⟨w.heap.size + 2, 0, none⟩ = some (.int .i64 pX)) (by first | (rw [hq4]; with_reducible assumption) | (simp (maxDischargeDepth := 7) [go_sem, hq4]; done) | (simp (maxDischargeDepth := 7) [go_sem, hq4, *]; done) | fail) ?_; intro ff40; refine withF (p := w'.cell? ⟨w.heap.size + 2, 1, none⟩ = some (.int .i64 pY)) (by first | (rw [hq4]; with_reducible assumption) | (simp (maxDischargeDepth := 7) [go_sem, hq4]; done) | (simp (maxDischargeDepth := 7) [go_sem, hq4, *]; done) | fail) ?_; intro ff41))) | (go_at_call 49; (first | with_reducible refine (root_w (crs (bX - aX) (bY - aY) (pX - aX) (pY - aY)) _ (by omega) (by omega) sp (by omega) hc1 _).mono ?_); rintro e w' ⟨rfl, hk⟩; have hz := hk.size; (try (refine kuse (b := b1_0) hk (by first | (simp; done) | (simp; omega) | omega) ?_; intro hq0 hg0; have hy0 : b1_0 < w'.heap.size := (by (try simp at hz); omega); have hn0 : ¬ b1_0 = w'.heap.size := (by omega); have hm0 : ¬ b1_0 = w'.heap.size + 1 := (by omega); refine withF (p := w'.cell? ⟨b1_0, 0, none⟩ = some (.int .i64 (bX - aX))) (by first | (rw [hq0]; with_reducible assumption) | (simp (maxDischargeDepth := 7) [go_sem, hq0]; done) | (simp (maxDischargeDepth := 7) [go_sem, hq0, *]; done) | fail) ?_; intro ff00; refine withF (p := w'.cell? ⟨b1_0, 1, none⟩ = some (.int .i64 (bY - aY))) (by first | (rw [hq0]; with_reducible assumption) | (simp (maxDischargeDepth := 7) [go_sem, hq0]; done) | (simp (maxDischargeDepth := 7) [go_sem, hq0, *]; done) | fail) ?_; intro ff01)); (try (refine kuse (b := b1_1) hk (by first | (simp; done) | (simp; omega) | omega) ?_; intro hq1 hg1; have hy1 : b1_1 < w'.heap.size := (by (try simp at hz); omega); have hn1 : ¬ b1_1 = w'.heap.size := (by omega); have hm1 : ¬ b1_1 = w'.heap.size + 1 := (by omega); refine withF (p := w'.cell? ⟨b1_1, 0, none⟩ = some (.int .i64 (pX - aX))) (by first | (rw [hq1]; with_reducible assumption) | (simp (maxDischargeDepth := 7) [go_sem, hq1]; done) | (simp (maxDischargeDepth := 7) [go_sem, hq1, *]; done) | fail) ?_; intro ff10; refine withF (p := w'.cell? ⟨b1_1, 1, none⟩ = some (.int .i64 (pY - aY))) (by first | (rw [hq1]; with_reducible assumption) | (simp (maxDischargeDepth := 7) [go_sem, hq1]; done) | (simp (maxDischargeDepth := 7) [go_sem, hq1, *]; done) | fail) ?_; intro ff11)); (try (refine kuse (b := w.heap.size) hk (by first | (simp; done) | (simp; omega) | omega) ?_; intro hq2 hg2; have hy2 : w.heap.size < w'.heap.size := (by (try simp at hz); omega); have hn2 : ¬ w.heap.size = w'.heap.size := (by omega); have hm2 : ¬ w.heap.size = w'.heap.size + 1 := (by omega); refine withF (p := w'.cell? ⟨w.heap.size, 0, none⟩ = some (.int .i64 aX)) (by first | (rw [hq2]; with_reducible assumption) | (simp (maxDischargeDepth := 7) [go_sem, hq2]; done) | (simp (maxDischargeDepth := 7) [go_sem, hq2, *]; done) | fail) ?_; intro ff20; refine withF (p := w'.cell? ⟨w.heap.size, 1, none⟩ = some (.int .i64 aY)) (by first | (rw [hq2]; with_reducible assumption) | (simp (maxDischargeDepth := 7) [go_sem, hq2]; done) | (simp (maxDischargeDepth := 7) [go_sem, hq2, *]; done) | fail) ?_; intro ff21)); (try (refine kuse (b := w.heap.size + 1) hk (by first | (simp; done) | (simp; omega) | omega) ?_; intro hq3 hg3; have hy3 : w.heap.size + 1 < w'.heap.size := (by (try simp at hz); omega); have hn3 : ¬ w.heap.size + 1 = w'.heap.size := (by omega); have hm3 : ¬ w.heap.size + 1 = w'.heap.size + 1 := (by omega); refine withF (p := w'.cell? ⟨w.heap.size + 1, 0, none⟩ = some (.int .i64 bX)) (by first | (rw [hq3]; with_reducible assumption) | (simp (maxDischargeDepth := 7) [go_sem, hq3]; done) | (simp (maxDischargeDepth := 7) [go_sem, hq3, *]; done) | fail) ?_; intro ff30; refine withF (p := w'.cell? ⟨w.heap.size + 1, 1, none⟩ = some (.int .i64 bY)) (by first | (rw [hq3]; with_reducible assumption) | (simp (maxDischargeDepth := 7) [go_sem, hq3]; done) | (simp (maxDischargeDepth := 7) [go_sem, hq3, *]; done) | fail) ?_; intro ff31)); (try (refine kuse (b := w.heap.size + 2) hk (by first | (simp; done) | (simp; omega) | omega) ?_; intro hq4 hg4; have hy4 : w.heap.size + 2 < w'.heap.size := (by (try simp at hz); omega); have hn4 : ¬ w.heap.size + 2 = w'.heap.size := (by omega); have hm4 : ¬ w.heap.size + 2 = w'.heap.size + 1 := (by omega); refine withF (p := w'.cell? ⟨w.heap.size + 2, 0, none⟩ = some (.int .i64 pX)) (by first | (rw [hq4]; with_reducible assumption) | (simp (maxDischargeDepth := 7) [go_sem, hq4]; done) | (simp (maxDischargeDepth := 7) [go_sem, hq4, *]; done) | fail) ?_; intro ff40; refine withF (p := w'.cell? ⟨w.heap.size + 2, 1, none⟩ = some (.int .i64 pY)) (by first | (rw [hq4]; with_reducible assumption) | (simp (maxDischargeDepth := 7) [go_sem, hq4]; done) | (simp (maxDischargeDepth := 7) [go_sem, hq4, *]; done) | fail) ?_; intro ff41))) | (go_at_call 49; (first | with_reducible refine (root_w (dtp (bX - aX) (bY - aY) (pX - aX) (pY - aY)) _ (by omega) (by omega) sp (by omega) hc2 _).mono ?_); rintro e w' ⟨rfl, hk⟩; have hz := hk.size; (try (refine kuse (b := b1_0) hk (by first | (simp; done) | (simp; omega) | omega) ?_; intro hq0 hg0; have hy0 : b1_0 < w'.heap.size := (by (try simp at hz); omega); have hn0 : ¬ b1_0 = w'.heap.size := (by omega); have hm0 : ¬ b1_0 = w'.heap.size + 1 := (by omega); refine withF (p := w'.cell? ⟨b1_0, 0, none⟩ = some (.int .i64 (bX - aX))) (by first | (rw [hq0]; with_reducible assumption) | (simp (maxDischargeDepth := 7) [go_sem, hq0]; done) | (simp (maxDischargeDepth := 7) [go_sem, hq0, *]; done) | fail) ?_; intro ff00; refine withF (p := w'.cell? ⟨b1_0, 1, none⟩ = some (.int .i64 (bY - aY))) (by first | (rw [hq0]; with_reducible assumption) | (simp (maxDischargeDepth := 7) [go_sem, hq0]; done) | (simp (maxDischargeDepth := 7) [go_sem, hq0, *]; done) | fail) ?_; intro ff01)); (try (refine kuse (b := b1_1) hk (by first | (simp; done) | (simp; omega) | omega) ?_; intro hq1 hg1; have hy1 : b1_1 < w'.heap.size := (by (try simp at hz); omega); have hn1 : ¬ b1_1 = w'.heap.size := (by omega); have hm1 : ¬ b1_1 = w'.heap.size + 1 := (by omega); refine withF (p := w'.cell? ⟨b1_1, 0, none⟩ = some (.int .i64 (pX - aX))) (by first | (rw [hq1]; with_reducible assumption) | (simp (maxDischargeDepth := 7) [go_sem, hq1]; done) | (simp (maxDischargeDepth := 7) [go_sem, hq1, *]; done) | fail) ?_; intro ff10; refine withF (p := w'.cell? ⟨b1_1, 1, none⟩ = some (.int .i64 (pY - aY))) (by first | (rw [hq1]; with_reducible assumption) | (simp (maxDischargeDepth := 7) [go_sem, hq1]; done) | (simp (maxDischargeDepth := 7) [go_sem, hq1, *]; done) | fail) ?_; intro ff11)); (try (refine kuse (b := w.heap.size) hk (by first | (simp; done) | (simp; omega) | omega) ?_; intro hq2 hg2; have hy2 : w.heap.size < w'.heap.size := (by (try simp at hz); omega); have hn2 : ¬ w.heap.size = w'.heap.size := (by omega); have hm2 : ¬ w.heap.size = w'.heap.size + 1 := (by omega); refine withF (p := w'.cell? ⟨w.heap.size, 0, none⟩ = some (.int .i64 aX)) (by first | (rw [hq2]; with_reducible assumption) | (simp (maxDischargeDepth := 7) [go_sem, hq2]; done) | (simp (maxDischargeDepth := 7) [go_sem, hq2, *]; done) | fail) ?_; intro ff20; refine withF (p := w'.cell? ⟨w.heap.size, 1, none⟩ = some (.int .i64 aY)) (by first | (rw [hq2]; with_reducible assumption) | (simp (maxDischargeDepth := 7) [go_sem, hq2]; done) | (simp (maxDischargeDepth := 7) [go_sem, hq2, *]; done) | fail) ?_; intro ff21)); (try (refine kuse (b := w.heap.size + 1) hk (by first | (simp; done) | (simp; omega) | omega) ?_; intro hq3 hg3; have hy3 : w.heap.size + 1 < w'.heap.size := (by (try simp at hz); omega); have hn3 : ¬ w.heap.size + 1 = w'.heap.size := (by omega); have hm3 : ¬ w.heap.size + 1 = w'.heap.size + 1 := (by omega); refine withF (p := w'.cell? ⟨w.heap.size + 1, 0, none⟩ = some (.int .i64 bX)) (by first | (rw [hq3]; with_reducible assumption) | (simp (maxDischargeDepth := 7) [go_sem, hq3]; done) | (simp (maxDischargeDepth := 7) [go_sem, hq3, *]; done) | fail) ?_; intro ff30; refine withF (p := w'.cell? ⟨w.heap.size + 1, 1, none⟩ = some (.int .i64 bY)) (by first | (rw [hq3]; with_reducible assumption) | (simp (maxDischargeDepth := 7) [go_sem, hq3]; done) | (simp (maxDischargeDepth := 7) [go_sem, hq3, *]; done) | fail) ?_; intro ff31)); (try (refine kuse (b := w.heap.size + 2) hk (by first | (simp; done) | (simp; omega) | omega) ?_; intro hq4 hg4; have hy4 : w.heap.size + 2 < w'.heap.size := (by (try simp at hz); omega); have hn4 : ¬ w.heap.size + 2 = w'.heap.size := (by omega); have hm4 : ¬ w.heap.size + 2 = w'.heap.size + 1 := (by omega); refine withF (p := w'.cell? ⟨w.heap.size + 2, 0, none⟩ = some (.int .i64 pX)) (by first | (rw [hq4]; with_reducible assumption) | (simp (maxDischargeDepth := 7) [go_sem, hq4]; done) | (simp (maxDischargeDepth := 7) [go_sem, hq4, *]; done) | fail) ?_; intro ff40; refine withF (p := w'.cell? ⟨w.heap.size + 2, 1, none⟩ = some (.int .i64 pY)) (by first | (rw [hq4]; with_reducible assumption) | (simp (maxDischargeDepth := 7) [go_sem, hq4]; done) | (simp (maxDischargeDepth := 7) [go_sem, hq4, *]; done) | fail) ?_; intro ff41))))
  all_goals go_wp2_with fail
  all_goals exact bodyPost_ret (v := .tuple #[.int .i64 (-len (crs (bX - aX) (bY - aY) (pX - aX) (pY - aY)) (dtp (bX - aX) (bY - aY) (bX - aX) (bY - aY))), .int .i64 (len (dtp (bX - aX) (bY - aY) (pX - aX) (pY - aY)) (dtp (bX - aX) (bY - aY) (bX - aX) (bY - aY))), .int .i64 0]) (by first | (simp [results, Try.results24, go_sem]; done) | (simp (maxDischargeDepth := 7) [results, Try.results24, go_sem, *]; done)) rfl ⟨rfl, (by repeat (first | with_reducible exact Kept.refl _ | with_reducible assumption | with_reducible refine Kept.setCell ?_ (by first | (simp; done) | (simp; omega) | omega) _ | with_reducible refine Kept.alloc ?_ _ | with_reducible refine Kept.drewN ?_ _ | with_reducible refine Kept.drew ?_ | with_reducible refine Kept.trans ?_ (by with_reducible assumption) | with_reducible refine Kept.dr ?_ (by with_reducible assumption)))⟩

end Go.Proofs.Ytokgmhicindibaa
