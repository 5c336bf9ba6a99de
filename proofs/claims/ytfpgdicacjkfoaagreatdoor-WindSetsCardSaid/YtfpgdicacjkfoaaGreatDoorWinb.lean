/-
  Own contracts: layer 13: ground speed and drift.
-/
import Derived.Test.YtfpgdicacjkfoaaGreatDoorWina
import Derived.Test.YtfpgdicacjkfoaaGreatDoorWinr
import Derived.WalkKit
import Derived.ProofKit
import Derived.OpenShut
import Derived.WalkLawsBesides
import Derived.WalkSpells
import Derived.Lib.Hide
import Derived.Deep.DeepCutAuto
import Derived.Deep.CutBlock
import Derived.Deep.QuietTactic
import Derived.BigQuiet
import Derived.Handy
import Derived.StillTailTactics
import Derived.IntWalk
import Derived.LoopN
import Derived.Deep.RegionHeld3
namespace Go.Proofs.YtfpgdicacjkfoaaGreatDoor
open Go.ChangeShapes Go.WideShapes Go.ChangeAt Go.RowKit
set_option linter.unusedVariables false
set_option linter.unusedSimpArgs false
theorem gE_arg {c t x y : Int} (h : wok x y = false ∨ t < 1 ∨ 4000 < t) : gE c t x y = 1 ∧ gG c t x y = 0 ∧ gD c t x y = 0 := by
  have e : gE c t x y = 1 := if_pos h
  exact ⟨e, by unfold gG; rw [e]; rfl, by unfold gD; rw [e]; rfl⟩
theorem gE_g1 {c t x y : Int} (h : ¬ (wok x y = false ∨ t < 1 ∨ 4000 < t)) (k : t * 1024 ≤ iabs (acr c x y)) : gE c t x y = 10 ∧ gG c t x y = 0 ∧ gD c t x y = 0 := by
  have e : gE c t x y = 10 := by unfold gE; rw [if_neg h, if_pos k]
  exact ⟨e, by unfold gG; rw [e]; rfl, by unfold gD; rw [e]; rfl⟩
theorem gE_g2 {c t x y : Int} (h : ¬ (wok x y = false ∨ t < 1 ∨ 4000 < t)) (k : ¬ t * 1024 ≤ iabs (acr c x y)) (l : alo c x y + rt c t x y < 1024) : gE c t x y = 10 ∧ gG c t x y = 0 ∧ gD c t x y = 0 := by
  have e : gE c t x y = 10 := by unfold gE; rw [if_neg h, if_neg k, if_pos l]
  exact ⟨e, by unfold gG; rw [e]; rfl, by unfold gD; rw [e]; rfl⟩
theorem gE_ok {c t x y : Int} (h : ¬ (wok x y = false ∨ t < 1 ∨ 4000 < t)) (k : ¬ t * 1024 ≤ iabs (acr c x y)) (l : ¬ alo c x y + rt c t x y < 1024) : gE c t x y = 0 ∧ gG c t x y = alo c x y + rt c t x y ∧ gD c t x y = dif 0 (at2V (-acr c x y) (rt c t x y)) := by
  have e : gE c t x y = 0 := by unfold gE; rw [if_neg h, if_neg k, if_neg l]
  exact ⟨e, if_pos e, if_pos e⟩
theorem iabs_lim (a : Int) (h0 : -819200 ≤ a) (h1 : a ≤ 819200) : 0 ≤ iabs a ∧ iabs a ≤ 819200 := by unfold iabs; split <;> omega
set_option maxHeartbeats 2000000 in
set_option maxRecDepth 100000 in
theorem gr_arg (c t x y : Int) (c_0 : -9223372036854775808 ≤ c) (c_1 : c ≤ 9223372036854775807) (t_0 : -9223372036854775808 ≤ t) (t_1 : t ≤ 9223372036854775807) (h : wok x y = false) (w : World) : Calls Tryz.prog 15 #[.int .i64 c, .int .i64 t, .agg #[.int .i64 x, .int .i64 y]] w fun e w' => e = .returned (.tuple #[.int .i64 0, .int .i64 0, .int .i64 1]) ∧ Kept w w' := by
  have HP := fun W => wparts_bad c x y h W
  go_enter Tryz.func15, Tryz.ntmps15
  go_wp2_with fail
  with_reducible refine (HP _).mono ?_
  rintro e w1 ⟨rfl, hk1⟩
  refine kuse (b := w.heap.size) hk1 (by first | (simp; done) | (simp; omega) | omega) ?_
  intro ha hb
  have hz1_0 : w.heap.size < w1.heap.size := by have := hk1.size; (try simp at this); omega
  have hn1_0 : ¬ w.heap.size = w1.heap.size := by omega
  have hm1_0 : ¬ w1.heap.size = w.heap.size := by omega
  have hf1_0_0 : w1.cell? ⟨w.heap.size, 0, none⟩ = some (.int .i64 x) := by first | (rw [ha]; with_reducible assumption) | (simp (maxDischargeDepth := 7) [go_sem, ha]; done) | (rw [ha]; assumption) | (simp (maxDischargeDepth := 7) [go_sem, ha, *]; done)
  have hf1_0_1 : w1.cell? ⟨w.heap.size, 1, none⟩ = some (.int .i64 y) := by first | (rw [ha]; with_reducible assumption) | (simp (maxDischargeDepth := 7) [go_sem, ha]; done) | (rw [ha]; assumption) | (simp (maxDischargeDepth := 7) [go_sem, ha, *]; done)
  try have hg1_0 : ∀ o, w1.frozen? ⟨w.heap.size, o, none⟩ = false := by intro o; first | (simp (maxDischargeDepth := 7) [go_sem, hb]; done) | (rw [hb]; simp (maxDischargeDepth := 7) [go_sem, *]; done)
  clear ha hb
  go_wp2_with fail
  all_goals go_ret3
  all_goals exact ⟨rfl, (by repeat (first | with_reducible exact Kept.refl _ | with_reducible assumption | with_reducible refine Kept.setCell ?_ (by first | (simp; done) | (simp; omega) | omega) _ | with_reducible refine Kept.alloc ?_ _ | with_reducible refine Kept.drewN ?_ _ | with_reducible refine Kept.drew ?_ | with_reducible refine Kept.trans ?_ (by with_reducible assumption) | with_reducible refine Kept.dr ?_ (by with_reducible assumption)))⟩
set_option maxHeartbeats 2000000 in
set_option maxRecDepth 100000 in
theorem gr_tas (c t x y : Int) (c_0 : -9223372036854775808 ≤ c) (c_1 : c ≤ 9223372036854775807) (t_0 : -9223372036854775808 ≤ t) (t_1 : t ≤ 9223372036854775807) (h0 : -400 ≤ x) (h1 : x ≤ 400) (h2 : -400 ≤ y) (h3 : y ≤ 400) (h : t < 1 ∨ 4000 < t) (w : World) : Calls Tryz.prog 15 #[.int .i64 c, .int .i64 t, .agg #[.int .i64 x, .int .i64 y]] w fun e w' => e = .returned (.tuple #[.int .i64 0, .int .i64 0, .int .i64 1]) ∧ Kept w w' := by
  rcases h with h | h
  all_goals
    have HP := fun W => wparts_ok c x y c_0 c_1 h0 h1 h2 h3 W
    go_enter Tryz.func15, Tryz.ntmps15
    go_wp2_with fail
    with_reducible refine (HP _).mono ?_
    rintro e w1 ⟨rfl, hk1⟩
    refine kuse (b := w.heap.size) hk1 (by first | (simp; done) | (simp; omega) | omega) ?_
    intro ha hb
    have hz1_0 : w.heap.size < w1.heap.size := by have := hk1.size; (try simp at this); omega
    have hn1_0 : ¬ w.heap.size = w1.heap.size := by omega
    have hm1_0 : ¬ w1.heap.size = w.heap.size := by omega
    have hf1_0_0 : w1.cell? ⟨w.heap.size, 0, none⟩ = some (.int .i64 x) := by first | (rw [ha]; with_reducible assumption) | (simp (maxDischargeDepth := 7) [go_sem, ha]; done) | (rw [ha]; assumption) | (simp (maxDischargeDepth := 7) [go_sem, ha, *]; done)
    have hf1_0_1 : w1.cell? ⟨w.heap.size, 1, none⟩ = some (.int .i64 y) := by first | (rw [ha]; with_reducible assumption) | (simp (maxDischargeDepth := 7) [go_sem, ha]; done) | (rw [ha]; assumption) | (simp (maxDischargeDepth := 7) [go_sem, ha, *]; done)
    try have hg1_0 : ∀ o, w1.frozen? ⟨w.heap.size, o, none⟩ = false := by intro o; first | (simp (maxDischargeDepth := 7) [go_sem, hb]; done) | (rw [hb]; simp (maxDischargeDepth := 7) [go_sem, *]; done)
    clear ha hb
    go_wp2_with fail
    all_goals go_ret3
    all_goals exact ⟨rfl, (by repeat (first | with_reducible exact Kept.refl _ | with_reducible assumption | with_reducible refine Kept.setCell ?_ (by first | (simp; done) | (simp; omega) | omega) _ | with_reducible refine Kept.alloc ?_ _ | with_reducible refine Kept.drewN ?_ _ | with_reducible refine Kept.drew ?_ | with_reducible refine Kept.trans ?_ (by with_reducible assumption) | with_reducible refine Kept.dr ?_ (by with_reducible assumption)))⟩
set_option maxHeartbeats 2000000 in
set_option maxRecDepth 100000 in
theorem gr_g1 (c t x y : Int) (c_0 : -9223372036854775808 ≤ c) (c_1 : c ≤ 9223372036854775807) (h0 : -400 ≤ x) (h1 : x ≤ 400) (h2 : -400 ≤ y) (h3 : y ≤ 400) (t0 : 1 ≤ t) (t1 : t ≤ 4000) (k : t * 1024 ≤ iabs (acr c x y)) (w : World) : Calls Tryz.prog 15 #[.int .i64 c, .int .i64 t, .agg #[.int .i64 x, .int .i64 y]] w fun e w' => e = .returned (.tuple #[.int .i64 0, .int .i64 0, .int .i64 10]) ∧ Kept w w' := by
  obtain ⟨⟨a0, a1⟩, b0, b1⟩ := part_bd c h0 h1 h2 h3
  have i0 := iabs_lim (acr c x y) b0 b1
  have HB := Lib.hid (abs_w (acr c x y) (by omega) (by omega))
  rw [sat_iabs (acr c x y) (by omega) (by omega)] at HB
  obtain ⟨A, qA⟩ : ∃ A, alo c x y = A := ⟨_, rfl⟩
  obtain ⟨C, qC⟩ : ∃ C, acr c x y = C := ⟨_, rfl⟩
  obtain ⟨B, qB⟩ : ∃ B, iabs C = B := ⟨_, rfl⟩
  obtain ⟨S, qS⟩ : ∃ S, t * 1024 = S := ⟨_, rfl⟩
  have HP := fun W => wparts_ok c x y c_0 c_1 h0 h1 h2 h3 W
  rw [qA, qC] at HP
  rw [qC, qB] at HB
  rw [qC] at b0 b1 i0
  rw [qB] at i0
  rw [qA] at a0 a1
  have wS : IntKind.i64.wrap (t * 1024) = S := by rw [← qS]; exact IntWalk.i64_in _ (by omega)
  rw [qC, qB, qS] at k
  clear qA qC qB
  have s0 : 1024 ≤ S := by omega
  have s1 : S ≤ 4096000 := by omega
  go_enter Tryz.func15, Tryz.ntmps15
  go_wp2_with fail
  with_reducible refine (HP _).mono ?_
  rintro e w1 ⟨rfl, hk1⟩
  refine kuse (b := w.heap.size) hk1 (by first | (simp; done) | (simp; omega) | omega) ?_
  intro ha hb
  have hz1_0 : w.heap.size < w1.heap.size := by have := hk1.size; (try simp at this); omega
  have hn1_0 : ¬ w.heap.size = w1.heap.size := by omega
  have hm1_0 : ¬ w1.heap.size = w.heap.size := by omega
  have hf1_0_0 : w1.cell? ⟨w.heap.size, 0, none⟩ = some (.int .i64 x) := by first | (rw [ha]; with_reducible assumption) | (simp (maxDischargeDepth := 7) [go_sem, ha]; done) | (rw [ha]; assumption) | (simp (maxDischargeDepth := 7) [go_sem, ha, *]; done)
  have hf1_0_1 : w1.cell? ⟨w.heap.size, 1, none⟩ = some (.int .i64 y) := by first | (rw [ha]; with_reducible assumption) | (simp (maxDischargeDepth := 7) [go_sem, ha]; done) | (rw [ha]; assumption) | (simp (maxDischargeDepth := 7) [go_sem, ha, *]; done)
  try have hg1_0 : ∀ o, w1.frozen? ⟨w.heap.size, o, none⟩ = false := by intro o; first | (simp (maxDischargeDepth := 7) [go_sem, hb]; done) | (rw [hb]; simp (maxDischargeDepth := 7) [go_sem, *]; done)
  clear ha hb
  go_wp2_with fail
  with_reducible refine (HB.out _).mono ?_
  rintro e w' ⟨rfl, rfl⟩
  go_wp2_with fail
  all_goals go_ret3
  all_goals exact ⟨rfl, (by repeat (first | with_reducible exact Kept.refl _ | with_reducible assumption | with_reducible refine Kept.setCell ?_ (by first | (simp; done) | (simp; omega) | omega) _ | with_reducible refine Kept.alloc ?_ _ | with_reducible refine Kept.drewN ?_ _ | with_reducible refine Kept.drew ?_ | with_reducible refine Kept.trans ?_ (by with_reducible assumption) | with_reducible refine Kept.dr ?_ (by with_reducible assumption)))⟩
set_option maxHeartbeats 2000000 in
set_option maxRecDepth 100000 in
theorem gr_g2 (c t x y : Int) (c_0 : -9223372036854775808 ≤ c) (c_1 : c ≤ 9223372036854775807) (h0 : -400 ≤ x) (h1 : x ≤ 400) (h2 : -400 ≤ y) (h3 : y ≤ 400) (t0 : 1 ≤ t) (t1 : t ≤ 4000) (k : ¬ t * 1024 ≤ iabs (acr c x y)) (l : alo c x y + rt c t x y < 1024) (w : World) : Calls Tryz.prog 15 #[.int .i64 c, .int .i64 t, .agg #[.int .i64 x, .int .i64 y]] w fun e w' => e = .returned (.tuple #[.int .i64 0, .int .i64 0, .int .i64 10]) ∧ Kept w w' := by
  obtain ⟨⟨a0, a1⟩, b0, b1⟩ := part_bd c h0 h1 h2 h3
  have i0 := iabs_lim (acr c x y) b0 b1
  have HB := Lib.hid (abs_w (acr c x y) (by omega) (by omega))
  rw [sat_iabs (acr c x y) (by omega) (by omega)] at HB
  obtain ⟨A, qA⟩ : ∃ A, alo c x y = A := ⟨_, rfl⟩
  obtain ⟨C, qC⟩ : ∃ C, acr c x y = C := ⟨_, rfl⟩
  obtain ⟨B, qB⟩ : ∃ B, iabs C = B := ⟨_, rfl⟩
  obtain ⟨S, qS⟩ : ∃ S, t * 1024 = S := ⟨_, rfl⟩
  have HP := fun W => wparts_ok c x y c_0 c_1 h0 h1 h2 h3 W
  rw [qA, qC] at HP
  rw [qC, qB] at HB
  rw [qC] at b0 b1 i0
  rw [qB] at i0
  rw [qA] at a0 a1
  have wS : IntKind.i64.wrap (t * 1024) = S := by rw [← qS]; exact IntWalk.i64_in _ (by omega)
  have hr : rt c t x y = isq (S * S - C * C) := by unfold rt; rw [qS, qC]
  have sb := sq_iabs C
  rw [qC, qB, qS] at k
  rw [qB] at sb
  clear qB
  have s0 : 1024 ≤ S := by omega
  have s1 : S ≤ 4096000 := by omega
  have r1 := sq_le (a := S) (b := 4096000) (by omega) (by omega)
  have r2 := sq_le (a := B) (b := 819200) (by omega) (by omega)
  have r3 := sq_le (a := B) (b := S) (by omega) (by omega)
  have r4 := Int.mul_nonneg (show (0 : Int) ≤ B by omega) (show (0 : Int) ≤ B by omega)
  obtain ⟨q0, q1, q2⟩ := root_bd S B (by omega) (by omega) s1 s0
  rw [sb] at q0 q1 q2 r2 r3 r4
  have wSS : IntKind.i64.wrap (S * S) = S * S := IntWalk.i64_in _ (by omega)
  have wCC : IntKind.i64.wrap (C * C) = C * C := IntWalk.i64_in _ (by omega)
  have wD : IntKind.i64.wrap (S * S - C * C) = S * S - C * C := IntWalk.i64_in _ (by omega)
  obtain ⟨r, qr⟩ : ∃ r, isq (S * S - C * C) = r := ⟨_, rfl⟩
  have HQ := Lib.hid (sqrt_w (S * S - C * C) (by omega) (by omega))
  rw [qr] at hr HQ q0 q1 q2
  clear qr
  rw [hr, qA] at l
  clear qA qC hr
  go_enter Tryz.func15, Tryz.ntmps15
  go_wp2_with fail
  with_reducible refine (HP _).mono ?_
  rintro e w1 ⟨rfl, hk1⟩
  refine kuse (b := w.heap.size) hk1 (by first | (simp; done) | (simp; omega) | omega) ?_
  intro ha hb
  have hz1_0 : w.heap.size < w1.heap.size := by have := hk1.size; (try simp at this); omega
  have hn1_0 : ¬ w.heap.size = w1.heap.size := by omega
  have hm1_0 : ¬ w1.heap.size = w.heap.size := by omega
  have hf1_0_0 : w1.cell? ⟨w.heap.size, 0, none⟩ = some (.int .i64 x) := by first | (rw [ha]; with_reducible assumption) | (simp (maxDischargeDepth := 7) [go_sem, ha]; done) | (rw [ha]; assumption) | (simp (maxDischargeDepth := 7) [go_sem, ha, *]; done)
  have hf1_0_1 : w1.cell? ⟨w.heap.size, 1, none⟩ = some (.int .i64 y) := by first | (rw [ha]; with_reducible assumption) | (simp (maxDischargeDepth := 7) [go_sem, ha]; done) | (rw [ha]; assumption) | (simp (maxDischargeDepth := 7) [go_sem, ha, *]; done)
  try have hg1_0 : ∀ o, w1.frozen? ⟨w.heap.size, o, none⟩ = false := by intro o; first | (simp (maxDischargeDepth := 7) [go_sem, hb]; done) | (rw [hb]; simp (maxDischargeDepth := 7) [go_sem, *]; done)
  clear ha hb
  go_wp2_with fail
  with_reducible refine (HB.out _).mono ?_
  rintro e w' ⟨rfl, rfl⟩
  go_wp2_with fail
  with_reducible refine (HQ.out _).mono ?_
  rintro e w' ⟨rfl, rfl⟩
  go_wp2_with fail
  all_goals go_ret3
  all_goals exact ⟨rfl, (by repeat (first | with_reducible exact Kept.refl _ | with_reducible assumption | with_reducible refine Kept.setCell ?_ (by first | (simp; done) | (simp; omega) | omega) _ | with_reducible refine Kept.alloc ?_ _ | with_reducible refine Kept.drewN ?_ _ | with_reducible refine Kept.drew ?_ | with_reducible refine Kept.trans ?_ (by with_reducible assumption) | with_reducible refine Kept.dr ?_ (by with_reducible assumption)))⟩
set_option maxHeartbeats 2000000 in
set_option maxRecDepth 100000 in
theorem gr_ok (c t x y : Int) (c_0 : -9223372036854775808 ≤ c) (c_1 : c ≤ 9223372036854775807) (h0 : -400 ≤ x) (h1 : x ≤ 400) (h2 : -400 ≤ y) (h3 : y ≤ 400) (t0 : 1 ≤ t) (t1 : t ≤ 4000) (k : ¬ t * 1024 ≤ iabs (acr c x y)) (l : ¬ alo c x y + rt c t x y < 1024) (w : World) : Calls Tryz.prog 15 #[.int .i64 c, .int .i64 t, .agg #[.int .i64 x, .int .i64 y]] w fun e w' => e = .returned (.tuple #[.int .i64 (alo c x y + rt c t x y), .int .i64 (dif 0 (at2V (-acr c x y) (rt c t x y))), .int .i64 0]) ∧ Kept w w' := by
  obtain ⟨⟨a0, a1⟩, b0, b1⟩ := part_bd c h0 h1 h2 h3
  have i0 := iabs_lim (acr c x y) b0 b1
  have HB := Lib.hid (abs_w (acr c x y) (by omega) (by omega))
  rw [sat_iabs (acr c x y) (by omega) (by omega)] at HB
  obtain ⟨A, qA⟩ : ∃ A, alo c x y = A := ⟨_, rfl⟩
  obtain ⟨C, qC⟩ : ∃ C, acr c x y = C := ⟨_, rfl⟩
  obtain ⟨B, qB⟩ : ∃ B, iabs C = B := ⟨_, rfl⟩
  obtain ⟨S, qS⟩ : ∃ S, t * 1024 = S := ⟨_, rfl⟩
  have HP := fun W => wparts_ok c x y c_0 c_1 h0 h1 h2 h3 W
  rw [qA, qC] at HP
  rw [qC, qB] at HB
  rw [qC] at b0 b1 i0
  rw [qB] at i0
  rw [qA] at a0 a1
  have wS : IntKind.i64.wrap (t * 1024) = S := by rw [← qS]; exact IntWalk.i64_in _ (by omega)
  have hr : rt c t x y = isq (S * S - C * C) := by unfold rt; rw [qS, qC]
  have sb := sq_iabs C
  rw [qC, qB, qS] at k
  rw [qB] at sb
  clear qB
  have s0 : 1024 ≤ S := by omega
  have s1 : S ≤ 4096000 := by omega
  have r1 := sq_le (a := S) (b := 4096000) (by omega) (by omega)
  have r2 := sq_le (a := B) (b := 819200) (by omega) (by omega)
  have r3 := sq_le (a := B) (b := S) (by omega) (by omega)
  have r4 := Int.mul_nonneg (show (0 : Int) ≤ B by omega) (show (0 : Int) ≤ B by omega)
  obtain ⟨q0, q1, q2⟩ := root_bd S B (by omega) (by omega) s1 s0
  rw [sb] at q0 q1 q2 r2 r3 r4
  have wSS : IntKind.i64.wrap (S * S) = S * S := IntWalk.i64_in _ (by omega)
  have wCC : IntKind.i64.wrap (C * C) = C * C := IntWalk.i64_in _ (by omega)
  have wD : IntKind.i64.wrap (S * S - C * C) = S * S - C * C := IntWalk.i64_in _ (by omega)
  obtain ⟨r, qr⟩ : ∃ r, isq (S * S - C * C) = r := ⟨_, rfl⟩
  have HQ := Lib.hid (sqrt_w (S * S - C * C) (by omega) (by omega))
  rw [qr] at hr HQ q0 q1 q2
  clear qr
  rw [hr, qA] at l
  rw [hr, qA, qC]
  obtain ⟨v0, v1⟩ := at2V_bd (-C) r
  have HT := Lib.hid (atan2_w (-C) r (by omega) (by omega) (by omega) (by omega))
  obtain ⟨Z, qZ⟩ : ∃ Z, at2V (-C) r = Z := ⟨_, rfl⟩
  rw [qZ] at HT v0 v1
  rw [qZ]
  have HD := Lib.hid (diff_w 0 Z (by omega) (by omega) (by omega) (by omega))
  clear qA qC hr qZ
  go_enter Tryz.func15, Tryz.ntmps15
  go_wp2_with fail
  with_reducible refine (HP _).mono ?_
  rintro e w1 ⟨rfl, hk1⟩
  refine kuse (b := w.heap.size) hk1 (by first | (simp; done) | (simp; omega) | omega) ?_
  intro ha hb
  have hz1_0 : w.heap.size < w1.heap.size := by have := hk1.size; (try simp at this); omega
  have hn1_0 : ¬ w.heap.size = w1.heap.size := by omega
  have hm1_0 : ¬ w1.heap.size = w.heap.size := by omega
  have hf1_0_0 : w1.cell? ⟨w.heap.size, 0, none⟩ = some (.int .i64 x) := by first | (rw [ha]; with_reducible assumption) | (simp (maxDischargeDepth := 7) [go_sem, ha]; done) | (rw [ha]; assumption) | (simp (maxDischargeDepth := 7) [go_sem, ha, *]; done)
  have hf1_0_1 : w1.cell? ⟨w.heap.size, 1, none⟩ = some (.int .i64 y) := by first | (rw [ha]; with_reducible assumption) | (simp (maxDischargeDepth := 7) [go_sem, ha]; done) | (rw [ha]; assumption) | (simp (maxDischargeDepth := 7) [go_sem, ha, *]; done)
  try have hg1_0 : ∀ o, w1.frozen? ⟨w.heap.size, o, none⟩ = false := by intro o; first | (simp (maxDischargeDepth := 7) [go_sem, hb]; done) | (rw [hb]; simp (maxDischargeDepth := 7) [go_sem, *]; done)
  clear ha hb
  go_wp2_with fail
  with_reducible refine (HB.out _).mono ?_
  rintro e w' ⟨rfl, rfl⟩
  go_wp2_with fail
  with_reducible refine (HQ.out _).mono ?_
  rintro e w' ⟨rfl, rfl⟩
  go_wp2_with fail
  with_reducible refine (HT.out _).mono ?_
  rintro e w4 ⟨rfl, hk4⟩
  refine kuse (b := w.heap.size) hk4 (by first | (simp; done) | (simp; omega) | omega) ?_
  intro ha hb
  have hz4_0 : w.heap.size < w4.heap.size := by have := hk4.size; (try simp at this); omega
  have hn4_0 : ¬ w.heap.size = w4.heap.size := by omega
  have hm4_0 : ¬ w4.heap.size = w.heap.size := by omega
  have hf4_0_0 : w4.cell? ⟨w.heap.size, 0, none⟩ = some (.int .i64 x) := by first | (rw [ha]; with_reducible assumption) | (simp (maxDischargeDepth := 7) [go_sem, ha]; done) | (rw [ha]; assumption) | (simp (maxDischargeDepth := 7) [go_sem, ha, *]; done)
  have hf4_0_1 : w4.cell? ⟨w.heap.size, 1, none⟩ = some (.int .i64 y) := by first | (rw [ha]; with_reducible assumption) | (simp (maxDischargeDepth := 7) [go_sem, ha]; done) | (rw [ha]; assumption) | (simp (maxDischargeDepth := 7) [go_sem, ha, *]; done)
  try have hg4_0 : ∀ o, w4.frozen? ⟨w.heap.size, o, none⟩ = false := by intro o; first | (simp (maxDischargeDepth := 7) [go_sem, hb]; done) | (rw [hb]; simp (maxDischargeDepth := 7) [go_sem, *]; done)
  clear ha hb
  try clear hf1_0_0
  try clear hf1_0_1
  try clear hg1_0
  go_wp2_with fail
  with_reducible refine (HD.out _).mono ?_
  rintro e w' ⟨rfl, rfl⟩
  go_wp2_with fail
  all_goals exact bodyPost_ret (v := .tuple #[.int .i64 (A + r), .int .i64 (dif 0 Z), .int .i64 0]) (by first | (simp [results, Tryz.results15, go_sem]; done) | (simp (maxDischargeDepth := 7) [results, Tryz.results15, go_sem, *]; done)) rfl ⟨rfl, (by repeat (first | with_reducible exact Kept.refl _ | with_reducible assumption | with_reducible refine Kept.setCell ?_ (by first | (simp; done) | (simp; omega) | omega) _ | with_reducible refine Kept.alloc ?_ _ | with_reducible refine Kept.drewN ?_ _ | with_reducible refine Kept.drew ?_ | with_reducible refine Kept.trans ?_ (by with_reducible assumption) | with_reducible refine Kept.dr ?_ (by with_reducible assumption)))⟩
set_option maxHeartbeats 2000000 in
set_option maxRecDepth 100000 in
theorem ground_w (c t x y : Int) (c_0 : -9223372036854775808 ≤ c) (c_1 : c ≤ 9223372036854775807) (t_0 : -9223372036854775808 ≤ t) (t_1 : t ≤ 9223372036854775807) (w : World) : Calls Tryz.prog 15 #[.int .i64 c, .int .i64 t, .agg #[.int .i64 x, .int .i64 y]] w fun e w' => e = .returned (.tuple #[.int .i64 (gG c t x y), .int .i64 (gD c t x y), .int .i64 (gE c t x y)]) ∧ Kept w w' := by
  by_cases h : wok x y = false ∨ t < 1 ∨ 4000 < t
  · obtain ⟨e1, e2, e3⟩ := gE_arg (c := c) h
    rw [e1, e2, e3]
    cases hw : wok x y with
    | false => exact gr_arg c t x y c_0 c_1 t_0 t_1 hw w
    | true =>
      obtain ⟨h0, h1, h2, h3⟩ := wok_yes hw
      rw [hw] at h
      exact gr_tas c t x y c_0 c_1 t_0 t_1 h0 h1 h2 h3 (by simpa using h) w
  · have hw : wok x y = true := by cases e : wok x y with | true => rfl | false => exact absurd (Or.inl e) h
    obtain ⟨h0, h1, h2, h3⟩ := wok_yes hw
    by_cases k : t * 1024 ≤ iabs (acr c x y)
    · obtain ⟨e1, e2, e3⟩ := gE_g1 h k
      rw [e1, e2, e3]
      exact gr_g1 c t x y c_0 c_1 h0 h1 h2 h3 (by omega) (by omega) k w
    · by_cases l : alo c x y + rt c t x y < 1024
      · obtain ⟨e1, e2, e3⟩ := gE_g2 h k l
        rw [e1, e2, e3]
        exact gr_g2 c t x y c_0 c_1 h0 h1 h2 h3 (by omega) (by omega) k l w
      · obtain ⟨e1, e2, e3⟩ := gE_ok h k l
        rw [e1, e2, e3]
        exact gr_ok c t x y c_0 c_1 h0 h1 h2 h3 (by omega) (by omega) k l w
set_option maxHeartbeats 2000000 in
set_option maxRecDepth 100000 in
theorem ref_gr_arg (c t x y : Int) (c_0 : -9223372036854775808 ≤ c) (c_1 : c ≤ 9223372036854775807) (t_0 : -9223372036854775808 ≤ t) (t_1 : t ≤ 9223372036854775807) (h : wok x y = false) (w : World) : Calls Tryz.prog 16 #[.int .i64 c, .int .i64 t, .agg #[.int .i64 x, .int .i64 y]] w fun e w' => e = .returned (.tuple #[.int .i64 0, .int .i64 0, .int .i64 1]) ∧ Kept w w' := by
  have HV := fun W => ref_wvalid_w x y W
  rw [h] at HV
  go_enter Tryz.func16, Tryz.ntmps16
  go_wp2_with fail
  with_reducible refine (HV _).mono ?_
  rintro e w1 ⟨rfl, hk1⟩
  refine kuse (b := w.heap.size) hk1 (by first | (simp; done) | (simp; omega) | omega) ?_
  intro ha hb
  have hz1_0 : w.heap.size < w1.heap.size := by have := hk1.size; (try simp at this); omega
  have hn1_0 : ¬ w.heap.size = w1.heap.size := by omega
  have hm1_0 : ¬ w1.heap.size = w.heap.size := by omega
  have hf1_0_0 : w1.cell? ⟨w.heap.size, 0, none⟩ = some (.int .i64 x) := by first | (rw [ha]; with_reducible assumption) | (simp (maxDischargeDepth := 7) [go_sem, ha]; done) | (rw [ha]; assumption) | (simp (maxDischargeDepth := 7) [go_sem, ha, *]; done)
  have hf1_0_1 : w1.cell? ⟨w.heap.size, 1, none⟩ = some (.int .i64 y) := by first | (rw [ha]; with_reducible assumption) | (simp (maxDischargeDepth := 7) [go_sem, ha]; done) | (rw [ha]; assumption) | (simp (maxDischargeDepth := 7) [go_sem, ha, *]; done)
  try have hg1_0 : ∀ o, w1.frozen? ⟨w.heap.size, o, none⟩ = false := by intro o; first | (simp (maxDischargeDepth := 7) [go_sem, hb]; done) | (rw [hb]; simp (maxDischargeDepth := 7) [go_sem, *]; done)
  clear ha hb
  go_wp2_with fail
  all_goals go_ret3
  all_goals exact ⟨rfl, (by repeat (first | with_reducible exact Kept.refl _ | with_reducible assumption | with_reducible refine Kept.setCell ?_ (by first | (simp; done) | (simp; omega) | omega) _ | with_reducible refine Kept.alloc ?_ _ | with_reducible refine Kept.drewN ?_ _ | with_reducible refine Kept.drew ?_ | with_reducible refine Kept.trans ?_ (by with_reducible assumption) | with_reducible refine Kept.dr ?_ (by with_reducible assumption)))⟩
set_option maxHeartbeats 2000000 in
set_option maxRecDepth 100000 in
theorem ref_gr_tas (c t x y : Int) (c_0 : -9223372036854775808 ≤ c) (c_1 : c ≤ 9223372036854775807) (t_0 : -9223372036854775808 ≤ t) (t_1 : t ≤ 9223372036854775807) (h0 : -400 ≤ x) (h1 : x ≤ 400) (h2 : -400 ≤ y) (h3 : y ≤ 400) (h : t < 1 ∨ 4000 < t) (w : World) : Calls Tryz.prog 16 #[.int .i64 c, .int .i64 t, .agg #[.int .i64 x, .int .i64 y]] w fun e w' => e = .returned (.tuple #[.int .i64 0, .int .i64 0, .int .i64 1]) ∧ Kept w w' := by
  rcases h with h | h
  all_goals
    have HV := fun W => ref_wvalid_w x y W
    rw [wok_is h0 h1 h2 h3] at HV
    go_enter Tryz.func16, Tryz.ntmps16
    go_wp2_with fail
    with_reducible refine (HV _).mono ?_
    rintro e w1 ⟨rfl, hk1⟩
    refine kuse (b := w.heap.size) hk1 (by first | (simp; done) | (simp; omega) | omega) ?_
    intro ha hb
    have hz1_0 : w.heap.size < w1.heap.size := by have := hk1.size; (try simp at this); omega
    have hn1_0 : ¬ w.heap.size = w1.heap.size := by omega
    have hm1_0 : ¬ w1.heap.size = w.heap.size := by omega
    have hf1_0_0 : w1.cell? ⟨w.heap.size, 0, none⟩ = some (.int .i64 x) := by first | (rw [ha]; with_reducible assumption) | (simp (maxDischargeDepth := 7) [go_sem, ha]; done) | (rw [ha]; assumption) | (simp (maxDischargeDepth := 7) [go_sem, ha, *]; done)
    have hf1_0_1 : w1.cell? ⟨w.heap.size, 1, none⟩ = some (.int .i64 y) := by first | (rw [ha]; with_reducible assumption) | (simp (maxDischargeDepth := 7) [go_sem, ha]; done) | (rw [ha]; assumption) | (simp (maxDischargeDepth := 7) [go_sem, ha, *]; done)
    try have hg1_0 : ∀ o, w1.frozen? ⟨w.heap.size, o, none⟩ = false := by intro o; first | (simp (maxDischargeDepth := 7) [go_sem, hb]; done) | (rw [hb]; simp (maxDischargeDepth := 7) [go_sem, *]; done)
    clear ha hb
    go_wp2_with fail
    all_goals go_ret3
    all_goals exact ⟨rfl, (by repeat (first | with_reducible exact Kept.refl _ | with_reducible assumption | with_reducible refine Kept.setCell ?_ (by first | (simp; done) | (simp; omega) | omega) _ | with_reducible refine Kept.alloc ?_ _ | with_reducible refine Kept.drewN ?_ _ | with_reducible refine Kept.drew ?_ | with_reducible refine Kept.trans ?_ (by with_reducible assumption) | with_reducible refine Kept.dr ?_ (by with_reducible assumption)))⟩
set_option maxHeartbeats 2000000 in
set_option maxRecDepth 100000 in
theorem ref_gr_g1 (c t x y : Int) (c_0 : -9223372036854775808 ≤ c) (c_1 : c ≤ 9223372036854775807) (h0 : -400 ≤ x) (h1 : x ≤ 400) (h2 : -400 ≤ y) (h3 : y ≤ 400) (t0 : 1 ≤ t) (t1 : t ≤ 4000) (k : t * 1024 ≤ iabs (acr c x y)) (w : World) : Calls Tryz.prog 16 #[.int .i64 c, .int .i64 t, .agg #[.int .i64 x, .int .i64 y]] w fun e w' => e = .returned (.tuple #[.int .i64 0, .int .i64 0, .int .i64 10]) ∧ Kept w w' := by
  obtain ⟨⟨a0, a1⟩, b0, b1⟩ := part_bd c h0 h1 h2 h3
  have i0 := iabs_lim (acr c x y) b0 b1
  have HB := Lib.hid (ref_abs_w (acr c x y) (by omega) (by omega))
  rw [sat_iabs (acr c x y) (by omega) (by omega)] at HB
  obtain ⟨A, qA⟩ : ∃ A, alo c x y = A := ⟨_, rfl⟩
  obtain ⟨C, qC⟩ : ∃ C, acr c x y = C := ⟨_, rfl⟩
  obtain ⟨B, qB⟩ : ∃ B, iabs C = B := ⟨_, rfl⟩
  obtain ⟨S, qS⟩ : ∃ S, t * 1024 = S := ⟨_, rfl⟩
  have HV := fun W => ref_wvalid_w x y W
  rw [wok_is h0 h1 h2 h3] at HV
  have HP := fun W => ref_wparts_w c x y c_0 c_1 h0 h1 h2 h3 W
  rw [qA, qC] at HP
  rw [qC, qB] at HB
  rw [qC] at b0 b1 i0
  rw [qB] at i0
  rw [qA] at a0 a1
  have wS : IntKind.i64.wrap (t * 1024) = S := by rw [← qS]; exact IntWalk.i64_in _ (by omega)
  rw [qC, qB, qS] at k
  clear qA qC qB
  have s0 : 1024 ≤ S := by omega
  have s1 : S ≤ 4096000 := by omega
  go_enter Tryz.func16, Tryz.ntmps16
  go_wp2_with fail
  with_reducible refine (HV _).mono ?_
  rintro e w1 ⟨rfl, hk1⟩
  refine kuse (b := w.heap.size) hk1 (by first | (simp; done) | (simp; omega) | omega) ?_
  intro ha hb
  have hz1_0 : w.heap.size < w1.heap.size := by have := hk1.size; (try simp at this); omega
  have hn1_0 : ¬ w.heap.size = w1.heap.size := by omega
  have hm1_0 : ¬ w1.heap.size = w.heap.size := by omega
  have hf1_0_0 : w1.cell? ⟨w.heap.size, 0, none⟩ = some (.int .i64 x) := by first | (rw [ha]; with_reducible assumption) | (simp (maxDischargeDepth := 7) [go_sem, ha]; done) | (rw [ha]; assumption) | (simp (maxDischargeDepth := 7) [go_sem, ha, *]; done)
  have hf1_0_1 : w1.cell? ⟨w.heap.size, 1, none⟩ = some (.int .i64 y) := by first | (rw [ha]; with_reducible assumption) | (simp (maxDischargeDepth := 7) [go_sem, ha]; done) | (rw [ha]; assumption) | (simp (maxDischargeDepth := 7) [go_sem, ha, *]; done)
  try have hg1_0 : ∀ o, w1.frozen? ⟨w.heap.size, o, none⟩ = false := by intro o; first | (simp (maxDischargeDepth := 7) [go_sem, hb]; done) | (rw [hb]; simp (maxDischargeDepth := 7) [go_sem, *]; done)
  clear ha hb
  go_wp2_with fail
  with_reducible refine (HP _).mono ?_
  rintro e w' ⟨rfl, rfl⟩
  go_wp2_with fail
  with_reducible refine (HB.out _).mono ?_
  rintro e w' ⟨rfl, rfl⟩
  go_wp2_with fail
  all_goals go_ret3
  all_goals exact ⟨rfl, (by repeat (first | with_reducible exact Kept.refl _ | with_reducible assumption | with_reducible refine Kept.setCell ?_ (by first | (simp; done) | (simp; omega) | omega) _ | with_reducible refine Kept.alloc ?_ _ | with_reducible refine Kept.drewN ?_ _ | with_reducible refine Kept.drew ?_ | with_reducible refine Kept.trans ?_ (by with_reducible assumption) | with_reducible refine Kept.dr ?_ (by with_reducible assumption)))⟩
set_option maxHeartbeats 2000000 in
set_option maxRecDepth 100000 in
theorem ref_gr_g2 (c t x y : Int) (c_0 : -9223372036854775808 ≤ c) (c_1 : c ≤ 9223372036854775807) (h0 : -400 ≤ x) (h1 : x ≤ 400) (h2 : -400 ≤ y) (h3 : y ≤ 400) (t0 : 1 ≤ t) (t1 : t ≤ 4000) (k : ¬ t * 1024 ≤ iabs (acr c x y)) (l : alo c x y + rt c t x y < 1024) (w : World) : Calls Tryz.prog 16 #[.int .i64 c, .int .i64 t, .agg #[.int .i64 x, .int .i64 y]] w fun e w' => e = .returned (.tuple #[.int .i64 0, .int .i64 0, .int .i64 10]) ∧ Kept w w' := by
  obtain ⟨⟨a0, a1⟩, b0, b1⟩ := part_bd c h0 h1 h2 h3
  have i0 := iabs_lim (acr c x y) b0 b1
  have HB := Lib.hid (ref_abs_w (acr c x y) (by omega) (by omega))
  rw [sat_iabs (acr c x y) (by omega) (by omega)] at HB
  obtain ⟨A, qA⟩ : ∃ A, alo c x y = A := ⟨_, rfl⟩
  obtain ⟨C, qC⟩ : ∃ C, acr c x y = C := ⟨_, rfl⟩
  obtain ⟨B, qB⟩ : ∃ B, iabs C = B := ⟨_, rfl⟩
  obtain ⟨S, qS⟩ : ∃ S, t * 1024 = S := ⟨_, rfl⟩
  have HV := fun W => ref_wvalid_w x y W
  rw [wok_is h0 h1 h2 h3] at HV
  have HP := fun W => ref_wparts_w c x y c_0 c_1 h0 h1 h2 h3 W
  rw [qA, qC] at HP
  rw [qC, qB] at HB
  rw [qC] at b0 b1 i0
  rw [qB] at i0
  rw [qA] at a0 a1
  have wS : IntKind.i64.wrap (t * 1024) = S := by rw [← qS]; exact IntWalk.i64_in _ (by omega)
  have hr : rt c t x y = isq (S * S - C * C) := by unfold rt; rw [qS, qC]
  have sb := sq_iabs C
  rw [qC, qB, qS] at k
  rw [qB] at sb
  clear qB
  have s0 : 1024 ≤ S := by omega
  have s1 : S ≤ 4096000 := by omega
  have r1 := sq_le (a := S) (b := 4096000) (by omega) (by omega)
  have r2 := sq_le (a := B) (b := 819200) (by omega) (by omega)
  have r3 := sq_le (a := B) (b := S) (by omega) (by omega)
  have r4 := Int.mul_nonneg (show (0 : Int) ≤ B by omega) (show (0 : Int) ≤ B by omega)
  obtain ⟨q0, q1, q2⟩ := root_bd S B (by omega) (by omega) s1 s0
  rw [sb] at q0 q1 q2 r2 r3 r4
  have wSS : IntKind.i64.wrap (S * S) = S * S := IntWalk.i64_in _ (by omega)
  have wCC : IntKind.i64.wrap (C * C) = C * C := IntWalk.i64_in _ (by omega)
  have wD : IntKind.i64.wrap (S * S - C * C) = S * S - C * C := IntWalk.i64_in _ (by omega)
  obtain ⟨r, qr⟩ : ∃ r, isq (S * S - C * C) = r := ⟨_, rfl⟩
  have HQ := Lib.hid (ref_sqrt_w (S * S - C * C) (by omega) (by omega))
  rw [qr] at hr HQ q0 q1 q2
  clear qr
  rw [hr, qA] at l
  clear qA qC hr
  go_enter Tryz.func16, Tryz.ntmps16
  go_wp2_with fail
  with_reducible refine (HV _).mono ?_
  rintro e w1 ⟨rfl, hk1⟩
  refine kuse (b := w.heap.size) hk1 (by first | (simp; done) | (simp; omega) | omega) ?_
  intro ha hb
  have hz1_0 : w.heap.size < w1.heap.size := by have := hk1.size; (try simp at this); omega
  have hn1_0 : ¬ w.heap.size = w1.heap.size := by omega
  have hm1_0 : ¬ w1.heap.size = w.heap.size := by omega
  have hf1_0_0 : w1.cell? ⟨w.heap.size, 0, none⟩ = some (.int .i64 x) := by first | (rw [ha]; with_reducible assumption) | (simp (maxDischargeDepth := 7) [go_sem, ha]; done) | (rw [ha]; assumption) | (simp (maxDischargeDepth := 7) [go_sem, ha, *]; done)
  have hf1_0_1 : w1.cell? ⟨w.heap.size, 1, none⟩ = some (.int .i64 y) := by first | (rw [ha]; with_reducible assumption) | (simp (maxDischargeDepth := 7) [go_sem, ha]; done) | (rw [ha]; assumption) | (simp (maxDischargeDepth := 7) [go_sem, ha, *]; done)
  try have hg1_0 : ∀ o, w1.frozen? ⟨w.heap.size, o, none⟩ = false := by intro o; first | (simp (maxDischargeDepth := 7) [go_sem, hb]; done) | (rw [hb]; simp (maxDischargeDepth := 7) [go_sem, *]; done)
  clear ha hb
  go_wp2_with fail
  with_reducible refine (HP _).mono ?_
  rintro e w' ⟨rfl, rfl⟩
  go_wp2_with fail
  with_reducible refine (HB.out _).mono ?_
  rintro e w' ⟨rfl, rfl⟩
  go_wp2_with fail
  with_reducible refine (HQ.out _).mono ?_
  rintro e w' ⟨rfl, rfl⟩
  go_wp2_with fail
  all_goals go_ret3
  all_goals exact ⟨rfl, (by repeat (first | with_reducible exact Kept.refl _ | with_reducible assumption | with_reducible refine Kept.setCell ?_ (by first | (simp; done) | (simp; omega) | omega) _ | with_reducible refine Kept.alloc ?_ _ | with_reducible refine Kept.drewN ?_ _ | with_reducible refine Kept.drew ?_ | with_reducible refine Kept.trans ?_ (by with_reducible assumption) | with_reducible refine Kept.dr ?_ (by with_reducible assumption)))⟩
set_option maxHeartbeats 2000000 in
set_option maxRecDepth 100000 in
theorem ref_gr_ok (c t x y : Int) (c_0 : -9223372036854775808 ≤ c) (c_1 : c ≤ 9223372036854775807) (h0 : -400 ≤ x) (h1 : x ≤ 400) (h2 : -400 ≤ y) (h3 : y ≤ 400) (t0 : 1 ≤ t) (t1 : t ≤ 4000) (k : ¬ t * 1024 ≤ iabs (acr c x y)) (l : ¬ alo c x y + rt c t x y < 1024) (w : World) : Calls Tryz.prog 16 #[.int .i64 c, .int .i64 t, .agg #[.int .i64 x, .int .i64 y]] w fun e w' => e = .returned (.tuple #[.int .i64 (alo c x y + rt c t x y), .int .i64 (dif 0 (at2V (-acr c x y) (rt c t x y))), .int .i64 0]) ∧ Kept w w' := by
  obtain ⟨⟨a0, a1⟩, b0, b1⟩ := part_bd c h0 h1 h2 h3
  have i0 := iabs_lim (acr c x y) b0 b1
  have HB := Lib.hid (ref_abs_w (acr c x y) (by omega) (by omega))
  rw [sat_iabs (acr c x y) (by omega) (by omega)] at HB
  obtain ⟨A, qA⟩ : ∃ A, alo c x y = A := ⟨_, rfl⟩
  obtain ⟨C, qC⟩ : ∃ C, acr c x y = C := ⟨_, rfl⟩
  obtain ⟨B, qB⟩ : ∃ B, iabs C = B := ⟨_, rfl⟩
  obtain ⟨S, qS⟩ : ∃ S, t * 1024 = S := ⟨_, rfl⟩
  have HV := fun W => ref_wvalid_w x y W
  rw [wok_is h0 h1 h2 h3] at HV
  have HP := fun W => ref_wparts_w c x y c_0 c_1 h0 h1 h2 h3 W
  rw [qA, qC] at HP
  rw [qC, qB] at HB
  rw [qC] at b0 b1 i0
  rw [qB] at i0
  rw [qA] at a0 a1
  have wS : IntKind.i64.wrap (t * 1024) = S := by rw [← qS]; exact IntWalk.i64_in _ (by omega)
  have hr : rt c t x y = isq (S * S - C * C) := by unfold rt; rw [qS, qC]
  have sb := sq_iabs C
  rw [qC, qB, qS] at k
  rw [qB] at sb
  clear qB
  have s0 : 1024 ≤ S := by omega
  have s1 : S ≤ 4096000 := by omega
  have r1 := sq_le (a := S) (b := 4096000) (by omega) (by omega)
  have r2 := sq_le (a := B) (b := 819200) (by omega) (by omega)
  have r3 := sq_le (a := B) (b := S) (by omega) (by omega)
  have r4 := Int.mul_nonneg (show (0 : Int) ≤ B by omega) (show (0 : Int) ≤ B by omega)
  obtain ⟨q0, q1, q2⟩ := root_bd S B (by omega) (by omega) s1 s0
  rw [sb] at q0 q1 q2 r2 r3 r4
  have wSS : IntKind.i64.wrap (S * S) = S * S := IntWalk.i64_in _ (by omega)
  have wCC : IntKind.i64.wrap (C * C) = C * C := IntWalk.i64_in _ (by omega)
  have wD : IntKind.i64.wrap (S * S - C * C) = S * S - C * C := IntWalk.i64_in _ (by omega)
  obtain ⟨r, qr⟩ : ∃ r, isq (S * S - C * C) = r := ⟨_, rfl⟩
  have HQ := Lib.hid (ref_sqrt_w (S * S - C * C) (by omega) (by omega))
  rw [qr] at hr HQ q0 q1 q2
  clear qr
  rw [hr, qA] at l
  rw [hr, qA, qC]
  obtain ⟨v0, v1⟩ := at2V_bd (-C) r
  have HT := Lib.hid (ref_atan2_w (-C) r (by omega) (by omega) (by omega) (by omega))
  obtain ⟨Z, qZ⟩ : ∃ Z, at2V (-C) r = Z := ⟨_, rfl⟩
  rw [qZ] at HT v0 v1
  rw [qZ]
  have HD := Lib.hid (ref_diff_w 0 Z (by omega) (by omega) (by omega) (by omega))
  clear qA qC hr qZ
  go_enter Tryz.func16, Tryz.ntmps16
  go_wp2_with fail
  with_reducible refine (HV _).mono ?_
  rintro e w1 ⟨rfl, hk1⟩
  refine kuse (b := w.heap.size) hk1 (by first | (simp; done) | (simp; omega) | omega) ?_
  intro ha hb
  have hz1_0 : w.heap.size < w1.heap.size := by have := hk1.size; (try simp at this); omega
  have hn1_0 : ¬ w.heap.size = w1.heap.size := by omega
  have hm1_0 : ¬ w1.heap.size = w.heap.size := by omega
  have hf1_0_0 : w1.cell? ⟨w.heap.size, 0, none⟩ = some (.int .i64 x) := by first | (rw [ha]; with_reducible assumption) | (simp (maxDischargeDepth := 7) [go_sem, ha]; done) | (rw [ha]; assumption) | (simp (maxDischargeDepth := 7) [go_sem, ha, *]; done)
  have hf1_0_1 : w1.cell? ⟨w.heap.size, 1, none⟩ = some (.int .i64 y) := by first | (rw [ha]; with_reducible assumption) | (simp (maxDischargeDepth := 7) [go_sem, ha]; done) | (rw [ha]; assumption) | (simp (maxDischargeDepth := 7) [go_sem, ha, *]; done)
  try have hg1_0 : ∀ o, w1.frozen? ⟨w.heap.size, o, none⟩ = false := by intro o; first | (simp (maxDischargeDepth := 7) [go_sem, hb]; done) | (rw [hb]; simp (maxDischargeDepth := 7) [go_sem, *]; done)
  clear ha hb
  go_wp2_with fail
  with_reducible refine (HP _).mono ?_
  rintro e w' ⟨rfl, rfl⟩
  go_wp2_with fail
  with_reducible refine (HB.out _).mono ?_
  rintro e w' ⟨rfl, rfl⟩
  go_wp2_with fail
  with_reducible refine (HQ.out _).mono ?_
  rintro e w' ⟨rfl, rfl⟩
  go_wp2_with fail
  with_reducible refine (HT.out _).mono ?_
  rintro e w' ⟨rfl, rfl⟩
  go_wp2_with fail
  with_reducible refine (HD.out _).mono ?_
  rintro e w' ⟨rfl, rfl⟩
  go_wp2_with fail
  all_goals exact bodyPost_ret (v := .tuple #[.int .i64 (A + r), .int .i64 (dif 0 Z), .int .i64 0]) (by first | (simp [results, Tryz.results16, go_sem]; done) | (simp (maxDischargeDepth := 7) [results, Tryz.results16, go_sem, *]; done)) rfl ⟨rfl, (by repeat (first | with_reducible exact Kept.refl _ | with_reducible assumption | with_reducible refine Kept.setCell ?_ (by first | (simp; done) | (simp; omega) | omega) _ | with_reducible refine Kept.alloc ?_ _ | with_reducible refine Kept.drewN ?_ _ | with_reducible refine Kept.drew ?_ | with_reducible refine Kept.trans ?_ (by with_reducible assumption) | with_reducible refine Kept.dr ?_ (by with_reducible assumption)))⟩
set_option maxHeartbeats 2000000 in
set_option maxRecDepth 100000 in
theorem ref_ground_w (c t x y : Int) (c_0 : -9223372036854775808 ≤ c) (c_1 : c ≤ 9223372036854775807) (t_0 : -9223372036854775808 ≤ t) (t_1 : t ≤ 9223372036854775807) (w : World) : Calls Tryz.prog 16 #[.int .i64 c, .int .i64 t, .agg #[.int .i64 x, .int .i64 y]] w fun e w' => e = .returned (.tuple #[.int .i64 (gG c t x y), .int .i64 (gD c t x y), .int .i64 (gE c t x y)]) ∧ Kept w w' := by
  by_cases h : wok x y = false ∨ t < 1 ∨ 4000 < t
  · obtain ⟨e1, e2, e3⟩ := gE_arg (c := c) h
    rw [e1, e2, e3]
    cases hw : wok x y with
    | false => exact ref_gr_arg c t x y c_0 c_1 t_0 t_1 hw w
    | true =>
      obtain ⟨h0, h1, h2, h3⟩ := wok_yes hw
      rw [hw] at h
      exact ref_gr_tas c t x y c_0 c_1 t_0 t_1 h0 h1 h2 h3 (by simpa using h) w
  · have hw : wok x y = true := by cases e : wok x y with | true => rfl | false => exact absurd (Or.inl e) h
    obtain ⟨h0, h1, h2, h3⟩ := wok_yes hw
    by_cases k : t * 1024 ≤ iabs (acr c x y)
    · obtain ⟨e1, e2, e3⟩ := gE_g1 h k
      rw [e1, e2, e3]
      exact ref_gr_g1 c t x y c_0 c_1 h0 h1 h2 h3 (by omega) (by omega) k w
    · by_cases l : alo c x y + rt c t x y < 1024
      · obtain ⟨e1, e2, e3⟩ := gE_g2 h k l
        rw [e1, e2, e3]
        exact ref_gr_g2 c t x y c_0 c_1 h0 h1 h2 h3 (by omega) (by omega) k l w
      · obtain ⟨e1, e2, e3⟩ := gE_ok h k l
        rw [e1, e2, e3]
        exact ref_gr_ok c t x y c_0 c_1 h0 h1 h2 h3 (by omega) (by omega) k l w
end Go.Proofs.YtfpgdicacjkfoaaGreatDoor
