/-
  Own contracts: package line and the document's answers of layer 11: inverse.
-/
import Derived.Test.YtoilodcadngcoaaPlna
import Derived.WalkKit
import Derived.ProofKit
import Derived.OpenShut
import Derived.WalkLawsBesides
import Derived.WalkSpells
import Derived.Lib.Hide
import Derived.Deep.DeepCutAuto
import Derived.Deep.CutBlock
import Derived.Deep.QuietTactic
import Derived.BigQuiet
import Derived.Handy
import Derived.StillTailTactics
import Derived.IntWalk
import Derived.LoopN
import Derived.Deep.RegionHeld3
namespace Go.Proofs.Ytoilodcadngcoaa
open Go.ChangeShapes Go.WideShapes Go.ChangeAt Go.RowKit
set_option linter.unusedVariables false
set_option linter.unusedSimpArgs false
set_option maxHeartbeats 2000000 in
set_option maxRecDepth 100000 in
theorem scaled_w (x : Int) (x0 : -1152921504606846976 ≤ x) (x1 : x ≤ 1152921504606846976) (w : World) : Calls Try.prog 34 #[.int .i64 x] w fun e w' => e = .returned (.int .i64 (r30 x)) ∧ Kept w w' := by
  have e := mq_scale x x0 x1
  have m1 := fun w => plrnd_w x 1073741824 (by omega) (by omega) (by omega) (by omega) w
  rw [e.1, e.2] at m1
  have H1 := Lib.hid m1
  clear m1 e
  go_enter Try.func34, Try.ntmps34
  go_wp2_with fail
  with_reducible refine (H1.out _).mono ?_
  rintro e w1 ⟨rfl, hk1⟩
  go_wp2_with fail
  all_goals go_ret
  all_goals exact ⟨rfl, (by repeat (first | with_reducible exact Kept.refl _ | with_reducible assumption | with_reducible refine Kept.setCell ?_ (by first | (simp; done) | (simp; omega) | omega) _ | with_reducible refine Kept.alloc ?_ _ | with_reducible refine Kept.drewN ?_ _ | with_reducible refine Kept.drew ?_ | with_reducible refine Kept.trans ?_ (by with_reducible assumption) | with_reducible refine Kept.dr ?_ (by with_reducible assumption)))⟩
set_option maxHeartbeats 2000000 in
set_option maxRecDepth 100000 in
theorem plquo_w (x : Int) (x0 : -30000000000000000 ≤ x) (x1 : x ≤ 30000000000000000) (w : World) : Calls Try.prog 36 #[.int .i64 x] w fun e w' => e = .returned (.int .i64 (rnd 2 x 20626481)) ∧ Kept w w' := by
  have e := mq_one x x0 x1
  have m1 := fun w => plrnd_w x 20626481 (by omega) (by omega) (by omega) (by omega) w
  rw [e.1, e.2.1] at m1
  have H1 := Lib.hid m1
  clear m1 e
  go_enter Try.func36, Try.ntmps36
  go_wp2_with fail
  with_reducible refine (H1.out _).mono ?_
  rintro e w1 ⟨rfl, hk1⟩
  go_wp2_with fail
  all_goals go_ret
  all_goals exact ⟨rfl, (by repeat (first | with_reducible exact Kept.refl _ | with_reducible assumption | with_reducible refine Kept.setCell ?_ (by first | (simp; done) | (simp; omega) | omega) _ | with_reducible refine Kept.alloc ?_ _ | with_reducible refine Kept.drewN ?_ _ | with_reducible refine Kept.drew ?_ | with_reducible refine Kept.trans ?_ (by with_reducible assumption) | with_reducible refine Kept.dr ?_ (by with_reducible assumption)))⟩
set_option maxHeartbeats 2000000 in
set_option maxRecDepth 100000 in
theorem from_bado (la lo X Y : Int) (h : la < -25200000 ∨ 25200000 < la ∨ lo ≤ -64800000 ∨ 64800000 < lo) (w : World) : Calls Try.prog 17 #[.agg #[.int .i64 la, .int .i64 lo], .agg #[.int .i64 X, .int .i64 Y]] w fun e w' => e = .returned (.tuple #[.agg #[.int .i64 0, .int .i64 0], .int .i64 1]) ∧ Kept w w' := by
  go_enter Try.func17, Try.ntmps17
  go_wp2_with fail
  with_reducible refine (vo_bad la lo h _).mono ?_
  rintro e w1 ⟨rfl, hk1⟩
  refine kuz (b := w.heap.size) hk1 (by first | (simp; done) | (simp; omega) | omega) ?_
  intro ha hb hz1_0 hn1_0 hm1_0
  have hf1_0_0 : w1.cell? ⟨w.heap.size, 0, none⟩ = some (.int .i64 la) := (ha _).trans (by first | with_reducible assumption | (simp (maxDischargeDepth := 7) [go_sem]; done) | (simp (maxDischargeDepth := 7) [go_sem, *]; done))
  have hf1_0_1 : w1.cell? ⟨w.heap.size, 1, none⟩ = some (.int .i64 lo) := (ha _).trans (by first | with_reducible assumption | (simp (maxDischargeDepth := 7) [go_sem]; done) | (simp (maxDischargeDepth := 7) [go_sem, *]; done))
  try have hg1_0 : ∀ o, w1.frozen? ⟨w.heap.size, o, none⟩ = false := by intro o; rw [hb]; first | (simp (maxDischargeDepth := 7) [go_sem]; done) | (simp (maxDischargeDepth := 7) [go_sem, *]; done)
  clear ha hb
  refine kuz (b := w.heap.size + 1) hk1 (by first | (simp; done) | (simp; omega) | omega) ?_
  intro ha hb hz1_1 hn1_1 hm1_1
  have hf1_1_0 : w1.cell? ⟨w.heap.size + 1, 0, none⟩ = some (.int .i64 X) := (ha _).trans (by first | with_reducible assumption | (simp (maxDischargeDepth := 7) [go_sem]; done) | (simp (maxDischargeDepth := 7) [go_sem, *]; done))
  have hf1_1_1 : w1.cell? ⟨w.heap.size + 1, 1, none⟩ = some (.int .i64 Y) := (ha _).trans (by first | with_reducible assumption | (simp (maxDischargeDepth := 7) [go_sem]; done) | (simp (maxDischargeDepth := 7) [go_sem, *]; done))
  try have hg1_1 : ∀ o, w1.frozen? ⟨w.heap.size + 1, o, none⟩ = false := by intro o; rw [hb]; first | (simp (maxDischargeDepth := 7) [go_sem]; done) | (simp (maxDischargeDepth := 7) [go_sem, *]; done)
  clear ha hb
  refine kuz (b := w.heap.size + 2) hk1 (by first | (simp; done) | (simp; omega) | omega) ?_
  intro ha hb hz1_2 hn1_2 hm1_2
  have hf1_2_0 : w1.cell? ⟨w.heap.size + 2, 0, none⟩ = some (.int .i64 0) := (ha _).trans (by first | with_reducible assumption | (simp (maxDischargeDepth := 7) [go_sem]; done) | (simp (maxDischargeDepth := 7) [go_sem, *]; done))
  have hf1_2_1 : w1.cell? ⟨w.heap.size + 2, 1, none⟩ = some (.int .i64 0) := (ha _).trans (by first | with_reducible assumption | (simp (maxDischargeDepth := 7) [go_sem]; done) | (simp (maxDischargeDepth := 7) [go_sem, *]; done))
  try have hg1_2 : ∀ o, w1.frozen? ⟨w.heap.size + 2, o, none⟩ = false := by intro o; rw [hb]; first | (simp (maxDischargeDepth := 7) [go_sem]; done) | (simp (maxDischargeDepth := 7) [go_sem, *]; done)
  clear ha hb
  go_wp2_with fail
  all_goals exact bodyPost_ret (v := .tuple #[.agg #[.int .i64 0, .int .i64 0], .int .i64 1]) (by first | (simp [results, Try.results17, go_sem]; done) | (simp (maxDischargeDepth := 7) [results, Try.results17, go_sem, *]; done)) rfl ⟨rfl, (by repeat (first | with_reducible exact Kept.refl _ | with_reducible assumption | with_reducible refine Kept.setCell ?_ (by first | (simp; done) | (simp; omega) | omega) _ | with_reducible refine Kept.alloc ?_ _ | with_reducible refine Kept.drewN ?_ _ | with_reducible refine Kept.drew ?_ | with_reducible refine Kept.trans ?_ (by with_reducible assumption) | with_reducible refine Kept.dr ?_ (by with_reducible assumption)))⟩
set_option maxHeartbeats 2000000 in
set_option maxRecDepth 100000 in
theorem from_badp (la lo : Int) (la0 : -25200000 ≤ la) (la1 : la ≤ 25200000) (lo0 : -64800000 < lo) (lo1 : lo ≤ 64800000) (X Y : Int) (h : pokB X Y = false) (w : World) : Calls Try.prog 17 #[.agg #[.int .i64 la, .int .i64 lo], .agg #[.int .i64 X, .int .i64 Y]] w fun e w' => e = .returned (.tuple #[.agg #[.int .i64 0, .int .i64 0], .int .i64 2]) ∧ Kept w w' := by
  go_enter Try.func17, Try.ntmps17
  go_wp2_with fail
  with_reducible refine (vo_ok la lo la0 la1 lo0 lo1 _).mono ?_
  rintro e w1 ⟨rfl, hk1⟩
  refine kuz (b := w.heap.size) hk1 (by first | (simp; done) | (simp; omega) | omega) ?_
  intro ha hb hz1_0 hn1_0 hm1_0
  have hf1_0_0 : w1.cell? ⟨w.heap.size, 0, none⟩ = some (.int .i64 la) := (ha _).trans (by first | with_reducible assumption | (simp (maxDischargeDepth := 7) [go_sem]; done) | (simp (maxDischargeDepth := 7) [go_sem, *]; done))
  have hf1_0_1 : w1.cell? ⟨w.heap.size, 1, none⟩ = some (.int .i64 lo) := (ha _).trans (by first | with_reducible assumption | (simp (maxDischargeDepth := 7) [go_sem]; done) | (simp (maxDischargeDepth := 7) [go_sem, *]; done))
  try have hg1_0 : ∀ o, w1.frozen? ⟨w.heap.size, o, none⟩ = false := by intro o; rw [hb]; first | (simp (maxDischargeDepth := 7) [go_sem]; done) | (simp (maxDischargeDepth := 7) [go_sem, *]; done)
  clear ha hb
  refine kuz (b := w.heap.size + 1) hk1 (by first | (simp; done) | (simp; omega) | omega) ?_
  intro ha hb hz1_1 hn1_1 hm1_1
  have hf1_1_0 : w1.cell? ⟨w.heap.size + 1, 0, none⟩ = some (.int .i64 X) := (ha _).trans (by first | with_reducible assumption | (simp (maxDischargeDepth := 7) [go_sem]; done) | (simp (maxDischargeDepth := 7) [go_sem, *]; done))
  have hf1_1_1 : w1.cell? ⟨w.heap.size + 1, 1, none⟩ = some (.int .i64 Y) := (ha _).trans (by first | with_reducible assumption | (simp (maxDischargeDepth := 7) [go_sem]; done) | (simp (maxDischargeDepth := 7) [go_sem, *]; done))
  try have hg1_1 : ∀ o, w1.frozen? ⟨w.heap.size + 1, o, none⟩ = false := by intro o; rw [hb]; first | (simp (maxDischargeDepth := 7) [go_sem]; done) | (simp (maxDischargeDepth := 7) [go_sem, *]; done)
  clear ha hb
  refine kuz (b := w.heap.size + 2) hk1 (by first | (simp; done) | (simp; omega) | omega) ?_
  intro ha hb hz1_2 hn1_2 hm1_2
  have hf1_2_0 : w1.cell? ⟨w.heap.size + 2, 0, none⟩ = some (.int .i64 0) := (ha _).trans (by first | with_reducible assumption | (simp (maxDischargeDepth := 7) [go_sem]; done) | (simp (maxDischargeDepth := 7) [go_sem, *]; done))
  have hf1_2_1 : w1.cell? ⟨w.heap.size + 2, 1, none⟩ = some (.int .i64 0) := (ha _).trans (by first | with_reducible assumption | (simp (maxDischargeDepth := 7) [go_sem]; done) | (simp (maxDischargeDepth := 7) [go_sem, *]; done))
  try have hg1_2 : ∀ o, w1.frozen? ⟨w.heap.size + 2, o, none⟩ = false := by intro o; rw [hb]; first | (simp (maxDischargeDepth := 7) [go_sem]; done) | (simp (maxDischargeDepth := 7) [go_sem, *]; done)
  clear ha hb
  go_wp2_with fail
  with_reducible refine (pv_bad X Y h _).mono ?_
  rintro e w2 ⟨rfl, hk2⟩
  refine kuz (b := w.heap.size) hk2 (by first | (simp; done) | (simp; omega) | omega) ?_
  intro ha hb hz2_0 hn2_0 hm2_0
  have hf2_0_0 : w2.cell? ⟨w.heap.size, 0, none⟩ = some (.int .i64 la) := (ha _).trans (by first | with_reducible assumption | (simp (maxDischargeDepth := 7) [go_sem]; done) | (simp (maxDischargeDepth := 7) [go_sem, *]; done))
  have hf2_0_1 : w2.cell? ⟨w.heap.size, 1, none⟩ = some (.int .i64 lo) := (ha _).trans (by first | with_reducible assumption | (simp (maxDischargeDepth := 7) [go_sem]; done) | (simp (maxDischargeDepth := 7) [go_sem, *]; done))
  try have hg2_0 : ∀ o, w2.frozen? ⟨w.heap.size, o, none⟩ = false := by intro o; rw [hb]; first | (simp (maxDischargeDepth := 7) [go_sem]; done) | (simp (maxDischargeDepth := 7) [go_sem, *]; done)
  clear ha hb
  refine kuz (b := w.heap.size + 1) hk2 (by first | (simp; done) | (simp; omega) | omega) ?_
  intro ha hb hz2_1 hn2_1 hm2_1
  have hf2_1_0 : w2.cell? ⟨w.heap.size + 1, 0, none⟩ = some (.int .i64 X) := (ha _).trans (by first | with_reducible assumption | (simp (maxDischargeDepth := 7) [go_sem]; done) | (simp (maxDischargeDepth := 7) [go_sem, *]; done))
  have hf2_1_1 : w2.cell? ⟨w.heap.size + 1, 1, none⟩ = some (.int .i64 Y) := (ha _).trans (by first | with_reducible assumption | (simp (maxDischargeDepth := 7) [go_sem]; done) | (simp (maxDischargeDepth := 7) [go_sem, *]; done))
  try have hg2_1 : ∀ o, w2.frozen? ⟨w.heap.size + 1, o, none⟩ = false := by intro o; rw [hb]; first | (simp (maxDischargeDepth := 7) [go_sem]; done) | (simp (maxDischargeDepth := 7) [go_sem, *]; done)
  clear ha hb
  refine kuz (b := w.heap.size + 2) hk2 (by first | (simp; done) | (simp; omega) | omega) ?_
  intro ha hb hz2_2 hn2_2 hm2_2
  have hf2_2_0 : w2.cell? ⟨w.heap.size + 2, 0, none⟩ = some (.int .i64 0) := (ha _).trans (by first | with_reducible assumption | (simp (maxDischargeDepth := 7) [go_sem]; done) | (simp (maxDischargeDepth := 7) [go_sem, *]; done))
  have hf2_2_1 : w2.cell? ⟨w.heap.size + 2, 1, none⟩ = some (.int .i64 0) := (ha _).trans (by first | with_reducible assumption | (simp (maxDischargeDepth := 7) [go_sem]; done) | (simp (maxDischargeDepth := 7) [go_sem, *]; done))
  try have hg2_2 : ∀ o, w2.frozen? ⟨w.heap.size + 2, o, none⟩ = false := by intro o; rw [hb]; first | (simp (maxDischargeDepth := 7) [go_sem]; done) | (simp (maxDischargeDepth := 7) [go_sem, *]; done)
  clear ha hb
  (try clear hf1_0_0); (try clear hf1_0_1); (try clear hf1_1_0); (try clear hf1_1_1); (try clear hf1_2_0); (try clear hf1_2_1); (try clear hg1_0); (try clear hg1_1); (try clear hg1_2); (try clear hz1_1); (try clear hz1_2)
  go_wp2_with fail
  all_goals exact bodyPost_ret (v := .tuple #[.agg #[.int .i64 0, .int .i64 0], .int .i64 2]) (by first | (simp [results, Try.results17, go_sem]; done) | (simp (maxDischargeDepth := 7) [results, Try.results17, go_sem, *]; done)) rfl ⟨rfl, (by repeat (first | with_reducible exact Kept.refl _ | with_reducible assumption | with_reducible refine Kept.setCell ?_ (by first | (simp; done) | (simp; omega) | omega) _ | with_reducible refine Kept.alloc ?_ _ | with_reducible refine Kept.drewN ?_ _ | with_reducible refine Kept.drew ?_ | with_reducible refine Kept.trans ?_ (by with_reducible assumption) | with_reducible refine Kept.dr ?_ (by with_reducible assumption)))⟩
set_option maxHeartbeats 4000000 in
set_option maxRecDepth 100000 in
theorem from_ok (la lo : Int) (la0 : -25200000 ≤ la) (la1 : la ≤ 25200000) (lo0 : -64800000 < lo) (lo1 : lo ≤ 64800000) (X Y : Int) (hp : pokB X Y = true) (w : World) : Calls Try.prog 17 #[.agg #[.int .i64 la, .int .i64 lo], .agg #[.int .i64 X, .int .i64 Y]] w fun e w' => e = .returned (.tuple #[.agg #[.int .i64 (psLa (frX la lo X Y) (frY la lo X Y) (frZ la lo Y)), .int .i64 (psLo (frX la lo X Y) (frY la lo X Y) (frZ la lo Y))], .int .i64 (psE (frX la lo X Y) (frY la lo X Y) (frZ la lo Y))]) ∧ Kept w w' := by
  have bd0 := sinV_bd lo
  obtain ⟨bd00, bd01⟩ := bd0
  have bd1 := cosV_bd lo
  obtain ⟨bd10, bd11⟩ := bd1
  have bd2 := cosV_bd la
  obtain ⟨bd20, bd21⟩ := bd2
  have bd3 := sinV_bd la
  obtain ⟨bd30, bd31⟩ := bd3
  have bd4 := fA_bd la lo
  obtain ⟨bd40, bd41⟩ := bd4
  have bd5 := fB_bd la lo
  obtain ⟨bd50, bd51⟩ := bd5
  have bd6 := uX_bd la lo
  obtain ⟨bd60, bd61⟩ := bd6
  have bd7 := uY_bd la lo
  obtain ⟨bd70, bd71⟩ := bd7
  have bd8 := uZ_bd la lo
  obtain ⟨bd80, bd81⟩ := bd8
  obtain ⟨X0, X1, Y0, Y1⟩ := pok_yes hp
  obtain ⟨m00, m01⟩ := mul_u (sinV lo) X (by omega) (by omega) (by omega) (by omega)
  obtain ⟨m10, m11⟩ := mul_u (fA la lo) Y (by omega) (by omega) (by omega) (by omega)
  obtain ⟨m20, m21⟩ := mul_u (cosV lo) X (by omega) (by omega) (by omega) (by omega)
  obtain ⟨m30, m31⟩ := mul_u (fB la lo) Y (by omega) (by omega) (by omega) (by omega)
  obtain ⟨m40, m41⟩ := mul_u (cosV la) Y (by omega) (by omega) (by omega) (by omega)
  obtain ⟨q00, q01⟩ := mul_sb (sinV la) (cosV lo) (by omega) (by omega) (by omega) (by omega)
  obtain ⟨q10, q11⟩ := mul_sb (sinV la) (sinV lo) (by omega) (by omega) (by omega) (by omega)
  have wr0 : IntKind.i64.wrap (sinV lo * X) = sinV lo * X := IntWalk.i64_in _ (by omega)
  have wr1 : IntKind.i64.wrap (fA la lo * Y) = fA la lo * Y := IntWalk.i64_in _ (by omega)
  have wr2 : IntKind.i64.wrap (cosV lo * X) = cosV lo * X := IntWalk.i64_in _ (by omega)
  have wr3 : IntKind.i64.wrap (fB la lo * Y) = fB la lo * Y := IntWalk.i64_in _ (by omega)
  have wr4 : IntKind.i64.wrap (cosV la * Y) = cosV la * Y := IntWalk.i64_in _ (by omega)
  have wr5 : IntKind.i64.wrap (20626481 * uX la lo) = 20626481 * uX la lo := IntWalk.i64_in _ (by omega)
  have wr6 : IntKind.i64.wrap (20626481 * uY la lo) = 20626481 * uY la lo := IntWalk.i64_in _ (by omega)
  have wr7 : IntKind.i64.wrap (20626481 * uZ la lo) = 20626481 * uZ la lo := IntWalk.i64_in _ (by omega)
  have wr8 : IntKind.i64.wrap (20626481 * uX la lo - sinV lo * X) = 20626481 * uX la lo - sinV lo * X := IntWalk.i64_in _ (by omega)
  have wr9 : IntKind.i64.wrap (20626481 * uY la lo + cosV lo * X) = 20626481 * uY la lo + cosV lo * X := IntWalk.i64_in _ (by omega)
  have wr10 : IntKind.i64.wrap (20626481 * uX la lo - sinV lo * X - fA la lo * Y) = 20626481 * uX la lo - sinV lo * X - fA la lo * Y := IntWalk.i64_in _ (by omega)
  have wr11 : IntKind.i64.wrap (20626481 * uY la lo + cosV lo * X - fB la lo * Y) = 20626481 * uY la lo + cosV lo * X - fB la lo * Y := IntWalk.i64_in _ (by omega)
  have wr12 : IntKind.i64.wrap (20626481 * uZ la lo + cosV la * Y) = 20626481 * uZ la lo + cosV la * Y := IntWalk.i64_in _ (by omega)
  have wr13 : IntKind.i64.wrap (sinV la * cosV lo) = sinV la * cosV lo := IntWalk.i64_in _ (by omega)
  have wr14 : IntKind.i64.wrap (sinV la * sinV lo) = sinV la * sinV lo := IntWalk.i64_in _ (by omega)
  have z0 := mq_one (20626481 * uX la lo - sinV lo * X - fA la lo * Y) (by omega) (by omega)
  have z1 := mq_one (20626481 * uY la lo + cosV lo * X - fB la lo * Y) (by omega) (by omega)
  have z2 := mq_one (20626481 * uZ la lo + cosV la * Y) (by omega) (by omega)
  have xr : frX la lo X Y = rnd 2 (20626481 * uX la lo - sinV lo * X - fA la lo * Y) 20626481 := rfl
  have yr : frY la lo X Y = rnd 2 (20626481 * uY la lo + cosV lo * X - fB la lo * Y) 20626481 := rfl
  have zr : frZ la lo Y = rnd 2 (20626481 * uZ la lo + cosV la * Y) 20626481 := rfl
  rw [← xr] at z0
  rw [← yr] at z1
  rw [← zr] at z2
  have fa : fA la lo = r30 (sinV la * cosV lo) := rfl
  have fb : fB la lo = r30 (sinV la * sinV lo) := rfl
  have S1 := fun w => scaled_w (sinV la * cosV lo) q00 q01 w
  have S2 := fun w => scaled_w (sinV la * sinV lo) q10 q11 w
  rw [← fa] at S1
  rw [← fb] at S2
  have Q1 := fun w => plquo_w (20626481 * uX la lo - sinV lo * X - fA la lo * Y) (by omega) (by omega) w
  have Q2 := fun w => plquo_w (20626481 * uY la lo + cosV lo * X - fB la lo * Y) (by omega) (by omega) w
  have Q3 := fun w => plquo_w (20626481 * uZ la lo + cosV la * Y) (by omega) (by omega) w
  rw [← xr] at Q1
  rw [← yr] at Q2
  rw [← zr] at Q3
  clear xr yr zr fa fb
  generalize frX la lo X Y = x at *
  generalize frY la lo X Y = y at *
  generalize frZ la lo Y = z at *
  have PS := fun w => position_w x y z (by omega) (by omega) (by omega) (by omega) (by omega) (by omega) w
  have HS1 := Lib.hid S1
  have HS2 := Lib.hid S2
  have HQ1 := Lib.hid Q1
  have HQ2 := Lib.hid Q2
  have HQ3 := Lib.hid Q3
  have HPS := Lib.hid PS
  clear S1 S2 Q1 Q2 Q3 PS
  go_enter Try.func17, Try.ntmps17
  go_wp2_with fail
  with_reducible refine (vo_ok la lo la0 la1 lo0 lo1 _).mono ?_
  rintro e w1 ⟨rfl, hk1⟩
  refine kuz (b := w.heap.size) hk1 (by first | (simp; done) | (simp; omega) | omega) ?_
  intro ha hb hz1_0 hn1_0 hm1_0
  have hf1_0_0 : w1.cell? ⟨w.heap.size, 0, none⟩ = some (.int .i64 la) := (ha _).trans (by first | with_reducible assumption | (simp (maxDischargeDepth := 7) [go_sem]; done) | (simp (maxDischargeDepth := 7) [go_sem, *]; done))
  have hf1_0_1 : w1.cell? ⟨w.heap.size, 1, none⟩ = some (.int .i64 lo) := (ha _).trans (by first | with_reducible assumption | (simp (maxDischargeDepth := 7) [go_sem]; done) | (simp (maxDischargeDepth := 7) [go_sem, *]; done))
  try have hg1_0 : ∀ o, w1.frozen? ⟨w.heap.size, o, none⟩ = false := by intro o; rw [hb]; first | (simp (maxDischargeDepth := 7) [go_sem]; done) | (simp (maxDischargeDepth := 7) [go_sem, *]; done)
  clear ha hb
  refine kuz (b := w.heap.size + 1) hk1 (by first | (simp; done) | (simp; omega) | omega) ?_
  intro ha hb hz1_1 hn1_1 hm1_1
  have hf1_1_0 : w1.cell? ⟨w.heap.size + 1, 0, none⟩ = some (.int .i64 X) := (ha _).trans (by first | with_reducible assumption | (simp (maxDischargeDepth := 7) [go_sem]; done) | (simp (maxDischargeDepth := 7) [go_sem, *]; done))
  have hf1_1_1 : w1.cell? ⟨w.heap.size + 1, 1, none⟩ = some (.int .i64 Y) := (ha _).trans (by first | with_reducible assumption | (simp (maxDischargeDepth := 7) [go_sem]; done) | (simp (maxDischargeDepth := 7) [go_sem, *]; done))
  try have hg1_1 : ∀ o, w1.frozen? ⟨w.heap.size + 1, o, none⟩ = false := by intro o; rw [hb]; first | (simp (maxDischargeDepth := 7) [go_sem]; done) | (simp (maxDischargeDepth := 7) [go_sem, *]; done)
  clear ha hb
  refine kuz (b := w.heap.size + 2) hk1 (by first | (simp; done) | (simp; omega) | omega) ?_
  intro ha hb hz1_2 hn1_2 hm1_2
  have hf1_2_0 : w1.cell? ⟨w.heap.size + 2, 0, none⟩ = some (.int .i64 0) := (ha _).trans (by first | with_reducible assumption | (simp (maxDischargeDepth := 7) [go_sem]; done) | (simp (maxDischargeDepth := 7) [go_sem, *]; done))
  have hf1_2_1 : w1.cell? ⟨w.heap.size + 2, 1, none⟩ = some (.int .i64 0) := (ha _).trans (by first | with_reducible assumption | (simp (maxDischargeDepth := 7) [go_sem]; done) | (simp (maxDischargeDepth := 7) [go_sem, *]; done))
  try have hg1_2 : ∀ o, w1.frozen? ⟨w.heap.size + 2, o, none⟩ = false := by intro o; rw [hb]; first | (simp (maxDischargeDepth := 7) [go_sem]; done) | (simp (maxDischargeDepth := 7) [go_sem, *]; done)
  clear ha hb
  go_wp2_with fail
  with_reducible refine (pv_ok X Y hp _).mono ?_
  rintro e w2 ⟨rfl, hk2⟩
  refine kuz (b := w.heap.size) hk2 (by first | (simp; done) | (simp; omega) | omega) ?_
  intro ha hb hz2_0 hn2_0 hm2_0
  have hf2_0_0 : w2.cell? ⟨w.heap.size, 0, none⟩ = some (.int .i64 la) := (ha _).trans (by first | with_reducible assumption | (simp (maxDischargeDepth := 7) [go_sem]; done) | (simp (maxDischargeDepth := 7) [go_sem, *]; done))
  have hf2_0_1 : w2.cell? ⟨w.heap.size, 1, none⟩ = some (.int .i64 lo) := (ha _).trans (by first | with_reducible assumption | (simp (maxDischargeDepth := 7) [go_sem]; done) | (simp (maxDischargeDepth := 7) [go_sem, *]; done))
  try have hg2_0 : ∀ o, w2.frozen? ⟨w.heap.size, o, none⟩ = false := by intro o; rw [hb]; first | (simp (maxDischargeDepth := 7) [go_sem]; done) | (simp (maxDischargeDepth := 7) [go_sem, *]; done)
  clear ha hb
  refine kuz (b := w.heap.size + 1) hk2 (by first | (simp; done) | (simp; omega) | omega) ?_
  intro ha hb hz2_1 hn2_1 hm2_1
  have hf2_1_0 : w2.cell? ⟨w.heap.size + 1, 0, none⟩ = some (.int .i64 X) := (ha _).trans (by first | with_reducible assumption | (simp (maxDischargeDepth := 7) [go_sem]; done) | (simp (maxDischargeDepth := 7) [go_sem, *]; done))
  have hf2_1_1 : w2.cell? ⟨w.heap.size + 1, 1, none⟩ = some (.int .i64 Y) := (ha _).trans (by first | with_reducible assumption | (simp (maxDischargeDepth := 7) [go_sem]; done) | (simp (maxDischargeDepth := 7) [go_sem, *]; done))
  try have hg2_1 : ∀ o, w2.frozen? ⟨w.heap.size + 1, o, none⟩ = false := by intro o; rw [hb]; first | (simp (maxDischargeDepth := 7) [go_sem]; done) | (simp (maxDischargeDepth := 7) [go_sem, *]; done)
  clear ha hb
  refine kuz (b := w.heap.size + 2) hk2 (by first | (simp; done) | (simp; omega) | omega) ?_
  intro ha hb hz2_2 hn2_2 hm2_2
  have hf2_2_0 : w2.cell? ⟨w.heap.size + 2, 0, none⟩ = some (.int .i64 0) := (ha _).trans (by first | with_reducible assumption | (simp (maxDischargeDepth := 7) [go_sem]; done) | (simp (maxDischargeDepth := 7) [go_sem, *]; done))
  have hf2_2_1 : w2.cell? ⟨w.heap.size + 2, 1, none⟩ = some (.int .i64 0) := (ha _).trans (by first | with_reducible assumption | (simp (maxDischargeDepth := 7) [go_sem]; done) | (simp (maxDischargeDepth := 7) [go_sem, *]; done))
  try have hg2_2 : ∀ o, w2.frozen? ⟨w.heap.size + 2, o, none⟩ = false := by intro o; rw [hb]; first | (simp (maxDischargeDepth := 7) [go_sem]; done) | (simp (maxDischargeDepth := 7) [go_sem, *]; done)
  clear ha hb
  (try clear hf1_0_0); (try clear hf1_0_1); (try clear hf1_1_0); (try clear hf1_1_1); (try clear hf1_2_0); (try clear hf1_2_1); (try clear hg1_0); (try clear hg1_1); (try clear hg1_2); (try clear hz1_1); (try clear hz1_2)
  go_wp2_with fail
  with_reducible refine (of_ok la lo (by omega) (by omega) lo0 lo1 _).mono ?_
  rintro e w3 ⟨rfl, hk3⟩
  refine kuz (b := w.heap.size) hk3 (by first | (simp; done) | (simp; omega) | omega) ?_
  intro ha hb hz3_0 hn3_0 hm3_0
  have hf3_0_0 : w3.cell? ⟨w.heap.size, 0, none⟩ = some (.int .i64 la) := (ha _).trans (by first | with_reducible assumption | (simp (maxDischargeDepth := 7) [go_sem]; done) | (simp (maxDischargeDepth := 7) [go_sem, *]; done))
  have hf3_0_1 : w3.cell? ⟨w.heap.size, 1, none⟩ = some (.int .i64 lo) := (ha _).trans (by first | with_reducible assumption | (simp (maxDischargeDepth := 7) [go_sem]; done) | (simp (maxDischargeDepth := 7) [go_sem, *]; done))
  try have hg3_0 : ∀ o, w3.frozen? ⟨w.heap.size, o, none⟩ = false := by intro o; rw [hb]; first | (simp (maxDischargeDepth := 7) [go_sem]; done) | (simp (maxDischargeDepth := 7) [go_sem, *]; done)
  clear ha hb
  refine kuz (b := w.heap.size + 1) hk3 (by first | (simp; done) | (simp; omega) | omega) ?_
  intro ha hb hz3_1 hn3_1 hm3_1
  have hf3_1_0 : w3.cell? ⟨w.heap.size + 1, 0, none⟩ = some (.int .i64 X) := (ha _).trans (by first | with_reducible assumption | (simp (maxDischargeDepth := 7) [go_sem]; done) | (simp (maxDischargeDepth := 7) [go_sem, *]; done))
  have hf3_1_1 : w3.cell? ⟨w.heap.size + 1, 1, none⟩ = some (.int .i64 Y) := (ha _).trans (by first | with_reducible assumption | (simp (maxDischargeDepth := 7) [go_sem]; done) | (simp (maxDischargeDepth := 7) [go_sem, *]; done))
  try have hg3_1 : ∀ o, w3.frozen? ⟨w.heap.size + 1, o, none⟩ = false := by intro o; rw [hb]; first | (simp (maxDischargeDepth := 7) [go_sem]; done) | (simp (maxDischargeDepth := 7) [go_sem, *]; done)
  clear ha hb
  refine kuz (b := w.heap.size + 2) hk3 (by first | (simp; done) | (simp; omega) | omega) ?_
  intro ha hb hz3_2 hn3_2 hm3_2
  have hf3_2_0 : w3.cell? ⟨w.heap.size + 2, 0, none⟩ = some (.int .i64 0) := (ha _).trans (by first | with_reducible assumption | (simp (maxDischargeDepth := 7) [go_sem]; done) | (simp (maxDischargeDepth := 7) [go_sem, *]; done))
  have hf3_2_1 : w3.cell? ⟨w.heap.size + 2, 1, none⟩ = some (.int .i64 0) := (ha _).trans (by first | with_reducible assumption | (simp (maxDischargeDepth := 7) [go_sem]; done) | (simp (maxDischargeDepth := 7) [go_sem, *]; done))
  try have hg3_2 : ∀ o, w3.frozen? ⟨w.heap.size + 2, o, none⟩ = false := by intro o; rw [hb]; first | (simp (maxDischargeDepth := 7) [go_sem]; done) | (simp (maxDischargeDepth := 7) [go_sem, *]; done)
  clear ha hb
  (try clear hf2_0_0); (try clear hf2_0_1); (try clear hf2_1_0); (try clear hf2_1_1); (try clear hf2_2_0); (try clear hf2_2_1); (try clear hg2_0); (try clear hg2_1); (try clear hg2_2); (try clear hz2_1); (try clear hz2_2)
  go_wp2_with fail
  go_region_held3 (fun W => W.cell? ⟨w.heap.size, 0, none⟩ = some (.int .i64 la) ∧ W.cell? ⟨w.heap.size, 1, none⟩ = some (.int .i64 lo)) (first | (go_keep; done) | (simp (maxDischargeDepth := 9) [*, World.cell?_alloc_some, World.cell?_setCell_far]; done) | (simp (maxDischargeDepth := 9) [go_sem, *]; done)) (first | (go_at_call 32; (first | with_reducible refine (sin_w _ (by omega) (by omega) _).mono ?_); rintro e w' ⟨rfl, hk⟩; have hz := hk.size; (try (refine kuse (b := w.heap.size) hk (by first | (simp; done) | (simp; omega) | omega) ?_; intro hq0 hg0; have hy0 : w.heap.size < w'.heap.size := (by (try simp at hz); omega); have hn0 : ¬ w.heap.size = w'.heap.size := (by omega); have hm0 : ¬ w.heap.size = w'.heap.size + 1 := (by omega); refine withF (p := w'.cell? ⟨w.heap.size, 0, none⟩ = some (.int .i64 la)) (by first | (rw [hq0]; with_reducible assumption) | (simp (maxDischargeDepth := 7) [go_sem, hq0]; done) | (simp (maxDischargeDepth := 7) [go_sem, hq0, *]; done) | fail) ?_; intro ff00; refine withF (p := w'.cell? ⟨w.heap.size, 1, none⟩ = some (.int .i64 lo)) (by first | (rw [hq0]; with_reducible assumption) | (simp (maxDischargeDepth := 7) [go_sem, hq0]; done) | (simp (maxDischargeDepth := 7) [go_sem, hq0, *]; done) | fail) ?_; intro ff01)); (try (refine kuse (b := w.heap.size + 1) hk (by first | (simp; done) | (simp; omega) | omega) ?_; intro hq1 hg1; have hy1 : w.heap.size + 1 < w'.heap.size := (by (try simp at hz); omega); have hn1 : ¬ w.heap.size + 1 = w'.heap.size := (by omega); have hm1 : ¬ w.heap.size + 1 = w'.heap.size + 1 := (by omega); refine withF (p := w'.cell? ⟨w.heap.size + 1, 0, none⟩ = some (.int .i64 X)) (by first | (rw [hq1]; with_reducible assumption) | (simp (maxDischargeDepth := 7) [go_sem, hq1]; done) | (simp (maxDischargeDepth := 7) [go_sem, hq1, *]; done) | fail) ?_; intro ff10; refine withF (p := w'.cell? ⟨w.heap.size + 1, 1, none⟩ = some (.int .i64 Y)) (by first | (rw [hq1]; with_reducible assumption) | (simp (maxDischargeDepth := 7) [go_sem, hq1]; done) | (simp (maxDischargeDepth := 7) [go_sem, hq1, *]; done) | fail) ?_; intro ff11)); (try (refine kuse (b := w.heap.size + 2) hk (by first | (simp; done) | (simp; omega) | omega) ?_; intro hq2 hg2; have hy2 : w.heap.size + 2 < w'.heap.size := (by (try simp at hz); omega); have hn2 : ¬ w.heap.size + 2 = w'.heap.size := (by omega); have hm2 : ¬ w.heap.size + 2 = w'.heap.size + 1 := (by omega); refine withF (p := w'.cell? ⟨w.heap.size + 2, 0, none⟩ = some (.int .i64 0)) (by first | (rw [hq2]; with_reducible assumption) | (simp (maxDischargeDepth := 7) [go_sem, hq2]; done) | (simp (maxDischargeDepth := 7) [go_sem, hq2, *]; done) | fail) ?_; intro ff20; refine withF (p := w'.cell? ⟨w.heap.size + 2, 1, none⟩ = some (.int .i64 0)) (by first | (rw [hq2]; with_reducible assumption) | (simp (maxDischargeDepth := 7) [go_sem, hq2]; done) | (simp (maxDischargeDepth := 7) [go_sem, hq2, *]; done) | fail) ?_; intro ff21)); (try (refine kuse (b := w3.heap.size) hk (by first | (simp; done) | (simp; omega) | omega) ?_; intro hq3 hg3; have hy3 : w3.heap.size < w'.heap.size := (by (try simp at hz); omega); have hn3 : ¬ w3.heap.size = w'.heap.size := (by omega); have hm3 : ¬ w3.heap.size = w'.heap.size + 1 := (by omega); refine withF (p := w'.cell? ⟨w3.heap.size, 0, none⟩ = some (.int .i64 (uX la lo))) (by first | (rw [hq3]; with_reducible assumption) | (simp (maxDischargeDepth := 7) [go_sem, hq3]; done) | (simp (maxDischargeDepth := 7) [go_sem, hq3, *]; done) | fail) ?_; intro ff30; refine withF (p := w'.cell? ⟨w3.heap.size, 1, none⟩ = some (.int .i64 (uY la lo))) (by first | (rw [hq3]; with_reducible assumption) | (simp (maxDischargeDepth := 7) [go_sem, hq3]; done) | (simp (maxDischargeDepth := 7) [go_sem, hq3, *]; done) | fail) ?_; intro ff31; refine withF (p := w'.cell? ⟨w3.heap.size, 2, none⟩ = some (.int .i64 (uZ la lo))) (by first | (rw [hq3]; with_reducible assumption) | (simp (maxDischargeDepth := 7) [go_sem, hq3]; done) | (simp (maxDischargeDepth := 7) [go_sem, hq3, *]; done) | fail) ?_; intro ff32))) | (go_at_call 33; (first | with_reducible refine (cos_w _ (by omega) (by omega) _).mono ?_); rintro e w' ⟨rfl, hk⟩; have hz := hk.size; (try (refine kuse (b := w.heap.size) hk (by first | (simp; done) | (simp; omega) | omega) ?_; intro hq0 hg0; have hy0 : w.heap.size < w'.heap.size := (by (try simp at hz); omega); have hn0 : ¬ w.heap.size = w'.heap.size := (by omega); have hm0 : ¬ w.heap.size = w'.heap.size + 1 := (by omega); refine withF (p := w'.cell? ⟨w.heap.size, 0, none⟩ = some (.int .i64 la)) (by first | (rw [hq0]; with_reducible assumption) | (simp (maxDischargeDepth := 7) [go_sem, hq0]; done) | (simp (maxDischargeDepth := 7) [go_sem, hq0, *]; done) | fail) ?_; intro ff00; refine withF (p := w'.cell? ⟨w.heap.size, 1, none⟩ = some (.int .i64 lo)) (by first | (rw [hq0]; with_reducible assumption) | (simp (maxDischargeDepth := 7) [go_sem, hq0]; done) | (simp (maxDischargeDepth := 7) [go_sem, hq0, *]; done) | fail) ?_; intro ff01)); (try (refine kuse (b := w.heap.size + 1) hk (by first | (simp; done) | (simp; omega) | omega) ?_; intro hq1 hg1; have hy1 : w.heap.size + 1 < w'.heap.size := (by (try simp at hz); omega); have hn1 : ¬ w.heap.size + 1 = w'.heap.size := (by omega); have hm1 : ¬ w.heap.size + 1 = w'.heap.size + 1 := (by omega); refine withF (p := w'.cell? ⟨w.heap.size + 1, 0, none⟩ = some (.int .i64 X)) (by first | (rw [hq1]; with_reducible assumption) | (simp (maxDischargeDepth := 7) [go_sem, hq1]; done) | (simp (maxDischargeDepth := 7) [go_sem, hq1, *]; done) | fail) ?_; intro ff10; refine withF (p := w'.cell? ⟨w.heap.size + 1, 1, none⟩ = some (.int .i64 Y)) (by first | (rw [hq1]; with_reducible assumption) | (simp (maxDischargeDepth := 7) [go_sem, hq1]; done) | (simp (maxDischargeDepth := 7) [go_sem, hq1, *]; done) | fail) ?_; intro ff11)); (try (refine kuse (b := w.heap.size + 2) hk (by first | (simp; done) | (simp; omega) | omega) ?_; intro hq2 hg2; have hy2 : w.heap.size + 2 < w'.heap.size := (by (try simp at hz); omega); have hn2 : ¬ w.heap.size + 2 = w'.heap.size := (by omega); have hm2 : ¬ w.heap.size + 2 = w'.heap.size + 1 := (by omega); refine withF (p := w'.cell? ⟨w.heap.size + 2, 0, none⟩ = some (.int .i64 0)) (by first | (rw [hq2]; with_reducible assumption) | (simp (maxDischargeDepth := 7) [go_sem, hq2]; done) | (simp (maxDischargeDepth := 7) [go_sem, hq2, *]; done) | fail) ?_; intro ff20; refine withF (p := w'.cell? ⟨w.heap.size + 2, 1, none⟩ = some (.int .i64 0)) (by first | (rw [hq2]; with_reducible assumption) | (simp (maxDischargeDepth := 7) [go_sem, hq2]; done) | (simp (maxDischargeDepth := 7) [go_sem, hq2, *]; done) | fail) ?_; intro ff21)); (try (refine kuse (b := w3.heap.size) hk (by first | (simp; done) | (simp; omega) | omega) ?_; intro hq3 hg3; have hy3 : w3.heap.size < w'.heap.size := (by (try simp at hz); omega); have hn3 : ¬ w3.heap.size = w'.heap.size := (by omega); have hm3 : ¬ w3.heap.size = w'.heap.size + 1 := (by omega); refine withF (p := w'.cell? ⟨w3.heap.size, 0, none⟩ = some (.int .i64 (uX la lo))) (by first | (rw [hq3]; with_reducible assumption) | (simp (maxDischargeDepth := 7) [go_sem, hq3]; done) | (simp (maxDischargeDepth := 7) [go_sem, hq3, *]; done) | fail) ?_; intro ff30; refine withF (p := w'.cell? ⟨w3.heap.size, 1, none⟩ = some (.int .i64 (uY la lo))) (by first | (rw [hq3]; with_reducible assumption) | (simp (maxDischargeDepth := 7) [go_sem, hq3]; done) | (simp (maxDischargeDepth := 7) [go_sem, hq3, *]; done) | fail) ?_; intro ff31; refine withF (p := w'.cell? ⟨w3.heap.size, 2, none⟩ = some (.int .i64 (uZ la lo))) (by first | (rw [hq3]; with_reducible assumption) | (simp (maxDischargeDepth := 7) [go_sem, hq3]; done) | (simp (maxDischargeDepth := 7) [go_sem, hq3, *]; done) | fail) ?_; intro ff32))))
  all_goals go_wp2_with fail
  go_region_held3 (fun W => W.cell? ⟨w.heap.size, 0, none⟩ = some (.int .i64 la) ∧ W.cell? ⟨w.heap.size, 1, none⟩ = some (.int .i64 lo)) (first | (go_keep; done) | (simp (maxDischargeDepth := 9) [*, World.cell?_alloc_some, World.cell?_setCell_far]; done) | (simp (maxDischargeDepth := 9) [go_sem, *]; done)) (first | (go_at_call 32; (first | with_reducible refine (sin_w _ (by omega) (by omega) _).mono ?_); rintro e w' ⟨rfl, hk⟩; have hz := hk.size; (try (refine kuse (b := w.heap.size) hk (by first | (simp; done) | (simp; omega) | omega) ?_; intro hq0 hg0; have hy0 : w.heap.size < w'.heap.size := (by (try simp at hz); omega); have hn0 : ¬ w.heap.size = w'.heap.size := (by omega); have hm0 : ¬ w.heap.size = w'.heap.size + 1 := (by omega); refine withF (p := w'.cell? ⟨w.heap.size, 0, none⟩ = some (.int .i64 la)) (by first | (rw [hq0]; with_reducible assumption) | (simp (maxDischargeDepth := 7) [go_sem, hq0]; done) | (simp (maxDischargeDepth := 7) [go_sem, hq0, *]; done) | fail) ?_; intro ff00; refine withF (p := w'.cell? ⟨w.heap.size, 1, none⟩ = some (.int .i64 lo)) (by first | (rw [hq0]; with_reducible assumption) | (simp (maxDischargeDepth := 7) [go_sem, hq0]; done) | (simp (maxDischargeDepth := 7) [go_sem, hq0, *]; done) | fail) ?_; intro ff01)); (try (refine kuse (b := w.heap.size + 1) hk (by first | (simp; done) | (simp; omega) | omega) ?_; intro hq1 hg1; have hy1 : w.heap.size + 1 < w'.heap.size := (by (try simp at hz); omega); have hn1 : ¬ w.heap.size + 1 = w'.heap.size := (by omega); have hm1 : ¬ w.heap.size + 1 = w'.heap.size + 1 := (by omega); refine withF (p := w'.cell? ⟨w.heap.size + 1, 0, none⟩ = some (.int .i64 X)) (by first | (rw [hq1]; with_reducible assumption) | (simp (maxDischargeDepth := 7) [go_sem, hq1]; done) | (simp (maxDischargeDepth := 7) [go_sem, hq1, *]; done) | fail) ?_; intro ff10; refine withF (p := w'.cell? ⟨w.heap.size + 1, 1, none⟩ = some (.int .i64 Y)) (by first | (rw [hq1]; with_reducible assumption) | (simp (maxDischargeDepth := 7) [go_sem, hq1]; done) | (simp (maxDischargeDepth := 7) [go_sem, hq1, *]; done) | fail) ?_; intro ff11)); (try (refine kuse (b := w.heap.size + 2) hk (by first | (simp; done) | (simp; omega) | omega) ?_; intro hq2 hg2; have hy2 : w.heap.size + 2 < w'.heap.size := (by (try simp at hz); omega); have hn2 : ¬ w.heap.size + 2 = w'.heap.size := (by omega); have hm2 : ¬ w.heap.size + 2 = w'.heap.size + 1 := (by omega); refine withF (p := w'.cell? ⟨w.heap.size + 2, 0, none⟩ = some (.int .i64 0)) (by first | (rw [hq2]; with_reducible assumption) | (simp (maxDischargeDepth := 7) [go_sem, hq2]; done) | (simp (maxDischargeDepth := 7) [go_sem, hq2, *]; done) | fail) ?_; intro ff20; refine withF (p := w'.cell? ⟨w.heap.size + 2, 1, none⟩ = some (.int .i64 0)) (by first | (rw [hq2]; with_reducible assumption) | (simp (maxDischargeDepth := 7) [go_sem, hq2]; done) | (simp (maxDischargeDepth := 7) [go_sem, hq2, *]; done) | fail) ?_; intro ff21)); (try (refine kuse (b := w3.heap.size) hk (by first | (simp; done) | (simp; omega) | omega) ?_; intro hq3 hg3; have hy3 : w3.heap.size < w'.heap.size := (by (try simp at hz); omega); have hn3 : ¬ w3.heap.size = w'.heap.size := (by omega); have hm3 : ¬ w3.heap.size = w'.heap.size + 1 := (by omega); refine withF (p := w'.cell? ⟨w3.heap.size, 0, none⟩ = some (.int .i64 (uX la lo))) (by first | (rw [hq3]; with_reducible assumption) | (simp (maxDischargeDepth := 7) [go_sem, hq3]; done) | (simp (maxDischargeDepth := 7) [go_sem, hq3, *]; done) | fail) ?_; intro ff30; refine withF (p := w'.cell? ⟨w3.heap.size, 1, none⟩ = some (.int .i64 (uY la lo))) (by first | (rw [hq3]; with_reducible assumption) | (simp (maxDischargeDepth := 7) [go_sem, hq3]; done) | (simp (maxDischargeDepth := 7) [go_sem, hq3, *]; done) | fail) ?_; intro ff31; refine withF (p := w'.cell? ⟨w3.heap.size, 2, none⟩ = some (.int .i64 (uZ la lo))) (by first | (rw [hq3]; with_reducible assumption) | (simp (maxDischargeDepth := 7) [go_sem, hq3]; done) | (simp (maxDischargeDepth := 7) [go_sem, hq3, *]; done) | fail) ?_; intro ff32))) | (go_at_call 33; (first | with_reducible refine (cos_w _ (by omega) (by omega) _).mono ?_); rintro e w' ⟨rfl, hk⟩; have hz := hk.size; (try (refine kuse (b := w.heap.size) hk (by first | (simp; done) | (simp; omega) | omega) ?_; intro hq0 hg0; have hy0 : w.heap.size < w'.heap.size := (by (try simp at hz); omega); have hn0 : ¬ w.heap.size = w'.heap.size := (by omega); have hm0 : ¬ w.heap.size = w'.heap.size + 1 := (by omega); refine withF (p := w'.cell? ⟨w.heap.size, 0, none⟩ = some (.int .i64 la)) (by first | (rw [hq0]; with_reducible assumption) | (simp (maxDischargeDepth := 7) [go_sem, hq0]; done) | (simp (maxDischargeDepth := 7) [go_sem, hq0, *]; done) | fail) ?_; intro ff00; refine withF (p := w'.cell? ⟨w.heap.size, 1, none⟩ = some (.int .i64 lo)) (by first | (rw [hq0]; with_reducible assumption) | (simp (maxDischargeDepth := 7) [go_sem, hq0]; done) | (simp (maxDischargeDepth := 7) [go_sem, hq0, *]; done) | fail) ?_; intro ff01)); (try (refine kuse (b := w.heap.size + 1) hk (by first | (simp; done) | (simp; omega) | omega) ?_; intro hq1 hg1; have hy1 : w.heap.size + 1 < w'.heap.size := (by (try simp at hz); omega); have hn1 : ¬ w.heap.size + 1 = w'.heap.size := (by omega); have hm1 : ¬ w.heap.size + 1 = w'.heap.size + 1 := (by omega); refine withF (p := w'.cell? ⟨w.heap.size + 1, 0, none⟩ = some (.int .i64 X)) (by first | (rw [hq1]; with_reducible assumption) | (simp (maxDischargeDepth := 7) [go_sem, hq1]; done) | (simp (maxDischargeDepth := 7) [go_sem, hq1, *]; done) | fail) ?_; intro ff10; refine withF (p := w'.cell? ⟨w.heap.size + 1, 1, none⟩ = some (.int .i64 Y)) (by first | (rw [hq1]; with_reducible assumption) | (simp (maxDischargeDepth := 7) [go_sem, hq1]; done) | (simp (maxDischargeDepth := 7) [go_sem, hq1, *]; done) | fail) ?_; intro ff11)); (try (refine kuse (b := w.heap.size + 2) hk (by first | (simp; done) | (simp; omega) | omega) ?_; intro hq2 hg2; have hy2 : w.heap.size + 2 < w'.heap.size := (by (try simp at hz); omega); have hn2 : ¬ w.heap.size + 2 = w'.heap.size := (by omega); have hm2 : ¬ w.heap.size + 2 = w'.heap.size + 1 := (by omega); refine withF (p := w'.cell? ⟨w.heap.size + 2, 0, none⟩ = some (.int .i64 0)) (by first | (rw [hq2]; with_reducible assumption) | (simp (maxDischargeDepth := 7) [go_sem, hq2]; done) | (simp (maxDischargeDepth := 7) [go_sem, hq2, *]; done) | fail) ?_; intro ff20; refine withF (p := w'.cell? ⟨w.heap.size + 2, 1, none⟩ = some (.int .i64 0)) (by first | (rw [hq2]; with_reducible assumption) | (simp (maxDischargeDepth := 7) [go_sem, hq2]; done) | (simp (maxDischargeDepth := 7) [go_sem, hq2, *]; done) | fail) ?_; intro ff21)); (try (refine kuse (b := w3.heap.size) hk (by first | (simp; done) | (simp; omega) | omega) ?_; intro hq3 hg3; have hy3 : w3.heap.size < w'.heap.size := (by (try simp at hz); omega); have hn3 : ¬ w3.heap.size = w'.heap.size := (by omega); have hm3 : ¬ w3.heap.size = w'.heap.size + 1 := (by omega); refine withF (p := w'.cell? ⟨w3.heap.size, 0, none⟩ = some (.int .i64 (uX la lo))) (by first | (rw [hq3]; with_reducible assumption) | (simp (maxDischargeDepth := 7) [go_sem, hq3]; done) | (simp (maxDischargeDepth := 7) [go_sem, hq3, *]; done) | fail) ?_; intro ff30; refine withF (p := w'.cell? ⟨w3.heap.size, 1, none⟩ = some (.int .i64 (uY la lo))) (by first | (rw [hq3]; with_reducible assumption) | (simp (maxDischargeDepth := 7) [go_sem, hq3]; done) | (simp (maxDischargeDepth := 7) [go_sem, hq3, *]; done) | fail) ?_; intro ff31; refine withF (p := w'.cell? ⟨w3.heap.size, 2, none⟩ = some (.int .i64 (uZ la lo))) (by first | (rw [hq3]; with_reducible assumption) | (simp (maxDischargeDepth := 7) [go_sem, hq3]; done) | (simp (maxDischargeDepth := 7) [go_sem, hq3, *]; done) | fail) ?_; intro ff32))))
  all_goals go_wp2_with fail
  with_reducible refine (HS1.out _).mono ?_
  rintro e w4 ⟨rfl, hk4⟩
  refine kuz (b := w.heap.size) hk4 (by first | (simp; done) | (simp; omega) | omega) ?_
  intro ha hb hz4_0 hn4_0 hm4_0
  have hf4_0_0 : w4.cell? ⟨w.heap.size, 0, none⟩ = some (.int .i64 la) := (ha _).trans (by first | with_reducible assumption | (simp (maxDischargeDepth := 7) [go_sem]; done) | (simp (maxDischargeDepth := 7) [go_sem, *]; done))
  have hf4_0_1 : w4.cell? ⟨w.heap.size, 1, none⟩ = some (.int .i64 lo) := (ha _).trans (by first | with_reducible assumption | (simp (maxDischargeDepth := 7) [go_sem]; done) | (simp (maxDischargeDepth := 7) [go_sem, *]; done))
  try have hg4_0 : ∀ o, w4.frozen? ⟨w.heap.size, o, none⟩ = false := by intro o; rw [hb]; first | (simp (maxDischargeDepth := 7) [go_sem]; done) | (simp (maxDischargeDepth := 7) [go_sem, *]; done)
  clear ha hb
  refine kuz (b := w.heap.size + 1) hk4 (by first | (simp; done) | (simp; omega) | omega) ?_
  intro ha hb hz4_1 hn4_1 hm4_1
  have hf4_1_0 : w4.cell? ⟨w.heap.size + 1, 0, none⟩ = some (.int .i64 X) := (ha _).trans (by first | with_reducible assumption | (simp (maxDischargeDepth := 7) [go_sem]; done) | (simp (maxDischargeDepth := 7) [go_sem, *]; done))
  have hf4_1_1 : w4.cell? ⟨w.heap.size + 1, 1, none⟩ = some (.int .i64 Y) := (ha _).trans (by first | with_reducible assumption | (simp (maxDischargeDepth := 7) [go_sem]; done) | (simp (maxDischargeDepth := 7) [go_sem, *]; done))
  try have hg4_1 : ∀ o, w4.frozen? ⟨w.heap.size + 1, o, none⟩ = false := by intro o; rw [hb]; first | (simp (maxDischargeDepth := 7) [go_sem]; done) | (simp (maxDischargeDepth := 7) [go_sem, *]; done)
  clear ha hb
  refine kuz (b := w.heap.size + 2) hk4 (by first | (simp; done) | (simp; omega) | omega) ?_
  intro ha hb hz4_2 hn4_2 hm4_2
  have hf4_2_0 : w4.cell? ⟨w.heap.size + 2, 0, none⟩ = some (.int .i64 0) := (ha _).trans (by first | with_reducible assumption | (simp (maxDischargeDepth := 7) [go_sem]; done) | (simp (maxDischargeDepth := 7) [go_sem, *]; done))
  have hf4_2_1 : w4.cell? ⟨w.heap.size + 2, 1, none⟩ = some (.int .i64 0) := (ha _).trans (by first | with_reducible assumption | (simp (maxDischargeDepth := 7) [go_sem]; done) | (simp (maxDischargeDepth := 7) [go_sem, *]; done))
  try have hg4_2 : ∀ o, w4.frozen? ⟨w.heap.size + 2, o, none⟩ = false := by intro o; rw [hb]; first | (simp (maxDischargeDepth := 7) [go_sem]; done) | (simp (maxDischargeDepth := 7) [go_sem, *]; done)
  clear ha hb
  refine kuz (b := w3.heap.size) hk4 (by first | (simp; done) | (simp; omega) | omega) ?_
  intro ha hb hz4_3 hn4_3 hm4_3
  have hf4_3_0 : w4.cell? ⟨w3.heap.size, 0, none⟩ = some (.int .i64 (uX la lo)) := (ha _).trans (by first | with_reducible assumption | (simp (maxDischargeDepth := 7) [go_sem]; done) | (simp (maxDischargeDepth := 7) [go_sem, *]; done))
  have hf4_3_1 : w4.cell? ⟨w3.heap.size, 1, none⟩ = some (.int .i64 (uY la lo)) := (ha _).trans (by first | with_reducible assumption | (simp (maxDischargeDepth := 7) [go_sem]; done) | (simp (maxDischargeDepth := 7) [go_sem, *]; done))
  have hf4_3_2 : w4.cell? ⟨w3.heap.size, 2, none⟩ = some (.int .i64 (uZ la lo)) := (ha _).trans (by first | with_reducible assumption | (simp (maxDischargeDepth := 7) [go_sem]; done) | (simp (maxDischargeDepth := 7) [go_sem, *]; done))
  try have hg4_3 : ∀ o, w4.frozen? ⟨w3.heap.size, o, none⟩ = false := by intro o; rw [hb]; first | (simp (maxDischargeDepth := 7) [go_sem]; done) | (simp (maxDischargeDepth := 7) [go_sem, *]; done)
  clear ha hb
  (try clear hf3_0_0); (try clear hf3_0_1); (try clear hf3_1_0); (try clear hf3_1_1); (try clear hf3_2_0); (try clear hf3_2_1); (try clear hg3_0); (try clear hg3_1); (try clear hg3_2); (try clear hz3_1); (try clear hz3_2)
  go_wp2_with fail
  with_reducible refine (HS2.out _).mono ?_
  rintro e w5 ⟨rfl, hk5⟩
  refine kuz (b := w.heap.size) hk5 (by first | (simp; done) | (simp; omega) | omega) ?_
  intro ha hb hz5_0 hn5_0 hm5_0
  have hf5_0_0 : w5.cell? ⟨w.heap.size, 0, none⟩ = some (.int .i64 la) := (ha _).trans (by first | with_reducible assumption | (simp (maxDischargeDepth := 7) [go_sem]; done) | (simp (maxDischargeDepth := 7) [go_sem, *]; done))
  have hf5_0_1 : w5.cell? ⟨w.heap.size, 1, none⟩ = some (.int .i64 lo) := (ha _).trans (by first | with_reducible assumption | (simp (maxDischargeDepth := 7) [go_sem]; done) | (simp (maxDischargeDepth := 7) [go_sem, *]; done))
  try have hg5_0 : ∀ o, w5.frozen? ⟨w.heap.size, o, none⟩ = false := by intro o; rw [hb]; first | (simp (maxDischargeDepth := 7) [go_sem]; done) | (simp (maxDischargeDepth := 7) [go_sem, *]; done)
  clear ha hb
  refine kuz (b := w.heap.size + 1) hk5 (by first | (simp; done) | (simp; omega) | omega) ?_
  intro ha hb hz5_1 hn5_1 hm5_1
  have hf5_1_0 : w5.cell? ⟨w.heap.size + 1, 0, none⟩ = some (.int .i64 X) := (ha _).trans (by first | with_reducible assumption | (simp (maxDischargeDepth := 7) [go_sem]; done) | (simp (maxDischargeDepth := 7) [go_sem, *]; done))
  have hf5_1_1 : w5.cell? ⟨w.heap.size + 1, 1, none⟩ = some (.int .i64 Y) := (ha _).trans (by first | with_reducible assumption | (simp (maxDischargeDepth := 7) [go_sem]; done) | (simp (maxDischargeDepth := 7) [go_sem, *]; done))
  try have hg5_1 : ∀ o, w5.frozen? ⟨w.heap.size + 1, o, none⟩ = false := by intro o; rw [hb]; first | (simp (maxDischargeDepth := 7) [go_sem]; done) | (simp (maxDischargeDepth := 7) [go_sem, *]; done)
  clear ha hb
  refine kuz (b := w.heap.size + 2) hk5 (by first | (simp; done) | (simp; omega) | omega) ?_
  intro ha hb hz5_2 hn5_2 hm5_2
  have hf5_2_0 : w5.cell? ⟨w.heap.size + 2, 0, none⟩ = some (.int .i64 0) := (ha _).trans (by first | with_reducible assumption | (simp (maxDischargeDepth := 7) [go_sem]; done) | (simp (maxDischargeDepth := 7) [go_sem, *]; done))
  have hf5_2_1 : w5.cell? ⟨w.heap.size + 2, 1, none⟩ = some (.int .i64 0) := (ha _).trans (by first | with_reducible assumption | (simp (maxDischargeDepth := 7) [go_sem]; done) | (simp (maxDischargeDepth := 7) [go_sem, *]; done))
  try have hg5_2 : ∀ o, w5.frozen? ⟨w.heap.size + 2, o, none⟩ = false := by intro o; rw [hb]; first | (simp (maxDischargeDepth := 7) [go_sem]; done) | (simp (maxDischargeDepth := 7) [go_sem, *]; done)
  clear ha hb
  refine kuz (b := w3.heap.size) hk5 (by first | (simp; done) | (simp; omega) | omega) ?_
  intro ha hb hz5_3 hn5_3 hm5_3
  have hf5_3_0 : w5.cell? ⟨w3.heap.size, 0, none⟩ = some (.int .i64 (uX la lo)) := (ha _).trans (by first | with_reducible assumption | (simp (maxDischargeDepth := 7) [go_sem]; done) | (simp (maxDischargeDepth := 7) [go_sem, *]; done))
  have hf5_3_1 : w5.cell? ⟨w3.heap.size, 1, none⟩ = some (.int .i64 (uY la lo)) := (ha _).trans (by first | with_reducible assumption | (simp (maxDischargeDepth := 7) [go_sem]; done) | (simp (maxDischargeDepth := 7) [go_sem, *]; done))
  have hf5_3_2 : w5.cell? ⟨w3.heap.size, 2, none⟩ = some (.int .i64 (uZ la lo)) := (ha _).trans (by first | with_reducible assumption | (simp (maxDischargeDepth := 7) [go_sem]; done) | (simp (maxDischargeDepth := 7) [go_sem, *]; done))
  try have hg5_3 : ∀ o, w5.frozen? ⟨w3.heap.size, o, none⟩ = false := by intro o; rw [hb]; first | (simp (maxDischargeDepth := 7) [go_sem]; done) | (simp (maxDischargeDepth := 7) [go_sem, *]; done)
  clear ha hb
  (try clear hf4_0_0); (try clear hf4_0_1); (try clear hf4_1_0); (try clear hf4_1_1); (try clear hf4_2_0); (try clear hf4_2_1); (try clear hf4_3_0); (try clear hf4_3_1); (try clear hf4_3_2); (try clear hg4_0); (try clear hg4_1); (try clear hg4_2); (try clear hg4_3); (try clear hz4_1); (try clear hz4_2); (try clear hz4_3)
  go_wp2_with fail
  go_region_held3 (fun W => W.cell? ⟨w.heap.size + 1, 0, none⟩ = some (.int .i64 X) ∧ W.cell? ⟨w.heap.size + 1, 1, none⟩ = some (.int .i64 Y) ∧ W.cell? ⟨w3.heap.size, 0, none⟩ = some (.int .i64 (uX la lo)) ∧ W.cell? ⟨w3.heap.size, 1, none⟩ = some (.int .i64 (uY la lo)) ∧ W.cell? ⟨w3.heap.size, 2, none⟩ = some (.int .i64 (uZ la lo))) (first | (go_keep; done) | (simp (maxDischargeDepth := 9) [*, World.cell?_alloc_some, World.cell?_setCell_far]; done) | (simp (maxDischargeDepth := 9) [go_sem, *]; done)) (first | (go_at_call 36; (first | with_reducible refine (HQ1.out _).mono ?_); rintro e w' ⟨rfl, hk⟩; have hz := hk.size; (try (refine kuse (b := w.heap.size + 1) hk (by first | (simp; done) | (simp; omega) | omega) ?_; intro hq0 hg0; have hy0 : w.heap.size + 1 < w'.heap.size := (by (try simp at hz); omega); have hn0 : ¬ w.heap.size + 1 = w'.heap.size := (by omega); have hm0 : ¬ w.heap.size + 1 = w'.heap.size + 1 := (by omega); refine withF (p := w'.cell? ⟨w.heap.size + 1, 0, none⟩ = some (.int .i64 X)) (by first | (rw [hq0]; with_reducible assumption) | (simp (maxDischargeDepth := 7) [go_sem, hq0]; done) | (simp (maxDischargeDepth := 7) [go_sem, hq0, *]; done) | fail) ?_; intro ff00; refine withF (p := w'.cell? ⟨w.heap.size + 1, 1, none⟩ = some (.int .i64 Y)) (by first | (rw [hq0]; with_reducible assumption) | (simp (maxDischargeDepth := 7) [go_sem, hq0]; done) | (simp (maxDischargeDepth := 7) [go_sem, hq0, *]; done) | fail) ?_; intro ff01)); (try (refine kuse (b := w3.heap.size) hk (by first | (simp; done) | (simp; omega) | omega) ?_; intro hq1 hg1; have hy1 : w3.heap.size < w'.heap.size := (by (try simp at hz); omega); have hn1 : ¬ w3.heap.size = w'.heap.size := (by omega); have hm1 : ¬ w3.heap.size = w'.heap.size + 1 := (by omega); refine withF (p := w'.cell? ⟨w3.heap.size, 0, none⟩ = some (.int .i64 (uX la lo))) (by first | (rw [hq1]; with_reducible assumption) | (simp (maxDischargeDepth := 7) [go_sem, hq1]; done) | (simp (maxDischargeDepth := 7) [go_sem, hq1, *]; done) | fail) ?_; intro ff10; refine withF (p := w'.cell? ⟨w3.heap.size, 1, none⟩ = some (.int .i64 (uY la lo))) (by first | (rw [hq1]; with_reducible assumption) | (simp (maxDischargeDepth := 7) [go_sem, hq1]; done) | (simp (maxDischargeDepth := 7) [go_sem, hq1, *]; done) | fail) ?_; intro ff11; refine withF (p := w'.cell? ⟨w3.heap.size, 2, none⟩ = some (.int .i64 (uZ la lo))) (by first | (rw [hq1]; with_reducible assumption) | (simp (maxDischargeDepth := 7) [go_sem, hq1]; done) | (simp (maxDischargeDepth := 7) [go_sem, hq1, *]; done) | fail) ?_; intro ff12)); (try (refine kuse (b := w.heap.size) hk (by first | (simp; done) | (simp; omega) | omega) ?_; intro hq2 hg2; have hy2 : w.heap.size < w'.heap.size := (by (try simp at hz); omega); have hn2 : ¬ w.heap.size = w'.heap.size := (by omega); have hm2 : ¬ w.heap.size = w'.heap.size + 1 := (by omega); refine withF (p := w'.cell? ⟨w.heap.size, 0, none⟩ = some (.int .i64 la)) (by first | (rw [hq2]; with_reducible assumption) | (simp (maxDischargeDepth := 7) [go_sem, hq2]; done) | (simp (maxDischargeDepth := 7) [go_sem, hq2, *]; done) | fail) ?_; intro ff20; refine withF (p := w'.cell? ⟨w.heap.size, 1, none⟩ = some (.int .i64 lo)) (by first | (rw [hq2]; with_reducible assumption) | (simp (maxDischargeDepth := 7) [go_sem, hq2]; done) | (simp (maxDischargeDepth := 7) [go_sem, hq2, *]; done) | fail) ?_; intro ff21)); (try (refine kuse (b := w.heap.size + 2) hk (by first | (simp; done) | (simp; omega) | omega) ?_; intro hq3 hg3; have hy3 : w.heap.size + 2 < w'.heap.size := (by (try simp at hz); omega); have hn3 : ¬ w.heap.size + 2 = w'.heap.size := (by omega); have hm3 : ¬ w.heap.size + 2 = w'.heap.size + 1 := (by omega); refine withF (p := w'.cell? ⟨w.heap.size + 2, 0, none⟩ = some (.int .i64 0)) (by first | (rw [hq3]; with_reducible assumption) | (simp (maxDischargeDepth := 7) [go_sem, hq3]; done) | (simp (maxDischargeDepth := 7) [go_sem, hq3, *]; done) | fail) ?_; intro ff30; refine withF (p := w'.cell? ⟨w.heap.size + 2, 1, none⟩ = some (.int .i64 0)) (by first | (rw [hq3]; with_reducible assumption) | (simp (maxDischargeDepth := 7) [go_sem, hq3]; done) | (simp (maxDischargeDepth := 7) [go_sem, hq3, *]; done) | fail) ?_; intro ff31))) | (go_at_call 36; (first | with_reducible refine (HQ2.out _).mono ?_); rintro e w' ⟨rfl, hk⟩; have hz := hk.size; (try (refine kuse (b := w.heap.size + 1) hk (by first | (simp; done) | (simp; omega) | omega) ?_; intro hq0 hg0; have hy0 : w.heap.size + 1 < w'.heap.size := (by (try simp at hz); omega); have hn0 : ¬ w.heap.size + 1 = w'.heap.size := (by omega); have hm0 : ¬ w.heap.size + 1 = w'.heap.size + 1 := (by omega); refine withF (p := w'.cell? ⟨w.heap.size + 1, 0, none⟩ = some (.int .i64 X)) (by first | (rw [hq0]; with_reducible assumption) | (simp (maxDischargeDepth := 7) [go_sem, hq0]; done) | (simp (maxDischargeDepth := 7) [go_sem, hq0, *]; done) | fail) ?_; intro ff00; refine withF (p := w'.cell? ⟨w.heap.size + 1, 1, none⟩ = some (.int .i64 Y)) (by first | (rw [hq0]; with_reducible assumption) | (simp (maxDischargeDepth := 7) [go_sem, hq0]; done) | (simp (maxDischargeDepth := 7) [go_sem, hq0, *]; done) | fail) ?_; intro ff01)); (try (refine kuse (b := w3.heap.size) hk (by first | (simp; done) | (simp; omega) | omega) ?_; intro hq1 hg1; have hy1 : w3.heap.size < w'.heap.size := (by (try simp at hz); omega); have hn1 : ¬ w3.heap.size = w'.heap.size := (by omega); have hm1 : ¬ w3.heap.size = w'.heap.size + 1 := (by omega); refine withF (p := w'.cell? ⟨w3.heap.size, 0, none⟩ = some (.int .i64 (uX la lo))) (by first | (rw [hq1]; with_reducible assumption) | (simp (maxDischargeDepth := 7) [go_sem, hq1]; done) | (simp (maxDischargeDepth := 7) [go_sem, hq1, *]; done) | fail) ?_; intro ff10; refine withF (p := w'.cell? ⟨w3.heap.size, 1, none⟩ = some (.int .i64 (uY la lo))) (by first | (rw [hq1]; with_reducible assumption) | (simp (maxDischargeDepth := 7) [go_sem, hq1]; done) | (simp (maxDischargeDepth := 7) [go_sem, hq1, *]; done) | fail) ?_; intro ff11; refine withF (p := w'.cell? ⟨w3.heap.size, 2, none⟩ = some (.int .i64 (uZ la lo))) (by first | (rw [hq1]; with_reducible assumption) | (simp (maxDischargeDepth := 7) [go_sem, hq1]; done) | (simp (maxDischargeDepth := 7) [go_sem, hq1, *]; done) | fail) ?_; intro ff12)); (try (refine kuse (b := w.heap.size) hk (by first | (simp; done) | (simp; omega) | omega) ?_; intro hq2 hg2; have hy2 : w.heap.size < w'.heap.size := (by (try simp at hz); omega); have hn2 : ¬ w.heap.size = w'.heap.size := (by omega); have hm2 : ¬ w.heap.size = w'.heap.size + 1 := (by omega); refine withF (p := w'.cell? ⟨w.heap.size, 0, none⟩ = some (.int .i64 la)) (by first | (rw [hq2]; with_reducible assumption) | (simp (maxDischargeDepth := 7) [go_sem, hq2]; done) | (simp (maxDischargeDepth := 7) [go_sem, hq2, *]; done) | fail) ?_; intro ff20; refine withF (p := w'.cell? ⟨w.heap.size, 1, none⟩ = some (.int .i64 lo)) (by first | (rw [hq2]; with_reducible assumption) | (simp (maxDischargeDepth := 7) [go_sem, hq2]; done) | (simp (maxDischargeDepth := 7) [go_sem, hq2, *]; done) | fail) ?_; intro ff21)); (try (refine kuse (b := w.heap.size + 2) hk (by first | (simp; done) | (simp; omega) | omega) ?_; intro hq3 hg3; have hy3 : w.heap.size + 2 < w'.heap.size := (by (try simp at hz); omega); have hn3 : ¬ w.heap.size + 2 = w'.heap.size := (by omega); have hm3 : ¬ w.heap.size + 2 = w'.heap.size + 1 := (by omega); refine withF (p := w'.cell? ⟨w.heap.size + 2, 0, none⟩ = some (.int .i64 0)) (by first | (rw [hq3]; with_reducible assumption) | (simp (maxDischargeDepth := 7) [go_sem, hq3]; done) | (simp (maxDischargeDepth := 7) [go_sem, hq3, *]; done) | fail) ?_; intro ff30; refine withF (p := w'.cell? ⟨w.heap.size + 2, 1, none⟩ = some (.int .i64 0)) (by first | (rw [hq3]; with_reducible assumption) | (simp (maxDischargeDepth := 7) [go_sem, hq3]; done) | (simp (maxDischargeDepth := 7) [go_sem, hq3, *]; done) | fail) ?_; intro ff31))) | (go_at_call 36; (first | with_reducible refine (HQ3.out _).mono ?_); rintro e w' ⟨rfl, hk⟩; have hz := hk.size; (try (refine kuse (b := w.heap.size + 1) hk (by first | (simp; done) | (simp; omega) | omega) ?_; intro hq0 hg0; have hy0 : w.heap.size + 1 < w'.heap.size := (by (try simp at hz); omega); have hn0 : ¬ w.heap.size + 1 = w'.heap.size := (by omega); have hm0 : ¬ w.heap.size + 1 = w'.heap.size + 1 := (by omega); refine withF (p := w'.cell? ⟨w.heap.size + 1, 0, none⟩ = some (.int .i64 X)) (by first | (rw [hq0]; with_reducible assumption) | (simp (maxDischargeDepth := 7) [go_sem, hq0]; done) | (simp (maxDischargeDepth := 7) [go_sem, hq0, *]; done) | fail) ?_; intro ff00; refine withF (p := w'.cell? ⟨w.heap.size + 1, 1, none⟩ = some (.int .i64 Y)) (by first | (rw [hq0]; with_reducible assumption) | (simp (maxDischargeDepth := 7) [go_sem, hq0]; done) | (simp (maxDischargeDepth := 7) [go_sem, hq0, *]; done) | fail) ?_; intro ff01)); (try (refine kuse (b := w3.heap.size) hk (by first | (simp; done) | (simp; omega) | omega) ?_; intro hq1 hg1; have hy1 : w3.heap.size < w'.heap.size := (by (try simp at hz); omega); have hn1 : ¬ w3.heap.size = w'.heap.size := (by omega); have hm1 : ¬ w3.heap.size = w'.heap.size + 1 := (by omega); refine withF (p := w'.cell? ⟨w3.heap.size, 0, none⟩ = some (.int .i64 (uX la lo))) (by first | (rw [hq1]; with_reducible assumption) | (simp (maxDischargeDepth := 7) [go_sem, hq1]; done) | (simp (maxDischargeDepth := 7) [go_sem, hq1, *]; done) | fail) ?_; intro ff10; refine withF (p := w'.cell? ⟨w3.heap.size, 1, none⟩ = some (.int .i64 (uY la lo))) (by first | (rw [hq1]; with_reducible assumption) | (simp (maxDischargeDepth := 7) [go_sem, hq1]; done) | (simp (maxDischargeDepth := 7) [go_sem, hq1, *]; done) | fail) ?_; intro ff11; refine withF (p := w'.cell? ⟨w3.heap.size, 2, none⟩ = some (.int .i64 (uZ la lo))) (by first | (rw [hq1]; with_reducible assumption) | (simp (maxDischargeDepth := 7) [go_sem, hq1]; done) | (simp (maxDischargeDepth := 7) [go_sem, hq1, *]; done) | fail) ?_; intro ff12)); (try (refine kuse (b := w.heap.size) hk (by first | (simp; done) | (simp; omega) | omega) ?_; intro hq2 hg2; have hy2 : w.heap.size < w'.heap.size := (by (try simp at hz); omega); have hn2 : ¬ w.heap.size = w'.heap.size := (by omega); have hm2 : ¬ w.heap.size = w'.heap.size + 1 := (by omega); refine withF (p := w'.cell? ⟨w.heap.size, 0, none⟩ = some (.int .i64 la)) (by first | (rw [hq2]; with_reducible assumption) | (simp (maxDischargeDepth := 7) [go_sem, hq2]; done) | (simp (maxDischargeDepth := 7) [go_sem, hq2, *]; done) | fail) ?_; intro ff20; refine withF (p := w'.cell? ⟨w.heap.size, 1, none⟩ = some (.int .i64 lo)) (by first | (rw [hq2]; with_reducible assumption) | (simp (maxDischargeDepth := 7) [go_sem, hq2]; done) | (simp (maxDischargeDepth := 7) [go_sem, hq2, *]; done) | fail) ?_; intro ff21)); (try (refine kuse (b := w.heap.size + 2) hk (by first | (simp; done) | (simp; omega) | omega) ?_; intro hq3 hg3; have hy3 : w.heap.size + 2 < w'.heap.size := (by (try simp at hz); omega); have hn3 : ¬ w.heap.size + 2 = w'.heap.size := (by omega); have hm3 : ¬ w.heap.size + 2 = w'.heap.size + 1 := (by omega); refine withF (p := w'.cell? ⟨w.heap.size + 2, 0, none⟩ = some (.int .i64 0)) (by first | (rw [hq3]; with_reducible assumption) | (simp (maxDischargeDepth := 7) [go_sem, hq3]; done) | (simp (maxDischargeDepth := 7) [go_sem, hq3, *]; done) | fail) ?_; intro ff30; refine withF (p := w'.cell? ⟨w.heap.size + 2, 1, none⟩ = some (.int .i64 0)) (by first | (rw [hq3]; with_reducible assumption) | (simp (maxDischargeDepth := 7) [go_sem, hq3]; done) | (simp (maxDischargeDepth := 7) [go_sem, hq3, *]; done) | fail) ?_; intro ff31))) | (go_at_call 35; (first | with_reducible refine (HPS.out _).mono ?_); rintro e w' ⟨rfl, hk⟩; have hz := hk.size; (try (refine kuse (b := w.heap.size + 1) hk (by first | (simp; done) | (simp; omega) | omega) ?_; intro hq0 hg0; have hy0 : w.heap.size + 1 < w'.heap.size := (by (try simp at hz); omega); have hn0 : ¬ w.heap.size + 1 = w'.heap.size := (by omega); have hm0 : ¬ w.heap.size + 1 = w'.heap.size + 1 := (by omega); refine withF (p := w'.cell? ⟨w.heap.size + 1, 0, none⟩ = some (.int .i64 X)) (by first | (rw [hq0]; with_reducible assumption) | (simp (maxDischargeDepth := 7) [go_sem, hq0]; done) | (simp (maxDischargeDepth := 7) [go_sem, hq0, *]; done) | fail) ?_; intro ff00; refine withF (p := w'.cell? ⟨w.heap.size + 1, 1, none⟩ = some (.int .i64 Y)) (by first | (rw [hq0]; with_reducible assumption) | (simp (maxDischargeDepth := 7) [go_sem, hq0]; done) | (simp (maxDischargeDepth := 7) [go_sem, hq0, *]; done) | fail) ?_; intro ff01)); (try (refine kuse (b := w3.heap.size) hk (by first | (simp; done) | (simp; omega) | omega) ?_; intro hq1 hg1; have hy1 : w3.heap.size < w'.heap.size := (by (try simp at hz); omega); have hn1 : ¬ w3.heap.size = w'.heap.size := (by omega); have hm1 : ¬ w3.heap.size = w'.heap.size + 1 := (by omega); refine withF (p := w'.cell? ⟨w3.heap.size, 0, none⟩ = some (.int .i64 (uX la lo))) (by first | (rw [hq1]; with_reducible assumption) | (simp (maxDischargeDepth := 7) [go_sem, hq1]; done) | (simp (maxDischargeDepth := 7) [go_sem, hq1, *]; done) | fail) ?_; intro ff10; refine withF (p := w'.cell? ⟨w3.heap.size, 1, none⟩ = some (.int .i64 (uY la lo))) (by first | (rw [hq1]; with_reducible assumption) | (simp (maxDischargeDepth := 7) [go_sem, hq1]; done) | (simp (maxDischargeDepth := 7) [go_sem, hq1, *]; done) | fail) ?_; intro ff11; refine withF (p := w'.cell? ⟨w3.heap.size, 2, none⟩ = some (.int .i64 (uZ la lo))) (by first | (rw [hq1]; with_reducible assumption) | (simp (maxDischargeDepth := 7) [go_sem, hq1]; done) | (simp (maxDischargeDepth := 7) [go_sem, hq1, *]; done) | fail) ?_; intro ff12)); (try (refine kuse (b := w.heap.size) hk (by first | (simp; done) | (simp; omega) | omega) ?_; intro hq2 hg2; have hy2 : w.heap.size < w'.heap.size := (by (try simp at hz); omega); have hn2 : ¬ w.heap.size = w'.heap.size := (by omega); have hm2 : ¬ w.heap.size = w'.heap.size + 1 := (by omega); refine withF (p := w'.cell? ⟨w.heap.size, 0, none⟩ = some (.int .i64 la)) (by first | (rw [hq2]; with_reducible assumption) | (simp (maxDischargeDepth := 7) [go_sem, hq2]; done) | (simp (maxDischargeDepth := 7) [go_sem, hq2, *]; done) | fail) ?_; intro ff20; refine withF (p := w'.cell? ⟨w.heap.size, 1, none⟩ = some (.int .i64 lo)) (by first | (rw [hq2]; with_reducible assumption) | (simp (maxDischargeDepth := 7) [go_sem, hq2]; done) | (simp (maxDischargeDepth := 7) [go_sem, hq2, *]; done) | fail) ?_; intro ff21)); (try (refine kuse (b := w.heap.size + 2) hk (by first | (simp; done) | (simp; omega) | omega) ?_; intro hq3 hg3; have hy3 : w.heap.size + 2 < w'.heap.size := (by (try simp at hz); omega); have hn3 : ¬ w.heap.size + 2 = w'.heap.size := (by omega); have hm3 : ¬ w.heap.size + 2 = w'.heap.size + 1 := (by omega); refine withF (p := w'.cell? ⟨w.heap.size + 2, 0, none⟩ = some (.int .i64 0)) (by first | (rw [hq3]; with_reducible assumption) | (simp (maxDischargeDepth := 7) [go_sem, hq3]; done) | (simp (maxDischargeDepth := 7) [go_sem, hq3, *]; done) | fail) ?_; intro ff30; refine withF (p := w'.cell? ⟨w.heap.size + 2, 1, none⟩ = some (.int .i64 0)) (by first | (rw [hq3]; with_reducible assumption) | (simp (maxDischargeDepth := 7) [go_sem, hq3]; done) | (simp (maxDischargeDepth := 7) [go_sem, hq3, *]; done) | fail) ?_; intro ff31))))
  all_goals go_wp2_with fail
  all_goals exact bodyPost_ret (v := .tuple #[.agg #[.int .i64 (psLa x y z), .int .i64 (psLo x y z)], .int .i64 (psE x y z)]) (by first | (simp [results, Try.results17, go_sem]; done) | (simp (maxDischargeDepth := 7) [results, Try.results17, go_sem, *]; done)) rfl ⟨rfl, (by repeat (first | with_reducible exact Kept.refl _ | with_reducible assumption | with_reducible refine Kept.setCell ?_ (by first | (simp; done) | (simp; omega) | omega) _ | with_reducible refine Kept.alloc ?_ _ | with_reducible refine Kept.drewN ?_ _ | with_reducible refine Kept.drew ?_ | with_reducible refine Kept.trans ?_ (by with_reducible assumption) | with_reducible refine Kept.dr ?_ (by with_reducible assumption)))⟩
set_option maxHeartbeats 2000000 in
set_option maxRecDepth 100000 in
theorem ref_from_bado (la lo X Y : Int) (h : la < -25200000 ∨ 25200000 < la ∨ lo ≤ -64800000 ∨ 64800000 < lo) (w : World) : Calls Try.prog 18 #[.agg #[.int .i64 la, .int .i64 lo], .agg #[.int .i64 X, .int .i64 Y]] w fun e w' => e = .returned (.tuple #[.agg #[.int .i64 0, .int .i64 0], .int .i64 1]) ∧ Kept w w' := by
  go_enter Try.func18, Try.ntmps18
  go_wp2_with fail
  with_reducible refine (rvo_bad la lo h _).mono ?_
  rintro e w1 ⟨rfl, hk1⟩
  refine kuz (b := w.heap.size) hk1 (by first | (simp; done) | (simp; omega) | omega) ?_
  intro ha hb hz1_0 hn1_0 hm1_0
  have hf1_0_0 : w1.cell? ⟨w.heap.size, 0, none⟩ = some (.int .i64 la) := (ha _).trans (by first | with_reducible assumption | (simp (maxDischargeDepth := 7) [go_sem]; done) | (simp (maxDischargeDepth := 7) [go_sem, *]; done))
  have hf1_0_1 : w1.cell? ⟨w.heap.size, 1, none⟩ = some (.int .i64 lo) := (ha _).trans (by first | with_reducible assumption | (simp (maxDischargeDepth := 7) [go_sem]; done) | (simp (maxDischargeDepth := 7) [go_sem, *]; done))
  try have hg1_0 : ∀ o, w1.frozen? ⟨w.heap.size, o, none⟩ = false := by intro o; rw [hb]; first | (simp (maxDischargeDepth := 7) [go_sem]; done) | (simp (maxDischargeDepth := 7) [go_sem, *]; done)
  clear ha hb
  refine kuz (b := w.heap.size + 1) hk1 (by first | (simp; done) | (simp; omega) | omega) ?_
  intro ha hb hz1_1 hn1_1 hm1_1
  have hf1_1_0 : w1.cell? ⟨w.heap.size + 1, 0, none⟩ = some (.int .i64 X) := (ha _).trans (by first | with_reducible assumption | (simp (maxDischargeDepth := 7) [go_sem]; done) | (simp (maxDischargeDepth := 7) [go_sem, *]; done))
  have hf1_1_1 : w1.cell? ⟨w.heap.size + 1, 1, none⟩ = some (.int .i64 Y) := (ha _).trans (by first | with_reducible assumption | (simp (maxDischargeDepth := 7) [go_sem]; done) | (simp (maxDischargeDepth := 7) [go_sem, *]; done))
  try have hg1_1 : ∀ o, w1.frozen? ⟨w.heap.size + 1, o, none⟩ = false := by intro o; rw [hb]; first | (simp (maxDischargeDepth := 7) [go_sem]; done) | (simp (maxDischargeDepth := 7) [go_sem, *]; done)
  clear ha hb
  refine kuz (b := w.heap.size + 2) hk1 (by first | (simp; done) | (simp; omega) | omega) ?_
  intro ha hb hz1_2 hn1_2 hm1_2
  have hf1_2_0 : w1.cell? ⟨w.heap.size + 2, 0, none⟩ = some (.int .i64 0) := (ha _).trans (by first | with_reducible assumption | (simp (maxDischargeDepth := 7) [go_sem]; done) | (simp (maxDischargeDepth := 7) [go_sem, *]; done))
  have hf1_2_1 : w1.cell? ⟨w.heap.size + 2, 1, none⟩ = some (.int .i64 0) := (ha _).trans (by first | with_reducible assumption | (simp (maxDischargeDepth := 7) [go_sem]; done) | (simp (maxDischargeDepth := 7) [go_sem, *]; done))
  try have hg1_2 : ∀ o, w1.frozen? ⟨w.heap.size + 2, o, none⟩ = false := by intro o; rw [hb]; first | (simp (maxDischargeDepth := 7) [go_sem]; done) | (simp (maxDischargeDepth := 7) [go_sem, *]; done)
  clear ha hb
  go_wp2_with fail
  all_goals exact bodyPost_ret (v := .tuple #[.agg #[.int .i64 0, .int .i64 0], .int .i64 1]) (by first | (simp [results, Try.results18, go_sem]; done) | (simp (maxDischargeDepth := 7) [results, Try.results18, go_sem, *]; done)) rfl ⟨rfl, (by repeat (first | with_reducible exact Kept.refl _ | with_reducible assumption | with_reducible refine Kept.setCell ?_ (by first | (simp; done) | (simp; omega) | omega) _ | with_reducible refine Kept.alloc ?_ _ | with_reducible refine Kept.drewN ?_ _ | with_reducible refine Kept.drew ?_ | with_reducible refine Kept.trans ?_ (by with_reducible assumption) | with_reducible refine Kept.dr ?_ (by with_reducible assumption)))⟩
set_option maxHeartbeats 2000000 in
set_option maxRecDepth 100000 in
theorem ref_from_badp (la lo : Int) (la0 : -25200000 ≤ la) (la1 : la ≤ 25200000) (lo0 : -64800000 < lo) (lo1 : lo ≤ 64800000) (X Y : Int) (h : pokB X Y = false) (w : World) : Calls Try.prog 18 #[.agg #[.int .i64 la, .int .i64 lo], .agg #[.int .i64 X, .int .i64 Y]] w fun e w' => e = .returned (.tuple #[.agg #[.int .i64 0, .int .i64 0], .int .i64 2]) ∧ Kept w w' := by
  go_enter Try.func18, Try.ntmps18
  go_wp2_with fail
  with_reducible refine (rvo_ok la lo la0 la1 lo0 lo1 _).mono ?_
  rintro e w1 ⟨rfl, hk1⟩
  refine kuz (b := w.heap.size) hk1 (by first | (simp; done) | (simp; omega) | omega) ?_
  intro ha hb hz1_0 hn1_0 hm1_0
  have hf1_0_0 : w1.cell? ⟨w.heap.size, 0, none⟩ = some (.int .i64 la) := (ha _).trans (by first | with_reducible assumption | (simp (maxDischargeDepth := 7) [go_sem]; done) | (simp (maxDischargeDepth := 7) [go_sem, *]; done))
  have hf1_0_1 : w1.cell? ⟨w.heap.size, 1, none⟩ = some (.int .i64 lo) := (ha _).trans (by first | with_reducible assumption | (simp (maxDischargeDepth := 7) [go_sem]; done) | (simp (maxDischargeDepth := 7) [go_sem, *]; done))
  try have hg1_0 : ∀ o, w1.frozen? ⟨w.heap.size, o, none⟩ = false := by intro o; rw [hb]; first | (simp (maxDischargeDepth := 7) [go_sem]; done) | (simp (maxDischargeDepth := 7) [go_sem, *]; done)
  clear ha hb
  refine kuz (b := w.heap.size + 1) hk1 (by first | (simp; done) | (simp; omega) | omega) ?_
  intro ha hb hz1_1 hn1_1 hm1_1
  have hf1_1_0 : w1.cell? ⟨w.heap.size + 1, 0, none⟩ = some (.int .i64 X) := (ha _).trans (by first | with_reducible assumption | (simp (maxDischargeDepth := 7) [go_sem]; done) | (simp (maxDischargeDepth := 7) [go_sem, *]; done))
  have hf1_1_1 : w1.cell? ⟨w.heap.size + 1, 1, none⟩ = some (.int .i64 Y) := (ha _).trans (by first | with_reducible assumption | (simp (maxDischargeDepth := 7) [go_sem]; done) | (simp (maxDischargeDepth := 7) [go_sem, *]; done))
  try have hg1_1 : ∀ o, w1.frozen? ⟨w.heap.size + 1, o, none⟩ = false := by intro o; rw [hb]; first | (simp (maxDischargeDepth := 7) [go_sem]; done) | (simp (maxDischargeDepth := 7) [go_sem, *]; done)
  clear ha hb
  refine kuz (b := w.heap.size + 2) hk1 (by first | (simp; done) | (simp; omega) | omega) ?_
  intro ha hb hz1_2 hn1_2 hm1_2
  have hf1_2_0 : w1.cell? ⟨w.heap.size + 2, 0, none⟩ = some (.int .i64 0) := (ha _).trans (by first | with_reducible assumption | (simp (maxDischargeDepth := 7) [go_sem]; done) | (simp (maxDischargeDepth := 7) [go_sem, *]; done))
  have hf1_2_1 : w1.cell? ⟨w.heap.size + 2, 1, none⟩ = some (.int .i64 0) := (ha _).trans (by first | with_reducible assumption | (simp (maxDischargeDepth := 7) [go_sem]; done) | (simp (maxDischargeDepth := 7) [go_sem, *]; done))
  try have hg1_2 : ∀ o, w1.frozen? ⟨w.heap.size + 2, o, none⟩ = false := by intro o; rw [hb]; first | (simp (maxDischargeDepth := 7) [go_sem]; done) | (simp (maxDischargeDepth := 7) [go_sem, *]; done)
  clear ha hb
  go_wp2_with fail
  with_reducible refine (rpv_bad X Y h _).mono ?_
  rintro e w2 ⟨rfl, hk2⟩
  refine kuz (b := w.heap.size) hk2 (by first | (simp; done) | (simp; omega) | omega) ?_
  intro ha hb hz2_0 hn2_0 hm2_0
  have hf2_0_0 : w2.cell? ⟨w.heap.size, 0, none⟩ = some (.int .i64 la) := (ha _).trans (by first | with_reducible assumption | (simp (maxDischargeDepth := 7) [go_sem]; done) | (simp (maxDischargeDepth := 7) [go_sem, *]; done))
  have hf2_0_1 : w2.cell? ⟨w.heap.size, 1, none⟩ = some (.int .i64 lo) := (ha _).trans (by first | with_reducible assumption | (simp (maxDischargeDepth := 7) [go_sem]; done) | (simp (maxDischargeDepth := 7) [go_sem, *]; done))
  try have hg2_0 : ∀ o, w2.frozen? ⟨w.heap.size, o, none⟩ = false := by intro o; rw [hb]; first | (simp (maxDischargeDepth := 7) [go_sem]; done) | (simp (maxDischargeDepth := 7) [go_sem, *]; done)
  clear ha hb
  refine kuz (b := w.heap.size + 1) hk2 (by first | (simp; done) | (simp; omega) | omega) ?_
  intro ha hb hz2_1 hn2_1 hm2_1
  have hf2_1_0 : w2.cell? ⟨w.heap.size + 1, 0, none⟩ = some (.int .i64 X) := (ha _).trans (by first | with_reducible assumption | (simp (maxDischargeDepth := 7) [go_sem]; done) | (simp (maxDischargeDepth := 7) [go_sem, *]; done))
  have hf2_1_1 : w2.cell? ⟨w.heap.size + 1, 1, none⟩ = some (.int .i64 Y) := (ha _).trans (by first | with_reducible assumption | (simp (maxDischargeDepth := 7) [go_sem]; done) | (simp (maxDischargeDepth := 7) [go_sem, *]; done))
  try have hg2_1 : ∀ o, w2.frozen? ⟨w.heap.size + 1, o, none⟩ = false := by intro o; rw [hb]; first | (simp (maxDischargeDepth := 7) [go_sem]; done) | (simp (maxDischargeDepth := 7) [go_sem, *]; done)
  clear ha hb
  refine kuz (b := w.heap.size + 2) hk2 (by first | (simp; done) | (simp; omega) | omega) ?_
  intro ha hb hz2_2 hn2_2 hm2_2
  have hf2_2_0 : w2.cell? ⟨w.heap.size + 2, 0, none⟩ = some (.int .i64 0) := (ha _).trans (by first | with_reducible assumption | (simp (maxDischargeDepth := 7) [go_sem]; done) | (simp (maxDischargeDepth := 7) [go_sem, *]; done))
  have hf2_2_1 : w2.cell? ⟨w.heap.size + 2, 1, none⟩ = some (.int .i64 0) := (ha _).trans (by first | with_reducible assumption | (simp (maxDischargeDepth := 7) [go_sem]; done) | (simp (maxDischargeDepth := 7) [go_sem, *]; done))
  try have hg2_2 : ∀ o, w2.frozen? ⟨w.heap.size + 2, o, none⟩ = false := by intro o; rw [hb]; first | (simp (maxDischargeDepth := 7) [go_sem]; done) | (simp (maxDischargeDepth := 7) [go_sem, *]; done)
  clear ha hb
  (try clear hf1_0_0); (try clear hf1_0_1); (try clear hf1_1_0); (try clear hf1_1_1); (try clear hf1_2_0); (try clear hf1_2_1); (try clear hg1_0); (try clear hg1_1); (try clear hg1_2); (try clear hz1_1); (try clear hz1_2)
  go_wp2_with fail
  all_goals exact bodyPost_ret (v := .tuple #[.agg #[.int .i64 0, .int .i64 0], .int .i64 2]) (by first | (simp [results, Try.results18, go_sem]; done) | (simp (maxDischargeDepth := 7) [results, Try.results18, go_sem, *]; done)) rfl ⟨rfl, (by repeat (first | with_reducible exact Kept.refl _ | with_reducible assumption | with_reducible refine Kept.setCell ?_ (by first | (simp; done) | (simp; omega) | omega) _ | with_reducible refine Kept.alloc ?_ _ | with_reducible refine Kept.drewN ?_ _ | with_reducible refine Kept.drew ?_ | with_reducible refine Kept.trans ?_ (by with_reducible assumption) | with_reducible refine Kept.dr ?_ (by with_reducible assumption)))⟩
set_option maxHeartbeats 4000000 in
set_option maxRecDepth 100000 in
theorem ref_from_ok (la lo : Int) (la0 : -25200000 ≤ la) (la1 : la ≤ 25200000) (lo0 : -64800000 < lo) (lo1 : lo ≤ 64800000) (X Y : Int) (hp : pokB X Y = true) (w : World) : Calls Try.prog 18 #[.agg #[.int .i64 la, .int .i64 lo], .agg #[.int .i64 X, .int .i64 Y]] w fun e w' => e = .returned (.tuple #[.agg #[.int .i64 (psLa (frX la lo X Y) (frY la lo X Y) (frZ la lo Y)), .int .i64 (psLo (frX la lo X Y) (frY la lo X Y) (frZ la lo Y))], .int .i64 (psE (frX la lo X Y) (frY la lo X Y) (frZ la lo Y))]) ∧ Kept w w' := by
  have bd0 := sinV_bd lo
  obtain ⟨bd00, bd01⟩ := bd0
  have bd1 := cosV_bd lo
  obtain ⟨bd10, bd11⟩ := bd1
  have bd2 := cosV_bd la
  obtain ⟨bd20, bd21⟩ := bd2
  have bd3 := sinV_bd la
  obtain ⟨bd30, bd31⟩ := bd3
  have bd4 := fA_bd la lo
  obtain ⟨bd40, bd41⟩ := bd4
  have bd5 := fB_bd la lo
  obtain ⟨bd50, bd51⟩ := bd5
  have bd6 := uX_bd la lo
  obtain ⟨bd60, bd61⟩ := bd6
  have bd7 := uY_bd la lo
  obtain ⟨bd70, bd71⟩ := bd7
  have bd8 := uZ_bd la lo
  obtain ⟨bd80, bd81⟩ := bd8
  obtain ⟨X0, X1, Y0, Y1⟩ := pok_yes hp
  obtain ⟨m00, m01⟩ := mul_u (sinV lo) X (by omega) (by omega) (by omega) (by omega)
  obtain ⟨m10, m11⟩ := mul_u (fA la lo) Y (by omega) (by omega) (by omega) (by omega)
  obtain ⟨m20, m21⟩ := mul_u (cosV lo) X (by omega) (by omega) (by omega) (by omega)
  obtain ⟨m30, m31⟩ := mul_u (fB la lo) Y (by omega) (by omega) (by omega) (by omega)
  obtain ⟨m40, m41⟩ := mul_u (cosV la) Y (by omega) (by omega) (by omega) (by omega)
  obtain ⟨q00, q01⟩ := mul_sb (sinV la) (cosV lo) (by omega) (by omega) (by omega) (by omega)
  obtain ⟨q10, q11⟩ := mul_sb (sinV la) (sinV lo) (by omega) (by omega) (by omega) (by omega)
  have wr0 : IntKind.i64.wrap (sinV lo * X) = sinV lo * X := IntWalk.i64_in _ (by omega)
  have wr1 : IntKind.i64.wrap (fA la lo * Y) = fA la lo * Y := IntWalk.i64_in _ (by omega)
  have wr2 : IntKind.i64.wrap (cosV lo * X) = cosV lo * X := IntWalk.i64_in _ (by omega)
  have wr3 : IntKind.i64.wrap (fB la lo * Y) = fB la lo * Y := IntWalk.i64_in _ (by omega)
  have wr4 : IntKind.i64.wrap (cosV la * Y) = cosV la * Y := IntWalk.i64_in _ (by omega)
  have wr5 : IntKind.i64.wrap (20626481 * uX la lo) = 20626481 * uX la lo := IntWalk.i64_in _ (by omega)
  have wr6 : IntKind.i64.wrap (20626481 * uY la lo) = 20626481 * uY la lo := IntWalk.i64_in _ (by omega)
  have wr7 : IntKind.i64.wrap (20626481 * uZ la lo) = 20626481 * uZ la lo := IntWalk.i64_in _ (by omega)
  have wr8 : IntKind.i64.wrap (20626481 * uX la lo - sinV lo * X) = 20626481 * uX la lo - sinV lo * X := IntWalk.i64_in _ (by omega)
  have wr9 : IntKind.i64.wrap (20626481 * uY la lo + cosV lo * X) = 20626481 * uY la lo + cosV lo * X := IntWalk.i64_in _ (by omega)
  have wr10 : IntKind.i64.wrap (20626481 * uX la lo - sinV lo * X - fA la lo * Y) = 20626481 * uX la lo - sinV lo * X - fA la lo * Y := IntWalk.i64_in _ (by omega)
  have wr11 : IntKind.i64.wrap (20626481 * uY la lo + cosV lo * X - fB la lo * Y) = 20626481 * uY la lo + cosV lo * X - fB la lo * Y := IntWalk.i64_in _ (by omega)
  have wr12 : IntKind.i64.wrap (20626481 * uZ la lo + cosV la * Y) = 20626481 * uZ la lo + cosV la * Y := IntWalk.i64_in _ (by omega)
  have wr13 : IntKind.i64.wrap (sinV la * cosV lo) = sinV la * cosV lo := IntWalk.i64_in _ (by omega)
  have wr14 : IntKind.i64.wrap (sinV la * sinV lo) = sinV la * sinV lo := IntWalk.i64_in _ (by omega)
  have z0 := mq_one (20626481 * uX la lo - sinV lo * X - fA la lo * Y) (by omega) (by omega)
  have z1 := mq_one (20626481 * uY la lo + cosV lo * X - fB la lo * Y) (by omega) (by omega)
  have z2 := mq_one (20626481 * uZ la lo + cosV la * Y) (by omega) (by omega)
  have xr : frX la lo X Y = rnd 2 (20626481 * uX la lo - sinV lo * X - fA la lo * Y) 20626481 := rfl
  have yr : frY la lo X Y = rnd 2 (20626481 * uY la lo + cosV lo * X - fB la lo * Y) 20626481 := rfl
  have zr : frZ la lo Y = rnd 2 (20626481 * uZ la lo + cosV la * Y) 20626481 := rfl
  rw [← xr] at z0
  rw [← yr] at z1
  rw [← zr] at z2
  have M1 := fun w => rplrnd_w (20626481 * uX la lo - sinV lo * X - fA la lo * Y) 20626481 (by omega) (by omega) (by omega) (by omega) w
  have M2 := fun w => rplrnd_w (20626481 * uY la lo + cosV lo * X - fB la lo * Y) 20626481 (by omega) (by omega) (by omega) (by omega) w
  have M3 := fun w => rplrnd_w (20626481 * uZ la lo + cosV la * Y) 20626481 (by omega) (by omega) (by omega) (by omega) w
  rw [z0.1, z0.2.1] at M1
  rw [z1.1, z1.2.1] at M2
  rw [z2.1, z2.2.1] at M3
  clear xr yr zr
  generalize frX la lo X Y = x at *
  generalize frY la lo X Y = y at *
  generalize frZ la lo Y = z at *
  have PS := fun w => ref_position_w x y z (by omega) (by omega) (by omega) (by omega) (by omega) (by omega) w
  have HM1 := Lib.hid M1
  have HM2 := Lib.hid M2
  have HM3 := Lib.hid M3
  have HPS := Lib.hid PS
  clear M1 M2 M3 PS
  go_enter Try.func18, Try.ntmps18
  go_wp2_with fail
  with_reducible refine (rvo_ok la lo la0 la1 lo0 lo1 _).mono ?_
  rintro e w1 ⟨rfl, hk1⟩
  refine kuz (b := w.heap.size) hk1 (by first | (simp; done) | (simp; omega) | omega) ?_
  intro ha hb hz1_0 hn1_0 hm1_0
  have hf1_0_0 : w1.cell? ⟨w.heap.size, 0, none⟩ = some (.int .i64 la) := (ha _).trans (by first | with_reducible assumption | (simp (maxDischargeDepth := 7) [go_sem]; done) | (simp (maxDischargeDepth := 7) [go_sem, *]; done))
  have hf1_0_1 : w1.cell? ⟨w.heap.size, 1, none⟩ = some (.int .i64 lo) := (ha _).trans (by first | with_reducible assumption | (simp (maxDischargeDepth := 7) [go_sem]; done) | (simp (maxDischargeDepth := 7) [go_sem, *]; done))
  try have hg1_0 : ∀ o, w1.frozen? ⟨w.heap.size, o, none⟩ = false := by intro o; rw [hb]; first | (simp (maxDischargeDepth := 7) [go_sem]; done) | (simp (maxDischargeDepth := 7) [go_sem, *]; done)
  clear ha hb
  refine kuz (b := w.heap.size + 1) hk1 (by first | (simp; done) | (simp; omega) | omega) ?_
  intro ha hb hz1_1 hn1_1 hm1_1
  have hf1_1_0 : w1.cell? ⟨w.heap.size + 1, 0, none⟩ = some (.int .i64 X) := (ha _).trans (by first | with_reducible assumption | (simp (maxDischargeDepth := 7) [go_sem]; done) | (simp (maxDischargeDepth := 7) [go_sem, *]; done))
  have hf1_1_1 : w1.cell? ⟨w.heap.size + 1, 1, none⟩ = some (.int .i64 Y) := (ha _).trans (by first | with_reducible assumption | (simp (maxDischargeDepth := 7) [go_sem]; done) | (simp (maxDischargeDepth := 7) [go_sem, *]; done))
  try have hg1_1 : ∀ o, w1.frozen? ⟨w.heap.size + 1, o, none⟩ = false := by intro o; rw [hb]; first | (simp (maxDischargeDepth := 7) [go_sem]; done) | (simp (maxDischargeDepth := 7) [go_sem, *]; done)
  clear ha hb
  refine kuz (b := w.heap.size + 2) hk1 (by first | (simp; done) | (simp; omega) | omega) ?_
  intro ha hb hz1_2 hn1_2 hm1_2
  have hf1_2_0 : w1.cell? ⟨w.heap.size + 2, 0, none⟩ = some (.int .i64 0) := (ha _).trans (by first | with_reducible assumption | (simp (maxDischargeDepth := 7) [go_sem]; done) | (simp (maxDischargeDepth := 7) [go_sem, *]; done))
  have hf1_2_1 : w1.cell? ⟨w.heap.size + 2, 1, none⟩ = some (.int .i64 0) := (ha _).trans (by first | with_reducible assumption | (simp (maxDischargeDepth := 7) [go_sem]; done) | (simp (maxDischargeDepth := 7) [go_sem, *]; done))
  try have hg1_2 : ∀ o, w1.frozen? ⟨w.heap.size + 2, o, none⟩ = false := by intro o; rw [hb]; first | (simp (maxDischargeDepth := 7) [go_sem]; done) | (simp (maxDischargeDepth := 7) [go_sem, *]; done)
  clear ha hb
  go_wp2_with fail
  with_reducible refine (rpv_ok X Y hp _).mono ?_
  rintro e w2 ⟨rfl, hk2⟩
  refine kuz (b := w.heap.size) hk2 (by first | (simp; done) | (simp; omega) | omega) ?_
  intro ha hb hz2_0 hn2_0 hm2_0
  have hf2_0_0 : w2.cell? ⟨w.heap.size, 0, none⟩ = some (.int .i64 la) := (ha _).trans (by first | with_reducible assumption | (simp (maxDischargeDepth := 7) [go_sem]; done) | (simp (maxDischargeDepth := 7) [go_sem, *]; done))
  have hf2_0_1 : w2.cell? ⟨w.heap.size, 1, none⟩ = some (.int .i64 lo) := (ha _).trans (by first | with_reducible assumption | (simp (maxDischargeDepth := 7) [go_sem]; done) | (simp (maxDischargeDepth := 7) [go_sem, *]; done))
  try have hg2_0 : ∀ o, w2.frozen? ⟨w.heap.size, o, none⟩ = false := by intro o; rw [hb]; first | (simp (maxDischargeDepth := 7) [go_sem]; done) | (simp (maxDischargeDepth := 7) [go_sem, *]; done)
  clear ha hb
  refine kuz (b := w.heap.size + 1) hk2 (by first | (simp; done) | (simp; omega) | omega) ?_
  intro ha hb hz2_1 hn2_1 hm2_1
  have hf2_1_0 : w2.cell? ⟨w.heap.size + 1, 0, none⟩ = some (.int .i64 X) := (ha _).trans (by first | with_reducible assumption | (simp (maxDischargeDepth := 7) [go_sem]; done) | (simp (maxDischargeDepth := 7) [go_sem, *]; done))
  have hf2_1_1 : w2.cell? ⟨w.heap.size + 1, 1, none⟩ = some (.int .i64 Y) := (ha _).trans (by first | with_reducible assumption | (simp (maxDischargeDepth := 7) [go_sem]; done) | (simp (maxDischargeDepth := 7) [go_sem, *]; done))
  try have hg2_1 : ∀ o, w2.frozen? ⟨w.heap.size + 1, o, none⟩ = false := by intro o; rw [hb]; first | (simp (maxDischargeDepth := 7) [go_sem]; done) | (simp (maxDischargeDepth := 7) [go_sem, *]; done)
  clear ha hb
  refine kuz (b := w.heap.size + 2) hk2 (by first | (simp; done) | (simp; omega) | omega) ?_
  intro ha hb hz2_2 hn2_2 hm2_2
  have hf2_2_0 : w2.cell? ⟨w.heap.size + 2, 0, none⟩ = some (.int .i64 0) := (ha _).trans (by first | with_reducible assumption | (simp (maxDischargeDepth := 7) [go_sem]; done) | (simp (maxDischargeDepth := 7) [go_sem, *]; done))
  have hf2_2_1 : w2.cell? ⟨w.heap.size + 2, 1, none⟩ = some (.int .i64 0) := (ha _).trans (by first | with_reducible assumption | (simp (maxDischargeDepth := 7) [go_sem]; done) | (simp (maxDischargeDepth := 7) [go_sem, *]; done))
  try have hg2_2 : ∀ o, w2.frozen? ⟨w.heap.size + 2, o, none⟩ = false := by intro o; rw [hb]; first | (simp (maxDischargeDepth := 7) [go_sem]; done) | (simp (maxDischargeDepth := 7) [go_sem, *]; done)
  clear ha hb
  (try clear hf1_0_0); (try clear hf1_0_1); (try clear hf1_1_0); (try clear hf1_1_1); (try clear hf1_2_0); (try clear hf1_2_1); (try clear hg1_0); (try clear hg1_1); (try clear hg1_2); (try clear hz1_1); (try clear hz1_2)
  go_wp2_with fail
  with_reducible refine (ref_of_ok la lo (by omega) (by omega) lo0 lo1 _).mono ?_
  rintro e w3 ⟨rfl, hk3⟩
  refine kuz (b := w.heap.size) hk3 (by first | (simp; done) | (simp; omega) | omega) ?_
  intro ha hb hz3_0 hn3_0 hm3_0
  have hf3_0_0 : w3.cell? ⟨w.heap.size, 0, none⟩ = some (.int .i64 la) := (ha _).trans (by first | with_reducible assumption | (simp (maxDischargeDepth := 7) [go_sem]; done) | (simp (maxDischargeDepth := 7) [go_sem, *]; done))
  have hf3_0_1 : w3.cell? ⟨w.heap.size, 1, none⟩ = some (.int .i64 lo) := (ha _).trans (by first | with_reducible assumption | (simp (maxDischargeDepth := 7) [go_sem]; done) | (simp (maxDischargeDepth := 7) [go_sem, *]; done))
  try have hg3_0 : ∀ o, w3.frozen? ⟨w.heap.size, o, none⟩ = false := by intro o; rw [hb]; first | (simp (maxDischargeDepth := 7) [go_sem]; done) | (simp (maxDischargeDepth := 7) [go_sem, *]; done)
  clear ha hb
  refine kuz (b := w.heap.size + 1) hk3 (by first | (simp; done) | (simp; omega) | omega) ?_
  intro ha hb hz3_1 hn3_1 hm3_1
  have hf3_1_0 : w3.cell? ⟨w.heap.size + 1, 0, none⟩ = some (.int .i64 X) := (ha _).trans (by first | with_reducible assumption | (simp (maxDischargeDepth := 7) [go_sem]; done) | (simp (maxDischargeDepth := 7) [go_sem, *]; done))
  have hf3_1_1 : w3.cell? ⟨w.heap.size + 1, 1, none⟩ = some (.int .i64 Y) := (ha _).trans (by first | with_reducible assumption | (simp (maxDischargeDepth := 7) [go_sem]; done) | (simp (maxDischargeDepth := 7) [go_sem, *]; done))
  try have hg3_1 : ∀ o, w3.frozen? ⟨w.heap.size + 1, o, none⟩ = false := by intro o; rw [hb]; first | (simp (maxDischargeDepth := 7) [go_sem]; done) | (simp (maxDischargeDepth := 7) [go_sem, *]; done)
  clear ha hb
  refine kuz (b := w.heap.size + 2) hk3 (by first | (simp; done) | (simp; omega) | omega) ?_
  intro ha hb hz3_2 hn3_2 hm3_2
  have hf3_2_0 : w3.cell? ⟨w.heap.size + 2, 0, none⟩ = some (.int .i64 0) := (ha _).trans (by first | with_reducible assumption | (simp (maxDischargeDepth := 7) [go_sem]; done) | (simp (maxDischargeDepth := 7) [go_sem, *]; done))
  have hf3_2_1 : w3.cell? ⟨w.heap.size + 2, 1, none⟩ = some (.int .i64 0) := (ha _).trans (by first | with_reducible assumption | (simp (maxDischargeDepth := 7) [go_sem]; done) | (simp (maxDischargeDepth := 7) [go_sem, *]; done))
  try have hg3_2 : ∀ o, w3.frozen? ⟨w.heap.size + 2, o, none⟩ = false := by intro o; rw [hb]; first | (simp (maxDischargeDepth := 7) [go_sem]; done) | (simp (maxDischargeDepth := 7) [go_sem, *]; done)
  clear ha hb
  (try clear hf2_0_0); (try clear hf2_0_1); (try clear hf2_1_0); (try clear hf2_1_1); (try clear hf2_2_0); (try clear hf2_2_1); (try clear hg2_0); (try clear hg2_1); (try clear hg2_2); (try clear hz2_1); (try clear hz2_2)
  go_wp2_with fail
  with_reducible refine (ref_slopes_w la lo (by omega) (by omega) lo0 lo1 _).mono ?_
  rintro e w4 ⟨rfl, hk4⟩
  refine kuz (b := w.heap.size) hk4 (by first | (simp; done) | (simp; omega) | omega) ?_
  intro ha hb hz4_0 hn4_0 hm4_0
  have hf4_0_0 : w4.cell? ⟨w.heap.size, 0, none⟩ = some (.int .i64 la) := (ha _).trans (by first | with_reducible assumption | (simp (maxDischargeDepth := 7) [go_sem]; done) | (simp (maxDischargeDepth := 7) [go_sem, *]; done))
  have hf4_0_1 : w4.cell? ⟨w.heap.size, 1, none⟩ = some (.int .i64 lo) := (ha _).trans (by first | with_reducible assumption | (simp (maxDischargeDepth := 7) [go_sem]; done) | (simp (maxDischargeDepth := 7) [go_sem, *]; done))
  try have hg4_0 : ∀ o, w4.frozen? ⟨w.heap.size, o, none⟩ = false := by intro o; rw [hb]; first | (simp (maxDischargeDepth := 7) [go_sem]; done) | (simp (maxDischargeDepth := 7) [go_sem, *]; done)
  clear ha hb
  refine kuz (b := w.heap.size + 1) hk4 (by first | (simp; done) | (simp; omega) | omega) ?_
  intro ha hb hz4_1 hn4_1 hm4_1
  have hf4_1_0 : w4.cell? ⟨w.heap.size + 1, 0, none⟩ = some (.int .i64 X) := (ha _).trans (by first | with_reducible assumption | (simp (maxDischargeDepth := 7) [go_sem]; done) | (simp (maxDischargeDepth := 7) [go_sem, *]; done))
  have hf4_1_1 : w4.cell? ⟨w.heap.size + 1, 1, none⟩ = some (.int .i64 Y) := (ha _).trans (by first | with_reducible assumption | (simp (maxDischargeDepth := 7) [go_sem]; done) | (simp (maxDischargeDepth := 7) [go_sem, *]; done))
  try have hg4_1 : ∀ o, w4.frozen? ⟨w.heap.size + 1, o, none⟩ = false := by intro o; rw [hb]; first | (simp (maxDischargeDepth := 7) [go_sem]; done) | (simp (maxDischargeDepth := 7) [go_sem, *]; done)
  clear ha hb
  refine kuz (b := w.heap.size + 2) hk4 (by first | (simp; done) | (simp; omega) | omega) ?_
  intro ha hb hz4_2 hn4_2 hm4_2
  have hf4_2_0 : w4.cell? ⟨w.heap.size + 2, 0, none⟩ = some (.int .i64 0) := (ha _).trans (by first | with_reducible assumption | (simp (maxDischargeDepth := 7) [go_sem]; done) | (simp (maxDischargeDepth := 7) [go_sem, *]; done))
  have hf4_2_1 : w4.cell? ⟨w.heap.size + 2, 1, none⟩ = some (.int .i64 0) := (ha _).trans (by first | with_reducible assumption | (simp (maxDischargeDepth := 7) [go_sem]; done) | (simp (maxDischargeDepth := 7) [go_sem, *]; done))
  try have hg4_2 : ∀ o, w4.frozen? ⟨w.heap.size + 2, o, none⟩ = false := by intro o; rw [hb]; first | (simp (maxDischargeDepth := 7) [go_sem]; done) | (simp (maxDischargeDepth := 7) [go_sem, *]; done)
  clear ha hb
  refine kuz (b := w3.heap.size) hk4 (by first | (simp; done) | (simp; omega) | omega) ?_
  intro ha hb hz4_3 hn4_3 hm4_3
  have hf4_3_0 : w4.cell? ⟨w3.heap.size, 0, none⟩ = some (.int .i64 (uX la lo)) := (ha _).trans (by first | with_reducible assumption | (simp (maxDischargeDepth := 7) [go_sem]; done) | (simp (maxDischargeDepth := 7) [go_sem, *]; done))
  have hf4_3_1 : w4.cell? ⟨w3.heap.size, 1, none⟩ = some (.int .i64 (uY la lo)) := (ha _).trans (by first | with_reducible assumption | (simp (maxDischargeDepth := 7) [go_sem]; done) | (simp (maxDischargeDepth := 7) [go_sem, *]; done))
  have hf4_3_2 : w4.cell? ⟨w3.heap.size, 2, none⟩ = some (.int .i64 (uZ la lo)) := (ha _).trans (by first | with_reducible assumption | (simp (maxDischargeDepth := 7) [go_sem]; done) | (simp (maxDischargeDepth := 7) [go_sem, *]; done))
  try have hg4_3 : ∀ o, w4.frozen? ⟨w3.heap.size, o, none⟩ = false := by intro o; rw [hb]; first | (simp (maxDischargeDepth := 7) [go_sem]; done) | (simp (maxDischargeDepth := 7) [go_sem, *]; done)
  clear ha hb
  (try clear hf3_0_0); (try clear hf3_0_1); (try clear hf3_1_0); (try clear hf3_1_1); (try clear hf3_2_0); (try clear hf3_2_1); (try clear hg3_0); (try clear hg3_1); (try clear hg3_2); (try clear hz3_1); (try clear hz3_2)
  go_wp2_with fail
  go_region_held3 (fun W => W.cell? ⟨w.heap.size, 0, none⟩ = some (.int .i64 la) ∧ W.cell? ⟨w.heap.size, 1, none⟩ = some (.int .i64 lo) ∧ W.cell? ⟨w.heap.size + 1, 0, none⟩ = some (.int .i64 X) ∧ W.cell? ⟨w.heap.size + 1, 1, none⟩ = some (.int .i64 Y) ∧ W.cell? ⟨w3.heap.size, 0, none⟩ = some (.int .i64 (uX la lo)) ∧ W.cell? ⟨w3.heap.size, 1, none⟩ = some (.int .i64 (uY la lo)) ∧ W.cell? ⟨w3.heap.size, 2, none⟩ = some (.int .i64 (uZ la lo))) (first | (go_keep; done) | (simp (maxDischargeDepth := 9) [*, World.cell?_alloc_some, World.cell?_setCell_far]; done) | (simp (maxDischargeDepth := 9) [go_sem, *]; done)) (first | (go_at_call 30; (first | with_reducible refine (HM1.out _).mono ?_); rintro e w' ⟨rfl, hk⟩; have hz := hk.size; (try (refine kuse (b := w.heap.size) hk (by first | (simp; done) | (simp; omega) | omega) ?_; intro hq0 hg0; have hy0 : w.heap.size < w'.heap.size := (by (try simp at hz); omega); have hn0 : ¬ w.heap.size = w'.heap.size := (by omega); have hm0 : ¬ w.heap.size = w'.heap.size + 1 := (by omega); refine withF (p := w'.cell? ⟨w.heap.size, 0, none⟩ = some (.int .i64 la)) (by first | (rw [hq0]; with_reducible assumption) | (simp (maxDischargeDepth := 7) [go_sem, hq0]; done) | (simp (maxDischargeDepth := 7) [go_sem, hq0, *]; done) | fail) ?_; intro ff00; refine withF (p := w'.cell? ⟨w.heap.size, 1, none⟩ = some (.int .i64 lo)) (by first | (rw [hq0]; with_reducible assumption) | (simp (maxDischargeDepth := 7) [go_sem, hq0]; done) | (simp (maxDischargeDepth := 7) [go_sem, hq0, *]; done) | fail) ?_; intro ff01)); (try (refine kuse (b := w.heap.size + 1) hk (by first | (simp; done) | (simp; omega) | omega) ?_; intro hq1 hg1; have hy1 : w.heap.size + 1 < w'.heap.size := (by (try simp at hz); omega); have hn1 : ¬ w.heap.size + 1 = w'.heap.size := (by omega); have hm1 : ¬ w.heap.size + 1 = w'.heap.size + 1 := (by omega); refine withF (p := w'.cell? ⟨w.heap.size + 1, 0, none⟩ = some (.int .i64 X)) (by first | (rw [hq1]; with_reducible assumption) | (simp (maxDischargeDepth := 7) [go_sem, hq1]; done) | (simp (maxDischargeDepth := 7) [go_sem, hq1, *]; done) | fail) ?_; intro ff10; refine withF (p := w'.cell? ⟨w.heap.size + 1, 1, none⟩ = some (.int .i64 Y)) (by first | (rw [hq1]; with_reducible assumption) | (simp (maxDischargeDepth := 7) [go_sem, hq1]; done) | (simp (maxDischargeDepth := 7) [go_sem, hq1, *]; done) | fail) ?_; intro ff11)); (try (refine kuse (b := w3.heap.size) hk (by first | (simp; done) | (simp; omega) | omega) ?_; intro hq2 hg2; have hy2 : w3.heap.size < w'.heap.size := (by (try simp at hz); omega); have hn2 : ¬ w3.heap.size = w'.heap.size := (by omega); have hm2 : ¬ w3.heap.size = w'.heap.size + 1 := (by omega); refine withF (p := w'.cell? ⟨w3.heap.size, 0, none⟩ = some (.int .i64 (uX la lo))) (by first | (rw [hq2]; with_reducible assumption) | (simp (maxDischargeDepth := 7) [go_sem, hq2]; done) | (simp (maxDischargeDepth := 7) [go_sem, hq2, *]; done) | fail) ?_; intro ff20; refine withF (p := w'.cell? ⟨w3.heap.size, 1, none⟩ = some (.int .i64 (uY la lo))) (by first | (rw [hq2]; with_reducible assumption) | (simp (maxDischargeDepth := 7) [go_sem, hq2]; done) | (simp (maxDischargeDepth := 7) [go_sem, hq2, *]; done) | fail) ?_; intro ff21; refine withF (p := w'.cell? ⟨w3.heap.size, 2, none⟩ = some (.int .i64 (uZ la lo))) (by first | (rw [hq2]; with_reducible assumption) | (simp (maxDischargeDepth := 7) [go_sem, hq2]; done) | (simp (maxDischargeDepth := 7) [go_sem, hq2, *]; done) | fail) ?_; intro ff22)); (try (refine kuse (b := w.heap.size + 2) hk (by first | (simp; done) | (simp; omega) | omega) ?_; intro hq3 hg3; have hy3 : w.heap.size + 2 < w'.heap.size := (by (try simp at hz); omega); have hn3 : ¬ w.heap.size + 2 = w'.heap.size := (by omega); have hm3 : ¬ w.heap.size + 2 = w'.heap.size + 1 := (by omega); refine withF (p := w'.cell? ⟨w.heap.size + 2, 0, none⟩ = some (.int .i64 0)) (by first | (rw [hq3]; with_reducible assumption) | (simp (maxDischargeDepth := 7) [go_sem, hq3]; done) | (simp (maxDischargeDepth := 7) [go_sem, hq3, *]; done) | fail) ?_; intro ff30; refine withF (p := w'.cell? ⟨w.heap.size + 2, 1, none⟩ = some (.int .i64 0)) (by first | (rw [hq3]; with_reducible assumption) | (simp (maxDischargeDepth := 7) [go_sem, hq3]; done) | (simp (maxDischargeDepth := 7) [go_sem, hq3, *]; done) | fail) ?_; intro ff31))) | (go_at_call 39; with_reducible refine (ref_sin_w _ (by omega) (by omega) _).mono ?_; rintro e w' ⟨rfl, rfl⟩) | (go_at_call 40; with_reducible refine (ref_cos_w _ (by omega) (by omega) _).mono ?_; rintro e w' ⟨rfl, rfl⟩))
  all_goals go_wp2_with fail
  go_region_held3 (fun W => W.cell? ⟨w.heap.size, 0, none⟩ = some (.int .i64 la) ∧ W.cell? ⟨w.heap.size, 1, none⟩ = some (.int .i64 lo) ∧ W.cell? ⟨w.heap.size + 1, 0, none⟩ = some (.int .i64 X) ∧ W.cell? ⟨w.heap.size + 1, 1, none⟩ = some (.int .i64 Y) ∧ W.cell? ⟨w3.heap.size, 0, none⟩ = some (.int .i64 (uX la lo)) ∧ W.cell? ⟨w3.heap.size, 1, none⟩ = some (.int .i64 (uY la lo)) ∧ W.cell? ⟨w3.heap.size, 2, none⟩ = some (.int .i64 (uZ la lo))) (first | (go_keep; done) | (simp (maxDischargeDepth := 9) [*, World.cell?_alloc_some, World.cell?_setCell_far]; done) | (simp (maxDischargeDepth := 9) [go_sem, *]; done)) (first | (go_at_call 30; (first | with_reducible refine (HM2.out _).mono ?_); rintro e w' ⟨rfl, hk⟩; have hz := hk.size; (try (refine kuse (b := w.heap.size) hk (by first | (simp; done) | (simp; omega) | omega) ?_; intro hq0 hg0; have hy0 : w.heap.size < w'.heap.size := (by (try simp at hz); omega); have hn0 : ¬ w.heap.size = w'.heap.size := (by omega); have hm0 : ¬ w.heap.size = w'.heap.size + 1 := (by omega); refine withF (p := w'.cell? ⟨w.heap.size, 0, none⟩ = some (.int .i64 la)) (by first | (rw [hq0]; with_reducible assumption) | (simp (maxDischargeDepth := 7) [go_sem, hq0]; done) | (simp (maxDischargeDepth := 7) [go_sem, hq0, *]; done) | fail) ?_; intro ff00; refine withF (p := w'.cell? ⟨w.heap.size, 1, none⟩ = some (.int .i64 lo)) (by first | (rw [hq0]; with_reducible assumption) | (simp (maxDischargeDepth := 7) [go_sem, hq0]; done) | (simp (maxDischargeDepth := 7) [go_sem, hq0, *]; done) | fail) ?_; intro ff01)); (try (refine kuse (b := w.heap.size + 1) hk (by first | (simp; done) | (simp; omega) | omega) ?_; intro hq1 hg1; have hy1 : w.heap.size + 1 < w'.heap.size := (by (try simp at hz); omega); have hn1 : ¬ w.heap.size + 1 = w'.heap.size := (by omega); have hm1 : ¬ w.heap.size + 1 = w'.heap.size + 1 := (by omega); refine withF (p := w'.cell? ⟨w.heap.size + 1, 0, none⟩ = some (.int .i64 X)) (by first | (rw [hq1]; with_reducible assumption) | (simp (maxDischargeDepth := 7) [go_sem, hq1]; done) | (simp (maxDischargeDepth := 7) [go_sem, hq1, *]; done) | fail) ?_; intro ff10; refine withF (p := w'.cell? ⟨w.heap.size + 1, 1, none⟩ = some (.int .i64 Y)) (by first | (rw [hq1]; with_reducible assumption) | (simp (maxDischargeDepth := 7) [go_sem, hq1]; done) | (simp (maxDischargeDepth := 7) [go_sem, hq1, *]; done) | fail) ?_; intro ff11)); (try (refine kuse (b := w3.heap.size) hk (by first | (simp; done) | (simp; omega) | omega) ?_; intro hq2 hg2; have hy2 : w3.heap.size < w'.heap.size := (by (try simp at hz); omega); have hn2 : ¬ w3.heap.size = w'.heap.size := (by omega); have hm2 : ¬ w3.heap.size = w'.heap.size + 1 := (by omega); refine withF (p := w'.cell? ⟨w3.heap.size, 0, none⟩ = some (.int .i64 (uX la lo))) (by first | (rw [hq2]; with_reducible assumption) | (simp (maxDischargeDepth := 7) [go_sem, hq2]; done) | (simp (maxDischargeDepth := 7) [go_sem, hq2, *]; done) | fail) ?_; intro ff20; refine withF (p := w'.cell? ⟨w3.heap.size, 1, none⟩ = some (.int .i64 (uY la lo))) (by first | (rw [hq2]; with_reducible assumption) | (simp (maxDischargeDepth := 7) [go_sem, hq2]; done) | (simp (maxDischargeDepth := 7) [go_sem, hq2, *]; done) | fail) ?_; intro ff21; refine withF (p := w'.cell? ⟨w3.heap.size, 2, none⟩ = some (.int .i64 (uZ la lo))) (by first | (rw [hq2]; with_reducible assumption) | (simp (maxDischargeDepth := 7) [go_sem, hq2]; done) | (simp (maxDischargeDepth := 7) [go_sem, hq2, *]; done) | fail) ?_; intro ff22)); (try (refine kuse (b := w.heap.size + 2) hk (by first | (simp; done) | (simp; omega) | omega) ?_; intro hq3 hg3; have hy3 : w.heap.size + 2 < w'.heap.size := (by (try simp at hz); omega); have hn3 : ¬ w.heap.size + 2 = w'.heap.size := (by omega); have hm3 : ¬ w.heap.size + 2 = w'.heap.size + 1 := (by omega); refine withF (p := w'.cell? ⟨w.heap.size + 2, 0, none⟩ = some (.int .i64 0)) (by first | (rw [hq3]; with_reducible assumption) | (simp (maxDischargeDepth := 7) [go_sem, hq3]; done) | (simp (maxDischargeDepth := 7) [go_sem, hq3, *]; done) | fail) ?_; intro ff30; refine withF (p := w'.cell? ⟨w.heap.size + 2, 1, none⟩ = some (.int .i64 0)) (by first | (rw [hq3]; with_reducible assumption) | (simp (maxDischargeDepth := 7) [go_sem, hq3]; done) | (simp (maxDischargeDepth := 7) [go_sem, hq3, *]; done) | fail) ?_; intro ff31))) | (go_at_call 39; with_reducible refine (ref_sin_w _ (by omega) (by omega) _).mono ?_; rintro e w' ⟨rfl, rfl⟩) | (go_at_call 40; with_reducible refine (ref_cos_w _ (by omega) (by omega) _).mono ?_; rintro e w' ⟨rfl, rfl⟩))
  all_goals go_wp2_with fail
  go_region_held3 (fun W => W.cell? ⟨w.heap.size, 0, none⟩ = some (.int .i64 la) ∧ W.cell? ⟨w.heap.size, 1, none⟩ = some (.int .i64 lo) ∧ W.cell? ⟨w.heap.size + 1, 0, none⟩ = some (.int .i64 X) ∧ W.cell? ⟨w.heap.size + 1, 1, none⟩ = some (.int .i64 Y) ∧ W.cell? ⟨w3.heap.size, 0, none⟩ = some (.int .i64 (uX la lo)) ∧ W.cell? ⟨w3.heap.size, 1, none⟩ = some (.int .i64 (uY la lo)) ∧ W.cell? ⟨w3.heap.size, 2, none⟩ = some (.int .i64 (uZ la lo))) (first | (go_keep; done) | (simp (maxDischargeDepth := 9) [*, World.cell?_alloc_some, World.cell?_setCell_far]; done) | (simp (maxDischargeDepth := 9) [go_sem, *]; done)) (first | (go_at_call 30; (first | with_reducible refine (HM3.out _).mono ?_); rintro e w' ⟨rfl, hk⟩; have hz := hk.size; (try (refine kuse (b := w.heap.size) hk (by first | (simp; done) | (simp; omega) | omega) ?_; intro hq0 hg0; have hy0 : w.heap.size < w'.heap.size := (by (try simp at hz); omega); have hn0 : ¬ w.heap.size = w'.heap.size := (by omega); have hm0 : ¬ w.heap.size = w'.heap.size + 1 := (by omega); refine withF (p := w'.cell? ⟨w.heap.size, 0, none⟩ = some (.int .i64 la)) (by first | (rw [hq0]; with_reducible assumption) | (simp (maxDischargeDepth := 7) [go_sem, hq0]; done) | (simp (maxDischargeDepth := 7) [go_sem, hq0, *]; done) | fail) ?_; intro ff00; refine withF (p := w'.cell? ⟨w.heap.size, 1, none⟩ = some (.int .i64 lo)) (by first | (rw [hq0]; with_reducible assumption) | (simp (maxDischargeDepth := 7) [go_sem, hq0]; done) | (simp (maxDischargeDepth := 7) [go_sem, hq0, *]; done) | fail) ?_; intro ff01)); (try (refine kuse (b := w.heap.size + 1) hk (by first | (simp; done) | (simp; omega) | omega) ?_; intro hq1 hg1; have hy1 : w.heap.size + 1 < w'.heap.size := (by (try simp at hz); omega); have hn1 : ¬ w.heap.size + 1 = w'.heap.size := (by omega); have hm1 : ¬ w.heap.size + 1 = w'.heap.size + 1 := (by omega); refine withF (p := w'.cell? ⟨w.heap.size + 1, 0, none⟩ = some (.int .i64 X)) (by first | (rw [hq1]; with_reducible assumption) | (simp (maxDischargeDepth := 7) [go_sem, hq1]; done) | (simp (maxDischargeDepth := 7) [go_sem, hq1, *]; done) | fail) ?_; intro ff10; refine withF (p := w'.cell? ⟨w.heap.size + 1, 1, none⟩ = some (.int .i64 Y)) (by first | (rw [hq1]; with_reducible assumption) | (simp (maxDischargeDepth := 7) [go_sem, hq1]; done) | (simp (maxDischargeDepth := 7) [go_sem, hq1, *]; done) | fail) ?_; intro ff11)); (try (refine kuse (b := w3.heap.size) hk (by first | (simp; done) | (simp; omega) | omega) ?_; intro hq2 hg2; have hy2 : w3.heap.size < w'.heap.size := (by (try simp at hz); omega); have hn2 : ¬ w3.heap.size = w'.heap.size := (by omega); have hm2 : ¬ w3.heap.size = w'.heap.size + 1 := (by omega); refine withF (p := w'.cell? ⟨w3.heap.size, 0, none⟩ = some (.int .i64 (uX la lo))) (by first | (rw [hq2]; with_reducible assumption) | (simp (maxDischargeDepth := 7) [go_sem, hq2]; done) | (simp (maxDischargeDepth := 7) [go_sem, hq2, *]; done) | fail) ?_; intro ff20; refine withF (p := w'.cell? ⟨w3.heap.size, 1, none⟩ = some (.int .i64 (uY la lo))) (by first | (rw [hq2]; with_reducible assumption) | (simp (maxDischargeDepth := 7) [go_sem, hq2]; done) | (simp (maxDischargeDepth := 7) [go_sem, hq2, *]; done) | fail) ?_; intro ff21; refine withF (p := w'.cell? ⟨w3.heap.size, 2, none⟩ = some (.int .i64 (uZ la lo))) (by first | (rw [hq2]; with_reducible assumption) | (simp (maxDischargeDepth := 7) [go_sem, hq2]; done) | (simp (maxDischargeDepth := 7) [go_sem, hq2, *]; done) | fail) ?_; intro ff22)); (try (refine kuse (b := w.heap.size + 2) hk (by first | (simp; done) | (simp; omega) | omega) ?_; intro hq3 hg3; have hy3 : w.heap.size + 2 < w'.heap.size := (by (try simp at hz); omega); have hn3 : ¬ w.heap.size + 2 = w'.heap.size := (by omega); have hm3 : ¬ w.heap.size + 2 = w'.heap.size + 1 := (by omega); refine withF (p := w'.cell? ⟨w.heap.size + 2, 0, none⟩ = some (.int .i64 0)) (by first | (rw [hq3]; with_reducible assumption) | (simp (maxDischargeDepth := 7) [go_sem, hq3]; done) | (simp (maxDischargeDepth := 7) [go_sem, hq3, *]; done) | fail) ?_; intro ff30; refine withF (p := w'.cell? ⟨w.heap.size + 2, 1, none⟩ = some (.int .i64 0)) (by first | (rw [hq3]; with_reducible assumption) | (simp (maxDischargeDepth := 7) [go_sem, hq3]; done) | (simp (maxDischargeDepth := 7) [go_sem, hq3, *]; done) | fail) ?_; intro ff31))) | (go_at_call 39; with_reducible refine (ref_sin_w _ (by omega) (by omega) _).mono ?_; rintro e w' ⟨rfl, rfl⟩) | (go_at_call 40; with_reducible refine (ref_cos_w _ (by omega) (by omega) _).mono ?_; rintro e w' ⟨rfl, rfl⟩))
  all_goals go_wp2_with fail
  all_goals (with_reducible refine (HPS.out _).mono ?_; rintro e w9 ⟨rfl, hk9⟩; refine kuse (b := w.heap.size + 2) hk9 (by first | (simp; done) | (simp; omega) | omega) ?_; intro ha hb; go_wp2_with fail)
  all_goals exact bodyPost_ret (v := .tuple #[.agg #[.int .i64 (psLa x y z), .int .i64 (psLo x y z)], .int .i64 (psE x y z)]) (by first | (simp [results, Try.results18, go_sem]; done) | (simp (maxDischargeDepth := 7) [results, Try.results18, go_sem, *]; done)) rfl ⟨rfl, (by repeat (first | with_reducible exact Kept.refl _ | with_reducible assumption | with_reducible refine Kept.setCell ?_ (by first | (simp; done) | (simp; omega) | omega) _ | with_reducible refine Kept.alloc ?_ _ | with_reducible refine Kept.drewN ?_ _ | with_reducible refine Kept.drew ?_ | with_reducible refine Kept.trans ?_ (by with_reducible assumption) | with_reducible refine Kept.dr ?_ (by with_reducible assumption)))⟩

end Go.Proofs.Ytoilodcadngcoaa
