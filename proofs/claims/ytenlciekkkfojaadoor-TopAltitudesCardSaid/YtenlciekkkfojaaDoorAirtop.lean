/-
  Own contracts: layers 29 and 30 together: altitudes and speeds.
-/
import Derived.Test.YtenlciekkkfojaaDoorAirc
import Derived.WalkKit
import Derived.ProofKit
import Derived.OpenShut
import Derived.WalkLawsBesides
import Derived.WalkSpells
import Derived.Lib.Hide
import Derived.Deep.DeepCutAuto
import Derived.Deep.CutBlock
import Derived.Deep.QuietTactic
import Derived.BigQuiet
import Derived.Handy
import Derived.StillTailTactics
import Derived.IntWalk
import Derived.LoopN
import Derived.Deep.RegionHeld3
namespace Go.Proofs.YtenlciekkkfojaaDoor
open Go.ChangeShapes Go.WideShapes Go.ChangeAt Go.RowKit
set_option linter.unusedVariables false
set_option linter.unusedSimpArgs false
theorem tas_e0 {c a d : Int} (h : tE c a d = 0) : 0 ≤ c ∧ c ≤ 1000 ∧ Ok2 a d := by
  unfold tE at h
  split at h
  · omega
  · exact ⟨by omega, by omega, rE_ok h⟩
theorem lev_le {p a l : Int} (a0 : -200000 ≤ a) (a1 : a ≤ 6000000) (hp : prs a = p) (h : LevOf p l) : l ≤ a ∧ prs l = p ∧ -200000 ≤ l ∧ l ≤ 6000000 := by
  obtain ⟨h0, h1, h2, h3⟩ := h
  have la : l ≤ a := by
    by_cases c : l ≤ a
    · exact c
    · have := h3 a a0 (by omega); omega
  have := prs_mono l a h0 la a1
  exact ⟨la, by omega, h0, h1⟩
theorem t_tas : tV 250 1000000 0 = 290 ∧ prs 250000 = 916000 := by decide +kernel
set_option maxHeartbeats 2000000 in
set_option maxRecDepth 100000 in
theorem top1 (c a d H : Int) (c_0 : -9223372036854775808 ≤ c) (c_1 : c ≤ 9223372036854775807) (a_0 : -9223372036854775808 ≤ a) (a_1 : a ≤ 9223372036854775807) (d_0 : -9223372036854775808 ≤ d) (d_1 : d ≤ 9223372036854775807) (H_0 : -9223372036854775808 ≤ H) (H_1 : H ≤ 9223372036854775807) (w : World) (ht : Hid (Tab w)) (z : ¬ tE c a d = 0) : Calls Tryd.prog 3 #[.int .i64 c, .agg #[.int .i64 a, .int .i64 d], .int .i64 H] w fun e w' => e = .returned (.bool true) ∧ Kept w w' := by
  have P0 := Lib.hid (fun W (k : Kept w W) => pressure_ok 250000 (by omega) (by omega) W (Lib.hid (tab_kept ht.out k)))
  have P1 := Lib.hid (fun W (k : Kept w W) => tas_ok 250 1000000 0 (by omega) (by omega) ⟨by omega, by omega, by omega, by omega⟩ W (Lib.hid (tab_kept ht.out k)))
  rw [t_tas.1] at P1
  rw [t_tas.2] at P0
  have z1 : tV c a d = 0 := if_neg z
  have P2 := Lib.hid (fun W (k : Kept w W) => tas_w c a d W (Lib.hid (tab_kept ht.out k)))
  rw [z1] at P2
  obtain ⟨E, qE⟩ : ∃ x, tE c a d = x := ⟨_, rfl⟩
  rw [qE] at P2 z
  clear z1 qE
  go_enter Tryd.func3, Tryd.ntmps3
  go_wp2_with fail
  refine (P0.out _ (by repeat (first | with_reducible exact Kept.refl _ | with_reducible assumption | with_reducible refine Kept.setCell ?_ (by first | (simp; done) | (simp; omega) | omega) _ | with_reducible refine Kept.alloc ?_ _ | with_reducible refine Kept.drewN ?_ _ | with_reducible refine Kept.drew ?_ | with_reducible refine Kept.trans ?_ (by with_reducible assumption) | with_reducible refine Kept.dr ?_ (by with_reducible assumption)))).mono ?_
  rintro e w1 ⟨rfl, hk1⟩
  refine kuse (b := w.heap.size) hk1 (by first | (simp; done) | (simp; omega) | omega) ?_
  intro ha hb
  have hz1_0 : w.heap.size < w1.heap.size := by have := hk1.size; (try simp at this); omega
  have hn1_0 : ¬ w.heap.size = w1.heap.size := by omega
  have hm1_0 : ¬ w1.heap.size = w.heap.size := by omega
  have hf1_0_0 : w1.cell? ⟨w.heap.size, 0, none⟩ = some (.int .i64 a) := by first | (rw [ha]; with_reducible assumption) | (simp (maxDischargeDepth := 7) [go_sem, ha]; done) | (rw [ha]; assumption) | (simp (maxDischargeDepth := 7) [go_sem, ha, *]; done)
  have hf1_0_1 : w1.cell? ⟨w.heap.size, 1, none⟩ = some (.int .i64 d) := by first | (rw [ha]; with_reducible assumption) | (simp (maxDischargeDepth := 7) [go_sem, ha]; done) | (rw [ha]; assumption) | (simp (maxDischargeDepth := 7) [go_sem, ha, *]; done)
  try have hg1_0 : ∀ o, w1.frozen? ⟨w.heap.size, o, none⟩ = false := by intro o; first | (simp (maxDischargeDepth := 7) [go_sem, hb]; done) | (rw [hb]; simp (maxDischargeDepth := 7) [go_sem, *]; done)
  clear ha hb
  have HO0_0 : Hid (OwnB w1 (w.heap.size) [.int .i64 a, .int .i64 d]) := Lib.hid ⟨hz1_0, hg1_0, hf1_0_0, hf1_0_1, trivial⟩
  have HK0 : Hid (Kept w w1) := Lib.hid (by repeat (first | with_reducible exact Kept.refl _ | with_reducible assumption | with_reducible refine Kept.setCell ?_ (by first | (simp; done) | (simp; omega) | omega) _ | with_reducible refine Kept.alloc ?_ _ | with_reducible refine Kept.drewN ?_ _ | with_reducible refine Kept.drew ?_ | with_reducible refine Kept.trans ?_ (by with_reducible assumption) | with_reducible refine Kept.dr ?_ (by with_reducible assumption)))
  have nw0 : w.heap.size ≤ w.heap.size := by first | omega | (have := HK0.out.size; omega)
  try clear hk1
  try clear hz1_0
  try clear hn1_0
  try clear hm1_0
  try clear hg1_0
  try clear hf1_0_0
  try clear hf1_0_1
  try clear hf1_0_2
  try clear hf1_0_3
  try clear hf1_0_4
  try clear hf1_0_5
  try clear hf1_0_6
  try clear hf1_0_7
  try clear hf1_0_8
  try clear hf1_0_9
  try clear hf1_0_10
  try clear hf1_0_11
  obtain ⟨oz0, og0, of0_0, of0_1, _⟩ := HO0_0.out
  go_wp2_with fail
  try clear oz0 og0 of0_0 of0_1
  refine (P1.out _ HK0.out).mono ?_
  rintro e w2 ⟨rfl, hk⟩
  have HO1_0 : Hid (OwnB w2 (w.heap.size) [.int .i64 a, .int .i64 d]) := Lib.hid (OwnB.kept hk (by repeat (first | with_reducible exact HO0_0.out | with_reducible refine OwnB.setOther ?_ (by first | with_reducible assumption | omega) | with_reducible refine OwnB.drew ?_ | with_reducible refine OwnB.drewN ?_ _ | with_reducible refine OwnB.alloc ?_ _)))
  have HK1 : Hid (Kept w w2) := Lib.hid (Kept.trans (by repeat (first | with_reducible exact HK0.out | with_reducible refine Kept.setCell ?_ (by first | with_reducible assumption | omega) _ | with_reducible refine Kept.drew ?_ | with_reducible refine Kept.drewN ?_ _ | with_reducible refine Kept.alloc ?_ _)) hk)
  clear hk HO0_0 HK0
  obtain ⟨oz0, og0, of0_0, of0_1, _⟩ := HO1_0.out
  go_wp2_with fail
  try clear oz0 og0 of0_0 of0_1
  refine (P2.out _ HK1.out).mono ?_
  rintro e w3 ⟨rfl, hk⟩
  have HO2_0 : Hid (OwnB w3 (w.heap.size) [.int .i64 a, .int .i64 d]) := Lib.hid (OwnB.kept hk (by repeat (first | with_reducible exact HO1_0.out | with_reducible refine OwnB.setOther ?_ (by first | with_reducible assumption | omega) | with_reducible refine OwnB.drew ?_ | with_reducible refine OwnB.drewN ?_ _ | with_reducible refine OwnB.alloc ?_ _)))
  have HK2 : Hid (Kept w w3) := Lib.hid (Kept.trans (by repeat (first | with_reducible exact HK1.out | with_reducible refine Kept.setCell ?_ (by first | with_reducible assumption | omega) _ | with_reducible refine Kept.drew ?_ | with_reducible refine Kept.drewN ?_ _ | with_reducible refine Kept.alloc ?_ _)) hk)
  clear hk HO1_0 HK1
  obtain ⟨oz0, og0, of0_0, of0_1, _⟩ := HO2_0.out
  go_wp2_with fail
  try clear oz0 og0 of0_0 of0_1
  all_goals go_ret
  all_goals first | exact ⟨rfl, HK2.out⟩ | (refine ⟨?_, HK2.out⟩; simp; omega) | (refine ⟨?_, HK2.out⟩; simp [*]; done)
set_option maxHeartbeats 8000000 in
set_option maxRecDepth 100000 in
theorem top2 (c a d H : Int) (c_0 : -9223372036854775808 ≤ c) (c_1 : c ≤ 9223372036854775807) (a_0 : -9223372036854775808 ≤ a) (a_1 : a ≤ 9223372036854775807) (d_0 : -9223372036854775808 ≤ d) (d_1 : d ≤ 9223372036854775807) (H_0 : -9223372036854775808 ≤ H) (H_1 : H ≤ 9223372036854775807) (w : World) (ht : Hid (Tab w)) (z : tE c a d = 0) : Calls Tryd.prog 3 #[.int .i64 c, .agg #[.int .i64 a, .int .i64 d], .int .i64 H] w fun e w' => e = .returned (.bool true) ∧ Kept w w' := by
  have P0 := Lib.hid (fun W (k : Kept w W) => pressure_ok 250000 (by omega) (by omega) W (Lib.hid (tab_kept ht.out k)))
  have P1 := Lib.hid (fun W (k : Kept w W) => tas_ok 250 1000000 0 (by omega) (by omega) ⟨by omega, by omega, by omega, by omega⟩ W (Lib.hid (tab_kept ht.out k)))
  rw [t_tas.1] at P1
  rw [t_tas.2] at P0
  obtain ⟨c0, c1, h⟩ := tas_e0 z
  obtain ⟨a0, a1, d0, d1⟩ := id h
  obtain ⟨t0, t1⟩ := tV_bd c0 c1 h
  have px : casP (tV c a d) a d c = true := by unfold casP; simp
  obtain ⟨V, hLs⟩ := lst_ex (casP (tV c a d) a d) 0 1000 (by omega) (cas_mono h) (cas_mono h c 1000 c0 c1 (Int.le_refl _) px)
  have Vl := hLs.l
  have Vh := hLs.h
  have Vc : V ≤ c := by
    by_cases x : V ≤ c
    · exact x
    · have := hLs.no c c0 (by omega); rw [px] at this; cases this
  have tv : tV V a d = tV c a d := by
    have y1 := hLs.yes V (Int.le_refl _) Vh
    have y2 : tV c a d ≤ tV V a d := by unfold casP at y1; simpa using y1
    have := tas_mono Vl Vc c1 h h (Int.le_refl _) (Int.le_refl _)
    omega
  have mb := mV_bd t0 (show tV c a d ≤ 4000 by omega) h
  have P2 := Lib.hid (fun W (k : Kept w W) => tas_ok c a d c0 c1 h W (Lib.hid (tab_kept ht.out k)))
  have P3 := Lib.hid (fun W (k : Kept w W) => mach_ok (tV c a d) a d t0 (by omega) h W (Lib.hid (tab_kept ht.out k)))
  have P4 := Lib.hid (fun W (k : Kept w W) => cas_ok (tV c a d) a d V hLs t0 (by omega) h W (Lib.hid (tab_kept ht.out k)))
  have P5 := Lib.hid (fun W (k : Kept w W) => tas_ok V a d Vl Vh h W (Lib.hid (tab_kept ht.out k)))
  rw [tv] at P5
  have P6 := Lib.hid (fun W (k : Kept w W) => pressure_ok a a0 a1 W (Lib.hid (tab_kept ht.out k)))
  have P7 := Lib.hid (fun W (k : Kept w W) => level_ok (prs a) (by have := prs_bd a a0 a1; omega) (by have := prs_bd a a0 a1; omega) W (Lib.hid (tab_kept ht.out k)))
  have cx : ∀ m, m = mV (tV c a d) a d → m ≤ 2000 → ∃ U, U ≤ a ∧ oV m a d ≤ tV c a d ∧ hV c m a d = oV m a d ∧ Lst (croP c m d) (-200000) 6000000 U := by
    intro m hm m2
    have qx : croP c m d a = true := by unfold croP; rw [← hm]; simp
    obtain ⟨U, hU⟩ := lst_ex (croP c m d) (-200000) 6000000 (by omega) (cro_mono c0 c1 d0 d1) (cro_mono c0 c1 d0 d1 a 6000000 a0 a1 (Int.le_refl _) qx)
    have ov : oV m a d ≤ tV c a d := (of_mach (by omega) m2 t0 (by omega) h).1 (by omega)
    refine ⟨U, ?_, ov, ?_, hU⟩
    · by_cases x : U ≤ a
      · exact x
      · have := hU.no a a0 (by omega); rw [qx] at this; cases this
    · rw [(hV_ok c0 c1 (by omega) m2 h).2]; omega
  have hi : a ≤ H → H ≤ 6000000 → tV c a d ≤ tV c H d ∧ mV (tV c a d) a d ≤ mV (tV c H d) H d ∧ Ok2 H d ∧ 0 ≤ tV c H d ∧ tV c H d ≤ 4000 := by
    intro x y
    have k : Ok2 H d := ⟨by omega, y, d0, d1⟩
    have tm := tas_mono c0 (Int.le_refl _) c1 h k x (Int.le_refl _)
    have ub := tV_bd c0 c1 k
    have tp := tmp_mono a H a0 x y
    exact ⟨tm, mach_mono t0 (by omega) tm h k (snd_mono k h (by omega)), k, ub.1, by omega⟩
  have PV := Lib.hid (fun l (x : LevOf (prs a) l) => lev_le a0 a1 rfl x)
  clear px tv
  go_enter Tryd.func3, Tryd.ntmps3
  go_wp2_with fail
  refine (P0.out _ (by repeat (first | with_reducible exact Kept.refl _ | with_reducible assumption | with_reducible refine Kept.setCell ?_ (by first | (simp; done) | (simp; omega) | omega) _ | with_reducible refine Kept.alloc ?_ _ | with_reducible refine Kept.drewN ?_ _ | with_reducible refine Kept.drew ?_ | with_reducible refine Kept.trans ?_ (by with_reducible assumption) | with_reducible refine Kept.dr ?_ (by with_reducible assumption)))).mono ?_
  rintro e w1 ⟨rfl, hk1⟩
  refine kuse (b := w.heap.size) hk1 (by first | (simp; done) | (simp; omega) | omega) ?_
  intro ha hb
  have hz1_0 : w.heap.size < w1.heap.size := by have := hk1.size; (try simp at this); omega
  have hn1_0 : ¬ w.heap.size = w1.heap.size := by omega
  have hm1_0 : ¬ w1.heap.size = w.heap.size := by omega
  have hf1_0_0 : w1.cell? ⟨w.heap.size, 0, none⟩ = some (.int .i64 a) := by first | (rw [ha]; with_reducible assumption) | (simp (maxDischargeDepth := 7) [go_sem, ha]; done) | (rw [ha]; assumption) | (simp (maxDischargeDepth := 7) [go_sem, ha, *]; done)
  have hf1_0_1 : w1.cell? ⟨w.heap.size, 1, none⟩ = some (.int .i64 d) := by first | (rw [ha]; with_reducible assumption) | (simp (maxDischargeDepth := 7) [go_sem, ha]; done) | (rw [ha]; assumption) | (simp (maxDischargeDepth := 7) [go_sem, ha, *]; done)
  try have hg1_0 : ∀ o, w1.frozen? ⟨w.heap.size, o, none⟩ = false := by intro o; first | (simp (maxDischargeDepth := 7) [go_sem, hb]; done) | (rw [hb]; simp (maxDischargeDepth := 7) [go_sem, *]; done)
  clear ha hb
  have HO0_0 : Hid (OwnB w1 (w.heap.size) [.int .i64 a, .int .i64 d]) := Lib.hid ⟨hz1_0, hg1_0, hf1_0_0, hf1_0_1, trivial⟩
  have HK0 : Hid (Kept w w1) := Lib.hid (by repeat (first | with_reducible exact Kept.refl _ | with_reducible assumption | with_reducible refine Kept.setCell ?_ (by first | (simp; done) | (simp; omega) | omega) _ | with_reducible refine Kept.alloc ?_ _ | with_reducible refine Kept.drewN ?_ _ | with_reducible refine Kept.drew ?_ | with_reducible refine Kept.trans ?_ (by with_reducible assumption) | with_reducible refine Kept.dr ?_ (by with_reducible assumption)))
  have nw0 : w.heap.size ≤ w.heap.size := by first | omega | (have := HK0.out.size; omega)
  try clear hk1
  try clear hz1_0
  try clear hn1_0
  try clear hm1_0
  try clear hg1_0
  try clear hf1_0_0
  try clear hf1_0_1
  try clear hf1_0_2
  try clear hf1_0_3
  try clear hf1_0_4
  try clear hf1_0_5
  try clear hf1_0_6
  try clear hf1_0_7
  try clear hf1_0_8
  try clear hf1_0_9
  try clear hf1_0_10
  try clear hf1_0_11
  obtain ⟨oz0, og0, of0_0, of0_1, _⟩ := HO0_0.out
  go_wp2_with fail
  try clear oz0 og0 of0_0 of0_1
  refine (P1.out _ HK0.out).mono ?_
  rintro e w2 ⟨rfl, hk⟩
  have HO1_0 : Hid (OwnB w2 (w.heap.size) [.int .i64 a, .int .i64 d]) := Lib.hid (OwnB.kept hk (by repeat (first | with_reducible exact HO0_0.out | with_reducible refine OwnB.setOther ?_ (by first | with_reducible assumption | omega) | with_reducible refine OwnB.drew ?_ | with_reducible refine OwnB.drewN ?_ _ | with_reducible refine OwnB.alloc ?_ _)))
  have HK1 : Hid (Kept w w2) := Lib.hid (Kept.trans (by repeat (first | with_reducible exact HK0.out | with_reducible refine Kept.setCell ?_ (by first | with_reducible assumption | omega) _ | with_reducible refine Kept.drew ?_ | with_reducible refine Kept.drewN ?_ _ | with_reducible refine Kept.alloc ?_ _)) hk)
  clear hk HO0_0 HK0
  obtain ⟨oz0, og0, of0_0, of0_1, _⟩ := HO1_0.out
  go_wp2_with fail
  try clear oz0 og0 of0_0 of0_1
  refine (P2.out _ HK1.out).mono ?_
  rintro e w3 ⟨rfl, hk⟩
  have HO2_0 : Hid (OwnB w3 (w.heap.size) [.int .i64 a, .int .i64 d]) := Lib.hid (OwnB.kept hk (by repeat (first | with_reducible exact HO1_0.out | with_reducible refine OwnB.setOther ?_ (by first | with_reducible assumption | omega) | with_reducible refine OwnB.drew ?_ | with_reducible refine OwnB.drewN ?_ _ | with_reducible refine OwnB.alloc ?_ _)))
  have HK2 : Hid (Kept w w3) := Lib.hid (Kept.trans (by repeat (first | with_reducible exact HK1.out | with_reducible refine Kept.setCell ?_ (by first | with_reducible assumption | omega) _ | with_reducible refine Kept.drew ?_ | with_reducible refine Kept.drewN ?_ _ | with_reducible refine Kept.alloc ?_ _)) hk)
  clear hk HO1_0 HK1
  obtain ⟨oz0, og0, of0_0, of0_1, _⟩ := HO2_0.out
  go_wp2_with fail
  try clear oz0 og0 of0_0 of0_1
  refine (P3.out _ HK2.out).mono ?_
  rintro e w4 ⟨rfl, hk⟩
  have HO3_0 : Hid (OwnB w4 (w.heap.size) [.int .i64 a, .int .i64 d]) := Lib.hid (OwnB.kept hk (by repeat (first | with_reducible exact HO2_0.out | with_reducible refine OwnB.setOther ?_ (by first | with_reducible assumption | omega) | with_reducible refine OwnB.drew ?_ | with_reducible refine OwnB.drewN ?_ _ | with_reducible refine OwnB.alloc ?_ _)))
  have HK3 : Hid (Kept w w4) := Lib.hid (Kept.trans (by repeat (first | with_reducible exact HK2.out | with_reducible refine Kept.setCell ?_ (by first | with_reducible assumption | omega) _ | with_reducible refine Kept.drew ?_ | with_reducible refine Kept.drewN ?_ _ | with_reducible refine Kept.alloc ?_ _)) hk)
  clear hk HO2_0 HK2
  obtain ⟨oz0, og0, of0_0, of0_1, _⟩ := HO3_0.out
  go_wp2_with fail
  try clear oz0 og0 of0_0 of0_1
  refine (P4.out _ HK3.out).mono ?_
  rintro e w5 ⟨rfl, hk⟩
  have HO4_0 : Hid (OwnB w5 (w.heap.size) [.int .i64 a, .int .i64 d]) := Lib.hid (OwnB.kept hk (by repeat (first | with_reducible exact HO3_0.out | with_reducible refine OwnB.setOther ?_ (by first | with_reducible assumption | omega) | with_reducible refine OwnB.drew ?_ | with_reducible refine OwnB.drewN ?_ _ | with_reducible refine OwnB.alloc ?_ _)))
  have HK4 : Hid (Kept w w5) := Lib.hid (Kept.trans (by repeat (first | with_reducible exact HK3.out | with_reducible refine Kept.setCell ?_ (by first | with_reducible assumption | omega) _ | with_reducible refine Kept.drew ?_ | with_reducible refine Kept.drewN ?_ _ | with_reducible refine Kept.alloc ?_ _)) hk)
  clear hk HO3_0 HK3
  obtain ⟨oz0, og0, of0_0, of0_1, _⟩ := HO4_0.out
  go_wp2_with fail
  try clear oz0 og0 of0_0 of0_1
  refine (P5.out _ HK4.out).mono ?_
  rintro e w6 ⟨rfl, hk⟩
  have HO5_0 : Hid (OwnB w6 (w.heap.size) [.int .i64 a, .int .i64 d]) := Lib.hid (OwnB.kept hk (by repeat (first | with_reducible exact HO4_0.out | with_reducible refine OwnB.setOther ?_ (by first | with_reducible assumption | omega) | with_reducible refine OwnB.drew ?_ | with_reducible refine OwnB.drewN ?_ _ | with_reducible refine OwnB.alloc ?_ _)))
  have HK5 : Hid (Kept w w6) := Lib.hid (Kept.trans (by repeat (first | with_reducible exact HK4.out | with_reducible refine Kept.setCell ?_ (by first | with_reducible assumption | omega) _ | with_reducible refine Kept.drew ?_ | with_reducible refine Kept.drewN ?_ _ | with_reducible refine Kept.alloc ?_ _)) hk)
  clear hk HO4_0 HK4
  obtain ⟨oz0, og0, of0_0, of0_1, _⟩ := HO5_0.out
  go_wp2_with fail
  try clear oz0 og0 of0_0 of0_1
  refine (P6.out _ HK5.out).mono ?_
  rintro e w7 ⟨rfl, hk⟩
  have HO6_0 : Hid (OwnB w7 (w.heap.size) [.int .i64 a, .int .i64 d]) := Lib.hid (OwnB.kept hk (by repeat (first | with_reducible exact HO5_0.out | with_reducible refine OwnB.setOther ?_ (by first | with_reducible assumption | omega) | with_reducible refine OwnB.drew ?_ | with_reducible refine OwnB.drewN ?_ _ | with_reducible refine OwnB.alloc ?_ _)))
  have HK6 : Hid (Kept w w7) := Lib.hid (Kept.trans (by repeat (first | with_reducible exact HK5.out | with_reducible refine Kept.setCell ?_ (by first | with_reducible assumption | omega) _ | with_reducible refine Kept.drew ?_ | with_reducible refine Kept.drewN ?_ _ | with_reducible refine Kept.alloc ?_ _)) hk)
  clear hk HO5_0 HK5
  obtain ⟨oz0, og0, of0_0, of0_1, _⟩ := HO6_0.out
  go_wp2_with fail
  try clear oz0 og0 of0_0 of0_1
  refine (P7.out _ HK6.out).mono ?_
  rintro e w8 ⟨l, hl, rfl, hk⟩
  have HO7_0 : Hid (OwnB w8 (w.heap.size) [.int .i64 a, .int .i64 d]) := Lib.hid (OwnB.kept hk HO6_0.out)
  have HK7 : Hid (Kept w w8) := Lib.hid (Kept.trans HK6.out hk)
  clear hk HK6 HO6_0
  obtain ⟨la, lp, l0, l1⟩ := PV.out l hl
  clear hl PV
  have P8 := Lib.hid (fun W (k : Kept w W) => pressure_ok l l0 l1 W (Lib.hid (tab_kept ht.out k)))
  rw [lp] at P8
  obtain ⟨oz0, og0, of0_0, of0_1, _⟩ := HO7_0.out
  go_wp2_with fail
  try clear oz0 og0 of0_0 of0_1
  refine (P8.out _ HK7.out).mono ?_
  rintro e w9 ⟨rfl, hk⟩
  have HO8_0 : Hid (OwnB w9 (w.heap.size) [.int .i64 a, .int .i64 d]) := Lib.hid (OwnB.kept hk (by repeat (first | with_reducible exact HO7_0.out | with_reducible refine OwnB.setOther ?_ (by first | with_reducible assumption | omega) | with_reducible refine OwnB.drew ?_ | with_reducible refine OwnB.drewN ?_ _ | with_reducible refine OwnB.alloc ?_ _)))
  have HK8 : Hid (Kept w w9) := Lib.hid (Kept.trans (by repeat (first | with_reducible exact HK7.out | with_reducible refine Kept.setCell ?_ (by first | with_reducible assumption | omega) _ | with_reducible refine Kept.drew ?_ | with_reducible refine Kept.drewN ?_ _ | with_reducible refine Kept.alloc ?_ _)) hk)
  clear hk HO7_0 HK7
  obtain ⟨oz0, og0, of0_0, of0_1, _⟩ := HO8_0.out
  try clear oz0 og0 of0_0 of0_1
  have qT : tV c a d = tV c a d := rfl
  have qM : mV (tV c a d) a d = mV (tV c a d) a d := rfl
  by_cases m2 : mV (tV c a d) a d ≤ 2000
  · obtain ⟨U, u1, u2, u3, hU⟩ := cx _ rfl m2
    have R1 := Lib.hid (fun W (k : Kept w W) => ofmach_ok (mV (tV c a d) a d) a d mb.1 m2 h W (Lib.hid (tab_kept ht.out k)))
    have R2 := Lib.hid (fun W (k : Kept w W) => cro_ok c (mV (tV c a d) a d) d U hU c0 c1 mb.1 m2 d0 d1 W (Lib.hid (tab_kept ht.out k)))
    have R3 := Lib.hid (fun W (k : Kept w W) => sch_ok c (mV (tV c a d) a d) a d c0 c1 mb.1 m2 h W (Lib.hid (tab_kept ht.out k)))
    rw [u3] at R3
    obtain ⟨O, qO⟩ : ∃ x, oV (mV (tV c a d) a d) a d = x := ⟨_, rfl⟩
    rw [qO] at R1 R3 u2
    clear cx qO u3 hU
    obtain ⟨oz0, og0, of0_0, of0_1, _⟩ := HO8_0.out
    go_wp2_with fail
    try clear oz0 og0 of0_0 of0_1
    refine (R1.out _ HK8.out).mono ?_
    rintro e w10 ⟨rfl, hk⟩
    have HO9_0 : Hid (OwnB w10 (w.heap.size) [.int .i64 a, .int .i64 d]) := Lib.hid (OwnB.kept hk (by repeat (first | with_reducible exact HO8_0.out | with_reducible refine OwnB.setOther ?_ (by first | with_reducible assumption | omega) | with_reducible refine OwnB.drew ?_ | with_reducible refine OwnB.drewN ?_ _ | with_reducible refine OwnB.alloc ?_ _)))
    have HK9 : Hid (Kept w w10) := Lib.hid (Kept.trans (by repeat (first | with_reducible exact HK8.out | with_reducible refine Kept.setCell ?_ (by first | with_reducible assumption | omega) _ | with_reducible refine Kept.drew ?_ | with_reducible refine Kept.drewN ?_ _ | with_reducible refine Kept.alloc ?_ _)) hk)
    clear hk HO8_0 HK8
    obtain ⟨oz0, og0, of0_0, of0_1, _⟩ := HO9_0.out
    go_wp2_with fail
    try clear oz0 og0 of0_0 of0_1
    refine (R2.out _ HK9.out).mono ?_
    rintro e w11 ⟨rfl, hk⟩
    have HO10_0 : Hid (OwnB w11 (w.heap.size) [.int .i64 a, .int .i64 d]) := Lib.hid (OwnB.kept hk (by repeat (first | with_reducible exact HO9_0.out | with_reducible refine OwnB.setOther ?_ (by first | with_reducible assumption | omega) | with_reducible refine OwnB.drew ?_ | with_reducible refine OwnB.drewN ?_ _ | with_reducible refine OwnB.alloc ?_ _)))
    have HK10 : Hid (Kept w w11) := Lib.hid (Kept.trans (by repeat (first | with_reducible exact HK9.out | with_reducible refine Kept.setCell ?_ (by first | with_reducible assumption | omega) _ | with_reducible refine Kept.drew ?_ | with_reducible refine Kept.drewN ?_ _ | with_reducible refine Kept.alloc ?_ _)) hk)
    clear hk HO9_0 HK9
    obtain ⟨oz0, og0, of0_0, of0_1, _⟩ := HO10_0.out
    go_wp2_with fail
    try clear oz0 og0 of0_0 of0_1
    refine (R3.out _ HK10.out).mono ?_
    rintro e w12 ⟨rfl, hk⟩
    have HO11_0 : Hid (OwnB w12 (w.heap.size) [.int .i64 a, .int .i64 d]) := Lib.hid (OwnB.kept hk (by repeat (first | with_reducible exact HO10_0.out | with_reducible refine OwnB.setOther ?_ (by first | with_reducible assumption | omega) | with_reducible refine OwnB.drew ?_ | with_reducible refine OwnB.drewN ?_ _ | with_reducible refine OwnB.alloc ?_ _)))
    have HK11 : Hid (Kept w w12) := Lib.hid (Kept.trans (by repeat (first | with_reducible exact HK10.out | with_reducible refine Kept.setCell ?_ (by first | with_reducible assumption | omega) _ | with_reducible refine Kept.drew ?_ | with_reducible refine Kept.drewN ?_ _ | with_reducible refine Kept.alloc ?_ _)) hk)
    clear hk HO10_0 HK10
    obtain ⟨oz0, og0, of0_0, of0_1, _⟩ := HO11_0.out
    try clear oz0 og0 of0_0 of0_1
    by_cases y : H < a
    · clear hi
      obtain ⟨oz0, og0, of0_0, of0_1, _⟩ := HO11_0.out
      go_wp2_with fail
      try clear oz0 og0 of0_0 of0_1
      all_goals go_ret
      all_goals first | exact ⟨rfl, HK11.out⟩ | (refine ⟨?_, HK11.out⟩; simp; omega) | (refine ⟨?_, HK11.out⟩; simp [*]; done)
    · by_cases x : tE c H d = 0
      · obtain ⟨_, _, kk⟩ := tas_e0 x
        obtain ⟨i1, i2, i3, i4, i5⟩ := hi (by omega) kk.2.1
        have Q1 := Lib.hid (fun W (k : Kept w W) => tas_ok c H d c0 c1 i3 W (Lib.hid (tab_kept ht.out k)))
        have Q2 := Lib.hid (fun W (k : Kept w W) => mach_ok (tV c H d) H d i4 i5 i3 W (Lib.hid (tab_kept ht.out k)))
        obtain ⟨U2, qU⟩ : ∃ x, tV c H d = x := ⟨_, rfl⟩
        rw [qU] at Q1 Q2 i1 i2
        obtain ⟨N2, qN⟩ : ∃ x, mV U2 H d = x := ⟨_, rfl⟩
        rw [qN] at Q2 i2
        clear qU qN hi i3 i4 i5 kk x
        obtain ⟨oz0, og0, of0_0, of0_1, _⟩ := HO11_0.out
        go_wp2_with fail
        try clear oz0 og0 of0_0 of0_1
        refine (Q1.out _ HK11.out).mono ?_
        rintro e w13 ⟨rfl, hk⟩
        have HO12_0 : Hid (OwnB w13 (w.heap.size) [.int .i64 a, .int .i64 d]) := Lib.hid (OwnB.kept hk (by repeat (first | with_reducible exact HO11_0.out | with_reducible refine OwnB.setOther ?_ (by first | with_reducible assumption | omega) | with_reducible refine OwnB.drew ?_ | with_reducible refine OwnB.drewN ?_ _ | with_reducible refine OwnB.alloc ?_ _)))
        have HK12 : Hid (Kept w w13) := Lib.hid (Kept.trans (by repeat (first | with_reducible exact HK11.out | with_reducible refine Kept.setCell ?_ (by first | with_reducible assumption | omega) _ | with_reducible refine Kept.drew ?_ | with_reducible refine Kept.drewN ?_ _ | with_reducible refine Kept.alloc ?_ _)) hk)
        clear hk HO11_0 HK11
        obtain ⟨oz0, og0, of0_0, of0_1, _⟩ := HO12_0.out
        go_wp2_with fail
        try clear oz0 og0 of0_0 of0_1
        refine (Q2.out _ HK12.out).mono ?_
        rintro e w14 ⟨rfl, hk⟩
        have HO13_0 : Hid (OwnB w14 (w.heap.size) [.int .i64 a, .int .i64 d]) := Lib.hid (OwnB.kept hk (by repeat (first | with_reducible exact HO12_0.out | with_reducible refine OwnB.setOther ?_ (by first | with_reducible assumption | omega) | with_reducible refine OwnB.drew ?_ | with_reducible refine OwnB.drewN ?_ _ | with_reducible refine OwnB.alloc ?_ _)))
        have HK13 : Hid (Kept w w14) := Lib.hid (Kept.trans (by repeat (first | with_reducible exact HK12.out | with_reducible refine Kept.setCell ?_ (by first | with_reducible assumption | omega) _ | with_reducible refine Kept.drew ?_ | with_reducible refine Kept.drewN ?_ _ | with_reducible refine Kept.alloc ?_ _)) hk)
        clear hk HO12_0 HK12
        obtain ⟨oz0, og0, of0_0, of0_1, _⟩ := HO13_0.out
        go_wp2_with fail
        try clear oz0 og0 of0_0 of0_1
        all_goals go_ret
        all_goals first | exact ⟨rfl, HK13.out⟩ | (refine ⟨?_, HK13.out⟩; simp; omega) | (refine ⟨?_, HK13.out⟩; simp [*]; done)
      · have z1 : tV c H d = 0 := if_neg x
        have Q1 := Lib.hid (fun W (k : Kept w W) => tas_w c H d W (Lib.hid (tab_kept ht.out k)))
        have Q2 := Lib.hid (fun W (k : Kept w W) => mach_w 0 H d W (Lib.hid (tab_kept ht.out k)))
        rw [z1] at Q1
        obtain ⟨E, qE⟩ : ∃ x, tE c H d = x := ⟨_, rfl⟩
        rw [qE] at Q1 x
        obtain ⟨F, qF⟩ : ∃ x, mE 0 H d = x := ⟨_, rfl⟩
        obtain ⟨M2, qM⟩ : ∃ x, mV 0 H d = x := ⟨_, rfl⟩
        rw [qF, qM] at Q2
        clear z1 qE qF qM hi
        obtain ⟨oz0, og0, of0_0, of0_1, _⟩ := HO11_0.out
        go_wp2_with fail
        try clear oz0 og0 of0_0 of0_1
        refine (Q1.out _ HK11.out).mono ?_
        rintro e w13 ⟨rfl, hk⟩
        have HO12_0 : Hid (OwnB w13 (w.heap.size) [.int .i64 a, .int .i64 d]) := Lib.hid (OwnB.kept hk (by repeat (first | with_reducible exact HO11_0.out | with_reducible refine OwnB.setOther ?_ (by first | with_reducible assumption | omega) | with_reducible refine OwnB.drew ?_ | with_reducible refine OwnB.drewN ?_ _ | with_reducible refine OwnB.alloc ?_ _)))
        have HK12 : Hid (Kept w w13) := Lib.hid (Kept.trans (by repeat (first | with_reducible exact HK11.out | with_reducible refine Kept.setCell ?_ (by first | with_reducible assumption | omega) _ | with_reducible refine Kept.drew ?_ | with_reducible refine Kept.drewN ?_ _ | with_reducible refine Kept.alloc ?_ _)) hk)
        clear hk HO11_0 HK11
        obtain ⟨oz0, og0, of0_0, of0_1, _⟩ := HO12_0.out
        go_wp2_with fail
        try clear oz0 og0 of0_0 of0_1
        refine (Q2.out _ HK12.out).mono ?_
        rintro e w14 ⟨rfl, hk⟩
        have HO13_0 : Hid (OwnB w14 (w.heap.size) [.int .i64 a, .int .i64 d]) := Lib.hid (OwnB.kept hk (by repeat (first | with_reducible exact HO12_0.out | with_reducible refine OwnB.setOther ?_ (by first | with_reducible assumption | omega) | with_reducible refine OwnB.drew ?_ | with_reducible refine OwnB.drewN ?_ _ | with_reducible refine OwnB.alloc ?_ _)))
        have HK13 : Hid (Kept w w14) := Lib.hid (Kept.trans (by repeat (first | with_reducible exact HK12.out | with_reducible refine Kept.setCell ?_ (by first | with_reducible assumption | omega) _ | with_reducible refine Kept.drew ?_ | with_reducible refine Kept.drewN ?_ _ | with_reducible refine Kept.alloc ?_ _)) hk)
        clear hk HO12_0 HK12
        obtain ⟨oz0, og0, of0_0, of0_1, _⟩ := HO13_0.out
        go_wp2_with fail
        try clear oz0 og0 of0_0 of0_1
        all_goals go_ret
        all_goals first | exact ⟨rfl, HK13.out⟩ | (refine ⟨?_, HK13.out⟩; simp; omega) | (refine ⟨?_, HK13.out⟩; simp [*]; done)
  · clear cx
    by_cases y : H < a
    · clear hi
      obtain ⟨oz0, og0, of0_0, of0_1, _⟩ := HO8_0.out
      go_wp2_with fail
      try clear oz0 og0 of0_0 of0_1
      all_goals go_ret
      all_goals first | exact ⟨rfl, HK8.out⟩ | (refine ⟨?_, HK8.out⟩; simp; omega) | (refine ⟨?_, HK8.out⟩; simp [*]; done)
    · by_cases x : tE c H d = 0
      · obtain ⟨_, _, kk⟩ := tas_e0 x
        obtain ⟨i1, i2, i3, i4, i5⟩ := hi (by omega) kk.2.1
        have Q1 := Lib.hid (fun W (k : Kept w W) => tas_ok c H d c0 c1 i3 W (Lib.hid (tab_kept ht.out k)))
        have Q2 := Lib.hid (fun W (k : Kept w W) => mach_ok (tV c H d) H d i4 i5 i3 W (Lib.hid (tab_kept ht.out k)))
        obtain ⟨U2, qU⟩ : ∃ x, tV c H d = x := ⟨_, rfl⟩
        rw [qU] at Q1 Q2 i1 i2
        obtain ⟨N2, qN⟩ : ∃ x, mV U2 H d = x := ⟨_, rfl⟩
        rw [qN] at Q2 i2
        clear qU qN hi i3 i4 i5 kk x
        obtain ⟨oz0, og0, of0_0, of0_1, _⟩ := HO8_0.out
        go_wp2_with fail
        try clear oz0 og0 of0_0 of0_1
        refine (Q1.out _ HK8.out).mono ?_
        rintro e w10 ⟨rfl, hk⟩
        have HO9_0 : Hid (OwnB w10 (w.heap.size) [.int .i64 a, .int .i64 d]) := Lib.hid (OwnB.kept hk (by repeat (first | with_reducible exact HO8_0.out | with_reducible refine OwnB.setOther ?_ (by first | with_reducible assumption | omega) | with_reducible refine OwnB.drew ?_ | with_reducible refine OwnB.drewN ?_ _ | with_reducible refine OwnB.alloc ?_ _)))
        have HK9 : Hid (Kept w w10) := Lib.hid (Kept.trans (by repeat (first | with_reducible exact HK8.out | with_reducible refine Kept.setCell ?_ (by first | with_reducible assumption | omega) _ | with_reducible refine Kept.drew ?_ | with_reducible refine Kept.drewN ?_ _ | with_reducible refine Kept.alloc ?_ _)) hk)
        clear hk HO8_0 HK8
        obtain ⟨oz0, og0, of0_0, of0_1, _⟩ := HO9_0.out
        go_wp2_with fail
        try clear oz0 og0 of0_0 of0_1
        refine (Q2.out _ HK9.out).mono ?_
        rintro e w11 ⟨rfl, hk⟩
        have HO10_0 : Hid (OwnB w11 (w.heap.size) [.int .i64 a, .int .i64 d]) := Lib.hid (OwnB.kept hk (by repeat (first | with_reducible exact HO9_0.out | with_reducible refine OwnB.setOther ?_ (by first | with_reducible assumption | omega) | with_reducible refine OwnB.drew ?_ | with_reducible refine OwnB.drewN ?_ _ | with_reducible refine OwnB.alloc ?_ _)))
        have HK10 : Hid (Kept w w11) := Lib.hid (Kept.trans (by repeat (first | with_reducible exact HK9.out | with_reducible refine Kept.setCell ?_ (by first | with_reducible assumption | omega) _ | with_reducible refine Kept.drew ?_ | with_reducible refine Kept.drewN ?_ _ | with_reducible refine Kept.alloc ?_ _)) hk)
        clear hk HO9_0 HK9
        obtain ⟨oz0, og0, of0_0, of0_1, _⟩ := HO10_0.out
        go_wp2_with fail
        try clear oz0 og0 of0_0 of0_1
        all_goals go_ret
        all_goals first | exact ⟨rfl, HK10.out⟩ | (refine ⟨?_, HK10.out⟩; simp; omega) | (refine ⟨?_, HK10.out⟩; simp [*]; done)
      · have z1 : tV c H d = 0 := if_neg x
        have Q1 := Lib.hid (fun W (k : Kept w W) => tas_w c H d W (Lib.hid (tab_kept ht.out k)))
        have Q2 := Lib.hid (fun W (k : Kept w W) => mach_w 0 H d W (Lib.hid (tab_kept ht.out k)))
        rw [z1] at Q1
        obtain ⟨E, qE⟩ : ∃ x, tE c H d = x := ⟨_, rfl⟩
        rw [qE] at Q1 x
        obtain ⟨F, qF⟩ : ∃ x, mE 0 H d = x := ⟨_, rfl⟩
        obtain ⟨M2, qM⟩ : ∃ x, mV 0 H d = x := ⟨_, rfl⟩
        rw [qF, qM] at Q2
        clear z1 qE qF qM hi
        obtain ⟨oz0, og0, of0_0, of0_1, _⟩ := HO8_0.out
        go_wp2_with fail
        try clear oz0 og0 of0_0 of0_1
        refine (Q1.out _ HK8.out).mono ?_
        rintro e w10 ⟨rfl, hk⟩
        have HO9_0 : Hid (OwnB w10 (w.heap.size) [.int .i64 a, .int .i64 d]) := Lib.hid (OwnB.kept hk (by repeat (first | with_reducible exact HO8_0.out | with_reducible refine OwnB.setOther ?_ (by first | with_reducible assumption | omega) | with_reducible refine OwnB.drew ?_ | with_reducible refine OwnB.drewN ?_ _ | with_reducible refine OwnB.alloc ?_ _)))
        have HK9 : Hid (Kept w w10) := Lib.hid (Kept.trans (by repeat (first | with_reducible exact HK8.out | with_reducible refine Kept.setCell ?_ (by first | with_reducible assumption | omega) _ | with_reducible refine Kept.drew ?_ | with_reducible refine Kept.drewN ?_ _ | with_reducible refine Kept.alloc ?_ _)) hk)
        clear hk HO8_0 HK8
        obtain ⟨oz0, og0, of0_0, of0_1, _⟩ := HO9_0.out
        go_wp2_with fail
        try clear oz0 og0 of0_0 of0_1
        refine (Q2.out _ HK9.out).mono ?_
        rintro e w11 ⟨rfl, hk⟩
        have HO10_0 : Hid (OwnB w11 (w.heap.size) [.int .i64 a, .int .i64 d]) := Lib.hid (OwnB.kept hk (by repeat (first | with_reducible exact HO9_0.out | with_reducible refine OwnB.setOther ?_ (by first | with_reducible assumption | omega) | with_reducible refine OwnB.drew ?_ | with_reducible refine OwnB.drewN ?_ _ | with_reducible refine OwnB.alloc ?_ _)))
        have HK10 : Hid (Kept w w11) := Lib.hid (Kept.trans (by repeat (first | with_reducible exact HK9.out | with_reducible refine Kept.setCell ?_ (by first | with_reducible assumption | omega) _ | with_reducible refine Kept.drew ?_ | with_reducible refine Kept.drewN ?_ _ | with_reducible refine Kept.alloc ?_ _)) hk)
        clear hk HO9_0 HK9
        obtain ⟨oz0, og0, of0_0, of0_1, _⟩ := HO10_0.out
        go_wp2_with fail
        try clear oz0 og0 of0_0 of0_1
        all_goals go_ret
        all_goals first | exact ⟨rfl, HK10.out⟩ | (refine ⟨?_, HK10.out⟩; simp; omega) | (refine ⟨?_, HK10.out⟩; simp [*]; done)
theorem law_altitudes (c a d H : Int) (c_0 : -9223372036854775808 ≤ c) (c_1 : c ≤ 9223372036854775807) (a_0 : -9223372036854775808 ≤ a) (a_1 : a ≤ 9223372036854775807) (d_0 : -9223372036854775808 ≤ d) (d_1 : d ≤ 9223372036854775807) (H_0 : -9223372036854775808 ≤ H) (H_1 : H ≤ 9223372036854775807) (w : World) (ht : Hid (Tab w)) : Calls Tryd.prog 3 #[.int .i64 c, .agg #[.int .i64 a, .int .i64 d], .int .i64 H] w fun e w' => e = .returned (.bool true) ∧ Kept w w' := by
  by_cases z : tE c a d = 0
  · exact top2 c a d H c_0 c_1 a_0 a_1 d_0 d_1 H_0 H_1 w ht z
  · exact top1 c a d H c_0 c_1 a_0 a_1 d_0 d_1 H_0 H_1 w ht z
end Go.Proofs.YtenlciekkkfojaaDoor
