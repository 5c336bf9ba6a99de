/-
  Own contracts: the law LsqBest.
-/
import Derived.Test.YtoegcfdlecbcjaaLsqi
import Derived.Test.YtoegcfdlecbcjaaLsqj
import Derived.Test.YtoegcfdlecbcjaaLsqg
import Derived.WalkKit
import Derived.ProofKit
import Derived.OpenShut
import Derived.WalkLawsBesides
import Derived.WalkSpells
import Derived.Lib.Hide
import Derived.Deep.DeepCutAuto
import Derived.Deep.CutBlock
import Derived.Deep.QuietTactic
import Derived.BigQuiet
import Derived.Handy
import Derived.StillTailTactics
import Derived.IntWalk
import Derived.LoopN
import Derived.Deep.RegionHeld3
namespace Go.Proofs.Ytoegcfdlecbcjaa
open Go.ChangeShapes Go.WideShapes Go.ChangeAt Go.RowKit
set_option linter.unusedVariables false
set_option linter.unusedSimpArgs false
set_option maxHeartbeats 8000000 in
set_option maxRecDepth 100000 in
theorem lawi_LsqBest (p : Option Addr) (n c b o : Nat) (M : Ms) (m : Nat) (x y : Int) (hl : n ≤ c) (hc : c ≤ maxLen) (hm2 : m ≤ 20) (hmc : (n ≤ 20 ∧ m = n) ∨ (20 < n ∧ m = 20))  (w : World) (hS : SlM w p m b o M) : Calls Try.prog 8 #[.slice p n c, .agg #[.int .i64 x, .int .i64 y]] w fun e w' => e = .returned (.bool true) ∧ Kept w w' := by
  by_cases h0 : M.sE m = 0
  · have h1 := (Ms.sE_0 h0).1
    cases h4 : pok x y
    · have HS := Lib.hid hS
      clear hS
      have HC := Lib.hid (least_ok p m c b o M (by unfold maxLen; omega) h0)
      have HR := Lib.hid (resid_bad p m c b o M x y (by unfold maxLen; omega) h1 h4)
      generalize wh (M.num m) = A at *; generalize wl (M.num m) = e1 at *; generalize M.det m = D at *
      clear h0 h1
      go_enter Try.func8, Try.ntmps8
      go_wp2_with fail
      with_reducible refine (awake_w _).mono ?_
      rintro e w1 ⟨rfl, hk1⟩
      refine kuz (b := w.heap.size) hk1 (by first | (simp; done) | (simp; omega) | omega) ?_
      intro ha hb hz1_0 hn1_0 hm1_0
      have hf1_0_0 : w1.cell? ⟨w.heap.size, 0, none⟩ = some (.int .i64 x) := (ha _).trans (by first | with_reducible assumption | (simp (maxDischargeDepth := 7) [go_sem]; done) | (simp (maxDischargeDepth := 7) [go_sem, *]; done))
      have hf1_0_1 : w1.cell? ⟨w.heap.size, 1, none⟩ = some (.int .i64 y) := (ha _).trans (by first | with_reducible assumption | (simp (maxDischargeDepth := 7) [go_sem]; done) | (simp (maxDischargeDepth := 7) [go_sem, *]; done))
      try have hg1_0 : ∀ o, w1.frozen? ⟨w.heap.size, o, none⟩ = false := by intro o; rw [hb]; first | (simp (maxDischargeDepth := 7) [go_sem]; done) | (simp (maxDischargeDepth := 7) [go_sem, *]; done)
      clear ha hb
      go_wp2_with fail
      with_reducible refine (cut_w p n c m hl hc hmc _).mono ?_
      rintro e w' ⟨rfl, rfl⟩
      go_wp2_with fail
      refine (HC.out _ (HS.out.kept (by repeat (first | with_reducible exact Kept.refl _ | with_reducible assumption | with_reducible refine Kept.setCell ?_ (by first | (simp; done) | (simp; omega) | omega) _ | with_reducible refine Kept.alloc ?_ _ | with_reducible refine Kept.drewN ?_ _ | with_reducible refine Kept.drew ?_ | with_reducible refine Kept.trans ?_ (by with_reducible assumption) | with_reducible refine Kept.dr ?_ (by with_reducible assumption))))).mono ?_
      rintro e w3 ⟨rfl, hk3⟩
      refine kuz (b := w.heap.size) hk3 (by first | (simp; done) | (simp; omega) | omega) ?_
      intro ha hb hz3_0 hn3_0 hm3_0
      have hf3_0_0 := (ha _).trans hf1_0_0
      have hf3_0_1 := (ha _).trans hf1_0_1
      have hg3_0 := fun o => (hb o).trans (hg1_0 o)
      clear ha hb
      try clear hf1_0_0
      try clear hf1_0_1
      try clear hg1_0
      go_wp2_with fail
      refine (HR.out _ (HS.out.kept (by repeat (first | with_reducible exact Kept.refl _ | with_reducible assumption | with_reducible refine Kept.setCell ?_ (by first | (simp; done) | (simp; omega) | omega) _ | with_reducible refine Kept.alloc ?_ _ | with_reducible refine Kept.drewN ?_ _ | with_reducible refine Kept.drew ?_ | with_reducible refine Kept.trans ?_ (by with_reducible assumption) | with_reducible refine Kept.dr ?_ (by with_reducible assumption))))).mono ?_
      rintro e w4 ⟨rfl, hk4⟩
      refine kuz (b := w.heap.size) hk4 (by first | (simp; done) | (simp; omega) | omega) ?_
      intro ha hb hz4_0 hn4_0 hm4_0
      have hf4_0_0 : w4.cell? ⟨w.heap.size, 0, none⟩ = some (.int .i64 x) := (ha _).trans (by first | with_reducible assumption | (simp (maxDischargeDepth := 7) [go_sem]; done) | (simp (maxDischargeDepth := 7) [go_sem, *]; done))
      have hf4_0_1 : w4.cell? ⟨w.heap.size, 1, none⟩ = some (.int .i64 y) := (ha _).trans (by first | with_reducible assumption | (simp (maxDischargeDepth := 7) [go_sem]; done) | (simp (maxDischargeDepth := 7) [go_sem, *]; done))
      try have hg4_0 : ∀ o, w4.frozen? ⟨w.heap.size, o, none⟩ = false := by intro o; rw [hb]; first | (simp (maxDischargeDepth := 7) [go_sem]; done) | (simp (maxDischargeDepth := 7) [go_sem, *]; done)
      clear ha hb
      refine kuz (b := w3.heap.size) hk4 (by first | (simp; done) | (simp; omega) | omega) ?_
      intro ha hb hz4_1 hn4_1 hm4_1
      have hf4_1_0 : w4.cell? ⟨w3.heap.size, 0, none⟩ = some (.int .i64 A) := (ha _).trans (by first | with_reducible assumption | (simp (maxDischargeDepth := 7) [go_sem]; done) | (simp (maxDischargeDepth := 7) [go_sem, *]; done))
      have hf4_1_1 : w4.cell? ⟨w3.heap.size, 1, none⟩ = some (.int .u64 e1) := (ha _).trans (by first | with_reducible assumption | (simp (maxDischargeDepth := 7) [go_sem]; done) | (simp (maxDischargeDepth := 7) [go_sem, *]; done))
      try have hg4_1 : ∀ o, w4.frozen? ⟨w3.heap.size, o, none⟩ = false := by intro o; rw [hb]; first | (simp (maxDischargeDepth := 7) [go_sem]; done) | (simp (maxDischargeDepth := 7) [go_sem, *]; done)
      clear ha hb
      try clear hf3_0_0
      try clear hf3_0_1
      try clear hg3_0
      go_wp2_with fail
      all_goals first | (go_ret; refine ⟨?_, (by repeat (first | with_reducible exact Kept.refl _ | with_reducible assumption | with_reducible refine Kept.setCell ?_ (by first | (simp; done) | (simp; omega) | omega) _ | with_reducible refine Kept.alloc ?_ _ | with_reducible refine Kept.drewN ?_ _ | with_reducible refine Kept.drew ?_ | with_reducible refine Kept.trans ?_ (by with_reducible assumption) | with_reducible refine Kept.dr ?_ (by with_reducible assumption)))⟩; first | rfl | (refine retb ?_; simp; done)) | (exfalso; omega)
    · have HS := Lib.hid hS
      clear hS
      have HC := Lib.hid (least_ok p m c b o M (by unfold maxLen; omega) h0)
      have HR := Lib.hid (resid_ok p m c b o M x y (by unfold maxLen; omega) h1 h4)
      obtain ⟨n16, hall⟩ := Ms.chk_0 h1
      have hd := (Ms.sE_0 h0).2.1
      have mx := mx_of (mb_of n16 hall)
      have rb := rr_bd n16 hall h4
      have dn := det_nn n16 hall
      have bs := best n16 hall hd x y
      obtain ⟨d0, d1⟩ := mx.d1
      obtain ⟨r0, r1⟩ := rb
      have b1 := mulb (p := 7242601752554893213696) (q := 281474976710656) (by omega) (by omega : -7242601752554893213696 ≤ M.rr x y m) r1 d0 d1
      have HT0 := times_w (M.rr x y m) (M.det m) (by omega) (by omega) (by omega) (by omega)
      rw [(wfit_yes (u := M.rr x y m * M.det m) (by omega) (by omega)).1, (wfit_yes (u := M.rr x y m * M.det m) (by omega) (by omega)).2] at HT0
      have HT := Lib.hid HT0
      have HP := Lib.hid (cmp_w (M.num m) (M.rr x y m * M.det m))
      have hv : wcm (M.num m) (M.rr x y m * M.det m) ≤ 0 := by unfold wcm; split <;> (try split) <;> omega
      clear HT0 b1 dn mx bs hd r0 r1 d0 d1 hall n16
      generalize wcm (M.num m) (M.rr x y m * M.det m) = V at *
      generalize M.rr x y m * M.det m = T at *
      generalize wh (M.rr x y m) = G at *; generalize wl (M.rr x y m) = g at *
      generalize wh T = G2 at *; generalize wl T = g2 at *
      generalize wh (M.num m) = A at *; generalize wl (M.num m) = e1 at *; generalize M.det m = D at *
      clear h0 h1
      go_enter Try.func8, Try.ntmps8
      go_wp2_with fail
      with_reducible refine (awake_w _).mono ?_
      rintro e w1 ⟨rfl, hk1⟩
      refine kuz (b := w.heap.size) hk1 (by first | (simp; done) | (simp; omega) | omega) ?_
      intro ha hb hz1_0 hn1_0 hm1_0
      have hf1_0_0 : w1.cell? ⟨w.heap.size, 0, none⟩ = some (.int .i64 x) := (ha _).trans (by first | with_reducible assumption | (simp (maxDischargeDepth := 7) [go_sem]; done) | (simp (maxDischargeDepth := 7) [go_sem, *]; done))
      have hf1_0_1 : w1.cell? ⟨w.heap.size, 1, none⟩ = some (.int .i64 y) := (ha _).trans (by first | with_reducible assumption | (simp (maxDischargeDepth := 7) [go_sem]; done) | (simp (maxDischargeDepth := 7) [go_sem, *]; done))
      try have hg1_0 : ∀ o, w1.frozen? ⟨w.heap.size, o, none⟩ = false := by intro o; rw [hb]; first | (simp (maxDischargeDepth := 7) [go_sem]; done) | (simp (maxDischargeDepth := 7) [go_sem, *]; done)
      clear ha hb
      go_wp2_with fail
      with_reducible refine (cut_w p n c m hl hc hmc _).mono ?_
      rintro e w' ⟨rfl, rfl⟩
      go_wp2_with fail
      refine (HC.out _ (HS.out.kept (by repeat (first | with_reducible exact Kept.refl _ | with_reducible assumption | with_reducible refine Kept.setCell ?_ (by first | (simp; done) | (simp; omega) | omega) _ | with_reducible refine Kept.alloc ?_ _ | with_reducible refine Kept.drewN ?_ _ | with_reducible refine Kept.drew ?_ | with_reducible refine Kept.trans ?_ (by with_reducible assumption) | with_reducible refine Kept.dr ?_ (by with_reducible assumption))))).mono ?_
      rintro e w3 ⟨rfl, hk3⟩
      refine kuz (b := w.heap.size) hk3 (by first | (simp; done) | (simp; omega) | omega) ?_
      intro ha hb hz3_0 hn3_0 hm3_0
      have hf3_0_0 := (ha _).trans hf1_0_0
      have hf3_0_1 := (ha _).trans hf1_0_1
      have hg3_0 := fun o => (hb o).trans (hg1_0 o)
      clear ha hb
      try clear hf1_0_0
      try clear hf1_0_1
      try clear hg1_0
      go_wp2_with fail
      refine (HR.out _ (HS.out.kept (by repeat (first | with_reducible exact Kept.refl _ | with_reducible assumption | with_reducible refine Kept.setCell ?_ (by first | (simp; done) | (simp; omega) | omega) _ | with_reducible refine Kept.alloc ?_ _ | with_reducible refine Kept.drewN ?_ _ | with_reducible refine Kept.drew ?_ | with_reducible refine Kept.trans ?_ (by with_reducible assumption) | with_reducible refine Kept.dr ?_ (by with_reducible assumption))))).mono ?_
      rintro e w4 ⟨rfl, hk4⟩
      refine kuz (b := w.heap.size) hk4 (by first | (simp; done) | (simp; omega) | omega) ?_
      intro ha hb hz4_0 hn4_0 hm4_0
      have hf4_0_0 : w4.cell? ⟨w.heap.size, 0, none⟩ = some (.int .i64 x) := (ha _).trans (by first | with_reducible assumption | (simp (maxDischargeDepth := 7) [go_sem]; done) | (simp (maxDischargeDepth := 7) [go_sem, *]; done))
      have hf4_0_1 : w4.cell? ⟨w.heap.size, 1, none⟩ = some (.int .i64 y) := (ha _).trans (by first | with_reducible assumption | (simp (maxDischargeDepth := 7) [go_sem]; done) | (simp (maxDischargeDepth := 7) [go_sem, *]; done))
      try have hg4_0 : ∀ o, w4.frozen? ⟨w.heap.size, o, none⟩ = false := by intro o; rw [hb]; first | (simp (maxDischargeDepth := 7) [go_sem]; done) | (simp (maxDischargeDepth := 7) [go_sem, *]; done)
      clear ha hb
      refine kuz (b := w3.heap.size) hk4 (by first | (simp; done) | (simp; omega) | omega) ?_
      intro ha hb hz4_1 hn4_1 hm4_1
      have hf4_1_0 : w4.cell? ⟨w3.heap.size, 0, none⟩ = some (.int .i64 A) := (ha _).trans (by first | with_reducible assumption | (simp (maxDischargeDepth := 7) [go_sem]; done) | (simp (maxDischargeDepth := 7) [go_sem, *]; done))
      have hf4_1_1 : w4.cell? ⟨w3.heap.size, 1, none⟩ = some (.int .u64 e1) := (ha _).trans (by first | with_reducible assumption | (simp (maxDischargeDepth := 7) [go_sem]; done) | (simp (maxDischargeDepth := 7) [go_sem, *]; done))
      try have hg4_1 : ∀ o, w4.frozen? ⟨w3.heap.size, o, none⟩ = false := by intro o; rw [hb]; first | (simp (maxDischargeDepth := 7) [go_sem]; done) | (simp (maxDischargeDepth := 7) [go_sem, *]; done)
      clear ha hb
      try clear hf3_0_0
      try clear hf3_0_1
      try clear hg3_0
      go_wp2_with fail
      with_reducible refine (HT.out _).mono ?_
      rintro e w5 ⟨rfl, hk5⟩
      refine kuz (b := w.heap.size) hk5 (by first | (simp; done) | (simp; omega) | omega) ?_
      intro ha hb hz5_0 hn5_0 hm5_0
      have hf5_0_0 : w5.cell? ⟨w.heap.size, 0, none⟩ = some (.int .i64 x) := (ha _).trans (by first | with_reducible assumption | (simp (maxDischargeDepth := 7) [go_sem]; done) | (simp (maxDischargeDepth := 7) [go_sem, *]; done))
      have hf5_0_1 : w5.cell? ⟨w.heap.size, 1, none⟩ = some (.int .i64 y) := (ha _).trans (by first | with_reducible assumption | (simp (maxDischargeDepth := 7) [go_sem]; done) | (simp (maxDischargeDepth := 7) [go_sem, *]; done))
      try have hg5_0 : ∀ o, w5.frozen? ⟨w.heap.size, o, none⟩ = false := by intro o; rw [hb]; first | (simp (maxDischargeDepth := 7) [go_sem]; done) | (simp (maxDischargeDepth := 7) [go_sem, *]; done)
      clear ha hb
      refine kuz (b := w3.heap.size) hk5 (by first | (simp; done) | (simp; omega) | omega) ?_
      intro ha hb hz5_1 hn5_1 hm5_1
      have hf5_1_0 : w5.cell? ⟨w3.heap.size, 0, none⟩ = some (.int .i64 A) := (ha _).trans (by first | with_reducible assumption | (simp (maxDischargeDepth := 7) [go_sem]; done) | (simp (maxDischargeDepth := 7) [go_sem, *]; done))
      have hf5_1_1 : w5.cell? ⟨w3.heap.size, 1, none⟩ = some (.int .u64 e1) := (ha _).trans (by first | with_reducible assumption | (simp (maxDischargeDepth := 7) [go_sem]; done) | (simp (maxDischargeDepth := 7) [go_sem, *]; done))
      try have hg5_1 : ∀ o, w5.frozen? ⟨w3.heap.size, o, none⟩ = false := by intro o; rw [hb]; first | (simp (maxDischargeDepth := 7) [go_sem]; done) | (simp (maxDischargeDepth := 7) [go_sem, *]; done)
      clear ha hb
      refine kuz (b := w4.heap.size) hk5 (by first | (simp; done) | (simp; omega) | omega) ?_
      intro ha hb hz5_2 hn5_2 hm5_2
      have hf5_2_0 : w5.cell? ⟨w4.heap.size, 0, none⟩ = some (.int .i64 G) := (ha _).trans (by first | with_reducible assumption | (simp (maxDischargeDepth := 7) [go_sem]; done) | (simp (maxDischargeDepth := 7) [go_sem, *]; done))
      have hf5_2_1 : w5.cell? ⟨w4.heap.size, 1, none⟩ = some (.int .u64 g) := (ha _).trans (by first | with_reducible assumption | (simp (maxDischargeDepth := 7) [go_sem]; done) | (simp (maxDischargeDepth := 7) [go_sem, *]; done))
      try have hg5_2 : ∀ o, w5.frozen? ⟨w4.heap.size, o, none⟩ = false := by intro o; rw [hb]; first | (simp (maxDischargeDepth := 7) [go_sem]; done) | (simp (maxDischargeDepth := 7) [go_sem, *]; done)
      clear ha hb
      try clear hf4_0_0
      try clear hf4_0_1
      try clear hf4_1_0
      try clear hf4_1_1
      try clear hg4_0
      try clear hg4_1
      try clear hz4_1
      go_wp2_with fail
      with_reducible refine (HP.out _).mono ?_
      rintro e w6 ⟨rfl, hk6⟩
      refine kuz (b := w.heap.size) hk6 (by first | (simp; done) | (simp; omega) | omega) ?_
      intro ha hb hz6_0 hn6_0 hm6_0
      have hf6_0_0 : w6.cell? ⟨w.heap.size, 0, none⟩ = some (.int .i64 x) := (ha _).trans (by first | with_reducible assumption | (simp (maxDischargeDepth := 7) [go_sem]; done) | (simp (maxDischargeDepth := 7) [go_sem, *]; done))
      have hf6_0_1 : w6.cell? ⟨w.heap.size, 1, none⟩ = some (.int .i64 y) := (ha _).trans (by first | with_reducible assumption | (simp (maxDischargeDepth := 7) [go_sem]; done) | (simp (maxDischargeDepth := 7) [go_sem, *]; done))
      try have hg6_0 : ∀ o, w6.frozen? ⟨w.heap.size, o, none⟩ = false := by intro o; rw [hb]; first | (simp (maxDischargeDepth := 7) [go_sem]; done) | (simp (maxDischargeDepth := 7) [go_sem, *]; done)
      clear ha hb
      refine kuz (b := w3.heap.size) hk6 (by first | (simp; done) | (simp; omega) | omega) ?_
      intro ha hb hz6_1 hn6_1 hm6_1
      have hf6_1_0 : w6.cell? ⟨w3.heap.size, 0, none⟩ = some (.int .i64 A) := (ha _).trans (by first | with_reducible assumption | (simp (maxDischargeDepth := 7) [go_sem]; done) | (simp (maxDischargeDepth := 7) [go_sem, *]; done))
      have hf6_1_1 : w6.cell? ⟨w3.heap.size, 1, none⟩ = some (.int .u64 e1) := (ha _).trans (by first | with_reducible assumption | (simp (maxDischargeDepth := 7) [go_sem]; done) | (simp (maxDischargeDepth := 7) [go_sem, *]; done))
      try have hg6_1 : ∀ o, w6.frozen? ⟨w3.heap.size, o, none⟩ = false := by intro o; rw [hb]; first | (simp (maxDischargeDepth := 7) [go_sem]; done) | (simp (maxDischargeDepth := 7) [go_sem, *]; done)
      clear ha hb
      refine kuz (b := w4.heap.size) hk6 (by first | (simp; done) | (simp; omega) | omega) ?_
      intro ha hb hz6_2 hn6_2 hm6_2
      have hf6_2_0 : w6.cell? ⟨w4.heap.size, 0, none⟩ = some (.int .i64 G) := (ha _).trans (by first | with_reducible assumption | (simp (maxDischargeDepth := 7) [go_sem]; done) | (simp (maxDischargeDepth := 7) [go_sem, *]; done))
      have hf6_2_1 : w6.cell? ⟨w4.heap.size, 1, none⟩ = some (.int .u64 g) := (ha _).trans (by first | with_reducible assumption | (simp (maxDischargeDepth := 7) [go_sem]; done) | (simp (maxDischargeDepth := 7) [go_sem, *]; done))
      try have hg6_2 : ∀ o, w6.frozen? ⟨w4.heap.size, o, none⟩ = false := by intro o; rw [hb]; first | (simp (maxDischargeDepth := 7) [go_sem]; done) | (simp (maxDischargeDepth := 7) [go_sem, *]; done)
      clear ha hb
      refine kuz (b := w5.heap.size) hk6 (by first | (simp; done) | (simp; omega) | omega) ?_
      intro ha hb hz6_3 hn6_3 hm6_3
      have hf6_3_0 : w6.cell? ⟨w5.heap.size, 0, none⟩ = some (.int .i64 G2) := (ha _).trans (by first | with_reducible assumption | (simp (maxDischargeDepth := 7) [go_sem]; done) | (simp (maxDischargeDepth := 7) [go_sem, *]; done))
      have hf6_3_1 : w6.cell? ⟨w5.heap.size, 1, none⟩ = some (.int .u64 g2) := (ha _).trans (by first | with_reducible assumption | (simp (maxDischargeDepth := 7) [go_sem]; done) | (simp (maxDischargeDepth := 7) [go_sem, *]; done))
      try have hg6_3 : ∀ o, w6.frozen? ⟨w5.heap.size, o, none⟩ = false := by intro o; rw [hb]; first | (simp (maxDischargeDepth := 7) [go_sem]; done) | (simp (maxDischargeDepth := 7) [go_sem, *]; done)
      clear ha hb
      try clear hf5_0_0
      try clear hf5_0_1
      try clear hf5_1_0
      try clear hf5_1_1
      try clear hf5_2_0
      try clear hf5_2_1
      try clear hg5_0
      try clear hg5_1
      try clear hg5_2
      try clear hz5_1
      try clear hz5_2
      go_wp2_with fail
      all_goals first | (go_ret; refine ⟨?_, (by repeat (first | with_reducible exact Kept.refl _ | with_reducible assumption | with_reducible refine Kept.setCell ?_ (by first | (simp; done) | (simp; omega) | omega) _ | with_reducible refine Kept.alloc ?_ _ | with_reducible refine Kept.drewN ?_ _ | with_reducible refine Kept.drew ?_ | with_reducible refine Kept.trans ?_ (by with_reducible assumption) | with_reducible refine Kept.dr ?_ (by with_reducible assumption)))⟩; first | rfl | (refine retb ?_; simp; omega)) | (exfalso; omega)
  · by_cases h1 : M.chk m = 0
    · cases h4 : pok x y
      · have HS := Lib.hid hS
        clear hS
        have HC := Lib.hid (least_err p m c b o M (by unfold maxLen; omega) h0)
        have HR := Lib.hid (resid_bad p m c b o M x y (by unfold maxLen; omega) h1 h4)
        obtain ⟨E, hE⟩ : ∃ E, M.sE m = E := ⟨_, rfl⟩
        rw [hE] at HC h0
        clear hE
        go_enter Try.func8, Try.ntmps8
        go_wp2_with fail
        with_reducible refine (awake_w _).mono ?_
        rintro e w1 ⟨rfl, hk1⟩
        refine kuz (b := w.heap.size) hk1 (by first | (simp; done) | (simp; omega) | omega) ?_
        intro ha hb hz1_0 hn1_0 hm1_0
        have hf1_0_0 : w1.cell? ⟨w.heap.size, 0, none⟩ = some (.int .i64 x) := (ha _).trans (by first | with_reducible assumption | (simp (maxDischargeDepth := 7) [go_sem]; done) | (simp (maxDischargeDepth := 7) [go_sem, *]; done))
        have hf1_0_1 : w1.cell? ⟨w.heap.size, 1, none⟩ = some (.int .i64 y) := (ha _).trans (by first | with_reducible assumption | (simp (maxDischargeDepth := 7) [go_sem]; done) | (simp (maxDischargeDepth := 7) [go_sem, *]; done))
        try have hg1_0 : ∀ o, w1.frozen? ⟨w.heap.size, o, none⟩ = false := by intro o; rw [hb]; first | (simp (maxDischargeDepth := 7) [go_sem]; done) | (simp (maxDischargeDepth := 7) [go_sem, *]; done)
        clear ha hb
        go_wp2_with fail
        with_reducible refine (cut_w p n c m hl hc hmc _).mono ?_
        rintro e w' ⟨rfl, rfl⟩
        go_wp2_with fail
        refine (HC.out _ (HS.out.kept (by repeat (first | with_reducible exact Kept.refl _ | with_reducible assumption | with_reducible refine Kept.setCell ?_ (by first | (simp; done) | (simp; omega) | omega) _ | with_reducible refine Kept.alloc ?_ _ | with_reducible refine Kept.drewN ?_ _ | with_reducible refine Kept.drew ?_ | with_reducible refine Kept.trans ?_ (by with_reducible assumption) | with_reducible refine Kept.dr ?_ (by with_reducible assumption))))).mono ?_
        rintro e w3 ⟨rfl, hk3⟩
        refine kuz (b := w.heap.size) hk3 (by first | (simp; done) | (simp; omega) | omega) ?_
        intro ha hb hz3_0 hn3_0 hm3_0
        have hf3_0_0 := (ha _).trans hf1_0_0
        have hf3_0_1 := (ha _).trans hf1_0_1
        have hg3_0 := fun o => (hb o).trans (hg1_0 o)
        clear ha hb
        try clear hf1_0_0
        try clear hf1_0_1
        try clear hg1_0
        go_wp2_with fail
        refine (HR.out _ (HS.out.kept (by repeat (first | with_reducible exact Kept.refl _ | with_reducible assumption | with_reducible refine Kept.setCell ?_ (by first | (simp; done) | (simp; omega) | omega) _ | with_reducible refine Kept.alloc ?_ _ | with_reducible refine Kept.drewN ?_ _ | with_reducible refine Kept.drew ?_ | with_reducible refine Kept.trans ?_ (by with_reducible assumption) | with_reducible refine Kept.dr ?_ (by with_reducible assumption))))).mono ?_
        rintro e w4 ⟨rfl, hk4⟩
        refine kuz (b := w.heap.size) hk4 (by first | (simp; done) | (simp; omega) | omega) ?_
        intro ha hb hz4_0 hn4_0 hm4_0
        have hf4_0_0 : w4.cell? ⟨w.heap.size, 0, none⟩ = some (.int .i64 x) := (ha _).trans (by first | with_reducible assumption | (simp (maxDischargeDepth := 7) [go_sem]; done) | (simp (maxDischargeDepth := 7) [go_sem, *]; done))
        have hf4_0_1 : w4.cell? ⟨w.heap.size, 1, none⟩ = some (.int .i64 y) := (ha _).trans (by first | with_reducible assumption | (simp (maxDischargeDepth := 7) [go_sem]; done) | (simp (maxDischargeDepth := 7) [go_sem, *]; done))
        try have hg4_0 : ∀ o, w4.frozen? ⟨w.heap.size, o, none⟩ = false := by intro o; rw [hb]; first | (simp (maxDischargeDepth := 7) [go_sem]; done) | (simp (maxDischargeDepth := 7) [go_sem, *]; done)
        clear ha hb
        refine kuz (b := w3.heap.size) hk4 (by first | (simp; done) | (simp; omega) | omega) ?_
        intro ha hb hz4_1 hn4_1 hm4_1
        have hf4_1_0 : w4.cell? ⟨w3.heap.size, 0, none⟩ = some (.int .i64 0) := (ha _).trans (by first | with_reducible assumption | (simp (maxDischargeDepth := 7) [go_sem]; done) | (simp (maxDischargeDepth := 7) [go_sem, *]; done))
        have hf4_1_1 : w4.cell? ⟨w3.heap.size, 1, none⟩ = some (.int .u64 0) := (ha _).trans (by first | with_reducible assumption | (simp (maxDischargeDepth := 7) [go_sem]; done) | (simp (maxDischargeDepth := 7) [go_sem, *]; done))
        try have hg4_1 : ∀ o, w4.frozen? ⟨w3.heap.size, o, none⟩ = false := by intro o; rw [hb]; first | (simp (maxDischargeDepth := 7) [go_sem]; done) | (simp (maxDischargeDepth := 7) [go_sem, *]; done)
        clear ha hb
        try clear hf3_0_0
        try clear hf3_0_1
        try clear hg3_0
        go_wp2_with fail
        all_goals (go_ret; exact ⟨rfl, (by repeat (first | with_reducible exact Kept.refl _ | with_reducible assumption | with_reducible refine Kept.setCell ?_ (by first | (simp; done) | (simp; omega) | omega) _ | with_reducible refine Kept.alloc ?_ _ | with_reducible refine Kept.drewN ?_ _ | with_reducible refine Kept.drew ?_ | with_reducible refine Kept.trans ?_ (by with_reducible assumption) | with_reducible refine Kept.dr ?_ (by with_reducible assumption)))⟩)
      · have HS := Lib.hid hS
        clear hS
        have HC := Lib.hid (least_err p m c b o M (by unfold maxLen; omega) h0)
        have HR := Lib.hid (resid_ok p m c b o M x y (by unfold maxLen; omega) h1 h4)
        obtain ⟨E, hE⟩ : ∃ E, M.sE m = E := ⟨_, rfl⟩
        rw [hE] at HC h0
        clear hE
        generalize wh (M.rr x y m) = G at *; generalize wl (M.rr x y m) = g at *
        go_enter Try.func8, Try.ntmps8
        go_wp2_with fail
        with_reducible refine (awake_w _).mono ?_
        rintro e w1 ⟨rfl, hk1⟩
        refine kuz (b := w.heap.size) hk1 (by first | (simp; done) | (simp; omega) | omega) ?_
        intro ha hb hz1_0 hn1_0 hm1_0
        have hf1_0_0 : w1.cell? ⟨w.heap.size, 0, none⟩ = some (.int .i64 x) := (ha _).trans (by first | with_reducible assumption | (simp (maxDischargeDepth := 7) [go_sem]; done) | (simp (maxDischargeDepth := 7) [go_sem, *]; done))
        have hf1_0_1 : w1.cell? ⟨w.heap.size, 1, none⟩ = some (.int .i64 y) := (ha _).trans (by first | with_reducible assumption | (simp (maxDischargeDepth := 7) [go_sem]; done) | (simp (maxDischargeDepth := 7) [go_sem, *]; done))
        try have hg1_0 : ∀ o, w1.frozen? ⟨w.heap.size, o, none⟩ = false := by intro o; rw [hb]; first | (simp (maxDischargeDepth := 7) [go_sem]; done) | (simp (maxDischargeDepth := 7) [go_sem, *]; done)
        clear ha hb
        go_wp2_with fail
        with_reducible refine (cut_w p n c m hl hc hmc _).mono ?_
        rintro e w' ⟨rfl, rfl⟩
        go_wp2_with fail
        refine (HC.out _ (HS.out.kept (by repeat (first | with_reducible exact Kept.refl _ | with_reducible assumption | with_reducible refine Kept.setCell ?_ (by first | (simp; done) | (simp; omega) | omega) _ | with_reducible refine Kept.alloc ?_ _ | with_reducible refine Kept.drewN ?_ _ | with_reducible refine Kept.drew ?_ | with_reducible refine Kept.trans ?_ (by with_reducible assumption) | with_reducible refine Kept.dr ?_ (by with_reducible assumption))))).mono ?_
        rintro e w3 ⟨rfl, hk3⟩
        refine kuz (b := w.heap.size) hk3 (by first | (simp; done) | (simp; omega) | omega) ?_
        intro ha hb hz3_0 hn3_0 hm3_0
        have hf3_0_0 := (ha _).trans hf1_0_0
        have hf3_0_1 := (ha _).trans hf1_0_1
        have hg3_0 := fun o => (hb o).trans (hg1_0 o)
        clear ha hb
        try clear hf1_0_0
        try clear hf1_0_1
        try clear hg1_0
        go_wp2_with fail
        refine (HR.out _ (HS.out.kept (by repeat (first | with_reducible exact Kept.refl _ | with_reducible assumption | with_reducible refine Kept.setCell ?_ (by first | (simp; done) | (simp; omega) | omega) _ | with_reducible refine Kept.alloc ?_ _ | with_reducible refine Kept.drewN ?_ _ | with_reducible refine Kept.drew ?_ | with_reducible refine Kept.trans ?_ (by with_reducible assumption) | with_reducible refine Kept.dr ?_ (by with_reducible assumption))))).mono ?_
        rintro e w4 ⟨rfl, hk4⟩
        refine kuz (b := w.heap.size) hk4 (by first | (simp; done) | (simp; omega) | omega) ?_
        intro ha hb hz4_0 hn4_0 hm4_0
        have hf4_0_0 : w4.cell? ⟨w.heap.size, 0, none⟩ = some (.int .i64 x) := (ha _).trans (by first | with_reducible assumption | (simp (maxDischargeDepth := 7) [go_sem]; done) | (simp (maxDischargeDepth := 7) [go_sem, *]; done))
        have hf4_0_1 : w4.cell? ⟨w.heap.size, 1, none⟩ = some (.int .i64 y) := (ha _).trans (by first | with_reducible assumption | (simp (maxDischargeDepth := 7) [go_sem]; done) | (simp (maxDischargeDepth := 7) [go_sem, *]; done))
        try have hg4_0 : ∀ o, w4.frozen? ⟨w.heap.size, o, none⟩ = false := by intro o; rw [hb]; first | (simp (maxDischargeDepth := 7) [go_sem]; done) | (simp (maxDischargeDepth := 7) [go_sem, *]; done)
        clear ha hb
        refine kuz (b := w3.heap.size) hk4 (by first | (simp; done) | (simp; omega) | omega) ?_
        intro ha hb hz4_1 hn4_1 hm4_1
        have hf4_1_0 : w4.cell? ⟨w3.heap.size, 0, none⟩ = some (.int .i64 0) := (ha _).trans (by first | with_reducible assumption | (simp (maxDischargeDepth := 7) [go_sem]; done) | (simp (maxDischargeDepth := 7) [go_sem, *]; done))
        have hf4_1_1 : w4.cell? ⟨w3.heap.size, 1, none⟩ = some (.int .u64 0) := (ha _).trans (by first | with_reducible assumption | (simp (maxDischargeDepth := 7) [go_sem]; done) | (simp (maxDischargeDepth := 7) [go_sem, *]; done))
        try have hg4_1 : ∀ o, w4.frozen? ⟨w3.heap.size, o, none⟩ = false := by intro o; rw [hb]; first | (simp (maxDischargeDepth := 7) [go_sem]; done) | (simp (maxDischargeDepth := 7) [go_sem, *]; done)
        clear ha hb
        try clear hf3_0_0
        try clear hf3_0_1
        try clear hg3_0
        go_wp2_with fail
        all_goals (go_ret; exact ⟨rfl, (by repeat (first | with_reducible exact Kept.refl _ | with_reducible assumption | with_reducible refine Kept.setCell ?_ (by first | (simp; done) | (simp; omega) | omega) _ | with_reducible refine Kept.alloc ?_ _ | with_reducible refine Kept.drewN ?_ _ | with_reducible refine Kept.drew ?_ | with_reducible refine Kept.trans ?_ (by with_reducible assumption) | with_reducible refine Kept.dr ?_ (by with_reducible assumption)))⟩)
    · have HS := Lib.hid hS
      clear hS
      have HC := Lib.hid (least_err p m c b o M (by unfold maxLen; omega) h0)
      have HR := Lib.hid (resid_no p m c b o M x y (by unfold maxLen; omega) h1)
      obtain ⟨E, hE⟩ : ∃ E, M.sE m = E := ⟨_, rfl⟩
      rw [hE] at HC h0
      clear hE
      obtain ⟨E1, hE1⟩ : ∃ E1, M.chk m = E1 := ⟨_, rfl⟩
      rw [hE1] at HR h1
      clear hE1
      go_enter Try.func8, Try.ntmps8
      go_wp2_with fail
      with_reducible refine (awake_w _).mono ?_
      rintro e w1 ⟨rfl, hk1⟩
      refine kuz (b := w.heap.size) hk1 (by first | (simp; done) | (simp; omega) | omega) ?_
      intro ha hb hz1_0 hn1_0 hm1_0
      have hf1_0_0 : w1.cell? ⟨w.heap.size, 0, none⟩ = some (.int .i64 x) := (ha _).trans (by first | with_reducible assumption | (simp (maxDischargeDepth := 7) [go_sem]; done) | (simp (maxDischargeDepth := 7) [go_sem, *]; done))
      have hf1_0_1 : w1.cell? ⟨w.heap.size, 1, none⟩ = some (.int .i64 y) := (ha _).trans (by first | with_reducible assumption | (simp (maxDischargeDepth := 7) [go_sem]; done) | (simp (maxDischargeDepth := 7) [go_sem, *]; done))
      try have hg1_0 : ∀ o, w1.frozen? ⟨w.heap.size, o, none⟩ = false := by intro o; rw [hb]; first | (simp (maxDischargeDepth := 7) [go_sem]; done) | (simp (maxDischargeDepth := 7) [go_sem, *]; done)
      clear ha hb
      go_wp2_with fail
      with_reducible refine (cut_w p n c m hl hc hmc _).mono ?_
      rintro e w' ⟨rfl, rfl⟩
      go_wp2_with fail
      refine (HC.out _ (HS.out.kept (by repeat (first | with_reducible exact Kept.refl _ | with_reducible assumption | with_reducible refine Kept.setCell ?_ (by first | (simp; done) | (simp; omega) | omega) _ | with_reducible refine Kept.alloc ?_ _ | with_reducible refine Kept.drewN ?_ _ | with_reducible refine Kept.drew ?_ | with_reducible refine Kept.trans ?_ (by with_reducible assumption) | with_reducible refine Kept.dr ?_ (by with_reducible assumption))))).mono ?_
      rintro e w3 ⟨rfl, hk3⟩
      refine kuz (b := w.heap.size) hk3 (by first | (simp; done) | (simp; omega) | omega) ?_
      intro ha hb hz3_0 hn3_0 hm3_0
      have hf3_0_0 := (ha _).trans hf1_0_0
      have hf3_0_1 := (ha _).trans hf1_0_1
      have hg3_0 := fun o => (hb o).trans (hg1_0 o)
      clear ha hb
      try clear hf1_0_0
      try clear hf1_0_1
      try clear hg1_0
      go_wp2_with fail
      refine (HR.out _ (HS.out.kept (by repeat (first | with_reducible exact Kept.refl _ | with_reducible assumption | with_reducible refine Kept.setCell ?_ (by first | (simp; done) | (simp; omega) | omega) _ | with_reducible refine Kept.alloc ?_ _ | with_reducible refine Kept.drewN ?_ _ | with_reducible refine Kept.drew ?_ | with_reducible refine Kept.trans ?_ (by with_reducible assumption) | with_reducible refine Kept.dr ?_ (by with_reducible assumption))))).mono ?_
      rintro e w4 ⟨rfl, hk4⟩
      refine kuz (b := w.heap.size) hk4 (by first | (simp; done) | (simp; omega) | omega) ?_
      intro ha hb hz4_0 hn4_0 hm4_0
      have hf4_0_0 : w4.cell? ⟨w.heap.size, 0, none⟩ = some (.int .i64 x) := (ha _).trans (by first | with_reducible assumption | (simp (maxDischargeDepth := 7) [go_sem]; done) | (simp (maxDischargeDepth := 7) [go_sem, *]; done))
      have hf4_0_1 : w4.cell? ⟨w.heap.size, 1, none⟩ = some (.int .i64 y) := (ha _).trans (by first | with_reducible assumption | (simp (maxDischargeDepth := 7) [go_sem]; done) | (simp (maxDischargeDepth := 7) [go_sem, *]; done))
      try have hg4_0 : ∀ o, w4.frozen? ⟨w.heap.size, o, none⟩ = false := by intro o; rw [hb]; first | (simp (maxDischargeDepth := 7) [go_sem]; done) | (simp (maxDischargeDepth := 7) [go_sem, *]; done)
      clear ha hb
      refine kuz (b := w3.heap.size) hk4 (by first | (simp; done) | (simp; omega) | omega) ?_
      intro ha hb hz4_1 hn4_1 hm4_1
      have hf4_1_0 : w4.cell? ⟨w3.heap.size, 0, none⟩ = some (.int .i64 0) := (ha _).trans (by first | with_reducible assumption | (simp (maxDischargeDepth := 7) [go_sem]; done) | (simp (maxDischargeDepth := 7) [go_sem, *]; done))
      have hf4_1_1 : w4.cell? ⟨w3.heap.size, 1, none⟩ = some (.int .u64 0) := (ha _).trans (by first | with_reducible assumption | (simp (maxDischargeDepth := 7) [go_sem]; done) | (simp (maxDischargeDepth := 7) [go_sem, *]; done))
      try have hg4_1 : ∀ o, w4.frozen? ⟨w3.heap.size, o, none⟩ = false := by intro o; rw [hb]; first | (simp (maxDischargeDepth := 7) [go_sem]; done) | (simp (maxDischargeDepth := 7) [go_sem, *]; done)
      clear ha hb
      try clear hf3_0_0
      try clear hf3_0_1
      try clear hg3_0
      go_wp2_with fail
      all_goals (go_ret; exact ⟨rfl, (by repeat (first | with_reducible exact Kept.refl _ | with_reducible assumption | with_reducible refine Kept.setCell ?_ (by first | (simp; done) | (simp; omega) | omega) _ | with_reducible refine Kept.alloc ?_ _ | with_reducible refine Kept.drewN ?_ _ | with_reducible refine Kept.drew ?_ | with_reducible refine Kept.trans ?_ (by with_reducible assumption) | with_reducible refine Kept.dr ?_ (by with_reducible assumption)))⟩)
theorem law_LsqBest (p0 : Option Addr) (n0 c0 b0 o0 : Nat) (F0_0 F0_1 F0_2 F0_3 F0_4 F0_5 : Nat → Int) (x y : Int) (hl0 : n0 ≤ c0) (hm0 : c0 ≤ maxLen) (fb0_0 : ∀ i, i < n0 → -9223372036854775808 ≤ F0_0 i ∧ F0_0 i ≤ 9223372036854775807) (fb0_1 : ∀ i, i < n0 → -9223372036854775808 ≤ F0_1 i ∧ F0_1 i ≤ 9223372036854775807) (fb0_2 : ∀ i, i < n0 → -9223372036854775808 ≤ F0_2 i ∧ F0_2 i ≤ 9223372036854775807) (fb0_3 : ∀ i, i < n0 → -9223372036854775808 ≤ F0_3 i ∧ F0_3 i ≤ 9223372036854775807) (fb0_4 : ∀ i, i < n0 → -9223372036854775808 ≤ F0_4 i ∧ F0_4 i ≤ 9223372036854775807) (fb0_5 : ∀ i, i < n0 → -9223372036854775808 ≤ F0_5 i ∧ F0_5 i ≤ 9223372036854775807) (xa : -9223372036854775808 ≤ x) (xb : x ≤ 9223372036854775807) (ya : -9223372036854775808 ≤ y) (yb : y ≤ 9223372036854775807) (w : World) (hp0 : 0 < n0 → p0 = some ⟨b0, o0, none⟩ ∧ b0 < w.heap.size) (hc0_0 : ∀ i, i < n0 → w.cell? ⟨b0, o0 + (i * 6 + 0), none⟩ = some (.int .i64 (F0_0 i))) (hc0_1 : ∀ i, i < n0 → w.cell? ⟨b0, o0 + (i * 6 + 1), none⟩ = some (.int .i64 (F0_1 i))) (hc0_2 : ∀ i, i < n0 → w.cell? ⟨b0, o0 + (i * 6 + 2), none⟩ = some (.int .i64 (F0_2 i))) (hc0_3 : ∀ i, i < n0 → w.cell? ⟨b0, o0 + (i * 6 + 3), none⟩ = some (.int .i64 (F0_3 i))) (hc0_4 : ∀ i, i < n0 → w.cell? ⟨b0, o0 + (i * 6 + 4), none⟩ = some (.int .i64 (F0_4 i))) (hc0_5 : ∀ i, i < n0 → w.cell? ⟨b0, o0 + (i * 6 + 5), none⟩ = some (.int .i64 (F0_5 i))) :
    Calls Try.prog 8 #[.slice p0 n0 c0, .agg #[.int .i64 x, .int .i64 y]] w fun en w' => en = .returned (.bool true) ∧ Kept w w' := by
  obtain ⟨m, hm, hm2, hmc⟩ := cutm n0
  exact lawi_LsqBest p0 n0 c0 b0 o0 ⟨F0_0, F0_1, F0_2, F0_3, F0_4, F0_5⟩ m x y hl0 hm0 hm2 hmc w ((sl_of p0 n0 c0 b0 o0 F0_0 F0_1 F0_2 F0_3 F0_4 F0_5 w hp0 hc0_0 hc0_1 hc0_2 hc0_3 hc0_4 hc0_5).le hm)
end Go.Proofs.Ytoegcfdlecbcjaa
