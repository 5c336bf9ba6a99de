/-
  Own contracts: layer 42: whether a point meets a measurement.
-/
import Derived.Test.YtoegcfdlecbcjaaLsqwb
import Derived.Test.YtoegcfdlecbcjaaLsqwc
import Derived.WalkKit
import Derived.ProofKit
import Derived.OpenShut
import Derived.WalkLawsBesides
import Derived.WalkSpells
import Derived.Lib.Hide
import Derived.Deep.DeepCutAuto
import Derived.Deep.CutBlock
import Derived.Deep.QuietTactic
import Derived.BigQuiet
import Derived.Handy
import Derived.StillTailTactics
import Derived.IntWalk
import Derived.LoopN
import Derived.Deep.RegionHeld3
namespace Go.Proofs.Ytoegcfdlecbcjaa
open Go.ChangeShapes Go.WideShapes Go.ChangeAt Go.RowKit
set_option linter.unusedVariables false
set_option linter.unusedSimpArgs false
set_option maxHeartbeats 4000000 in
set_option maxRecDepth 100000 in
theorem holds_w (s a b z d u x y : Int) (w : World) : Calls Try.prog 22 #[.agg #[.int .i64 s, .int .i64 a, .int .i64 b, .int .i64 z, .int .i64 d, .int .i64 u], .agg #[.int .i64 x, .int .i64 y]] w fun e w' => e = .returned (.bool (hld s a b z d u x y)) ∧ Kept w w' := by
  cases g1 : mok s a b z d u
  · rw [hld_v g1]
    exact holds_v s a b z d u x y g1 w
  · cases g2 : pok x y
    · rw [hld_p g1 g2]
      exact holds_p s a b z d u x y g1 g2 w
    · obtain ⟨⟨p0, p1⟩, ⟨q0, q1⟩, ⟨r0, r1⟩, d0, d1⟩ := res_bd g1 g2
      obtain ⟨r, hr⟩ : ∃ r, a * x + b * y - z = r := ⟨_, rfl⟩
      rw [hr] at r0 r1
      by_cases c : -d ≤ r ∧ r ≤ d
      · rw [hld_y g1 g2 (by rw [hr]; exact c)]
        by_cases n : r < 0
        · exact holds_y_neg s a b z d u x y r hr p0 p1 q0 q1 r0 r1 g1 g2 c n w
        · exact holds_y_pos s a b z d u x y r hr p0 p1 q0 q1 r0 r1 g1 g2 c (by omega) w
      · rw [hld_n g1 g2 (by rw [hr]; exact c)]
        by_cases n : r < 0
        · exact holds_n_neg s a b z d u x y r hr p0 p1 q0 q1 r0 r1 g1 g2 c n w
        · exact holds_n_pos s a b z d u x y r hr p0 p1 q0 q1 r0 r1 g1 g2 c (by omega) w
set_option maxHeartbeats 4000000 in
set_option maxRecDepth 100000 in
theorem ref_holds_w (s a b z d u x y : Int) (w : World) : Calls Try.prog 23 #[.agg #[.int .i64 s, .int .i64 a, .int .i64 b, .int .i64 z, .int .i64 d, .int .i64 u], .agg #[.int .i64 x, .int .i64 y]] w fun e w' => e = .returned (.bool (hld s a b z d u x y)) ∧ Kept w w' := by
  cases g1 : mok s a b z d u
  · rw [hld_v g1]
    have HV0 := ref_valid_w s a b z d u
    rw [g1] at HV0
    have HV := Lib.hid HV0
    clear HV0
    clear g1
    go_enter Try.func23, Try.ntmps23
    go_wp2_with fail
    with_reducible refine (HV.out _).mono ?_
    rintro e w1 ⟨rfl, hk1⟩
    refine kuz (b := w.heap.size) hk1 (by first | (simp; done) | (simp; omega) | omega) ?_
    intro ha hb hz1_0 hn1_0 hm1_0
    have hf1_0_0 : w1.cell? ⟨w.heap.size, 0, none⟩ = some (.int .i64 s) := (ha _).trans (by first | with_reducible assumption | (simp (maxDischargeDepth := 7) [go_sem]; done) | (simp (maxDischargeDepth := 7) [go_sem, *]; done))
    have hf1_0_1 : w1.cell? ⟨w.heap.size, 1, none⟩ = some (.int .i64 a) := (ha _).trans (by first | with_reducible assumption | (simp (maxDischargeDepth := 7) [go_sem]; done) | (simp (maxDischargeDepth := 7) [go_sem, *]; done))
    have hf1_0_2 : w1.cell? ⟨w.heap.size, 2, none⟩ = some (.int .i64 b) := (ha _).trans (by first | with_reducible assumption | (simp (maxDischargeDepth := 7) [go_sem]; done) | (simp (maxDischargeDepth := 7) [go_sem, *]; done))
    have hf1_0_3 : w1.cell? ⟨w.heap.size, 3, none⟩ = some (.int .i64 z) := (ha _).trans (by first | with_reducible assumption | (simp (maxDischargeDepth := 7) [go_sem]; done) | (simp (maxDischargeDepth := 7) [go_sem, *]; done))
    have hf1_0_4 : w1.cell? ⟨w.heap.size, 4, none⟩ = some (.int .i64 d) := (ha _).trans (by first | with_reducible assumption | (simp (maxDischargeDepth := 7) [go_sem]; done) | (simp (maxDischargeDepth := 7) [go_sem, *]; done))
    have hf1_0_5 : w1.cell? ⟨w.heap.size, 5, none⟩ = some (.int .i64 u) := (ha _).trans (by first | with_reducible assumption | (simp (maxDischargeDepth := 7) [go_sem]; done) | (simp (maxDischargeDepth := 7) [go_sem, *]; done))
    try have hg1_0 : ∀ o, w1.frozen? ⟨w.heap.size, o, none⟩ = false := by intro o; rw [hb]; first | (simp (maxDischargeDepth := 7) [go_sem]; done) | (simp (maxDischargeDepth := 7) [go_sem, *]; done)
    clear ha hb
    refine kuz (b := w.heap.size + 1) hk1 (by first | (simp; done) | (simp; omega) | omega) ?_
    intro ha hb hz1_1 hn1_1 hm1_1
    have hf1_1_0 : w1.cell? ⟨w.heap.size + 1, 0, none⟩ = some (.int .i64 x) := (ha _).trans (by first | with_reducible assumption | (simp (maxDischargeDepth := 7) [go_sem]; done) | (simp (maxDischargeDepth := 7) [go_sem, *]; done))
    have hf1_1_1 : w1.cell? ⟨w.heap.size + 1, 1, none⟩ = some (.int .i64 y) := (ha _).trans (by first | with_reducible assumption | (simp (maxDischargeDepth := 7) [go_sem]; done) | (simp (maxDischargeDepth := 7) [go_sem, *]; done))
    try have hg1_1 : ∀ o, w1.frozen? ⟨w.heap.size + 1, o, none⟩ = false := by intro o; rw [hb]; first | (simp (maxDischargeDepth := 7) [go_sem]; done) | (simp (maxDischargeDepth := 7) [go_sem, *]; done)
    clear ha hb
    go_wp2_with fail
    all_goals first | (go_ret; exact ⟨rfl, (by repeat (first | with_reducible exact Kept.refl _ | with_reducible assumption | with_reducible refine Kept.setCell ?_ (by first | (simp; done) | (simp; omega) | omega) _ | with_reducible refine Kept.alloc ?_ _ | with_reducible refine Kept.drewN ?_ _ | with_reducible refine Kept.drew ?_ | with_reducible refine Kept.trans ?_ (by with_reducible assumption) | with_reducible refine Kept.dr ?_ (by with_reducible assumption)))⟩) | (go_ret; refine ⟨retB ?_, (by repeat (first | with_reducible exact Kept.refl _ | with_reducible assumption | with_reducible refine Kept.setCell ?_ (by first | (simp; done) | (simp; omega) | omega) _ | with_reducible refine Kept.alloc ?_ _ | with_reducible refine Kept.drewN ?_ _ | with_reducible refine Kept.drew ?_ | with_reducible refine Kept.trans ?_ (by with_reducible assumption) | with_reducible refine Kept.dr ?_ (by with_reducible assumption)))⟩; simp; omega) | (exfalso; omega)
  · cases g2 : pok x y
    · rw [hld_p g1 g2]
      have HV0 := ref_valid_w s a b z d u
      rw [g1] at HV0
      have HV := Lib.hid HV0
      clear HV0
      have HP0 := ref_pval_w x y
      rw [g2] at HP0
      have HP := Lib.hid HP0
      clear HP0
      clear g1 g2
      go_enter Try.func23, Try.ntmps23
      go_wp2_with fail
      with_reducible refine (HV.out _).mono ?_
      rintro e w1 ⟨rfl, hk1⟩
      refine kuz (b := w.heap.size) hk1 (by first | (simp; done) | (simp; omega) | omega) ?_
      intro ha hb hz1_0 hn1_0 hm1_0
      have hf1_0_0 : w1.cell? ⟨w.heap.size, 0, none⟩ = some (.int .i64 s) := (ha _).trans (by first | with_reducible assumption | (simp (maxDischargeDepth := 7) [go_sem]; done) | (simp (maxDischargeDepth := 7) [go_sem, *]; done))
      have hf1_0_1 : w1.cell? ⟨w.heap.size, 1, none⟩ = some (.int .i64 a) := (ha _).trans (by first | with_reducible assumption | (simp (maxDischargeDepth := 7) [go_sem]; done) | (simp (maxDischargeDepth := 7) [go_sem, *]; done))
      have hf1_0_2 : w1.cell? ⟨w.heap.size, 2, none⟩ = some (.int .i64 b) := (ha _).trans (by first | with_reducible assumption | (simp (maxDischargeDepth := 7) [go_sem]; done) | (simp (maxDischargeDepth := 7) [go_sem, *]; done))
      have hf1_0_3 : w1.cell? ⟨w.heap.size, 3, none⟩ = some (.int .i64 z) := (ha _).trans (by first | with_reducible assumption | (simp (maxDischargeDepth := 7) [go_sem]; done) | (simp (maxDischargeDepth := 7) [go_sem, *]; done))
      have hf1_0_4 : w1.cell? ⟨w.heap.size, 4, none⟩ = some (.int .i64 d) := (ha _).trans (by first | with_reducible assumption | (simp (maxDischargeDepth := 7) [go_sem]; done) | (simp (maxDischargeDepth := 7) [go_sem, *]; done))
      have hf1_0_5 : w1.cell? ⟨w.heap.size, 5, none⟩ = some (.int .i64 u) := (ha _).trans (by first | with_reducible assumption | (simp (maxDischargeDepth := 7) [go_sem]; done) | (simp (maxDischargeDepth := 7) [go_sem, *]; done))
      try have hg1_0 : ∀ o, w1.frozen? ⟨w.heap.size, o, none⟩ = false := by intro o; rw [hb]; first | (simp (maxDischargeDepth := 7) [go_sem]; done) | (simp (maxDischargeDepth := 7) [go_sem, *]; done)
      clear ha hb
      refine kuz (b := w.heap.size + 1) hk1 (by first | (simp; done) | (simp; omega) | omega) ?_
      intro ha hb hz1_1 hn1_1 hm1_1
      have hf1_1_0 : w1.cell? ⟨w.heap.size + 1, 0, none⟩ = some (.int .i64 x) := (ha _).trans (by first | with_reducible assumption | (simp (maxDischargeDepth := 7) [go_sem]; done) | (simp (maxDischargeDepth := 7) [go_sem, *]; done))
      have hf1_1_1 : w1.cell? ⟨w.heap.size + 1, 1, none⟩ = some (.int .i64 y) := (ha _).trans (by first | with_reducible assumption | (simp (maxDischargeDepth := 7) [go_sem]; done) | (simp (maxDischargeDepth := 7) [go_sem, *]; done))
      try have hg1_1 : ∀ o, w1.frozen? ⟨w.heap.size + 1, o, none⟩ = false := by intro o; rw [hb]; first | (simp (maxDischargeDepth := 7) [go_sem]; done) | (simp (maxDischargeDepth := 7) [go_sem, *]; done)
      clear ha hb
      go_wp2_with fail
      with_reducible refine (HP.out _).mono ?_
      rintro e w2 ⟨rfl, hk2⟩
      refine kuz (b := w.heap.size) hk2 (by first | (simp; done) | (simp; omega) | omega) ?_
      intro ha hb hz2_0 hn2_0 hm2_0
      have hf2_0_0 := (ha _).trans hf1_0_0
      have hf2_0_1 := (ha _).trans hf1_0_1
      have hf2_0_2 := (ha _).trans hf1_0_2
      have hf2_0_3 := (ha _).trans hf1_0_3
      have hf2_0_4 := (ha _).trans hf1_0_4
      have hf2_0_5 := (ha _).trans hf1_0_5
      have hg2_0 := fun o => (hb o).trans (hg1_0 o)
      clear ha hb
      refine kuz (b := w.heap.size + 1) hk2 (by first | (simp; done) | (simp; omega) | omega) ?_
      intro ha hb hz2_1 hn2_1 hm2_1
      have hf2_1_0 := (ha _).trans hf1_1_0
      have hf2_1_1 := (ha _).trans hf1_1_1
      have hg2_1 := fun o => (hb o).trans (hg1_1 o)
      clear ha hb
      try clear hf1_0_0
      try clear hf1_0_1
      try clear hf1_0_2
      try clear hf1_0_3
      try clear hf1_0_4
      try clear hf1_0_5
      try clear hf1_1_0
      try clear hf1_1_1
      try clear hg1_0
      try clear hg1_1
      try clear hz1_1
      go_wp2_with fail
      all_goals first | (go_ret; exact ⟨rfl, (by repeat (first | with_reducible exact Kept.refl _ | with_reducible assumption | with_reducible refine Kept.setCell ?_ (by first | (simp; done) | (simp; omega) | omega) _ | with_reducible refine Kept.alloc ?_ _ | with_reducible refine Kept.drewN ?_ _ | with_reducible refine Kept.drew ?_ | with_reducible refine Kept.trans ?_ (by with_reducible assumption) | with_reducible refine Kept.dr ?_ (by with_reducible assumption)))⟩) | (go_ret; refine ⟨retB ?_, (by repeat (first | with_reducible exact Kept.refl _ | with_reducible assumption | with_reducible refine Kept.setCell ?_ (by first | (simp; done) | (simp; omega) | omega) _ | with_reducible refine Kept.alloc ?_ _ | with_reducible refine Kept.drewN ?_ _ | with_reducible refine Kept.drew ?_ | with_reducible refine Kept.trans ?_ (by with_reducible assumption) | with_reducible refine Kept.dr ?_ (by with_reducible assumption)))⟩; simp; omega) | (exfalso; omega)
    · obtain ⟨⟨p0, p1⟩, ⟨q0, q1⟩, ⟨r0, r1⟩, d0, d1⟩ := res_bd g1 g2
      obtain ⟨r, hr⟩ : ∃ r, a * x + b * y - z = r := ⟨_, rfl⟩
      rw [hr] at r0 r1
      by_cases c : -d ≤ r ∧ r ≤ d
      · rw [hld_y g1 g2 (by rw [hr]; exact c)]
        have HV0 := ref_valid_w s a b z d u
        rw [g1] at HV0
        have HV := Lib.hid HV0
        clear HV0
        have HP0 := ref_pval_w x y
        rw [g2] at HP0
        have HP := Lib.hid HP0
        clear HP0
        have k0 : IntKind.i64.wrap (a * x) = a * x := IntWalk.i64_in _ (by omega)
        have k1 : IntKind.i64.wrap (b * y) = b * y := IntWalk.i64_in _ (by omega)
        have k2 : IntKind.i64.wrap (a * x + b * y) = a * x + b * y := IntWalk.i64_in _ (by omega)
        have k3 : IntKind.i64.wrap (a * x + b * y - z) = r := by rw [hr]; exact IntWalk.i64_in _ (by omega)
        clear g1 g2
        go_enter Try.func23, Try.ntmps23
        go_wp2_with fail
        with_reducible refine (HV.out _).mono ?_
        rintro e w1 ⟨rfl, hk1⟩
        refine kuz (b := w.heap.size) hk1 (by first | (simp; done) | (simp; omega) | omega) ?_
        intro ha hb hz1_0 hn1_0 hm1_0
        have hf1_0_0 : w1.cell? ⟨w.heap.size, 0, none⟩ = some (.int .i64 s) := (ha _).trans (by first | with_reducible assumption | (simp (maxDischargeDepth := 7) [go_sem]; done) | (simp (maxDischargeDepth := 7) [go_sem, *]; done))
        have hf1_0_1 : w1.cell? ⟨w.heap.size, 1, none⟩ = some (.int .i64 a) := (ha _).trans (by first | with_reducible assumption | (simp (maxDischargeDepth := 7) [go_sem]; done) | (simp (maxDischargeDepth := 7) [go_sem, *]; done))
        have hf1_0_2 : w1.cell? ⟨w.heap.size, 2, none⟩ = some (.int .i64 b) := (ha _).trans (by first | with_reducible assumption | (simp (maxDischargeDepth := 7) [go_sem]; done) | (simp (maxDischargeDepth := 7) [go_sem, *]; done))
        have hf1_0_3 : w1.cell? ⟨w.heap.size, 3, none⟩ = some (.int .i64 z) := (ha _).trans (by first | with_reducible assumption | (simp (maxDischargeDepth := 7) [go_sem]; done) | (simp (maxDischargeDepth := 7) [go_sem, *]; done))
        have hf1_0_4 : w1.cell? ⟨w.heap.size, 4, none⟩ = some (.int .i64 d) := (ha _).trans (by first | with_reducible assumption | (simp (maxDischargeDepth := 7) [go_sem]; done) | (simp (maxDischargeDepth := 7) [go_sem, *]; done))
        have hf1_0_5 : w1.cell? ⟨w.heap.size, 5, none⟩ = some (.int .i64 u) := (ha _).trans (by first | with_reducible assumption | (simp (maxDischargeDepth := 7) [go_sem]; done) | (simp (maxDischargeDepth := 7) [go_sem, *]; done))
        try have hg1_0 : ∀ o, w1.frozen? ⟨w.heap.size, o, none⟩ = false := by intro o; rw [hb]; first | (simp (maxDischargeDepth := 7) [go_sem]; done) | (simp (maxDischargeDepth := 7) [go_sem, *]; done)
        clear ha hb
        refine kuz (b := w.heap.size + 1) hk1 (by first | (simp; done) | (simp; omega) | omega) ?_
        intro ha hb hz1_1 hn1_1 hm1_1
        have hf1_1_0 : w1.cell? ⟨w.heap.size + 1, 0, none⟩ = some (.int .i64 x) := (ha _).trans (by first | with_reducible assumption | (simp (maxDischargeDepth := 7) [go_sem]; done) | (simp (maxDischargeDepth := 7) [go_sem, *]; done))
        have hf1_1_1 : w1.cell? ⟨w.heap.size + 1, 1, none⟩ = some (.int .i64 y) := (ha _).trans (by first | with_reducible assumption | (simp (maxDischargeDepth := 7) [go_sem]; done) | (simp (maxDischargeDepth := 7) [go_sem, *]; done))
        try have hg1_1 : ∀ o, w1.frozen? ⟨w.heap.size + 1, o, none⟩ = false := by intro o; rw [hb]; first | (simp (maxDischargeDepth := 7) [go_sem]; done) | (simp (maxDischargeDepth := 7) [go_sem, *]; done)
        clear ha hb
        go_wp2_with fail
        with_reducible refine (HP.out _).mono ?_
        rintro e w2 ⟨rfl, hk2⟩
        refine kuz (b := w.heap.size) hk2 (by first | (simp; done) | (simp; omega) | omega) ?_
        intro ha hb hz2_0 hn2_0 hm2_0
        have hf2_0_0 := (ha _).trans hf1_0_0
        have hf2_0_1 := (ha _).trans hf1_0_1
        have hf2_0_2 := (ha _).trans hf1_0_2
        have hf2_0_3 := (ha _).trans hf1_0_3
        have hf2_0_4 := (ha _).trans hf1_0_4
        have hf2_0_5 := (ha _).trans hf1_0_5
        have hg2_0 := fun o => (hb o).trans (hg1_0 o)
        clear ha hb
        refine kuz (b := w.heap.size + 1) hk2 (by first | (simp; done) | (simp; omega) | omega) ?_
        intro ha hb hz2_1 hn2_1 hm2_1
        have hf2_1_0 := (ha _).trans hf1_1_0
        have hf2_1_1 := (ha _).trans hf1_1_1
        have hg2_1 := fun o => (hb o).trans (hg1_1 o)
        clear ha hb
        try clear hf1_0_0
        try clear hf1_0_1
        try clear hf1_0_2
        try clear hf1_0_3
        try clear hf1_0_4
        try clear hf1_0_5
        try clear hf1_1_0
        try clear hf1_1_1
        try clear hg1_0
        try clear hg1_1
        try clear hz1_1
        go_wp2_with fail
        all_goals first | (go_ret; exact ⟨rfl, (by repeat (first | with_reducible exact Kept.refl _ | with_reducible assumption | with_reducible refine Kept.setCell ?_ (by first | (simp; done) | (simp; omega) | omega) _ | with_reducible refine Kept.alloc ?_ _ | with_reducible refine Kept.drewN ?_ _ | with_reducible refine Kept.drew ?_ | with_reducible refine Kept.trans ?_ (by with_reducible assumption) | with_reducible refine Kept.dr ?_ (by with_reducible assumption)))⟩) | (go_ret; refine ⟨retB ?_, (by repeat (first | with_reducible exact Kept.refl _ | with_reducible assumption | with_reducible refine Kept.setCell ?_ (by first | (simp; done) | (simp; omega) | omega) _ | with_reducible refine Kept.alloc ?_ _ | with_reducible refine Kept.drewN ?_ _ | with_reducible refine Kept.drew ?_ | with_reducible refine Kept.trans ?_ (by with_reducible assumption) | with_reducible refine Kept.dr ?_ (by with_reducible assumption)))⟩; simp; omega) | (exfalso; omega)
      · rw [hld_n g1 g2 (by rw [hr]; exact c)]
        have HV0 := ref_valid_w s a b z d u
        rw [g1] at HV0
        have HV := Lib.hid HV0
        clear HV0
        have HP0 := ref_pval_w x y
        rw [g2] at HP0
        have HP := Lib.hid HP0
        clear HP0
        have k0 : IntKind.i64.wrap (a * x) = a * x := IntWalk.i64_in _ (by omega)
        have k1 : IntKind.i64.wrap (b * y) = b * y := IntWalk.i64_in _ (by omega)
        have k2 : IntKind.i64.wrap (a * x + b * y) = a * x + b * y := IntWalk.i64_in _ (by omega)
        have k3 : IntKind.i64.wrap (a * x + b * y - z) = r := by rw [hr]; exact IntWalk.i64_in _ (by omega)
        clear g1 g2
        go_enter Try.func23, Try.ntmps23
        go_wp2_with fail
        with_reducible refine (HV.out _).mono ?_
        rintro e w1 ⟨rfl, hk1⟩
        refine kuz (b := w.heap.size) hk1 (by first | (simp; done) | (simp; omega) | omega) ?_
        intro ha hb hz1_0 hn1_0 hm1_0
        have hf1_0_0 : w1.cell? ⟨w.heap.size, 0, none⟩ = some (.int .i64 s) := (ha _).trans (by first | with_reducible assumption | (simp (maxDischargeDepth := 7) [go_sem]; done) | (simp (maxDischargeDepth := 7) [go_sem, *]; done))
        have hf1_0_1 : w1.cell? ⟨w.heap.size, 1, none⟩ = some (.int .i64 a) := (ha _).trans (by first | with_reducible assumption | (simp (maxDischargeDepth := 7) [go_sem]; done) | (simp (maxDischargeDepth := 7) [go_sem, *]; done))
        have hf1_0_2 : w1.cell? ⟨w.heap.size, 2, none⟩ = some (.int .i64 b) := (ha _).trans (by first | with_reducible assumption | (simp (maxDischargeDepth := 7) [go_sem]; done) | (simp (maxDischargeDepth := 7) [go_sem, *]; done))
        have hf1_0_3 : w1.cell? ⟨w.heap.size, 3, none⟩ = some (.int .i64 z) := (ha _).trans (by first | with_reducible assumption | (simp (maxDischargeDepth := 7) [go_sem]; done) | (simp (maxDischargeDepth := 7) [go_sem, *]; done))
        have hf1_0_4 : w1.cell? ⟨w.heap.size, 4, none⟩ = some (.int .i64 d) := (ha _).trans (by first | with_reducible assumption | (simp (maxDischargeDepth := 7) [go_sem]; done) | (simp (maxDischargeDepth := 7) [go_sem, *]; done))
        have hf1_0_5 : w1.cell? ⟨w.heap.size, 5, none⟩ = some (.int .i64 u) := (ha _).trans (by first | with_reducible assumption | (simp (maxDischargeDepth := 7) [go_sem]; done) | (simp (maxDischargeDepth := 7) [go_sem, *]; done))
        try have hg1_0 : ∀ o, w1.frozen? ⟨w.heap.size, o, none⟩ = false := by intro o; rw [hb]; first | (simp (maxDischargeDepth := 7) [go_sem]; done) | (simp (maxDischargeDepth := 7) [go_sem, *]; done)
        clear ha hb
        refine kuz (b := w.heap.size + 1) hk1 (by first | (simp; done) | (simp; omega) | omega) ?_
        intro ha hb hz1_1 hn1_1 hm1_1
        have hf1_1_0 : w1.cell? ⟨w.heap.size + 1, 0, none⟩ = some (.int .i64 x) := (ha _).trans (by first | with_reducible assumption | (simp (maxDischargeDepth := 7) [go_sem]; done) | (simp (maxDischargeDepth := 7) [go_sem, *]; done))
        have hf1_1_1 : w1.cell? ⟨w.heap.size + 1, 1, none⟩ = some (.int .i64 y) := (ha _).trans (by first | with_reducible assumption | (simp (maxDischargeDepth := 7) [go_sem]; done) | (simp (maxDischargeDepth := 7) [go_sem, *]; done))
        try have hg1_1 : ∀ o, w1.frozen? ⟨w.heap.size + 1, o, none⟩ = false := by intro o; rw [hb]; first | (simp (maxDischargeDepth := 7) [go_sem]; done) | (simp (maxDischargeDepth := 7) [go_sem, *]; done)
        clear ha hb
        go_wp2_with fail
        with_reducible refine (HP.out _).mono ?_
        rintro e w2 ⟨rfl, hk2⟩
        refine kuz (b := w.heap.size) hk2 (by first | (simp; done) | (simp; omega) | omega) ?_
        intro ha hb hz2_0 hn2_0 hm2_0
        have hf2_0_0 := (ha _).trans hf1_0_0
        have hf2_0_1 := (ha _).trans hf1_0_1
        have hf2_0_2 := (ha _).trans hf1_0_2
        have hf2_0_3 := (ha _).trans hf1_0_3
        have hf2_0_4 := (ha _).trans hf1_0_4
        have hf2_0_5 := (ha _).trans hf1_0_5
        have hg2_0 := fun o => (hb o).trans (hg1_0 o)
        clear ha hb
        refine kuz (b := w.heap.size + 1) hk2 (by first | (simp; done) | (simp; omega) | omega) ?_
        intro ha hb hz2_1 hn2_1 hm2_1
        have hf2_1_0 := (ha _).trans hf1_1_0
        have hf2_1_1 := (ha _).trans hf1_1_1
        have hg2_1 := fun o => (hb o).trans (hg1_1 o)
        clear ha hb
        try clear hf1_0_0
        try clear hf1_0_1
        try clear hf1_0_2
        try clear hf1_0_3
        try clear hf1_0_4
        try clear hf1_0_5
        try clear hf1_1_0
        try clear hf1_1_1
        try clear hg1_0
        try clear hg1_1
        try clear hz1_1
        go_wp2_with fail
        all_goals first | (go_ret; exact ⟨rfl, (by repeat (first | with_reducible exact Kept.refl _ | with_reducible assumption | with_reducible refine Kept.setCell ?_ (by first | (simp; done) | (simp; omega) | omega) _ | with_reducible refine Kept.alloc ?_ _ | with_reducible refine Kept.drewN ?_ _ | with_reducible refine Kept.drew ?_ | with_reducible refine Kept.trans ?_ (by with_reducible assumption) | with_reducible refine Kept.dr ?_ (by with_reducible assumption)))⟩) | (go_ret; refine ⟨retB ?_, (by repeat (first | with_reducible exact Kept.refl _ | with_reducible assumption | with_reducible refine Kept.setCell ?_ (by first | (simp; done) | (simp; omega) | omega) _ | with_reducible refine Kept.alloc ?_ _ | with_reducible refine Kept.drewN ?_ _ | with_reducible refine Kept.drew ?_ | with_reducible refine Kept.trans ?_ (by with_reducible assumption) | with_reducible refine Kept.dr ?_ (by with_reducible assumption)))⟩; simp; omega) | (exfalso; omega)
end Go.Proofs.Ytoegcfdlecbcjaa
