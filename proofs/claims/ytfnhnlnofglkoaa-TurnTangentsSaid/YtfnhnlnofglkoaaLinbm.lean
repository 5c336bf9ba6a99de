/-
  Own contracts: package line and the document's answers of layer 11: sides, distances, points of lines.
-/
import Derived.Test.YtfnhnlnofglkoaaLinb
import Derived.WalkKit
import Derived.ProofKit
import Derived.OpenShut
import Derived.WalkLawsBesides
import Derived.WalkSpells
import Derived.Lib.Hide
import Derived.Deep.DeepCutAuto
import Derived.Deep.CutBlock
import Derived.Deep.QuietTactic
import Derived.BigQuiet
import Derived.Handy
import Derived.StillTailTactics
import Derived.IntWalk
import Derived.LoopN
import Derived.Deep.RegionHeld3
namespace Go.Proofs.Ytfnhnlnofglkoaa
open Go.ChangeShapes Go.WideShapes Go.ChangeAt Go.RowKit
set_option linter.unusedVariables false
set_option linter.unusedSimpArgs false
theorem mdr_w (a b c : Int) (a0 : -9223372036854775808 ≤ a) (a1 : a ≤ 9223372036854775807) (b0 : -9223372036854775808 ≤ b) (b1 : b ≤ 9223372036854775807) (c0 : -9223372036854775808 ≤ c) (c1 : c ≤ 9223372036854775807) (w : World) : Calls Try.prog 52 #[.int .i64 a, .int .i64 b, .int .i64 c] w fun e w' => e = .returned (.tuple #[.int .i64 (mqv 2 a b c), .int .i64 (mqe 2 a b c)]) ∧ Kept w w' := (muldivround_w a b c a0 a1 b0 b1 c0 c1 w).mono fun _ _ k => ⟨k.1, k.2.kept⟩
set_option maxHeartbeats 4000000 in
set_option maxRecDepth 100000 in
theorem moved_w (aX aY dX dY n d : Int) (aX0 : -9223372036854775808 ≤ aX) (aX1 : aX ≤ 9223372036854775807) (aY0 : -9223372036854775808 ≤ aY) (aY1 : aY ≤ 9223372036854775807) (dX0 : -9223372036854775808 ≤ dX) (dX1 : dX ≤ 9223372036854775807) (dY0 : -9223372036854775808 ≤ dY) (dY1 : dY ≤ 9223372036854775807) (n0 : -9223372036854775808 ≤ n) (n1 : n ≤ 9223372036854775807) (d0 : -9223372036854775808 ≤ d) (d1 : d ≤ 9223372036854775807) (w : World) : Calls Try.prog 90 #[.agg #[.int .i64 aX, .int .i64 aY], .agg #[.int .i64 dX, .int .i64 dY], .int .i64 n, .int .i64 d] w fun e w' => e = .returned (.tuple #[.agg #[.int .i64 (mvX aX aY dX dY n d), .int .i64 (mvY aX aY dX dY n d)], .int .i64 (mvE aX aY dX dY n d)]) ∧ Kept w w' := by
  have m1 := fun w => mdr_w dX n d (by omega) (by omega) (by omega) (by omega) (by omega) (by omega) w
  have m2 := fun w => mdr_w dY n d (by omega) (by omega) (by omega) (by omega) (by omega) (by omega) w
  obtain ⟨x0, x1⟩ := mqv_in 2 dX n d
  obtain ⟨y0, y1⟩ := mqv_in 2 dY n d
  obtain ⟨EX, hEX⟩ : ∃ A, mqe 2 dX n d = A := ⟨_, rfl⟩
  obtain ⟨EY, hEY⟩ : ∃ A, mqe 2 dY n d = A := ⟨_, rfl⟩
  obtain ⟨X, hX⟩ : ∃ A, mqv 2 dX n d = A := ⟨_, rfl⟩
  obtain ⟨Y, hY⟩ : ∃ A, mqv 2 dY n d = A := ⟨_, rfl⟩
  rw [hX, hEX] at m1
  rw [hY, hEY] at m2
  rw [hX] at x0 x1
  rw [hY] at y0 y1
  by_cases c1 : EX = 0
  · by_cases c2 : EY = 0
    · rcases Bool.eq_false_or_eq_true (pokB (sat (aX + X)) (sat (aY + Y))) with hp | hp
      · have e0 : mvE aX aY dX dY n d = 0 := by unfold mvE; rw [hEX, hEY, hX, hY]; simp [c1, c2, hp]
        rw [(mv_ok e0).1, (mv_ok e0).2, e0, hX, hY]
        clear e0 hX hY hEX hEY
        subst c1 c2
        have M1 := Lib.hid m1; have M2 := Lib.hid m2
        clear m1 m2
        go_enter Try.func90, Try.ntmps90
        go_wp2_with fail
        with_reducible refine (M1.out _).mono ?_
        rintro e w1 ⟨rfl, hk1⟩
        refine kuz (b := w.heap.size) hk1 (by first | (simp; done) | (simp; omega) | omega) ?_
        intro ha hb hz1_0 hn1_0 hm1_0
        have hf1_0_0 : w1.cell? ⟨w.heap.size, 0, none⟩ = some (.int .i64 aX) := (ha _).trans (by first | with_reducible assumption | (simp (maxDischargeDepth := 7) [go_sem]; done) | (simp (maxDischargeDepth := 7) [go_sem, *]; done))
        have hf1_0_1 : w1.cell? ⟨w.heap.size, 1, none⟩ = some (.int .i64 aY) := (ha _).trans (by first | with_reducible assumption | (simp (maxDischargeDepth := 7) [go_sem]; done) | (simp (maxDischargeDepth := 7) [go_sem, *]; done))
        try have hg1_0 : ∀ o, w1.frozen? ⟨w.heap.size, o, none⟩ = false := by intro o; rw [hb]; first | (simp (maxDischargeDepth := 7) [go_sem]; done) | (simp (maxDischargeDepth := 7) [go_sem, *]; done)
        clear ha hb
        refine kuz (b := w.heap.size + 1) hk1 (by first | (simp; done) | (simp; omega) | omega) ?_
        intro ha hb hz1_1 hn1_1 hm1_1
        have hf1_1_0 : w1.cell? ⟨w.heap.size + 1, 0, none⟩ = some (.int .i64 dX) := (ha _).trans (by first | with_reducible assumption | (simp (maxDischargeDepth := 7) [go_sem]; done) | (simp (maxDischargeDepth := 7) [go_sem, *]; done))
        have hf1_1_1 : w1.cell? ⟨w.heap.size + 1, 1, none⟩ = some (.int .i64 dY) := (ha _).trans (by first | with_reducible assumption | (simp (maxDischargeDepth := 7) [go_sem]; done) | (simp (maxDischargeDepth := 7) [go_sem, *]; done))
        try have hg1_1 : ∀ o, w1.frozen? ⟨w.heap.size + 1, o, none⟩ = false := by intro o; rw [hb]; first | (simp (maxDischargeDepth := 7) [go_sem]; done) | (simp (maxDischargeDepth := 7) [go_sem, *]; done)
        clear ha hb
        refine kuz (b := w.heap.size + 2) hk1 (by first | (simp; done) | (simp; omega) | omega) ?_
        intro ha hb hz1_2 hn1_2 hm1_2
        have hf1_2_0 : w1.cell? ⟨w.heap.size + 2, 0, none⟩ = some (.int .i64 0) := (ha _).trans (by first | with_reducible assumption | (simp (maxDischargeDepth := 7) [go_sem]; done) | (simp (maxDischargeDepth := 7) [go_sem, *]; done))
        have hf1_2_1 : w1.cell? ⟨w.heap.size + 2, 1, none⟩ = some (.int .i64 0) := (ha _).trans (by first | with_reducible assumption | (simp (maxDischargeDepth := 7) [go_sem]; done) | (simp (maxDischargeDepth := 7) [go_sem, *]; done))
        try have hg1_2 : ∀ o, w1.frozen? ⟨w.heap.size + 2, o, none⟩ = false := by intro o; rw [hb]; first | (simp (maxDischargeDepth := 7) [go_sem]; done) | (simp (maxDischargeDepth := 7) [go_sem, *]; done)
        clear ha hb
        go_wp2_with fail
        with_reducible refine (M2.out _).mono ?_
        rintro e w2 ⟨rfl, hk2⟩
        refine kuz (b := w.heap.size) hk2 (by first | (simp; done) | (simp; omega) | omega) ?_
        intro ha hb hz2_0 hn2_0 hm2_0
        have hf2_0_0 : w2.cell? ⟨w.heap.size, 0, none⟩ = some (.int .i64 aX) := (ha _).trans (by first | with_reducible assumption | (simp (maxDischargeDepth := 7) [go_sem]; done) | (simp (maxDischargeDepth := 7) [go_sem, *]; done))
        have hf2_0_1 : w2.cell? ⟨w.heap.size, 1, none⟩ = some (.int .i64 aY) := (ha _).trans (by first | with_reducible assumption | (simp (maxDischargeDepth := 7) [go_sem]; done) | (simp (maxDischargeDepth := 7) [go_sem, *]; done))
        try have hg2_0 : ∀ o, w2.frozen? ⟨w.heap.size, o, none⟩ = false := by intro o; rw [hb]; first | (simp (maxDischargeDepth := 7) [go_sem]; done) | (simp (maxDischargeDepth := 7) [go_sem, *]; done)
        clear ha hb
        refine kuz (b := w.heap.size + 1) hk2 (by first | (simp; done) | (simp; omega) | omega) ?_
        intro ha hb hz2_1 hn2_1 hm2_1
        have hf2_1_0 : w2.cell? ⟨w.heap.size + 1, 0, none⟩ = some (.int .i64 dX) := (ha _).trans (by first | with_reducible assumption | (simp (maxDischargeDepth := 7) [go_sem]; done) | (simp (maxDischargeDepth := 7) [go_sem, *]; done))
        have hf2_1_1 : w2.cell? ⟨w.heap.size + 1, 1, none⟩ = some (.int .i64 dY) := (ha _).trans (by first | with_reducible assumption | (simp (maxDischargeDepth := 7) [go_sem]; done) | (simp (maxDischargeDepth := 7) [go_sem, *]; done))
        try have hg2_1 : ∀ o, w2.frozen? ⟨w.heap.size + 1, o, none⟩ = false := by intro o; rw [hb]; first | (simp (maxDischargeDepth := 7) [go_sem]; done) | (simp (maxDischargeDepth := 7) [go_sem, *]; done)
        clear ha hb
        refine kuz (b := w.heap.size + 2) hk2 (by first | (simp; done) | (simp; omega) | omega) ?_
        intro ha hb hz2_2 hn2_2 hm2_2
        have hf2_2_0 : w2.cell? ⟨w.heap.size + 2, 0, none⟩ = some (.int .i64 0) := (ha _).trans (by first | with_reducible assumption | (simp (maxDischargeDepth := 7) [go_sem]; done) | (simp (maxDischargeDepth := 7) [go_sem, *]; done))
        have hf2_2_1 : w2.cell? ⟨w.heap.size + 2, 1, none⟩ = some (.int .i64 0) := (ha _).trans (by first | with_reducible assumption | (simp (maxDischargeDepth := 7) [go_sem]; done) | (simp (maxDischargeDepth := 7) [go_sem, *]; done))
        try have hg2_2 : ∀ o, w2.frozen? ⟨w.heap.size + 2, o, none⟩ = false := by intro o; rw [hb]; first | (simp (maxDischargeDepth := 7) [go_sem]; done) | (simp (maxDischargeDepth := 7) [go_sem, *]; done)
        clear ha hb
        (try clear hf1_0_0); (try clear hf1_0_1); (try clear hf1_1_0); (try clear hf1_1_1); (try clear hf1_2_0); (try clear hf1_2_1); (try clear hg1_0); (try clear hg1_1); (try clear hg1_2); (try clear hz1_1); (try clear hz1_2)
        go_wp2_with fail
        have B0 : OwnB w2 (w.heap.size) [.int .i64 aX, .int .i64 aY] := ⟨hz2_0, hg2_0, hf2_0_0, hf2_0_1, trivial⟩
        have HB0_0 := Lib.hid B0
        clear B0
        have B1 : OwnB w2 (w.heap.size + 1) [.int .i64 dX, .int .i64 dY] := ⟨hz2_1, hg2_1, hf2_1_0, hf2_1_1, trivial⟩
        have HB0_1 := Lib.hid B1
        clear B1
        have B2 : OwnB w2 (w.heap.size + 2) [.int .i64 0, .int .i64 0] := ⟨hz2_2, hg2_2, hf2_2_0, hf2_2_1, trivial⟩
        have HB0_2 := Lib.hid B2
        clear B2
        go_upto_region 7 with (fail)
        go_cut [13] (fun p0 wx => ∃ b0 : Nat, p0 = .pointer (some ⟨b0, 0, none⟩) ∧ w.heap.size + 1 + 1 < b0 ∧ OwnB wx (b0) [.int .i64 (sat (aX + X)), .int .i64 (sat (aY + Y))] ∧ OwnB wx (w.heap.size) [.int .i64 aX, .int .i64 aY] ∧ OwnB wx (w.heap.size + 1) [.int .i64 dX, .int .i64 dY] ∧ OwnB wx (w.heap.size + 2) [.int .i64 0, .int .i64 0] ∧ Kept w2 wx)
        case first =>
          go_region_held3 (fun W => W.cell? ⟨w.heap.size, 0, none⟩ = some (.int .i64 aX) ∧ W.cell? ⟨w.heap.size, 1, none⟩ = some (.int .i64 aY)) (first | (go_keep; done) | (simp (maxDischargeDepth := 9) [*, World.cell?_alloc_some, World.cell?_setCell_far]; done) | (simp (maxDischargeDepth := 9) [go_sem, *]; done)) (first | (go_at_call 113; with_reducible refine (add_w _ _ (by omega) (by omega) (by omega) (by omega) _).mono ?_; rintro e w' ⟨rfl, rfl⟩) | (go_at_call 113; with_reducible refine (add_w _ _ (by omega) (by omega) (by omega) (by omega) _).mono ?_; rintro e w' ⟨rfl, rfl⟩))
          all_goals (try go_wp2_with fail)
          all_goals (go_meet; case rel => refine (fun (hkx : Kept w2 _) => ⟨_, rfl, (by first | with_reducible assumption | omega | (simp; omega)), (by repeat (first | with_reducible exact own_alloc _ [.int .i64 (sat (aX + X)), .int .i64 (sat (aY + Y))] 28 | with_reducible exact own_alloc _ [.int .i64 0, .int .i64 0] 28 | ((with_reducible refine own_allocE _ [.int .i64 (sat (aX + X)), .int .i64 (sat (aY + Y))] 28 _ ?_); (simp; done)) | ((with_reducible refine own_allocE _ [.int .i64 0, .int .i64 0] 28 _ ?_); (simp; done)) | with_reducible refine own_set2 (us := [.int .i64 0, .int .i64 0]) ?_ rfl | with_reducible refine OwnB.other2 ?_ (by first | with_reducible assumption | omega | (simp; done) | (simp; omega)) | with_reducible refine OwnB.alloc ?_ _ | with_reducible refine OwnB.drew ?_ | with_reducible refine OwnB.drewN ?_ _ | with_reducible refine OwnB.kept (by with_reducible assumption) ?_)), OwnB.kept hkx HB0_0.out, OwnB.kept hkx HB0_1.out, OwnB.kept hkx HB0_2.out, hkx⟩) ?_; exact (by repeat (first | with_reducible exact Kept.refl _ | with_reducible assumption | with_reducible refine Kept.set12 ?_ (by first | with_reducible assumption | omega | (simp; done) | (simp; omega)) | with_reducible refine Kept.set11 ?_ (by first | with_reducible assumption | omega | (simp; done) | (simp; omega)) | with_reducible refine Kept.set10 ?_ (by first | with_reducible assumption | omega | (simp; done) | (simp; omega)) | with_reducible refine Kept.set9 ?_ (by first | with_reducible assumption | omega | (simp; done) | (simp; omega)) | with_reducible refine Kept.set8 ?_ (by first | with_reducible assumption | omega | (simp; done) | (simp; omega)) | with_reducible refine Kept.set7 ?_ (by first | with_reducible assumption | omega | (simp; done) | (simp; omega)) | with_reducible refine Kept.set6 ?_ (by first | with_reducible assumption | omega | (simp; done) | (simp; omega)) | with_reducible refine Kept.set5 ?_ (by first | with_reducible assumption | omega | (simp; done) | (simp; omega)) | with_reducible refine Kept.set4 ?_ (by first | with_reducible assumption | omega | (simp; done) | (simp; omega)) | with_reducible refine Kept.set3 ?_ (by first | with_reducible assumption | omega | (simp; done) | (simp; omega)) | with_reducible refine Kept.set2 ?_ (by first | with_reducible assumption | omega | (simp; done) | (simp; omega)) | with_reducible refine Kept.setCell ?_ (by first | with_reducible assumption | omega | (simp; done) | (simp; omega)) _ | with_reducible refine Kept.alloc ?_ _ | with_reducible refine Kept.drewN ?_ _ | with_reducible refine Kept.drew ?_ | with_reducible refine Kept.trans ?_ (by with_reducible assumption) | with_reducible refine Kept.dr ?_ (by with_reducible assumption))))
        case rest =>
        obtain ⟨b1_0, rfl, lt1_0, O1_0, O1_1, O1_2, O1_3, hkc1⟩ := hcut
        obtain ⟨hz_c1_0, hg_c1_0, hf_c1_0_0, hf_c1_0_1, _⟩ := O1_0
        obtain ⟨hz_c1_1, hg_c1_1, hf_c1_1_0, hf_c1_1_1, _⟩ := O1_1
        obtain ⟨hz_c1_2, hg_c1_2, hf_c1_2_0, hf_c1_2_1, _⟩ := O1_2
        obtain ⟨hz_c1_3, hg_c1_3, hf_c1_3_0, hf_c1_3_1, _⟩ := O1_3
        (try clear hf2_0_0); (try clear hf2_0_1); (try clear hf2_1_0); (try clear hf2_1_1); (try clear hf2_2_0); (try clear hf2_2_1); (try clear hg2_0); (try clear hg2_1); (try clear hg2_2); (try clear hz2_1); (try clear hz2_2)
        go_wp2_with fail
        with_reducible refine (pv_ok _ _ hp _).mono ?_
        rintro e w3 ⟨rfl, hk3⟩
        refine kuz (b := b1_0) hk3 (by first | (simp; done) | (simp; omega) | omega) ?_
        intro ha hb hz3_0 hn3_0 hm3_0
        have hf3_0_0 : w3.cell? ⟨b1_0, 0, none⟩ = some (.int .i64 (sat (aX + X))) := (ha _).trans (by first | with_reducible assumption | (simp (maxDischargeDepth := 7) [go_sem]; done) | (simp (maxDischargeDepth := 7) [go_sem, *]; done))
        have hf3_0_1 : w3.cell? ⟨b1_0, 1, none⟩ = some (.int .i64 (sat (aY + Y))) := (ha _).trans (by first | with_reducible assumption | (simp (maxDischargeDepth := 7) [go_sem]; done) | (simp (maxDischargeDepth := 7) [go_sem, *]; done))
        try have hg3_0 : ∀ o, w3.frozen? ⟨b1_0, o, none⟩ = false := by intro o; rw [hb]; first | (simp (maxDischargeDepth := 7) [go_sem]; done) | (simp (maxDischargeDepth := 7) [go_sem, *]; done)
        clear ha hb
        refine kuz (b := w.heap.size) hk3 (by first | (simp; done) | (simp; omega) | omega) ?_
        intro ha hb hz3_1 hn3_1 hm3_1
        have hf3_1_0 : w3.cell? ⟨w.heap.size, 0, none⟩ = some (.int .i64 aX) := (ha _).trans (by first | with_reducible assumption | (simp (maxDischargeDepth := 7) [go_sem]; done) | (simp (maxDischargeDepth := 7) [go_sem, *]; done))
        have hf3_1_1 : w3.cell? ⟨w.heap.size, 1, none⟩ = some (.int .i64 aY) := (ha _).trans (by first | with_reducible assumption | (simp (maxDischargeDepth := 7) [go_sem]; done) | (simp (maxDischargeDepth := 7) [go_sem, *]; done))
        try have hg3_1 : ∀ o, w3.frozen? ⟨w.heap.size, o, none⟩ = false := by intro o; rw [hb]; first | (simp (maxDischargeDepth := 7) [go_sem]; done) | (simp (maxDischargeDepth := 7) [go_sem, *]; done)
        clear ha hb
        refine kuz (b := w.heap.size + 1) hk3 (by first | (simp; done) | (simp; omega) | omega) ?_
        intro ha hb hz3_2 hn3_2 hm3_2
        have hf3_2_0 : w3.cell? ⟨w.heap.size + 1, 0, none⟩ = some (.int .i64 dX) := (ha _).trans (by first | with_reducible assumption | (simp (maxDischargeDepth := 7) [go_sem]; done) | (simp (maxDischargeDepth := 7) [go_sem, *]; done))
        have hf3_2_1 : w3.cell? ⟨w.heap.size + 1, 1, none⟩ = some (.int .i64 dY) := (ha _).trans (by first | with_reducible assumption | (simp (maxDischargeDepth := 7) [go_sem]; done) | (simp (maxDischargeDepth := 7) [go_sem, *]; done))
        try have hg3_2 : ∀ o, w3.frozen? ⟨w.heap.size + 1, o, none⟩ = false := by intro o; rw [hb]; first | (simp (maxDischargeDepth := 7) [go_sem]; done) | (simp (maxDischargeDepth := 7) [go_sem, *]; done)
        clear ha hb
        refine kuz (b := w.heap.size + 2) hk3 (by first | (simp; done) | (simp; omega) | omega) ?_
        intro ha hb hz3_3 hn3_3 hm3_3
        have hf3_3_0 : w3.cell? ⟨w.heap.size + 2, 0, none⟩ = some (.int .i64 0) := (ha _).trans (by first | with_reducible assumption | (simp (maxDischargeDepth := 7) [go_sem]; done) | (simp (maxDischargeDepth := 7) [go_sem, *]; done))
        have hf3_3_1 : w3.cell? ⟨w.heap.size + 2, 1, none⟩ = some (.int .i64 0) := (ha _).trans (by first | with_reducible assumption | (simp (maxDischargeDepth := 7) [go_sem]; done) | (simp (maxDischargeDepth := 7) [go_sem, *]; done))
        try have hg3_3 : ∀ o, w3.frozen? ⟨w.heap.size + 2, o, none⟩ = false := by intro o; rw [hb]; first | (simp (maxDischargeDepth := 7) [go_sem]; done) | (simp (maxDischargeDepth := 7) [go_sem, *]; done)
        clear ha hb
        (try clear hf_c1_0_0); (try clear hf_c1_0_1); (try clear hf_c1_1_0); (try clear hf_c1_1_1); (try clear hf_c1_2_0); (try clear hf_c1_2_1); (try clear hf_c1_3_0); (try clear hf_c1_3_1); (try clear hg_c1_0); (try clear hg_c1_1); (try clear hg_c1_2); (try clear hg_c1_3)
        go_wp2_with fail
        all_goals exact bodyPost_ret (v := .tuple #[.agg #[.int .i64 (sat (aX + X)), .int .i64 (sat (aY + Y))], .int .i64 0]) (by first | (simp [results, Try.results90, go_sem]; done) | (simp (maxDischargeDepth := 7) [results, Try.results90, go_sem, *]; done)) rfl ⟨rfl, (by repeat (first | with_reducible exact Kept.refl _ | with_reducible assumption | with_reducible refine Kept.setCell ?_ (by first | (simp; done) | (simp; omega) | omega) _ | with_reducible refine Kept.alloc ?_ _ | with_reducible refine Kept.drewN ?_ _ | with_reducible refine Kept.drew ?_ | with_reducible refine Kept.trans ?_ (by with_reducible assumption) | with_reducible refine Kept.dr ?_ (by with_reducible assumption)))⟩
      · have e0 : mvE aX aY dX dY n d = 2 := by unfold mvE; rw [hEX, hEY, hX, hY]; simp [c1, c2, hp]
        rw [(mv_bad e0).1, (mv_bad e0).2, e0]
        clear e0 hX hY hEX hEY
        subst c1 c2
        have M1 := Lib.hid m1; have M2 := Lib.hid m2
        clear m1 m2
        go_enter Try.func90, Try.ntmps90
        go_wp2_with fail
        with_reducible refine (M1.out _).mono ?_
        rintro e w1 ⟨rfl, hk1⟩
        refine kuz (b := w.heap.size) hk1 (by first | (simp; done) | (simp; omega) | omega) ?_
        intro ha hb hz1_0 hn1_0 hm1_0
        have hf1_0_0 : w1.cell? ⟨w.heap.size, 0, none⟩ = some (.int .i64 aX) := (ha _).trans (by first | with_reducible assumption | (simp (maxDischargeDepth := 7) [go_sem]; done) | (simp (maxDischargeDepth := 7) [go_sem, *]; done))
        have hf1_0_1 : w1.cell? ⟨w.heap.size, 1, none⟩ = some (.int .i64 aY) := (ha _).trans (by first | with_reducible assumption | (simp (maxDischargeDepth := 7) [go_sem]; done) | (simp (maxDischargeDepth := 7) [go_sem, *]; done))
        try have hg1_0 : ∀ o, w1.frozen? ⟨w.heap.size, o, none⟩ = false := by intro o; rw [hb]; first | (simp (maxDischargeDepth := 7) [go_sem]; done) | (simp (maxDischargeDepth := 7) [go_sem, *]; done)
        clear ha hb
        refine kuz (b := w.heap.size + 1) hk1 (by first | (simp; done) | (simp; omega) | omega) ?_
        intro ha hb hz1_1 hn1_1 hm1_1
        have hf1_1_0 : w1.cell? ⟨w.heap.size + 1, 0, none⟩ = some (.int .i64 dX) := (ha _).trans (by first | with_reducible assumption | (simp (maxDischargeDepth := 7) [go_sem]; done) | (simp (maxDischargeDepth := 7) [go_sem, *]; done))
        have hf1_1_1 : w1.cell? ⟨w.heap.size + 1, 1, none⟩ = some (.int .i64 dY) := (ha _).trans (by first | with_reducible assumption | (simp (maxDischargeDepth := 7) [go_sem]; done) | (simp (maxDischargeDepth := 7) [go_sem, *]; done))
        try have hg1_1 : ∀ o, w1.frozen? ⟨w.heap.size + 1, o, none⟩ = false := by intro o; rw [hb]; first | (simp (maxDischargeDepth := 7) [go_sem]; done) | (simp (maxDischargeDepth := 7) [go_sem, *]; done)
        clear ha hb
        refine kuz (b := w.heap.size + 2) hk1 (by first | (simp; done) | (simp; omega) | omega) ?_
        intro ha hb hz1_2 hn1_2 hm1_2
        have hf1_2_0 : w1.cell? ⟨w.heap.size + 2, 0, none⟩ = some (.int .i64 0) := (ha _).trans (by first | with_reducible assumption | (simp (maxDischargeDepth := 7) [go_sem]; done) | (simp (maxDischargeDepth := 7) [go_sem, *]; done))
        have hf1_2_1 : w1.cell? ⟨w.heap.size + 2, 1, none⟩ = some (.int .i64 0) := (ha _).trans (by first | with_reducible assumption | (simp (maxDischargeDepth := 7) [go_sem]; done) | (simp (maxDischargeDepth := 7) [go_sem, *]; done))
        try have hg1_2 : ∀ o, w1.frozen? ⟨w.heap.size + 2, o, none⟩ = false := by intro o; rw [hb]; first | (simp (maxDischargeDepth := 7) [go_sem]; done) | (simp (maxDischargeDepth := 7) [go_sem, *]; done)
        clear ha hb
        go_wp2_with fail
        with_reducible refine (M2.out _).mono ?_
        rintro e w2 ⟨rfl, hk2⟩
        refine kuz (b := w.heap.size) hk2 (by first | (simp; done) | (simp; omega) | omega) ?_
        intro ha hb hz2_0 hn2_0 hm2_0
        have hf2_0_0 : w2.cell? ⟨w.heap.size, 0, none⟩ = some (.int .i64 aX) := (ha _).trans (by first | with_reducible assumption | (simp (maxDischargeDepth := 7) [go_sem]; done) | (simp (maxDischargeDepth := 7) [go_sem, *]; done))
        have hf2_0_1 : w2.cell? ⟨w.heap.size, 1, none⟩ = some (.int .i64 aY) := (ha _).trans (by first | with_reducible assumption | (simp (maxDischargeDepth := 7) [go_sem]; done) | (simp (maxDischargeDepth := 7) [go_sem, *]; done))
        try have hg2_0 : ∀ o, w2.frozen? ⟨w.heap.size, o, none⟩ = false := by intro o; rw [hb]; first | (simp (maxDischargeDepth := 7) [go_sem]; done) | (simp (maxDischargeDepth := 7) [go_sem, *]; done)
        clear ha hb
        refine kuz (b := w.heap.size + 1) hk2 (by first | (simp; done) | (simp; omega) | omega) ?_
        intro ha hb hz2_1 hn2_1 hm2_1
        have hf2_1_0 : w2.cell? ⟨w.heap.size + 1, 0, none⟩ = some (.int .i64 dX) := (ha _).trans (by first | with_reducible assumption | (simp (maxDischargeDepth := 7) [go_sem]; done) | (simp (maxDischargeDepth := 7) [go_sem, *]; done))
        have hf2_1_1 : w2.cell? ⟨w.heap.size + 1, 1, none⟩ = some (.int .i64 dY) := (ha _).trans (by first | with_reducible assumption | (simp (maxDischargeDepth := 7) [go_sem]; done) | (simp (maxDischargeDepth := 7) [go_sem, *]; done))
        try have hg2_1 : ∀ o, w2.frozen? ⟨w.heap.size + 1, o, none⟩ = false := by intro o; rw [hb]; first | (simp (maxDischargeDepth := 7) [go_sem]; done) | (simp (maxDischargeDepth := 7) [go_sem, *]; done)
        clear ha hb
        refine kuz (b := w.heap.size + 2) hk2 (by first | (simp; done) | (simp; omega) | omega) ?_
        intro ha hb hz2_2 hn2_2 hm2_2
        have hf2_2_0 : w2.cell? ⟨w.heap.size + 2, 0, none⟩ = some (.int .i64 0) := (ha _).trans (by first | with_reducible assumption | (simp (maxDischargeDepth := 7) [go_sem]; done) | (simp (maxDischargeDepth := 7) [go_sem, *]; done))
        have hf2_2_1 : w2.cell? ⟨w.heap.size + 2, 1, none⟩ = some (.int .i64 0) := (ha _).trans (by first | with_reducible assumption | (simp (maxDischargeDepth := 7) [go_sem]; done) | (simp (maxDischargeDepth := 7) [go_sem, *]; done))
        try have hg2_2 : ∀ o, w2.frozen? ⟨w.heap.size + 2, o, none⟩ = false := by intro o; rw [hb]; first | (simp (maxDischargeDepth := 7) [go_sem]; done) | (simp (maxDischargeDepth := 7) [go_sem, *]; done)
        clear ha hb
        (try clear hf1_0_0); (try clear hf1_0_1); (try clear hf1_1_0); (try clear hf1_1_1); (try clear hf1_2_0); (try clear hf1_2_1); (try clear hg1_0); (try clear hg1_1); (try clear hg1_2); (try clear hz1_1); (try clear hz1_2)
        go_wp2_with fail
        have B0 : OwnB w2 (w.heap.size) [.int .i64 aX, .int .i64 aY] := ⟨hz2_0, hg2_0, hf2_0_0, hf2_0_1, trivial⟩
        have HB0_0 := Lib.hid B0
        clear B0
        have B1 : OwnB w2 (w.heap.size + 1) [.int .i64 dX, .int .i64 dY] := ⟨hz2_1, hg2_1, hf2_1_0, hf2_1_1, trivial⟩
        have HB0_1 := Lib.hid B1
        clear B1
        have B2 : OwnB w2 (w.heap.size + 2) [.int .i64 0, .int .i64 0] := ⟨hz2_2, hg2_2, hf2_2_0, hf2_2_1, trivial⟩
        have HB0_2 := Lib.hid B2
        clear B2
        go_upto_region 7 with (fail)
        go_cut [13] (fun p0 wx => ∃ b0 : Nat, p0 = .pointer (some ⟨b0, 0, none⟩) ∧ w.heap.size + 1 + 1 < b0 ∧ OwnB wx (b0) [.int .i64 (sat (aX + X)), .int .i64 (sat (aY + Y))] ∧ OwnB wx (w.heap.size) [.int .i64 aX, .int .i64 aY] ∧ OwnB wx (w.heap.size + 1) [.int .i64 dX, .int .i64 dY] ∧ OwnB wx (w.heap.size + 2) [.int .i64 0, .int .i64 0] ∧ Kept w2 wx)
        case first =>
          go_region_held3 (fun W => W.cell? ⟨w.heap.size, 0, none⟩ = some (.int .i64 aX) ∧ W.cell? ⟨w.heap.size, 1, none⟩ = some (.int .i64 aY)) (first | (go_keep; done) | (simp (maxDischargeDepth := 9) [*, World.cell?_alloc_some, World.cell?_setCell_far]; done) | (simp (maxDischargeDepth := 9) [go_sem, *]; done)) (first | (go_at_call 113; with_reducible refine (add_w _ _ (by omega) (by omega) (by omega) (by omega) _).mono ?_; rintro e w' ⟨rfl, rfl⟩) | (go_at_call 113; with_reducible refine (add_w _ _ (by omega) (by omega) (by omega) (by omega) _).mono ?_; rintro e w' ⟨rfl, rfl⟩))
          all_goals (try go_wp2_with fail)
          all_goals (go_meet; case rel => refine (fun (hkx : Kept w2 _) => ⟨_, rfl, (by first | with_reducible assumption | omega | (simp; omega)), (by repeat (first | with_reducible exact own_alloc _ [.int .i64 (sat (aX + X)), .int .i64 (sat (aY + Y))] 28 | with_reducible exact own_alloc _ [.int .i64 0, .int .i64 0] 28 | ((with_reducible refine own_allocE _ [.int .i64 (sat (aX + X)), .int .i64 (sat (aY + Y))] 28 _ ?_); (simp; done)) | ((with_reducible refine own_allocE _ [.int .i64 0, .int .i64 0] 28 _ ?_); (simp; done)) | with_reducible refine own_set2 (us := [.int .i64 0, .int .i64 0]) ?_ rfl | with_reducible refine OwnB.other2 ?_ (by first | with_reducible assumption | omega | (simp; done) | (simp; omega)) | with_reducible refine OwnB.alloc ?_ _ | with_reducible refine OwnB.drew ?_ | with_reducible refine OwnB.drewN ?_ _ | with_reducible refine OwnB.kept (by with_reducible assumption) ?_)), OwnB.kept hkx HB0_0.out, OwnB.kept hkx HB0_1.out, OwnB.kept hkx HB0_2.out, hkx⟩) ?_; exact (by repeat (first | with_reducible exact Kept.refl _ | with_reducible assumption | with_reducible refine Kept.set12 ?_ (by first | with_reducible assumption | omega | (simp; done) | (simp; omega)) | with_reducible refine Kept.set11 ?_ (by first | with_reducible assumption | omega | (simp; done) | (simp; omega)) | with_reducible refine Kept.set10 ?_ (by first | with_reducible assumption | omega | (simp; done) | (simp; omega)) | with_reducible refine Kept.set9 ?_ (by first | with_reducible assumption | omega | (simp; done) | (simp; omega)) | with_reducible refine Kept.set8 ?_ (by first | with_reducible assumption | omega | (simp; done) | (simp; omega)) | with_reducible refine Kept.set7 ?_ (by first | with_reducible assumption | omega | (simp; done) | (simp; omega)) | with_reducible refine Kept.set6 ?_ (by first | with_reducible assumption | omega | (simp; done) | (simp; omega)) | with_reducible refine Kept.set5 ?_ (by first | with_reducible assumption | omega | (simp; done) | (simp; omega)) | with_reducible refine Kept.set4 ?_ (by first | with_reducible assumption | omega | (simp; done) | (simp; omega)) | with_reducible refine Kept.set3 ?_ (by first | with_reducible assumption | omega | (simp; done) | (simp; omega)) | with_reducible refine Kept.set2 ?_ (by first | with_reducible assumption | omega | (simp; done) | (simp; omega)) | with_reducible refine Kept.setCell ?_ (by first | with_reducible assumption | omega | (simp; done) | (simp; omega)) _ | with_reducible refine Kept.alloc ?_ _ | with_reducible refine Kept.drewN ?_ _ | with_reducible refine Kept.drew ?_ | with_reducible refine Kept.trans ?_ (by with_reducible assumption) | with_reducible refine Kept.dr ?_ (by with_reducible assumption))))
        case rest =>
        obtain ⟨b1_0, rfl, lt1_0, O1_0, O1_1, O1_2, O1_3, hkc1⟩ := hcut
        obtain ⟨hz_c1_0, hg_c1_0, hf_c1_0_0, hf_c1_0_1, _⟩ := O1_0
        obtain ⟨hz_c1_1, hg_c1_1, hf_c1_1_0, hf_c1_1_1, _⟩ := O1_1
        obtain ⟨hz_c1_2, hg_c1_2, hf_c1_2_0, hf_c1_2_1, _⟩ := O1_2
        obtain ⟨hz_c1_3, hg_c1_3, hf_c1_3_0, hf_c1_3_1, _⟩ := O1_3
        (try clear hf2_0_0); (try clear hf2_0_1); (try clear hf2_1_0); (try clear hf2_1_1); (try clear hf2_2_0); (try clear hf2_2_1); (try clear hg2_0); (try clear hg2_1); (try clear hg2_2); (try clear hz2_1); (try clear hz2_2)
        go_wp2_with fail
        with_reducible refine (pv_bad _ _ hp _).mono ?_
        rintro e w3 ⟨rfl, hk3⟩
        refine kuz (b := b1_0) hk3 (by first | (simp; done) | (simp; omega) | omega) ?_
        intro ha hb hz3_0 hn3_0 hm3_0
        have hf3_0_0 : w3.cell? ⟨b1_0, 0, none⟩ = some (.int .i64 (sat (aX + X))) := (ha _).trans (by first | with_reducible assumption | (simp (maxDischargeDepth := 7) [go_sem]; done) | (simp (maxDischargeDepth := 7) [go_sem, *]; done))
        have hf3_0_1 : w3.cell? ⟨b1_0, 1, none⟩ = some (.int .i64 (sat (aY + Y))) := (ha _).trans (by first | with_reducible assumption | (simp (maxDischargeDepth := 7) [go_sem]; done) | (simp (maxDischargeDepth := 7) [go_sem, *]; done))
        try have hg3_0 : ∀ o, w3.frozen? ⟨b1_0, o, none⟩ = false := by intro o; rw [hb]; first | (simp (maxDischargeDepth := 7) [go_sem]; done) | (simp (maxDischargeDepth := 7) [go_sem, *]; done)
        clear ha hb
        refine kuz (b := w.heap.size) hk3 (by first | (simp; done) | (simp; omega) | omega) ?_
        intro ha hb hz3_1 hn3_1 hm3_1
        have hf3_1_0 : w3.cell? ⟨w.heap.size, 0, none⟩ = some (.int .i64 aX) := (ha _).trans (by first | with_reducible assumption | (simp (maxDischargeDepth := 7) [go_sem]; done) | (simp (maxDischargeDepth := 7) [go_sem, *]; done))
        have hf3_1_1 : w3.cell? ⟨w.heap.size, 1, none⟩ = some (.int .i64 aY) := (ha _).trans (by first | with_reducible assumption | (simp (maxDischargeDepth := 7) [go_sem]; done) | (simp (maxDischargeDepth := 7) [go_sem, *]; done))
        try have hg3_1 : ∀ o, w3.frozen? ⟨w.heap.size, o, none⟩ = false := by intro o; rw [hb]; first | (simp (maxDischargeDepth := 7) [go_sem]; done) | (simp (maxDischargeDepth := 7) [go_sem, *]; done)
        clear ha hb
        refine kuz (b := w.heap.size + 1) hk3 (by first | (simp; done) | (simp; omega) | omega) ?_
        intro ha hb hz3_2 hn3_2 hm3_2
        have hf3_2_0 : w3.cell? ⟨w.heap.size + 1, 0, none⟩ = some (.int .i64 dX) := (ha _).trans (by first | with_reducible assumption | (simp (maxDischargeDepth := 7) [go_sem]; done) | (simp (maxDischargeDepth := 7) [go_sem, *]; done))
        have hf3_2_1 : w3.cell? ⟨w.heap.size + 1, 1, none⟩ = some (.int .i64 dY) := (ha _).trans (by first | with_reducible assumption | (simp (maxDischargeDepth := 7) [go_sem]; done) | (simp (maxDischargeDepth := 7) [go_sem, *]; done))
        try have hg3_2 : ∀ o, w3.frozen? ⟨w.heap.size + 1, o, none⟩ = false := by intro o; rw [hb]; first | (simp (maxDischargeDepth := 7) [go_sem]; done) | (simp (maxDischargeDepth := 7) [go_sem, *]; done)
        clear ha hb
        refine kuz (b := w.heap.size + 2) hk3 (by first | (simp; done) | (simp; omega) | omega) ?_
        intro ha hb hz3_3 hn3_3 hm3_3
        have hf3_3_0 : w3.cell? ⟨w.heap.size + 2, 0, none⟩ = some (.int .i64 0) := (ha _).trans (by first | with_reducible assumption | (simp (maxDischargeDepth := 7) [go_sem]; done) | (simp (maxDischargeDepth := 7) [go_sem, *]; done))
        have hf3_3_1 : w3.cell? ⟨w.heap.size + 2, 1, none⟩ = some (.int .i64 0) := (ha _).trans (by first | with_reducible assumption | (simp (maxDischargeDepth := 7) [go_sem]; done) | (simp (maxDischargeDepth := 7) [go_sem, *]; done))
        try have hg3_3 : ∀ o, w3.frozen? ⟨w.heap.size + 2, o, none⟩ = false := by intro o; rw [hb]; first | (simp (maxDischargeDepth := 7) [go_sem]; done) | (simp (maxDischargeDepth := 7) [go_sem, *]; done)
        clear ha hb
        (try clear hf_c1_0_0); (try clear hf_c1_0_1); (try clear hf_c1_1_0); (try clear hf_c1_1_1); (try clear hf_c1_2_0); (try clear hf_c1_2_1); (try clear hf_c1_3_0); (try clear hf_c1_3_1); (try clear hg_c1_0); (try clear hg_c1_1); (try clear hg_c1_2); (try clear hg_c1_3)
        go_wp2_with fail
        all_goals exact bodyPost_ret (v := .tuple #[.agg #[.int .i64 0, .int .i64 0], .int .i64 2]) (by first | (simp [results, Try.results90, go_sem]; done) | (simp (maxDischargeDepth := 7) [results, Try.results90, go_sem, *]; done)) rfl ⟨rfl, (by repeat (first | with_reducible exact Kept.refl _ | with_reducible assumption | with_reducible refine Kept.setCell ?_ (by first | (simp; done) | (simp; omega) | omega) _ | with_reducible refine Kept.alloc ?_ _ | with_reducible refine Kept.drewN ?_ _ | with_reducible refine Kept.drew ?_ | with_reducible refine Kept.trans ?_ (by with_reducible assumption) | with_reducible refine Kept.dr ?_ (by with_reducible assumption)))⟩
    · have e0 : mvE aX aY dX dY n d = 2 := by unfold mvE; rw [hEX, hEY, hX, hY]; simp [c1, c2]
      rw [(mv_bad e0).1, (mv_bad e0).2, e0]
      clear e0 hX hY hEX hEY
      subst c1
      have M1 := Lib.hid m1; have M2 := Lib.hid m2
      clear m1 m2
      go_enter Try.func90, Try.ntmps90
      go_wp2_with fail
      with_reducible refine (M1.out _).mono ?_
      rintro e w1 ⟨rfl, hk1⟩
      refine kuz (b := w.heap.size) hk1 (by first | (simp; done) | (simp; omega) | omega) ?_
      intro ha hb hz1_0 hn1_0 hm1_0
      have hf1_0_0 : w1.cell? ⟨w.heap.size, 0, none⟩ = some (.int .i64 aX) := (ha _).trans (by first | with_reducible assumption | (simp (maxDischargeDepth := 7) [go_sem]; done) | (simp (maxDischargeDepth := 7) [go_sem, *]; done))
      have hf1_0_1 : w1.cell? ⟨w.heap.size, 1, none⟩ = some (.int .i64 aY) := (ha _).trans (by first | with_reducible assumption | (simp (maxDischargeDepth := 7) [go_sem]; done) | (simp (maxDischargeDepth := 7) [go_sem, *]; done))
      try have hg1_0 : ∀ o, w1.frozen? ⟨w.heap.size, o, none⟩ = false := by intro o; rw [hb]; first | (simp (maxDischargeDepth := 7) [go_sem]; done) | (simp (maxDischargeDepth := 7) [go_sem, *]; done)
      clear ha hb
      refine kuz (b := w.heap.size + 1) hk1 (by first | (simp; done) | (simp; omega) | omega) ?_
      intro ha hb hz1_1 hn1_1 hm1_1
      have hf1_1_0 : w1.cell? ⟨w.heap.size + 1, 0, none⟩ = some (.int .i64 dX) := (ha _).trans (by first | with_reducible assumption | (simp (maxDischargeDepth := 7) [go_sem]; done) | (simp (maxDischargeDepth := 7) [go_sem, *]; done))
      have hf1_1_1 : w1.cell? ⟨w.heap.size + 1, 1, none⟩ = some (.int .i64 dY) := (ha _).trans (by first | with_reducible assumption | (simp (maxDischargeDepth := 7) [go_sem]; done) | (simp (maxDischargeDepth := 7) [go_sem, *]; done))
      try have hg1_1 : ∀ o, w1.frozen? ⟨w.heap.size + 1, o, none⟩ = false := by intro o; rw [hb]; first | (simp (maxDischargeDepth := 7) [go_sem]; done) | (simp (maxDischargeDepth := 7) [go_sem, *]; done)
      clear ha hb
      refine kuz (b := w.heap.size + 2) hk1 (by first | (simp; done) | (simp; omega) | omega) ?_
      intro ha hb hz1_2 hn1_2 hm1_2
      have hf1_2_0 : w1.cell? ⟨w.heap.size + 2, 0, none⟩ = some (.int .i64 0) := (ha _).trans (by first | with_reducible assumption | (simp (maxDischargeDepth := 7) [go_sem]; done) | (simp (maxDischargeDepth := 7) [go_sem, *]; done))
      have hf1_2_1 : w1.cell? ⟨w.heap.size + 2, 1, none⟩ = some (.int .i64 0) := (ha _).trans (by first | with_reducible assumption | (simp (maxDischargeDepth := 7) [go_sem]; done) | (simp (maxDischargeDepth := 7) [go_sem, *]; done))
      try have hg1_2 : ∀ o, w1.frozen? ⟨w.heap.size + 2, o, none⟩ = false := by intro o; rw [hb]; first | (simp (maxDischargeDepth := 7) [go_sem]; done) | (simp (maxDischargeDepth := 7) [go_sem, *]; done)
      clear ha hb
      go_wp2_with fail
      with_reducible refine (M2.out _).mono ?_
      rintro e w2 ⟨rfl, hk2⟩
      refine kuz (b := w.heap.size) hk2 (by first | (simp; done) | (simp; omega) | omega) ?_
      intro ha hb hz2_0 hn2_0 hm2_0
      have hf2_0_0 : w2.cell? ⟨w.heap.size, 0, none⟩ = some (.int .i64 aX) := (ha _).trans (by first | with_reducible assumption | (simp (maxDischargeDepth := 7) [go_sem]; done) | (simp (maxDischargeDepth := 7) [go_sem, *]; done))
      have hf2_0_1 : w2.cell? ⟨w.heap.size, 1, none⟩ = some (.int .i64 aY) := (ha _).trans (by first | with_reducible assumption | (simp (maxDischargeDepth := 7) [go_sem]; done) | (simp (maxDischargeDepth := 7) [go_sem, *]; done))
      try have hg2_0 : ∀ o, w2.frozen? ⟨w.heap.size, o, none⟩ = false := by intro o; rw [hb]; first | (simp (maxDischargeDepth := 7) [go_sem]; done) | (simp (maxDischargeDepth := 7) [go_sem, *]; done)
      clear ha hb
      refine kuz (b := w.heap.size + 1) hk2 (by first | (simp; done) | (simp; omega) | omega) ?_
      intro ha hb hz2_1 hn2_1 hm2_1
      have hf2_1_0 : w2.cell? ⟨w.heap.size + 1, 0, none⟩ = some (.int .i64 dX) := (ha _).trans (by first | with_reducible assumption | (simp (maxDischargeDepth := 7) [go_sem]; done) | (simp (maxDischargeDepth := 7) [go_sem, *]; done))
      have hf2_1_1 : w2.cell? ⟨w.heap.size + 1, 1, none⟩ = some (.int .i64 dY) := (ha _).trans (by first | with_reducible assumption | (simp (maxDischargeDepth := 7) [go_sem]; done) | (simp (maxDischargeDepth := 7) [go_sem, *]; done))
      try have hg2_1 : ∀ o, w2.frozen? ⟨w.heap.size + 1, o, none⟩ = false := by intro o; rw [hb]; first | (simp (maxDischargeDepth := 7) [go_sem]; done) | (simp (maxDischargeDepth := 7) [go_sem, *]; done)
      clear ha hb
      refine kuz (b := w.heap.size + 2) hk2 (by first | (simp; done) | (simp; omega) | omega) ?_
      intro ha hb hz2_2 hn2_2 hm2_2
      have hf2_2_0 : w2.cell? ⟨w.heap.size + 2, 0, none⟩ = some (.int .i64 0) := (ha _).trans (by first | with_reducible assumption | (simp (maxDischargeDepth := 7) [go_sem]; done) | (simp (maxDischargeDepth := 7) [go_sem, *]; done))
      have hf2_2_1 : w2.cell? ⟨w.heap.size + 2, 1, none⟩ = some (.int .i64 0) := (ha _).trans (by first | with_reducible assumption | (simp (maxDischargeDepth := 7) [go_sem]; done) | (simp (maxDischargeDepth := 7) [go_sem, *]; done))
      try have hg2_2 : ∀ o, w2.frozen? ⟨w.heap.size + 2, o, none⟩ = false := by intro o; rw [hb]; first | (simp (maxDischargeDepth := 7) [go_sem]; done) | (simp (maxDischargeDepth := 7) [go_sem, *]; done)
      clear ha hb
      (try clear hf1_0_0); (try clear hf1_0_1); (try clear hf1_1_0); (try clear hf1_1_1); (try clear hf1_2_0); (try clear hf1_2_1); (try clear hg1_0); (try clear hg1_1); (try clear hg1_2); (try clear hz1_1); (try clear hz1_2)
      go_wp2_with fail
      all_goals exact bodyPost_ret (v := .tuple #[.agg #[.int .i64 0, .int .i64 0], .int .i64 2]) (by first | (simp [results, Try.results90, go_sem]; done) | (simp (maxDischargeDepth := 7) [results, Try.results90, go_sem, *]; done)) rfl ⟨rfl, (by repeat (first | with_reducible exact Kept.refl _ | with_reducible assumption | with_reducible refine Kept.setCell ?_ (by first | (simp; done) | (simp; omega) | omega) _ | with_reducible refine Kept.alloc ?_ _ | with_reducible refine Kept.drewN ?_ _ | with_reducible refine Kept.drew ?_ | with_reducible refine Kept.trans ?_ (by with_reducible assumption) | with_reducible refine Kept.dr ?_ (by with_reducible assumption)))⟩
  · have e0 : mvE aX aY dX dY n d = 2 := by unfold mvE; rw [hEX, hEY, hX, hY]; simp [c1]
    rw [(mv_bad e0).1, (mv_bad e0).2, e0]
    clear e0 hX hY hEX hEY
    have M1 := Lib.hid m1; have M2 := Lib.hid m2
    clear m1 m2
    go_enter Try.func90, Try.ntmps90
    go_wp2_with fail
    with_reducible refine (M1.out _).mono ?_
    rintro e w1 ⟨rfl, hk1⟩
    refine kuz (b := w.heap.size) hk1 (by first | (simp; done) | (simp; omega) | omega) ?_
    intro ha hb hz1_0 hn1_0 hm1_0
    have hf1_0_0 : w1.cell? ⟨w.heap.size, 0, none⟩ = some (.int .i64 aX) := (ha _).trans (by first | with_reducible assumption | (simp (maxDischargeDepth := 7) [go_sem]; done) | (simp (maxDischargeDepth := 7) [go_sem, *]; done))
    have hf1_0_1 : w1.cell? ⟨w.heap.size, 1, none⟩ = some (.int .i64 aY) := (ha _).trans (by first | with_reducible assumption | (simp (maxDischargeDepth := 7) [go_sem]; done) | (simp (maxDischargeDepth := 7) [go_sem, *]; done))
    try have hg1_0 : ∀ o, w1.frozen? ⟨w.heap.size, o, none⟩ = false := by intro o; rw [hb]; first | (simp (maxDischargeDepth := 7) [go_sem]; done) | (simp (maxDischargeDepth := 7) [go_sem, *]; done)
    clear ha hb
    refine kuz (b := w.heap.size + 1) hk1 (by first | (simp; done) | (simp; omega) | omega) ?_
    intro ha hb hz1_1 hn1_1 hm1_1
    have hf1_1_0 : w1.cell? ⟨w.heap.size + 1, 0, none⟩ = some (.int .i64 dX) := (ha _).trans (by first | with_reducible assumption | (simp (maxDischargeDepth := 7) [go_sem]; done) | (simp (maxDischargeDepth := 7) [go_sem, *]; done))
    have hf1_1_1 : w1.cell? ⟨w.heap.size + 1, 1, none⟩ = some (.int .i64 dY) := (ha _).trans (by first | with_reducible assumption | (simp (maxDischargeDepth := 7) [go_sem]; done) | (simp (maxDischargeDepth := 7) [go_sem, *]; done))
    try have hg1_1 : ∀ o, w1.frozen? ⟨w.heap.size + 1, o, none⟩ = false := by intro o; rw [hb]; first | (simp (maxDischargeDepth := 7) [go_sem]; done) | (simp (maxDischargeDepth := 7) [go_sem, *]; done)
    clear ha hb
    refine kuz (b := w.heap.size + 2) hk1 (by first | (simp; done) | (simp; omega) | omega) ?_
    intro ha hb hz1_2 hn1_2 hm1_2
    have hf1_2_0 : w1.cell? ⟨w.heap.size + 2, 0, none⟩ = some (.int .i64 0) := (ha _).trans (by first | with_reducible assumption | (simp (maxDischargeDepth := 7) [go_sem]; done) | (simp (maxDischargeDepth := 7) [go_sem, *]; done))
    have hf1_2_1 : w1.cell? ⟨w.heap.size + 2, 1, none⟩ = some (.int .i64 0) := (ha _).trans (by first | with_reducible assumption | (simp (maxDischargeDepth := 7) [go_sem]; done) | (simp (maxDischargeDepth := 7) [go_sem, *]; done))
    try have hg1_2 : ∀ o, w1.frozen? ⟨w.heap.size + 2, o, none⟩ = false := by intro o; rw [hb]; first | (simp (maxDischargeDepth := 7) [go_sem]; done) | (simp (maxDischargeDepth := 7) [go_sem, *]; done)
    clear ha hb
    go_wp2_with fail
    all_goals exact bodyPost_ret (v := .tuple #[.agg #[.int .i64 0, .int .i64 0], .int .i64 2]) (by first | (simp [results, Try.results90, go_sem]; done) | (simp (maxDischargeDepth := 7) [results, Try.results90, go_sem, *]; done)) rfl ⟨rfl, (by repeat (first | with_reducible exact Kept.refl _ | with_reducible assumption | with_reducible refine Kept.setCell ?_ (by first | (simp; done) | (simp; omega) | omega) _ | with_reducible refine Kept.alloc ?_ _ | with_reducible refine Kept.drewN ?_ _ | with_reducible refine Kept.drew ?_ | with_reducible refine Kept.trans ?_ (by with_reducible assumption) | with_reducible refine Kept.dr ?_ (by with_reducible assumption)))⟩

end Go.Proofs.Ytfnhnlnofglkoaa
