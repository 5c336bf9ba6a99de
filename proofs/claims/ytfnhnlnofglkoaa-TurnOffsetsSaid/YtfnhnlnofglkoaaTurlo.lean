/-
  Own contracts: package line and the document's answers of layer 11: the law TurnOffsets.
-/
import Derived.Test.YtfnhnlnofglkoaaTure
import Derived.Test.YtfnhnlnofglkoaaTurbor
import Derived.WalkKit
import Derived.ProofKit
import Derived.OpenShut
import Derived.WalkLawsBesides
import Derived.WalkSpells
import Derived.Lib.Hide
import Derived.Deep.DeepCutAuto
import Derived.Deep.CutBlock
import Derived.Deep.QuietTactic
import Derived.BigQuiet
import Derived.Handy
import Derived.StillTailTactics
import Derived.IntWalk
import Derived.LoopN
import Derived.Deep.RegionHeld3
namespace Go.Proofs.Ytfnhnlnofglkoaa
open Go.ChangeShapes Go.WideShapes Go.ChangeAt Go.RowKit
set_option linter.unusedVariables false
set_option linter.unusedSimpArgs false
set_option maxHeartbeats 4000000 in
set_option maxRecDepth 100000 in
theorem law_offsets (cX cY r fr sw pX pY : Int) (cX_0 : -9223372036854775808 ≤ cX) (cX_1 : cX ≤ 9223372036854775807) (cY_0 : -9223372036854775808 ≤ cY) (cY_1 : cY ≤ 9223372036854775807) (r_0 : -9223372036854775808 ≤ r) (r_1 : r ≤ 9223372036854775807) (fr_0 : -9223372036854775808 ≤ fr) (fr_1 : fr ≤ 9223372036854775807) (sw_0 : -9223372036854775808 ≤ sw) (sw_1 : sw ≤ 9223372036854775807) (pX_0 : -9223372036854775808 ≤ pX) (pX_1 : pX ≤ 9223372036854775807) (pY_0 : -9223372036854775808 ≤ pY) (pY_1 : pY ≤ 9223372036854775807) (w : World) : Calls Try.prog 7 #[.agg #[.int .i64 cX, .int .i64 cY, .int .i64 r, .int .i64 fr, .int .i64 sw], .agg #[.int .i64 pX, .int .i64 pY]] w fun e w' => e = .returned (.bool true) ∧ Kept w w' := by
  cases ha : arB cX cY r fr sw
  · go_enter Try.func7, Try.ntmps7
    go_wp2_with fail
    with_reducible refine (awake_w _).mono ?_
    rintro e w1 ⟨rfl, hk1⟩
    refine kuz (b := w.heap.size) hk1 (by first | (simp; done) | (simp; omega) | omega) ?_
    intro ha hb hz1_0 hn1_0 hm1_0
    have hf1_0_0 : w1.cell? ⟨w.heap.size, 0, none⟩ = some (.int .i64 cX) := (ha _).trans (by first | with_reducible assumption | (simp (maxDischargeDepth := 7) [go_sem]; done) | (simp (maxDischargeDepth := 7) [go_sem, *]; done))
    have hf1_0_1 : w1.cell? ⟨w.heap.size, 1, none⟩ = some (.int .i64 cY) := (ha _).trans (by first | with_reducible assumption | (simp (maxDischargeDepth := 7) [go_sem]; done) | (simp (maxDischargeDepth := 7) [go_sem, *]; done))
    have hf1_0_2 : w1.cell? ⟨w.heap.size, 2, none⟩ = some (.int .i64 r) := (ha _).trans (by first | with_reducible assumption | (simp (maxDischargeDepth := 7) [go_sem]; done) | (simp (maxDischargeDepth := 7) [go_sem, *]; done))
    have hf1_0_3 : w1.cell? ⟨w.heap.size, 3, none⟩ = some (.int .i64 fr) := (ha _).trans (by first | with_reducible assumption | (simp (maxDischargeDepth := 7) [go_sem]; done) | (simp (maxDischargeDepth := 7) [go_sem, *]; done))
    have hf1_0_4 : w1.cell? ⟨w.heap.size, 4, none⟩ = some (.int .i64 sw) := (ha _).trans (by first | with_reducible assumption | (simp (maxDischargeDepth := 7) [go_sem]; done) | (simp (maxDischargeDepth := 7) [go_sem, *]; done))
    try have hg1_0 : ∀ o, w1.frozen? ⟨w.heap.size, o, none⟩ = false := by intro o; rw [hb]; first | (simp (maxDischargeDepth := 7) [go_sem]; done) | (simp (maxDischargeDepth := 7) [go_sem, *]; done)
    clear ha hb
    refine kuz (b := w.heap.size + 1) hk1 (by first | (simp; done) | (simp; omega) | omega) ?_
    intro ha hb hz1_1 hn1_1 hm1_1
    have hf1_1_0 : w1.cell? ⟨w.heap.size + 1, 0, none⟩ = some (.int .i64 pX) := (ha _).trans (by first | with_reducible assumption | (simp (maxDischargeDepth := 7) [go_sem]; done) | (simp (maxDischargeDepth := 7) [go_sem, *]; done))
    have hf1_1_1 : w1.cell? ⟨w.heap.size + 1, 1, none⟩ = some (.int .i64 pY) := (ha _).trans (by first | with_reducible assumption | (simp (maxDischargeDepth := 7) [go_sem]; done) | (simp (maxDischargeDepth := 7) [go_sem, *]; done))
    try have hg1_1 : ∀ o, w1.frozen? ⟨w.heap.size + 1, o, none⟩ = false := by intro o; rw [hb]; first | (simp (maxDischargeDepth := 7) [go_sem]; done) | (simp (maxDischargeDepth := 7) [go_sem, *]; done)
    clear ha hb
    go_wp2_with fail
    with_reducible refine (toffset_bad cX cY r fr sw pX pY ha _).mono ?_
    rintro e w2 ⟨rfl, hk2⟩
    refine kuz (b := w.heap.size) hk2 (by first | (simp; done) | (simp; omega) | omega) ?_
    intro ha hb hz2_0 hn2_0 hm2_0
    have hf2_0_0 : w2.cell? ⟨w.heap.size, 0, none⟩ = some (.int .i64 cX) := (ha _).trans (by first | with_reducible assumption | (simp (maxDischargeDepth := 7) [go_sem]; done) | (simp (maxDischargeDepth := 7) [go_sem, *]; done))
    have hf2_0_1 : w2.cell? ⟨w.heap.size, 1, none⟩ = some (.int .i64 cY) := (ha _).trans (by first | with_reducible assumption | (simp (maxDischargeDepth := 7) [go_sem]; done) | (simp (maxDischargeDepth := 7) [go_sem, *]; done))
    have hf2_0_2 : w2.cell? ⟨w.heap.size, 2, none⟩ = some (.int .i64 r) := (ha _).trans (by first | with_reducible assumption | (simp (maxDischargeDepth := 7) [go_sem]; done) | (simp (maxDischargeDepth := 7) [go_sem, *]; done))
    have hf2_0_3 : w2.cell? ⟨w.heap.size, 3, none⟩ = some (.int .i64 fr) := (ha _).trans (by first | with_reducible assumption | (simp (maxDischargeDepth := 7) [go_sem]; done) | (simp (maxDischargeDepth := 7) [go_sem, *]; done))
    have hf2_0_4 : w2.cell? ⟨w.heap.size, 4, none⟩ = some (.int .i64 sw) := (ha _).trans (by first | with_reducible assumption | (simp (maxDischargeDepth := 7) [go_sem]; done) | (simp (maxDischargeDepth := 7) [go_sem, *]; done))
    try have hg2_0 : ∀ o, w2.frozen? ⟨w.heap.size, o, none⟩ = false := by intro o; rw [hb]; first | (simp (maxDischargeDepth := 7) [go_sem]; done) | (simp (maxDischargeDepth := 7) [go_sem, *]; done)
    clear ha hb
    refine kuz (b := w.heap.size + 1) hk2 (by first | (simp; done) | (simp; omega) | omega) ?_
    intro ha hb hz2_1 hn2_1 hm2_1
    have hf2_1_0 : w2.cell? ⟨w.heap.size + 1, 0, none⟩ = some (.int .i64 pX) := (ha _).trans (by first | with_reducible assumption | (simp (maxDischargeDepth := 7) [go_sem]; done) | (simp (maxDischargeDepth := 7) [go_sem, *]; done))
    have hf2_1_1 : w2.cell? ⟨w.heap.size + 1, 1, none⟩ = some (.int .i64 pY) := (ha _).trans (by first | with_reducible assumption | (simp (maxDischargeDepth := 7) [go_sem]; done) | (simp (maxDischargeDepth := 7) [go_sem, *]; done))
    try have hg2_1 : ∀ o, w2.frozen? ⟨w.heap.size + 1, o, none⟩ = false := by intro o; rw [hb]; first | (simp (maxDischargeDepth := 7) [go_sem]; done) | (simp (maxDischargeDepth := 7) [go_sem, *]; done)
    clear ha hb
    (try clear hf1_0_0); (try clear hf1_0_1); (try clear hf1_0_2); (try clear hf1_0_3); (try clear hf1_0_4); (try clear hf1_1_0); (try clear hf1_1_1); (try clear hg1_0); (try clear hg1_1); (try clear hz1_1)
    go_wp2_with fail
    with_reducible refine (ref_toffset_bad cX cY r fr sw pX pY ha _).mono ?_
    rintro e w3 ⟨rfl, hk3⟩
    refine kuz (b := w.heap.size) hk3 (by first | (simp; done) | (simp; omega) | omega) ?_
    intro ha hb hz3_0 hn3_0 hm3_0
    have hf3_0_0 : w3.cell? ⟨w.heap.size, 0, none⟩ = some (.int .i64 cX) := (ha _).trans (by first | with_reducible assumption | (simp (maxDischargeDepth := 7) [go_sem]; done) | (simp (maxDischargeDepth := 7) [go_sem, *]; done))
    have hf3_0_1 : w3.cell? ⟨w.heap.size, 1, none⟩ = some (.int .i64 cY) := (ha _).trans (by first | with_reducible assumption | (simp (maxDischargeDepth := 7) [go_sem]; done) | (simp (maxDischargeDepth := 7) [go_sem, *]; done))
    have hf3_0_2 : w3.cell? ⟨w.heap.size, 2, none⟩ = some (.int .i64 r) := (ha _).trans (by first | with_reducible assumption | (simp (maxDischargeDepth := 7) [go_sem]; done) | (simp (maxDischargeDepth := 7) [go_sem, *]; done))
    have hf3_0_3 : w3.cell? ⟨w.heap.size, 3, none⟩ = some (.int .i64 fr) := (ha _).trans (by first | with_reducible assumption | (simp (maxDischargeDepth := 7) [go_sem]; done) | (simp (maxDischargeDepth := 7) [go_sem, *]; done))
    have hf3_0_4 : w3.cell? ⟨w.heap.size, 4, none⟩ = some (.int .i64 sw) := (ha _).trans (by first | with_reducible assumption | (simp (maxDischargeDepth := 7) [go_sem]; done) | (simp (maxDischargeDepth := 7) [go_sem, *]; done))
    try have hg3_0 : ∀ o, w3.frozen? ⟨w.heap.size, o, none⟩ = false := by intro o; rw [hb]; first | (simp (maxDischargeDepth := 7) [go_sem]; done) | (simp (maxDischargeDepth := 7) [go_sem, *]; done)
    clear ha hb
    refine kuz (b := w.heap.size + 1) hk3 (by first | (simp; done) | (simp; omega) | omega) ?_
    intro ha hb hz3_1 hn3_1 hm3_1
    have hf3_1_0 : w3.cell? ⟨w.heap.size + 1, 0, none⟩ = some (.int .i64 pX) := (ha _).trans (by first | with_reducible assumption | (simp (maxDischargeDepth := 7) [go_sem]; done) | (simp (maxDischargeDepth := 7) [go_sem, *]; done))
    have hf3_1_1 : w3.cell? ⟨w.heap.size + 1, 1, none⟩ = some (.int .i64 pY) := (ha _).trans (by first | with_reducible assumption | (simp (maxDischargeDepth := 7) [go_sem]; done) | (simp (maxDischargeDepth := 7) [go_sem, *]; done))
    try have hg3_1 : ∀ o, w3.frozen? ⟨w.heap.size + 1, o, none⟩ = false := by intro o; rw [hb]; first | (simp (maxDischargeDepth := 7) [go_sem]; done) | (simp (maxDischargeDepth := 7) [go_sem, *]; done)
    clear ha hb
    (try clear hf2_0_0); (try clear hf2_0_1); (try clear hf2_0_2); (try clear hf2_0_3); (try clear hf2_0_4); (try clear hf2_1_0); (try clear hf2_1_1); (try clear hg2_0); (try clear hg2_1); (try clear hz2_1)
    go_wp2_with fail
    all_goals first | (go_ret; refine ⟨?_, (by repeat (first | with_reducible exact Kept.refl _ | with_reducible assumption | with_reducible refine Kept.setCell ?_ (by first | (simp; done) | (simp; omega) | omega) _ | with_reducible refine Kept.alloc ?_ _ | with_reducible refine Kept.drewN ?_ _ | with_reducible refine Kept.drew ?_ | with_reducible refine Kept.trans ?_ (by with_reducible assumption) | with_reducible refine Kept.dr ?_ (by with_reducible assumption)))⟩; first | rfl | (refine retb ?_; simp; done) | (refine retb ?_; simp; omega)) | (exfalso; omega)
  · have hc := (ar_yes ha).1
    cases hp : pokB pX pY
    · have e : csE cX cY pX pY = 1 := csE_bad (Or.inr hp)
      have C1 := fun w => toffset_e cX cY r fr sw pX pY ha (by rw [e]; decide) w
      rw [e] at C1
      clear e
      have HC1 := Lib.hid C1
      clear C1
      go_enter Try.func7, Try.ntmps7
      go_wp2_with fail
      with_reducible refine (awake_w _).mono ?_
      rintro e w1 ⟨rfl, hk1⟩
      refine kuz (b := w.heap.size) hk1 (by first | (simp; done) | (simp; omega) | omega) ?_
      intro ha hb hz1_0 hn1_0 hm1_0
      have hf1_0_0 : w1.cell? ⟨w.heap.size, 0, none⟩ = some (.int .i64 cX) := (ha _).trans (by first | with_reducible assumption | (simp (maxDischargeDepth := 7) [go_sem]; done) | (simp (maxDischargeDepth := 7) [go_sem, *]; done))
      have hf1_0_1 : w1.cell? ⟨w.heap.size, 1, none⟩ = some (.int .i64 cY) := (ha _).trans (by first | with_reducible assumption | (simp (maxDischargeDepth := 7) [go_sem]; done) | (simp (maxDischargeDepth := 7) [go_sem, *]; done))
      have hf1_0_2 : w1.cell? ⟨w.heap.size, 2, none⟩ = some (.int .i64 r) := (ha _).trans (by first | with_reducible assumption | (simp (maxDischargeDepth := 7) [go_sem]; done) | (simp (maxDischargeDepth := 7) [go_sem, *]; done))
      have hf1_0_3 : w1.cell? ⟨w.heap.size, 3, none⟩ = some (.int .i64 fr) := (ha _).trans (by first | with_reducible assumption | (simp (maxDischargeDepth := 7) [go_sem]; done) | (simp (maxDischargeDepth := 7) [go_sem, *]; done))
      have hf1_0_4 : w1.cell? ⟨w.heap.size, 4, none⟩ = some (.int .i64 sw) := (ha _).trans (by first | with_reducible assumption | (simp (maxDischargeDepth := 7) [go_sem]; done) | (simp (maxDischargeDepth := 7) [go_sem, *]; done))
      try have hg1_0 : ∀ o, w1.frozen? ⟨w.heap.size, o, none⟩ = false := by intro o; rw [hb]; first | (simp (maxDischargeDepth := 7) [go_sem]; done) | (simp (maxDischargeDepth := 7) [go_sem, *]; done)
      clear ha hb
      refine kuz (b := w.heap.size + 1) hk1 (by first | (simp; done) | (simp; omega) | omega) ?_
      intro ha hb hz1_1 hn1_1 hm1_1
      have hf1_1_0 : w1.cell? ⟨w.heap.size + 1, 0, none⟩ = some (.int .i64 pX) := (ha _).trans (by first | with_reducible assumption | (simp (maxDischargeDepth := 7) [go_sem]; done) | (simp (maxDischargeDepth := 7) [go_sem, *]; done))
      have hf1_1_1 : w1.cell? ⟨w.heap.size + 1, 1, none⟩ = some (.int .i64 pY) := (ha _).trans (by first | with_reducible assumption | (simp (maxDischargeDepth := 7) [go_sem]; done) | (simp (maxDischargeDepth := 7) [go_sem, *]; done))
      try have hg1_1 : ∀ o, w1.frozen? ⟨w.heap.size + 1, o, none⟩ = false := by intro o; rw [hb]; first | (simp (maxDischargeDepth := 7) [go_sem]; done) | (simp (maxDischargeDepth := 7) [go_sem, *]; done)
      clear ha hb
      go_wp2_with fail
      with_reducible refine (HC1.out _).mono ?_
      rintro e w2 ⟨rfl, hk2⟩
      refine kuz (b := w.heap.size) hk2 (by first | (simp; done) | (simp; omega) | omega) ?_
      intro ha hb hz2_0 hn2_0 hm2_0
      have hf2_0_0 : w2.cell? ⟨w.heap.size, 0, none⟩ = some (.int .i64 cX) := (ha _).trans (by first | with_reducible assumption | (simp (maxDischargeDepth := 7) [go_sem]; done) | (simp (maxDischargeDepth := 7) [go_sem, *]; done))
      have hf2_0_1 : w2.cell? ⟨w.heap.size, 1, none⟩ = some (.int .i64 cY) := (ha _).trans (by first | with_reducible assumption | (simp (maxDischargeDepth := 7) [go_sem]; done) | (simp (maxDischargeDepth := 7) [go_sem, *]; done))
      have hf2_0_2 : w2.cell? ⟨w.heap.size, 2, none⟩ = some (.int .i64 r) := (ha _).trans (by first | with_reducible assumption | (simp (maxDischargeDepth := 7) [go_sem]; done) | (simp (maxDischargeDepth := 7) [go_sem, *]; done))
      have hf2_0_3 : w2.cell? ⟨w.heap.size, 3, none⟩ = some (.int .i64 fr) := (ha _).trans (by first | with_reducible assumption | (simp (maxDischargeDepth := 7) [go_sem]; done) | (simp (maxDischargeDepth := 7) [go_sem, *]; done))
      have hf2_0_4 : w2.cell? ⟨w.heap.size, 4, none⟩ = some (.int .i64 sw) := (ha _).trans (by first | with_reducible assumption | (simp (maxDischargeDepth := 7) [go_sem]; done) | (simp (maxDischargeDepth := 7) [go_sem, *]; done))
      try have hg2_0 : ∀ o, w2.frozen? ⟨w.heap.size, o, none⟩ = false := by intro o; rw [hb]; first | (simp (maxDischargeDepth := 7) [go_sem]; done) | (simp (maxDischargeDepth := 7) [go_sem, *]; done)
      clear ha hb
      refine kuz (b := w.heap.size + 1) hk2 (by first | (simp; done) | (simp; omega) | omega) ?_
      intro ha hb hz2_1 hn2_1 hm2_1
      have hf2_1_0 : w2.cell? ⟨w.heap.size + 1, 0, none⟩ = some (.int .i64 pX) := (ha _).trans (by first | with_reducible assumption | (simp (maxDischargeDepth := 7) [go_sem]; done) | (simp (maxDischargeDepth := 7) [go_sem, *]; done))
      have hf2_1_1 : w2.cell? ⟨w.heap.size + 1, 1, none⟩ = some (.int .i64 pY) := (ha _).trans (by first | with_reducible assumption | (simp (maxDischargeDepth := 7) [go_sem]; done) | (simp (maxDischargeDepth := 7) [go_sem, *]; done))
      try have hg2_1 : ∀ o, w2.frozen? ⟨w.heap.size + 1, o, none⟩ = false := by intro o; rw [hb]; first | (simp (maxDischargeDepth := 7) [go_sem]; done) | (simp (maxDischargeDepth := 7) [go_sem, *]; done)
      clear ha hb
      (try clear hf1_0_0); (try clear hf1_0_1); (try clear hf1_0_2); (try clear hf1_0_3); (try clear hf1_0_4); (try clear hf1_1_0); (try clear hf1_1_1); (try clear hg1_0); (try clear hg1_1); (try clear hz1_1)
      go_wp2_with fail
      with_reducible refine (ref_toffset_p cX cY r fr sw pX pY ha hp _).mono ?_
      rintro e w3 ⟨rfl, hk3⟩
      refine kuz (b := w.heap.size) hk3 (by first | (simp; done) | (simp; omega) | omega) ?_
      intro ha hb hz3_0 hn3_0 hm3_0
      have hf3_0_0 : w3.cell? ⟨w.heap.size, 0, none⟩ = some (.int .i64 cX) := (ha _).trans (by first | with_reducible assumption | (simp (maxDischargeDepth := 7) [go_sem]; done) | (simp (maxDischargeDepth := 7) [go_sem, *]; done))
      have hf3_0_1 : w3.cell? ⟨w.heap.size, 1, none⟩ = some (.int .i64 cY) := (ha _).trans (by first | with_reducible assumption | (simp (maxDischargeDepth := 7) [go_sem]; done) | (simp (maxDischargeDepth := 7) [go_sem, *]; done))
      have hf3_0_2 : w3.cell? ⟨w.heap.size, 2, none⟩ = some (.int .i64 r) := (ha _).trans (by first | with_reducible assumption | (simp (maxDischargeDepth := 7) [go_sem]; done) | (simp (maxDischargeDepth := 7) [go_sem, *]; done))
      have hf3_0_3 : w3.cell? ⟨w.heap.size, 3, none⟩ = some (.int .i64 fr) := (ha _).trans (by first | with_reducible assumption | (simp (maxDischargeDepth := 7) [go_sem]; done) | (simp (maxDischargeDepth := 7) [go_sem, *]; done))
      have hf3_0_4 : w3.cell? ⟨w.heap.size, 4, none⟩ = some (.int .i64 sw) := (ha _).trans (by first | with_reducible assumption | (simp (maxDischargeDepth := 7) [go_sem]; done) | (simp (maxDischargeDepth := 7) [go_sem, *]; done))
      try have hg3_0 : ∀ o, w3.frozen? ⟨w.heap.size, o, none⟩ = false := by intro o; rw [hb]; first | (simp (maxDischargeDepth := 7) [go_sem]; done) | (simp (maxDischargeDepth := 7) [go_sem, *]; done)
      clear ha hb
      refine kuz (b := w.heap.size + 1) hk3 (by first | (simp; done) | (simp; omega) | omega) ?_
      intro ha hb hz3_1 hn3_1 hm3_1
      have hf3_1_0 : w3.cell? ⟨w.heap.size + 1, 0, none⟩ = some (.int .i64 pX) := (ha _).trans (by first | with_reducible assumption | (simp (maxDischargeDepth := 7) [go_sem]; done) | (simp (maxDischargeDepth := 7) [go_sem, *]; done))
      have hf3_1_1 : w3.cell? ⟨w.heap.size + 1, 1, none⟩ = some (.int .i64 pY) := (ha _).trans (by first | with_reducible assumption | (simp (maxDischargeDepth := 7) [go_sem]; done) | (simp (maxDischargeDepth := 7) [go_sem, *]; done))
      try have hg3_1 : ∀ o, w3.frozen? ⟨w.heap.size + 1, o, none⟩ = false := by intro o; rw [hb]; first | (simp (maxDischargeDepth := 7) [go_sem]; done) | (simp (maxDischargeDepth := 7) [go_sem, *]; done)
      clear ha hb
      (try clear hf2_0_0); (try clear hf2_0_1); (try clear hf2_0_2); (try clear hf2_0_3); (try clear hf2_0_4); (try clear hf2_1_0); (try clear hf2_1_1); (try clear hg2_0); (try clear hg2_1); (try clear hz2_1)
      go_wp2_with fail
      all_goals first | (go_ret; refine ⟨?_, (by repeat (first | with_reducible exact Kept.refl _ | with_reducible assumption | with_reducible refine Kept.setCell ?_ (by first | (simp; done) | (simp; omega) | omega) _ | with_reducible refine Kept.alloc ?_ _ | with_reducible refine Kept.drewN ?_ _ | with_reducible refine Kept.drew ?_ | with_reducible refine Kept.trans ?_ (by with_reducible assumption) | with_reducible refine Kept.dr ?_ (by with_reducible assumption)))⟩; first | rfl | (refine retb ?_; simp; done) | (refine retb ?_; simp; omega)) | (exfalso; omega)
    · by_cases hne : pX = cX ∧ pY = cY
      · obtain ⟨h1, h2⟩ := hne
        subst h1; subst h2
        have e : csE pX pY pX pY = 10 := csE_eq hc
        have C1 := fun w => toffset_e pX pY r fr sw pX pY ha (by rw [e]; decide) w
        rw [e] at C1
        clear e
        have HC1 := Lib.hid C1
        clear C1
        go_enter Try.func7, Try.ntmps7
        go_wp2_with fail
        with_reducible refine (awake_w _).mono ?_
        rintro e w1 ⟨rfl, hk1⟩
        refine kuz (b := w.heap.size) hk1 (by first | (simp; done) | (simp; omega) | omega) ?_
        intro ha hb hz1_0 hn1_0 hm1_0
        have hf1_0_0 : w1.cell? ⟨w.heap.size, 0, none⟩ = some (.int .i64 pX) := (ha _).trans (by first | with_reducible assumption | (simp (maxDischargeDepth := 7) [go_sem]; done) | (simp (maxDischargeDepth := 7) [go_sem, *]; done))
        have hf1_0_1 : w1.cell? ⟨w.heap.size, 1, none⟩ = some (.int .i64 pY) := (ha _).trans (by first | with_reducible assumption | (simp (maxDischargeDepth := 7) [go_sem]; done) | (simp (maxDischargeDepth := 7) [go_sem, *]; done))
        have hf1_0_2 : w1.cell? ⟨w.heap.size, 2, none⟩ = some (.int .i64 r) := (ha _).trans (by first | with_reducible assumption | (simp (maxDischargeDepth := 7) [go_sem]; done) | (simp (maxDischargeDepth := 7) [go_sem, *]; done))
        have hf1_0_3 : w1.cell? ⟨w.heap.size, 3, none⟩ = some (.int .i64 fr) := (ha _).trans (by first | with_reducible assumption | (simp (maxDischargeDepth := 7) [go_sem]; done) | (simp (maxDischargeDepth := 7) [go_sem, *]; done))
        have hf1_0_4 : w1.cell? ⟨w.heap.size, 4, none⟩ = some (.int .i64 sw) := (ha _).trans (by first | with_reducible assumption | (simp (maxDischargeDepth := 7) [go_sem]; done) | (simp (maxDischargeDepth := 7) [go_sem, *]; done))
        try have hg1_0 : ∀ o, w1.frozen? ⟨w.heap.size, o, none⟩ = false := by intro o; rw [hb]; first | (simp (maxDischargeDepth := 7) [go_sem]; done) | (simp (maxDischargeDepth := 7) [go_sem, *]; done)
        clear ha hb
        refine kuz (b := w.heap.size + 1) hk1 (by first | (simp; done) | (simp; omega) | omega) ?_
        intro ha hb hz1_1 hn1_1 hm1_1
        have hf1_1_0 : w1.cell? ⟨w.heap.size + 1, 0, none⟩ = some (.int .i64 pX) := (ha _).trans (by first | with_reducible assumption | (simp (maxDischargeDepth := 7) [go_sem]; done) | (simp (maxDischargeDepth := 7) [go_sem, *]; done))
        have hf1_1_1 : w1.cell? ⟨w.heap.size + 1, 1, none⟩ = some (.int .i64 pY) := (ha _).trans (by first | with_reducible assumption | (simp (maxDischargeDepth := 7) [go_sem]; done) | (simp (maxDischargeDepth := 7) [go_sem, *]; done))
        try have hg1_1 : ∀ o, w1.frozen? ⟨w.heap.size + 1, o, none⟩ = false := by intro o; rw [hb]; first | (simp (maxDischargeDepth := 7) [go_sem]; done) | (simp (maxDischargeDepth := 7) [go_sem, *]; done)
        clear ha hb
        go_wp2_with fail
        with_reducible refine (HC1.out _).mono ?_
        rintro e w2 ⟨rfl, hk2⟩
        refine kuz (b := w.heap.size) hk2 (by first | (simp; done) | (simp; omega) | omega) ?_
        intro ha hb hz2_0 hn2_0 hm2_0
        have hf2_0_0 : w2.cell? ⟨w.heap.size, 0, none⟩ = some (.int .i64 pX) := (ha _).trans (by first | with_reducible assumption | (simp (maxDischargeDepth := 7) [go_sem]; done) | (simp (maxDischargeDepth := 7) [go_sem, *]; done))
        have hf2_0_1 : w2.cell? ⟨w.heap.size, 1, none⟩ = some (.int .i64 pY) := (ha _).trans (by first | with_reducible assumption | (simp (maxDischargeDepth := 7) [go_sem]; done) | (simp (maxDischargeDepth := 7) [go_sem, *]; done))
        have hf2_0_2 : w2.cell? ⟨w.heap.size, 2, none⟩ = some (.int .i64 r) := (ha _).trans (by first | with_reducible assumption | (simp (maxDischargeDepth := 7) [go_sem]; done) | (simp (maxDischargeDepth := 7) [go_sem, *]; done))
        have hf2_0_3 : w2.cell? ⟨w.heap.size, 3, none⟩ = some (.int .i64 fr) := (ha _).trans (by first | with_reducible assumption | (simp (maxDischargeDepth := 7) [go_sem]; done) | (simp (maxDischargeDepth := 7) [go_sem, *]; done))
        have hf2_0_4 : w2.cell? ⟨w.heap.size, 4, none⟩ = some (.int .i64 sw) := (ha _).trans (by first | with_reducible assumption | (simp (maxDischargeDepth := 7) [go_sem]; done) | (simp (maxDischargeDepth := 7) [go_sem, *]; done))
        try have hg2_0 : ∀ o, w2.frozen? ⟨w.heap.size, o, none⟩ = false := by intro o; rw [hb]; first | (simp (maxDischargeDepth := 7) [go_sem]; done) | (simp (maxDischargeDepth := 7) [go_sem, *]; done)
        clear ha hb
        refine kuz (b := w.heap.size + 1) hk2 (by first | (simp; done) | (simp; omega) | omega) ?_
        intro ha hb hz2_1 hn2_1 hm2_1
        have hf2_1_0 : w2.cell? ⟨w.heap.size + 1, 0, none⟩ = some (.int .i64 pX) := (ha _).trans (by first | with_reducible assumption | (simp (maxDischargeDepth := 7) [go_sem]; done) | (simp (maxDischargeDepth := 7) [go_sem, *]; done))
        have hf2_1_1 : w2.cell? ⟨w.heap.size + 1, 1, none⟩ = some (.int .i64 pY) := (ha _).trans (by first | with_reducible assumption | (simp (maxDischargeDepth := 7) [go_sem]; done) | (simp (maxDischargeDepth := 7) [go_sem, *]; done))
        try have hg2_1 : ∀ o, w2.frozen? ⟨w.heap.size + 1, o, none⟩ = false := by intro o; rw [hb]; first | (simp (maxDischargeDepth := 7) [go_sem]; done) | (simp (maxDischargeDepth := 7) [go_sem, *]; done)
        clear ha hb
        (try clear hf1_0_0); (try clear hf1_0_1); (try clear hf1_0_2); (try clear hf1_0_3); (try clear hf1_0_4); (try clear hf1_1_0); (try clear hf1_1_1); (try clear hg1_0); (try clear hg1_1); (try clear hz1_1)
        go_wp2_with fail
        with_reducible refine (ref_toffset_c pX pY r fr sw ha _).mono ?_
        rintro e w3 ⟨rfl, hk3⟩
        refine kuz (b := w.heap.size) hk3 (by first | (simp; done) | (simp; omega) | omega) ?_
        intro ha hb hz3_0 hn3_0 hm3_0
        have hf3_0_0 : w3.cell? ⟨w.heap.size, 0, none⟩ = some (.int .i64 pX) := (ha _).trans (by first | with_reducible assumption | (simp (maxDischargeDepth := 7) [go_sem]; done) | (simp (maxDischargeDepth := 7) [go_sem, *]; done))
        have hf3_0_1 : w3.cell? ⟨w.heap.size, 1, none⟩ = some (.int .i64 pY) := (ha _).trans (by first | with_reducible assumption | (simp (maxDischargeDepth := 7) [go_sem]; done) | (simp (maxDischargeDepth := 7) [go_sem, *]; done))
        have hf3_0_2 : w3.cell? ⟨w.heap.size, 2, none⟩ = some (.int .i64 r) := (ha _).trans (by first | with_reducible assumption | (simp (maxDischargeDepth := 7) [go_sem]; done) | (simp (maxDischargeDepth := 7) [go_sem, *]; done))
        have hf3_0_3 : w3.cell? ⟨w.heap.size, 3, none⟩ = some (.int .i64 fr) := (ha _).trans (by first | with_reducible assumption | (simp (maxDischargeDepth := 7) [go_sem]; done) | (simp (maxDischargeDepth := 7) [go_sem, *]; done))
        have hf3_0_4 : w3.cell? ⟨w.heap.size, 4, none⟩ = some (.int .i64 sw) := (ha _).trans (by first | with_reducible assumption | (simp (maxDischargeDepth := 7) [go_sem]; done) | (simp (maxDischargeDepth := 7) [go_sem, *]; done))
        try have hg3_0 : ∀ o, w3.frozen? ⟨w.heap.size, o, none⟩ = false := by intro o; rw [hb]; first | (simp (maxDischargeDepth := 7) [go_sem]; done) | (simp (maxDischargeDepth := 7) [go_sem, *]; done)
        clear ha hb
        refine kuz (b := w.heap.size + 1) hk3 (by first | (simp; done) | (simp; omega) | omega) ?_
        intro ha hb hz3_1 hn3_1 hm3_1
        have hf3_1_0 : w3.cell? ⟨w.heap.size + 1, 0, none⟩ = some (.int .i64 pX) := (ha _).trans (by first | with_reducible assumption | (simp (maxDischargeDepth := 7) [go_sem]; done) | (simp (maxDischargeDepth := 7) [go_sem, *]; done))
        have hf3_1_1 : w3.cell? ⟨w.heap.size + 1, 1, none⟩ = some (.int .i64 pY) := (ha _).trans (by first | with_reducible assumption | (simp (maxDischargeDepth := 7) [go_sem]; done) | (simp (maxDischargeDepth := 7) [go_sem, *]; done))
        try have hg3_1 : ∀ o, w3.frozen? ⟨w.heap.size + 1, o, none⟩ = false := by intro o; rw [hb]; first | (simp (maxDischargeDepth := 7) [go_sem]; done) | (simp (maxDischargeDepth := 7) [go_sem, *]; done)
        clear ha hb
        (try clear hf2_0_0); (try clear hf2_0_1); (try clear hf2_0_2); (try clear hf2_0_3); (try clear hf2_0_4); (try clear hf2_1_0); (try clear hf2_1_1); (try clear hg2_0); (try clear hg2_1); (try clear hz2_1)
        go_wp2_with fail
        all_goals first | (go_ret; refine ⟨?_, (by repeat (first | with_reducible exact Kept.refl _ | with_reducible assumption | with_reducible refine Kept.setCell ?_ (by first | (simp; done) | (simp; omega) | omega) _ | with_reducible refine Kept.alloc ?_ _ | with_reducible refine Kept.drewN ?_ _ | with_reducible refine Kept.drew ?_ | with_reducible refine Kept.trans ?_ (by with_reducible assumption) | with_reducible refine Kept.dr ?_ (by with_reducible assumption)))⟩; first | rfl | (refine retb ?_; simp; done) | (refine retb ?_; simp; omega)) | (exfalso; omega)
      · have e : csE cX cY pX pY = 0 := csE_ok hc hp (fun h => hne ⟨h.1.symm, h.2.symm⟩)
        have C1 := fun w => toffset_ok cX cY r fr sw pX pY ha hp e hne w
        have C2 := fun w => ref_toffset_ok cX cY r fr sw pX pY ha hp e hne w
        generalize (sg1 sw * (r - (isq (dtp (pX - cX) (pY - cY) (pX - cX) (pY - cY))))) = A at *
        generalize (alV (swT fr (csV cX cY pX pY) (if sw < 0 then 1 else 2)) r sw) = B at *
        have HC1 := Lib.hid C1
        have HC2 := Lib.hid C2
        clear C1 C2
        go_enter Try.func7, Try.ntmps7
        go_wp2_with fail
        with_reducible refine (awake_w _).mono ?_
        rintro e w1 ⟨rfl, hk1⟩
        refine kuz (b := w.heap.size) hk1 (by first | (simp; done) | (simp; omega) | omega) ?_
        intro ha hb hz1_0 hn1_0 hm1_0
        have hf1_0_0 : w1.cell? ⟨w.heap.size, 0, none⟩ = some (.int .i64 cX) := (ha _).trans (by first | with_reducible assumption | (simp (maxDischargeDepth := 7) [go_sem]; done) | (simp (maxDischargeDepth := 7) [go_sem, *]; done))
        have hf1_0_1 : w1.cell? ⟨w.heap.size, 1, none⟩ = some (.int .i64 cY) := (ha _).trans (by first | with_reducible assumption | (simp (maxDischargeDepth := 7) [go_sem]; done) | (simp (maxDischargeDepth := 7) [go_sem, *]; done))
        have hf1_0_2 : w1.cell? ⟨w.heap.size, 2, none⟩ = some (.int .i64 r) := (ha _).trans (by first | with_reducible assumption | (simp (maxDischargeDepth := 7) [go_sem]; done) | (simp (maxDischargeDepth := 7) [go_sem, *]; done))
        have hf1_0_3 : w1.cell? ⟨w.heap.size, 3, none⟩ = some (.int .i64 fr) := (ha _).trans (by first | with_reducible assumption | (simp (maxDischargeDepth := 7) [go_sem]; done) | (simp (maxDischargeDepth := 7) [go_sem, *]; done))
        have hf1_0_4 : w1.cell? ⟨w.heap.size, 4, none⟩ = some (.int .i64 sw) := (ha _).trans (by first | with_reducible assumption | (simp (maxDischargeDepth := 7) [go_sem]; done) | (simp (maxDischargeDepth := 7) [go_sem, *]; done))
        try have hg1_0 : ∀ o, w1.frozen? ⟨w.heap.size, o, none⟩ = false := by intro o; rw [hb]; first | (simp (maxDischargeDepth := 7) [go_sem]; done) | (simp (maxDischargeDepth := 7) [go_sem, *]; done)
        clear ha hb
        refine kuz (b := w.heap.size + 1) hk1 (by first | (simp; done) | (simp; omega) | omega) ?_
        intro ha hb hz1_1 hn1_1 hm1_1
        have hf1_1_0 : w1.cell? ⟨w.heap.size + 1, 0, none⟩ = some (.int .i64 pX) := (ha _).trans (by first | with_reducible assumption | (simp (maxDischargeDepth := 7) [go_sem]; done) | (simp (maxDischargeDepth := 7) [go_sem, *]; done))
        have hf1_1_1 : w1.cell? ⟨w.heap.size + 1, 1, none⟩ = some (.int .i64 pY) := (ha _).trans (by first | with_reducible assumption | (simp (maxDischargeDepth := 7) [go_sem]; done) | (simp (maxDischargeDepth := 7) [go_sem, *]; done))
        try have hg1_1 : ∀ o, w1.frozen? ⟨w.heap.size + 1, o, none⟩ = false := by intro o; rw [hb]; first | (simp (maxDischargeDepth := 7) [go_sem]; done) | (simp (maxDischargeDepth := 7) [go_sem, *]; done)
        clear ha hb
        go_wp2_with fail
        with_reducible refine (HC1.out _).mono ?_
        rintro e w2 ⟨rfl, hk2⟩
        refine kuz (b := w.heap.size) hk2 (by first | (simp; done) | (simp; omega) | omega) ?_
        intro ha hb hz2_0 hn2_0 hm2_0
        have hf2_0_0 : w2.cell? ⟨w.heap.size, 0, none⟩ = some (.int .i64 cX) := (ha _).trans (by first | with_reducible assumption | (simp (maxDischargeDepth := 7) [go_sem]; done) | (simp (maxDischargeDepth := 7) [go_sem, *]; done))
        have hf2_0_1 : w2.cell? ⟨w.heap.size, 1, none⟩ = some (.int .i64 cY) := (ha _).trans (by first | with_reducible assumption | (simp (maxDischargeDepth := 7) [go_sem]; done) | (simp (maxDischargeDepth := 7) [go_sem, *]; done))
        have hf2_0_2 : w2.cell? ⟨w.heap.size, 2, none⟩ = some (.int .i64 r) := (ha _).trans (by first | with_reducible assumption | (simp (maxDischargeDepth := 7) [go_sem]; done) | (simp (maxDischargeDepth := 7) [go_sem, *]; done))
        have hf2_0_3 : w2.cell? ⟨w.heap.size, 3, none⟩ = some (.int .i64 fr) := (ha _).trans (by first | with_reducible assumption | (simp (maxDischargeDepth := 7) [go_sem]; done) | (simp (maxDischargeDepth := 7) [go_sem, *]; done))
        have hf2_0_4 : w2.cell? ⟨w.heap.size, 4, none⟩ = some (.int .i64 sw) := (ha _).trans (by first | with_reducible assumption | (simp (maxDischargeDepth := 7) [go_sem]; done) | (simp (maxDischargeDepth := 7) [go_sem, *]; done))
        try have hg2_0 : ∀ o, w2.frozen? ⟨w.heap.size, o, none⟩ = false := by intro o; rw [hb]; first | (simp (maxDischargeDepth := 7) [go_sem]; done) | (simp (maxDischargeDepth := 7) [go_sem, *]; done)
        clear ha hb
        refine kuz (b := w.heap.size + 1) hk2 (by first | (simp; done) | (simp; omega) | omega) ?_
        intro ha hb hz2_1 hn2_1 hm2_1
        have hf2_1_0 : w2.cell? ⟨w.heap.size + 1, 0, none⟩ = some (.int .i64 pX) := (ha _).trans (by first | with_reducible assumption | (simp (maxDischargeDepth := 7) [go_sem]; done) | (simp (maxDischargeDepth := 7) [go_sem, *]; done))
        have hf2_1_1 : w2.cell? ⟨w.heap.size + 1, 1, none⟩ = some (.int .i64 pY) := (ha _).trans (by first | with_reducible assumption | (simp (maxDischargeDepth := 7) [go_sem]; done) | (simp (maxDischargeDepth := 7) [go_sem, *]; done))
        try have hg2_1 : ∀ o, w2.frozen? ⟨w.heap.size + 1, o, none⟩ = false := by intro o; rw [hb]; first | (simp (maxDischargeDepth := 7) [go_sem]; done) | (simp (maxDischargeDepth := 7) [go_sem, *]; done)
        clear ha hb
        (try clear hf1_0_0); (try clear hf1_0_1); (try clear hf1_0_2); (try clear hf1_0_3); (try clear hf1_0_4); (try clear hf1_1_0); (try clear hf1_1_1); (try clear hg1_0); (try clear hg1_1); (try clear hz1_1)
        go_wp2_with fail
        with_reducible refine (HC2.out _).mono ?_
        rintro e w3 ⟨rfl, hk3⟩
        refine kuz (b := w.heap.size) hk3 (by first | (simp; done) | (simp; omega) | omega) ?_
        intro ha hb hz3_0 hn3_0 hm3_0
        have hf3_0_0 : w3.cell? ⟨w.heap.size, 0, none⟩ = some (.int .i64 cX) := (ha _).trans (by first | with_reducible assumption | (simp (maxDischargeDepth := 7) [go_sem]; done) | (simp (maxDischargeDepth := 7) [go_sem, *]; done))
        have hf3_0_1 : w3.cell? ⟨w.heap.size, 1, none⟩ = some (.int .i64 cY) := (ha _).trans (by first | with_reducible assumption | (simp (maxDischargeDepth := 7) [go_sem]; done) | (simp (maxDischargeDepth := 7) [go_sem, *]; done))
        have hf3_0_2 : w3.cell? ⟨w.heap.size, 2, none⟩ = some (.int .i64 r) := (ha _).trans (by first | with_reducible assumption | (simp (maxDischargeDepth := 7) [go_sem]; done) | (simp (maxDischargeDepth := 7) [go_sem, *]; done))
        have hf3_0_3 : w3.cell? ⟨w.heap.size, 3, none⟩ = some (.int .i64 fr) := (ha _).trans (by first | with_reducible assumption | (simp (maxDischargeDepth := 7) [go_sem]; done) | (simp (maxDischargeDepth := 7) [go_sem, *]; done))
        have hf3_0_4 : w3.cell? ⟨w.heap.size, 4, none⟩ = some (.int .i64 sw) := (ha _).trans (by first | with_reducible assumption | (simp (maxDischargeDepth := 7) [go_sem]; done) | (simp (maxDischargeDepth := 7) [go_sem, *]; done))
        try have hg3_0 : ∀ o, w3.frozen? ⟨w.heap.size, o, none⟩ = false := by intro o; rw [hb]; first | (simp (maxDischargeDepth := 7) [go_sem]; done) | (simp (maxDischargeDepth := 7) [go_sem, *]; done)
        clear ha hb
        refine kuz (b := w.heap.size + 1) hk3 (by first | (simp; done) | (simp; omega) | omega) ?_
        intro ha hb hz3_1 hn3_1 hm3_1
        have hf3_1_0 : w3.cell? ⟨w.heap.size + 1, 0, none⟩ = some (.int .i64 pX) := (ha _).trans (by first | with_reducible assumption | (simp (maxDischargeDepth := 7) [go_sem]; done) | (simp (maxDischargeDepth := 7) [go_sem, *]; done))
        have hf3_1_1 : w3.cell? ⟨w.heap.size + 1, 1, none⟩ = some (.int .i64 pY) := (ha _).trans (by first | with_reducible assumption | (simp (maxDischargeDepth := 7) [go_sem]; done) | (simp (maxDischargeDepth := 7) [go_sem, *]; done))
        try have hg3_1 : ∀ o, w3.frozen? ⟨w.heap.size + 1, o, none⟩ = false := by intro o; rw [hb]; first | (simp (maxDischargeDepth := 7) [go_sem]; done) | (simp (maxDischargeDepth := 7) [go_sem, *]; done)
        clear ha hb
        (try clear hf2_0_0); (try clear hf2_0_1); (try clear hf2_0_2); (try clear hf2_0_3); (try clear hf2_0_4); (try clear hf2_1_0); (try clear hf2_1_1); (try clear hg2_0); (try clear hg2_1); (try clear hz2_1)
        go_wp2_with fail
        all_goals first | (go_ret; refine ⟨?_, (by repeat (first | with_reducible exact Kept.refl _ | with_reducible assumption | with_reducible refine Kept.setCell ?_ (by first | (simp; done) | (simp; omega) | omega) _ | with_reducible refine Kept.alloc ?_ _ | with_reducible refine Kept.drewN ?_ _ | with_reducible refine Kept.drew ?_ | with_reducible refine Kept.trans ?_ (by with_reducible assumption) | with_reducible refine Kept.dr ?_ (by with_reducible assumption)))⟩; first | rfl | (refine retb ?_; simp; done) | (refine retb ?_; simp; omega)) | (exfalso; omega)

end Go.Proofs.Ytfnhnlnofglkoaa
