/-
  Own contracts: package line and the document's answers of layer 11: tangent points: the document.
-/
import Derived.Test.YtfnhnlnofglkoaaTura
import Derived.WalkKit
import Derived.ProofKit
import Derived.OpenShut
import Derived.WalkLawsBesides
import Derived.WalkSpells
import Derived.Lib.Hide
import Derived.Deep.DeepCutAuto
import Derived.Deep.CutBlock
import Derived.Deep.QuietTactic
import Derived.BigQuiet
import Derived.Handy
import Derived.StillTailTactics
import Derived.IntWalk
import Derived.LoopN
import Derived.Deep.RegionHeld3
namespace Go.Proofs.Ytfnhnlnofglkoaa
open Go.ChangeShapes Go.WideShapes Go.ChangeAt Go.RowKit
set_option linter.unusedVariables false
set_option linter.unusedSimpArgs false
set_option maxHeartbeats 2000000 in
set_option maxRecDepth 100000 in
theorem ref_tangent_bad (cX cY pX pY r k : Int) (h : pokB cX cY = false ∨ pokB pX pY = false) (w : World) : Calls Try.prog 33 #[.agg #[.int .i64 cX, .int .i64 cY], .int .i64 r, .int .u8 k, .agg #[.int .i64 pX, .int .i64 pY]] w fun e w' => e = .returned (.tuple #[.agg #[.int .i64 0, .int .i64 0], .int .i64 1]) ∧ Kept w w' := by
  cases hc : pokB cX cY
  · go_enter Try.func33, Try.ntmps33
    go_wp2_with fail
    with_reducible refine (rpv_bad cX cY hc _).mono ?_
    rintro e w1 ⟨rfl, hk1⟩
    refine kuz (b := w.heap.size) hk1 (by first | (simp; done) | (simp; omega) | omega) ?_
    intro ha hb hz1_0 hn1_0 hm1_0
    have hf1_0_0 : w1.cell? ⟨w.heap.size, 0, none⟩ = some (.int .i64 cX) := (ha _).trans (by first | with_reducible assumption | (simp (maxDischargeDepth := 7) [go_sem]; done) | (simp (maxDischargeDepth := 7) [go_sem, *]; done))
    have hf1_0_1 : w1.cell? ⟨w.heap.size, 1, none⟩ = some (.int .i64 cY) := (ha _).trans (by first | with_reducible assumption | (simp (maxDischargeDepth := 7) [go_sem]; done) | (simp (maxDischargeDepth := 7) [go_sem, *]; done))
    try have hg1_0 : ∀ o, w1.frozen? ⟨w.heap.size, o, none⟩ = false := by intro o; rw [hb]; first | (simp (maxDischargeDepth := 7) [go_sem]; done) | (simp (maxDischargeDepth := 7) [go_sem, *]; done)
    clear ha hb
    refine kuz (b := w.heap.size + 1) hk1 (by first | (simp; done) | (simp; omega) | omega) ?_
    intro ha hb hz1_1 hn1_1 hm1_1
    have hf1_1_0 : w1.cell? ⟨w.heap.size + 1, 0, none⟩ = some (.int .i64 pX) := (ha _).trans (by first | with_reducible assumption | (simp (maxDischargeDepth := 7) [go_sem]; done) | (simp (maxDischargeDepth := 7) [go_sem, *]; done))
    have hf1_1_1 : w1.cell? ⟨w.heap.size + 1, 1, none⟩ = some (.int .i64 pY) := (ha _).trans (by first | with_reducible assumption | (simp (maxDischargeDepth := 7) [go_sem]; done) | (simp (maxDischargeDepth := 7) [go_sem, *]; done))
    try have hg1_1 : ∀ o, w1.frozen? ⟨w.heap.size + 1, o, none⟩ = false := by intro o; rw [hb]; first | (simp (maxDischargeDepth := 7) [go_sem]; done) | (simp (maxDischargeDepth := 7) [go_sem, *]; done)
    clear ha hb
    refine kuz (b := w.heap.size + 2) hk1 (by first | (simp; done) | (simp; omega) | omega) ?_
    intro ha hb hz1_2 hn1_2 hm1_2
    have hf1_2_0 : w1.cell? ⟨w.heap.size + 2, 0, none⟩ = some (.int .i64 0) := (ha _).trans (by first | with_reducible assumption | (simp (maxDischargeDepth := 7) [go_sem]; done) | (simp (maxDischargeDepth := 7) [go_sem, *]; done))
    have hf1_2_1 : w1.cell? ⟨w.heap.size + 2, 1, none⟩ = some (.int .i64 0) := (ha _).trans (by first | with_reducible assumption | (simp (maxDischargeDepth := 7) [go_sem]; done) | (simp (maxDischargeDepth := 7) [go_sem, *]; done))
    try have hg1_2 : ∀ o, w1.frozen? ⟨w.heap.size + 2, o, none⟩ = false := by intro o; rw [hb]; first | (simp (maxDischargeDepth := 7) [go_sem]; done) | (simp (maxDischargeDepth := 7) [go_sem, *]; done)
    clear ha hb
    go_wp2_with fail
    all_goals exact bodyPost_ret (v := .tuple #[.agg #[.int .i64 0, .int .i64 0], .int .i64 1]) (by first | (simp [results, Try.results33, go_sem]; done) | (simp (maxDischargeDepth := 7) [results, Try.results33, go_sem, *]; done)) rfl ⟨rfl, (by repeat (first | with_reducible exact Kept.refl _ | with_reducible assumption | with_reducible refine Kept.setCell ?_ (by first | (simp; done) | (simp; omega) | omega) _ | with_reducible refine Kept.alloc ?_ _ | with_reducible refine Kept.drewN ?_ _ | with_reducible refine Kept.drew ?_ | with_reducible refine Kept.trans ?_ (by with_reducible assumption) | with_reducible refine Kept.dr ?_ (by with_reducible assumption)))⟩
  · have hp : pokB pX pY = false := by rw [hc] at h; simpa using h
    go_enter Try.func33, Try.ntmps33
    go_wp2_with fail
    with_reducible refine (rpv_ok cX cY hc _).mono ?_
    rintro e w1 ⟨rfl, hk1⟩
    refine kuz (b := w.heap.size) hk1 (by first | (simp; done) | (simp; omega) | omega) ?_
    intro ha hb hz1_0 hn1_0 hm1_0
    have hf1_0_0 : w1.cell? ⟨w.heap.size, 0, none⟩ = some (.int .i64 cX) := (ha _).trans (by first | with_reducible assumption | (simp (maxDischargeDepth := 7) [go_sem]; done) | (simp (maxDischargeDepth := 7) [go_sem, *]; done))
    have hf1_0_1 : w1.cell? ⟨w.heap.size, 1, none⟩ = some (.int .i64 cY) := (ha _).trans (by first | with_reducible assumption | (simp (maxDischargeDepth := 7) [go_sem]; done) | (simp (maxDischargeDepth := 7) [go_sem, *]; done))
    try have hg1_0 : ∀ o, w1.frozen? ⟨w.heap.size, o, none⟩ = false := by intro o; rw [hb]; first | (simp (maxDischargeDepth := 7) [go_sem]; done) | (simp (maxDischargeDepth := 7) [go_sem, *]; done)
    clear ha hb
    refine kuz (b := w.heap.size + 1) hk1 (by first | (simp; done) | (simp; omega) | omega) ?_
    intro ha hb hz1_1 hn1_1 hm1_1
    have hf1_1_0 : w1.cell? ⟨w.heap.size + 1, 0, none⟩ = some (.int .i64 pX) := (ha _).trans (by first | with_reducible assumption | (simp (maxDischargeDepth := 7) [go_sem]; done) | (simp (maxDischargeDepth := 7) [go_sem, *]; done))
    have hf1_1_1 : w1.cell? ⟨w.heap.size + 1, 1, none⟩ = some (.int .i64 pY) := (ha _).trans (by first | with_reducible assumption | (simp (maxDischargeDepth := 7) [go_sem]; done) | (simp (maxDischargeDepth := 7) [go_sem, *]; done))
    try have hg1_1 : ∀ o, w1.frozen? ⟨w.heap.size + 1, o, none⟩ = false := by intro o; rw [hb]; first | (simp (maxDischargeDepth := 7) [go_sem]; done) | (simp (maxDischargeDepth := 7) [go_sem, *]; done)
    clear ha hb
    refine kuz (b := w.heap.size + 2) hk1 (by first | (simp; done) | (simp; omega) | omega) ?_
    intro ha hb hz1_2 hn1_2 hm1_2
    have hf1_2_0 : w1.cell? ⟨w.heap.size + 2, 0, none⟩ = some (.int .i64 0) := (ha _).trans (by first | with_reducible assumption | (simp (maxDischargeDepth := 7) [go_sem]; done) | (simp (maxDischargeDepth := 7) [go_sem, *]; done))
    have hf1_2_1 : w1.cell? ⟨w.heap.size + 2, 1, none⟩ = some (.int .i64 0) := (ha _).trans (by first | with_reducible assumption | (simp (maxDischargeDepth := 7) [go_sem]; done) | (simp (maxDischargeDepth := 7) [go_sem, *]; done))
    try have hg1_2 : ∀ o, w1.frozen? ⟨w.heap.size + 2, o, none⟩ = false := by intro o; rw [hb]; first | (simp (maxDischargeDepth := 7) [go_sem]; done) | (simp (maxDischargeDepth := 7) [go_sem, *]; done)
    clear ha hb
    go_wp2_with fail
    with_reducible refine (rpv_bad pX pY hp _).mono ?_
    rintro e w2 ⟨rfl, hk2⟩
    refine kuz (b := w.heap.size) hk2 (by first | (simp; done) | (simp; omega) | omega) ?_
    intro ha hb hz2_0 hn2_0 hm2_0
    have hf2_0_0 : w2.cell? ⟨w.heap.size, 0, none⟩ = some (.int .i64 cX) := (ha _).trans (by first | with_reducible assumption | (simp (maxDischargeDepth := 7) [go_sem]; done) | (simp (maxDischargeDepth := 7) [go_sem, *]; done))
    have hf2_0_1 : w2.cell? ⟨w.heap.size, 1, none⟩ = some (.int .i64 cY) := (ha _).trans (by first | with_reducible assumption | (simp (maxDischargeDepth := 7) [go_sem]; done) | (simp (maxDischargeDepth := 7) [go_sem, *]; done))
    try have hg2_0 : ∀ o, w2.frozen? ⟨w.heap.size, o, none⟩ = false := by intro o; rw [hb]; first | (simp (maxDischargeDepth := 7) [go_sem]; done) | (simp (maxDischargeDepth := 7) [go_sem, *]; done)
    clear ha hb
    refine kuz (b := w.heap.size + 1) hk2 (by first | (simp; done) | (simp; omega) | omega) ?_
    intro ha hb hz2_1 hn2_1 hm2_1
    have hf2_1_0 : w2.cell? ⟨w.heap.size + 1, 0, none⟩ = some (.int .i64 pX) := (ha _).trans (by first | with_reducible assumption | (simp (maxDischargeDepth := 7) [go_sem]; done) | (simp (maxDischargeDepth := 7) [go_sem, *]; done))
    have hf2_1_1 : w2.cell? ⟨w.heap.size + 1, 1, none⟩ = some (.int .i64 pY) := (ha _).trans (by first | with_reducible assumption | (simp (maxDischargeDepth := 7) [go_sem]; done) | (simp (maxDischargeDepth := 7) [go_sem, *]; done))
    try have hg2_1 : ∀ o, w2.frozen? ⟨w.heap.size + 1, o, none⟩ = false := by intro o; rw [hb]; first | (simp (maxDischargeDepth := 7) [go_sem]; done) | (simp (maxDischargeDepth := 7) [go_sem, *]; done)
    clear ha hb
    refine kuz (b := w.heap.size + 2) hk2 (by first | (simp; done) | (simp; omega) | omega) ?_
    intro ha hb hz2_2 hn2_2 hm2_2
    have hf2_2_0 : w2.cell? ⟨w.heap.size + 2, 0, none⟩ = some (.int .i64 0) := (ha _).trans (by first | with_reducible assumption | (simp (maxDischargeDepth := 7) [go_sem]; done) | (simp (maxDischargeDepth := 7) [go_sem, *]; done))
    have hf2_2_1 : w2.cell? ⟨w.heap.size + 2, 1, none⟩ = some (.int .i64 0) := (ha _).trans (by first | with_reducible assumption | (simp (maxDischargeDepth := 7) [go_sem]; done) | (simp (maxDischargeDepth := 7) [go_sem, *]; done))
    try have hg2_2 : ∀ o, w2.frozen? ⟨w.heap.size + 2, o, none⟩ = false := by intro o; rw [hb]; first | (simp (maxDischargeDepth := 7) [go_sem]; done) | (simp (maxDischargeDepth := 7) [go_sem, *]; done)
    clear ha hb
    (try clear hf1_0_0); (try clear hf1_0_1); (try clear hf1_1_0); (try clear hf1_1_1); (try clear hf1_2_0); (try clear hf1_2_1); (try clear hg1_0); (try clear hg1_1); (try clear hg1_2); (try clear hz1_1); (try clear hz1_2)
    go_wp2_with fail
    all_goals exact bodyPost_ret (v := .tuple #[.agg #[.int .i64 0, .int .i64 0], .int .i64 1]) (by first | (simp [results, Try.results33, go_sem]; done) | (simp (maxDischargeDepth := 7) [results, Try.results33, go_sem, *]; done)) rfl ⟨rfl, (by repeat (first | with_reducible exact Kept.refl _ | with_reducible assumption | with_reducible refine Kept.setCell ?_ (by first | (simp; done) | (simp; omega) | omega) _ | with_reducible refine Kept.alloc ?_ _ | with_reducible refine Kept.drewN ?_ _ | with_reducible refine Kept.drew ?_ | with_reducible refine Kept.trans ?_ (by with_reducible assumption) | with_reducible refine Kept.dr ?_ (by with_reducible assumption)))⟩
set_option maxHeartbeats 2000000 in
set_option maxRecDepth 100000 in
theorem ref_tangent_rng (cX cY pX pY r k : Int) (hc : pokB cX cY = true) (hp : pokB pX pY = true) (hk : k = 1 ∨ k = 2) (h : r < 1 ∨ 8000000 < r) (w : World) : Calls Try.prog 33 #[.agg #[.int .i64 cX, .int .i64 cY], .int .i64 r, .int .u8 k, .agg #[.int .i64 pX, .int .i64 pY]] w fun e w' => e = .returned (.tuple #[.agg #[.int .i64 0, .int .i64 0], .int .i64 2]) ∧ Kept w w' := by
  rcases hk with rfl | rfl
  · rcases h with h | h
    · go_enter Try.func33, Try.ntmps33
      go_wp2_with fail
      with_reducible refine (rpv_ok cX cY hc _).mono ?_
      rintro e w1 ⟨rfl, hk1⟩
      refine kuz (b := w.heap.size) hk1 (by first | (simp; done) | (simp; omega) | omega) ?_
      intro ha hb hz1_0 hn1_0 hm1_0
      have hf1_0_0 : w1.cell? ⟨w.heap.size, 0, none⟩ = some (.int .i64 cX) := (ha _).trans (by first | with_reducible assumption | (simp (maxDischargeDepth := 7) [go_sem]; done) | (simp (maxDischargeDepth := 7) [go_sem, *]; done))
      have hf1_0_1 : w1.cell? ⟨w.heap.size, 1, none⟩ = some (.int .i64 cY) := (ha _).trans (by first | with_reducible assumption | (simp (maxDischargeDepth := 7) [go_sem]; done) | (simp (maxDischargeDepth := 7) [go_sem, *]; done))
      try have hg1_0 : ∀ o, w1.frozen? ⟨w.heap.size, o, none⟩ = false := by intro o; rw [hb]; first | (simp (maxDischargeDepth := 7) [go_sem]; done) | (simp (maxDischargeDepth := 7) [go_sem, *]; done)
      clear ha hb
      refine kuz (b := w.heap.size + 1) hk1 (by first | (simp; done) | (simp; omega) | omega) ?_
      intro ha hb hz1_1 hn1_1 hm1_1
      have hf1_1_0 : w1.cell? ⟨w.heap.size + 1, 0, none⟩ = some (.int .i64 pX) := (ha _).trans (by first | with_reducible assumption | (simp (maxDischargeDepth := 7) [go_sem]; done) | (simp (maxDischargeDepth := 7) [go_sem, *]; done))
      have hf1_1_1 : w1.cell? ⟨w.heap.size + 1, 1, none⟩ = some (.int .i64 pY) := (ha _).trans (by first | with_reducible assumption | (simp (maxDischargeDepth := 7) [go_sem]; done) | (simp (maxDischargeDepth := 7) [go_sem, *]; done))
      try have hg1_1 : ∀ o, w1.frozen? ⟨w.heap.size + 1, o, none⟩ = false := by intro o; rw [hb]; first | (simp (maxDischargeDepth := 7) [go_sem]; done) | (simp (maxDischargeDepth := 7) [go_sem, *]; done)
      clear ha hb
      refine kuz (b := w.heap.size + 2) hk1 (by first | (simp; done) | (simp; omega) | omega) ?_
      intro ha hb hz1_2 hn1_2 hm1_2
      have hf1_2_0 : w1.cell? ⟨w.heap.size + 2, 0, none⟩ = some (.int .i64 0) := (ha _).trans (by first | with_reducible assumption | (simp (maxDischargeDepth := 7) [go_sem]; done) | (simp (maxDischargeDepth := 7) [go_sem, *]; done))
      have hf1_2_1 : w1.cell? ⟨w.heap.size + 2, 1, none⟩ = some (.int .i64 0) := (ha _).trans (by first | with_reducible assumption | (simp (maxDischargeDepth := 7) [go_sem]; done) | (simp (maxDischargeDepth := 7) [go_sem, *]; done))
      try have hg1_2 : ∀ o, w1.frozen? ⟨w.heap.size + 2, o, none⟩ = false := by intro o; rw [hb]; first | (simp (maxDischargeDepth := 7) [go_sem]; done) | (simp (maxDischargeDepth := 7) [go_sem, *]; done)
      clear ha hb
      go_wp2_with fail
      with_reducible refine (rpv_ok pX pY hp _).mono ?_
      rintro e w2 ⟨rfl, hk2⟩
      refine kuz (b := w.heap.size) hk2 (by first | (simp; done) | (simp; omega) | omega) ?_
      intro ha hb hz2_0 hn2_0 hm2_0
      have hf2_0_0 : w2.cell? ⟨w.heap.size, 0, none⟩ = some (.int .i64 cX) := (ha _).trans (by first | with_reducible assumption | (simp (maxDischargeDepth := 7) [go_sem]; done) | (simp (maxDischargeDepth := 7) [go_sem, *]; done))
      have hf2_0_1 : w2.cell? ⟨w.heap.size, 1, none⟩ = some (.int .i64 cY) := (ha _).trans (by first | with_reducible assumption | (simp (maxDischargeDepth := 7) [go_sem]; done) | (simp (maxDischargeDepth := 7) [go_sem, *]; done))
      try have hg2_0 : ∀ o, w2.frozen? ⟨w.heap.size, o, none⟩ = false := by intro o; rw [hb]; first | (simp (maxDischargeDepth := 7) [go_sem]; done) | (simp (maxDischargeDepth := 7) [go_sem, *]; done)
      clear ha hb
      refine kuz (b := w.heap.size + 1) hk2 (by first | (simp; done) | (simp; omega) | omega) ?_
      intro ha hb hz2_1 hn2_1 hm2_1
      have hf2_1_0 : w2.cell? ⟨w.heap.size + 1, 0, none⟩ = some (.int .i64 pX) := (ha _).trans (by first | with_reducible assumption | (simp (maxDischargeDepth := 7) [go_sem]; done) | (simp (maxDischargeDepth := 7) [go_sem, *]; done))
      have hf2_1_1 : w2.cell? ⟨w.heap.size + 1, 1, none⟩ = some (.int .i64 pY) := (ha _).trans (by first | with_reducible assumption | (simp (maxDischargeDepth := 7) [go_sem]; done) | (simp (maxDischargeDepth := 7) [go_sem, *]; done))
      try have hg2_1 : ∀ o, w2.frozen? ⟨w.heap.size + 1, o, none⟩ = false := by intro o; rw [hb]; first | (simp (maxDischargeDepth := 7) [go_sem]; done) | (simp (maxDischargeDepth := 7) [go_sem, *]; done)
      clear ha hb
      refine kuz (b := w.heap.size + 2) hk2 (by first | (simp; done) | (simp; omega) | omega) ?_
      intro ha hb hz2_2 hn2_2 hm2_2
      have hf2_2_0 : w2.cell? ⟨w.heap.size + 2, 0, none⟩ = some (.int .i64 0) := (ha _).trans (by first | with_reducible assumption | (simp (maxDischargeDepth := 7) [go_sem]; done) | (simp (maxDischargeDepth := 7) [go_sem, *]; done))
      have hf2_2_1 : w2.cell? ⟨w.heap.size + 2, 1, none⟩ = some (.int .i64 0) := (ha _).trans (by first | with_reducible assumption | (simp (maxDischargeDepth := 7) [go_sem]; done) | (simp (maxDischargeDepth := 7) [go_sem, *]; done))
      try have hg2_2 : ∀ o, w2.frozen? ⟨w.heap.size + 2, o, none⟩ = false := by intro o; rw [hb]; first | (simp (maxDischargeDepth := 7) [go_sem]; done) | (simp (maxDischargeDepth := 7) [go_sem, *]; done)
      clear ha hb
      (try clear hf1_0_0); (try clear hf1_0_1); (try clear hf1_1_0); (try clear hf1_1_1); (try clear hf1_2_0); (try clear hf1_2_1); (try clear hg1_0); (try clear hg1_1); (try clear hg1_2); (try clear hz1_1); (try clear hz1_2)
      go_wp2_with fail
      all_goals exact bodyPost_ret (v := .tuple #[.agg #[.int .i64 0, .int .i64 0], .int .i64 2]) (by first | (simp [results, Try.results33, go_sem]; done) | (simp (maxDischargeDepth := 7) [results, Try.results33, go_sem, *]; done)) rfl ⟨rfl, (by repeat (first | with_reducible exact Kept.refl _ | with_reducible assumption | with_reducible refine Kept.setCell ?_ (by first | (simp; done) | (simp; omega) | omega) _ | with_reducible refine Kept.alloc ?_ _ | with_reducible refine Kept.drewN ?_ _ | with_reducible refine Kept.drew ?_ | with_reducible refine Kept.trans ?_ (by with_reducible assumption) | with_reducible refine Kept.dr ?_ (by with_reducible assumption)))⟩
    · have h' : ¬ r < 1 := by omega
      go_enter Try.func33, Try.ntmps33
      go_wp2_with fail
      with_reducible refine (rpv_ok cX cY hc _).mono ?_
      rintro e w1 ⟨rfl, hk1⟩
      refine kuz (b := w.heap.size) hk1 (by first | (simp; done) | (simp; omega) | omega) ?_
      intro ha hb hz1_0 hn1_0 hm1_0
      have hf1_0_0 : w1.cell? ⟨w.heap.size, 0, none⟩ = some (.int .i64 cX) := (ha _).trans (by first | with_reducible assumption | (simp (maxDischargeDepth := 7) [go_sem]; done) | (simp (maxDischargeDepth := 7) [go_sem, *]; done))
      have hf1_0_1 : w1.cell? ⟨w.heap.size, 1, none⟩ = some (.int .i64 cY) := (ha _).trans (by first | with_reducible assumption | (simp (maxDischargeDepth := 7) [go_sem]; done) | (simp (maxDischargeDepth := 7) [go_sem, *]; done))
      try have hg1_0 : ∀ o, w1.frozen? ⟨w.heap.size, o, none⟩ = false := by intro o; rw [hb]; first | (simp (maxDischargeDepth := 7) [go_sem]; done) | (simp (maxDischargeDepth := 7) [go_sem, *]; done)
      clear ha hb
      refine kuz (b := w.heap.size + 1) hk1 (by first | (simp; done) | (simp; omega) | omega) ?_
      intro ha hb hz1_1 hn1_1 hm1_1
      have hf1_1_0 : w1.cell? ⟨w.heap.size + 1, 0, none⟩ = some (.int .i64 pX) := (ha _).trans (by first | with_reducible assumption | (simp (maxDischargeDepth := 7) [go_sem]; done) | (simp (maxDischargeDepth := 7) [go_sem, *]; done))
      have hf1_1_1 : w1.cell? ⟨w.heap.size + 1, 1, none⟩ = some (.int .i64 pY) := (ha _).trans (by first | with_reducible assumption | (simp (maxDischargeDepth := 7) [go_sem]; done) | (simp (maxDischargeDepth := 7) [go_sem, *]; done))
      try have hg1_1 : ∀ o, w1.frozen? ⟨w.heap.size + 1, o, none⟩ = false := by intro o; rw [hb]; first | (simp (maxDischargeDepth := 7) [go_sem]; done) | (simp (maxDischargeDepth := 7) [go_sem, *]; done)
      clear ha hb
      refine kuz (b := w.heap.size + 2) hk1 (by first | (simp; done) | (simp; omega) | omega) ?_
      intro ha hb hz1_2 hn1_2 hm1_2
      have hf1_2_0 : w1.cell? ⟨w.heap.size + 2, 0, none⟩ = some (.int .i64 0) := (ha _).trans (by first | with_reducible assumption | (simp (maxDischargeDepth := 7) [go_sem]; done) | (simp (maxDischargeDepth := 7) [go_sem, *]; done))
      have hf1_2_1 : w1.cell? ⟨w.heap.size + 2, 1, none⟩ = some (.int .i64 0) := (ha _).trans (by first | with_reducible assumption | (simp (maxDischargeDepth := 7) [go_sem]; done) | (simp (maxDischargeDepth := 7) [go_sem, *]; done))
      try have hg1_2 : ∀ o, w1.frozen? ⟨w.heap.size + 2, o, none⟩ = false := by intro o; rw [hb]; first | (simp (maxDischargeDepth := 7) [go_sem]; done) | (simp (maxDischargeDepth := 7) [go_sem, *]; done)
      clear ha hb
      go_wp2_with fail
      with_reducible refine (rpv_ok pX pY hp _).mono ?_
      rintro e w2 ⟨rfl, hk2⟩
      refine kuz (b := w.heap.size) hk2 (by first | (simp; done) | (simp; omega) | omega) ?_
      intro ha hb hz2_0 hn2_0 hm2_0
      have hf2_0_0 : w2.cell? ⟨w.heap.size, 0, none⟩ = some (.int .i64 cX) := (ha _).trans (by first | with_reducible assumption | (simp (maxDischargeDepth := 7) [go_sem]; done) | (simp (maxDischargeDepth := 7) [go_sem, *]; done))
      have hf2_0_1 : w2.cell? ⟨w.heap.size, 1, none⟩ = some (.int .i64 cY) := (ha _).trans (by first | with_reducible assumption | (simp (maxDischargeDepth := 7) [go_sem]; done) | (simp (maxDischargeDepth := 7) [go_sem, *]; done))
      try have hg2_0 : ∀ o, w2.frozen? ⟨w.heap.size, o, none⟩ = false := by intro o; rw [hb]; first | (simp (maxDischargeDepth := 7) [go_sem]; done) | (simp (maxDischargeDepth := 7) [go_sem, *]; done)
      clear ha hb
      refine kuz (b := w.heap.size + 1) hk2 (by first | (simp; done) | (simp; omega) | omega) ?_
      intro ha hb hz2_1 hn2_1 hm2_1
      have hf2_1_0 : w2.cell? ⟨w.heap.size + 1, 0, none⟩ = some (.int .i64 pX) := (ha _).trans (by first | with_reducible assumption | (simp (maxDischargeDepth := 7) [go_sem]; done) | (simp (maxDischargeDepth := 7) [go_sem, *]; done))
      have hf2_1_1 : w2.cell? ⟨w.heap.size + 1, 1, none⟩ = some (.int .i64 pY) := (ha _).trans (by first | with_reducible assumption | (simp (maxDischargeDepth := 7) [go_sem]; done) | (simp (maxDischargeDepth := 7) [go_sem, *]; done))
      try have hg2_1 : ∀ o, w2.frozen? ⟨w.heap.size + 1, o, none⟩ = false := by intro o; rw [hb]; first | (simp (maxDischargeDepth := 7) [go_sem]; done) | (simp (maxDischargeDepth := 7) [go_sem, *]; done)
      clear ha hb
      refine kuz (b := w.heap.size + 2) hk2 (by first | (simp; done) | (simp; omega) | omega) ?_
      intro ha hb hz2_2 hn2_2 hm2_2
      have hf2_2_0 : w2.cell? ⟨w.heap.size + 2, 0, none⟩ = some (.int .i64 0) := (ha _).trans (by first | with_reducible assumption | (simp (maxDischargeDepth := 7) [go_sem]; done) | (simp (maxDischargeDepth := 7) [go_sem, *]; done))
      have hf2_2_1 : w2.cell? ⟨w.heap.size + 2, 1, none⟩ = some (.int .i64 0) := (ha _).trans (by first | with_reducible assumption | (simp (maxDischargeDepth := 7) [go_sem]; done) | (simp (maxDischargeDepth := 7) [go_sem, *]; done))
      try have hg2_2 : ∀ o, w2.frozen? ⟨w.heap.size + 2, o, none⟩ = false := by intro o; rw [hb]; first | (simp (maxDischargeDepth := 7) [go_sem]; done) | (simp (maxDischargeDepth := 7) [go_sem, *]; done)
      clear ha hb
      (try clear hf1_0_0); (try clear hf1_0_1); (try clear hf1_1_0); (try clear hf1_1_1); (try clear hf1_2_0); (try clear hf1_2_1); (try clear hg1_0); (try clear hg1_1); (try clear hg1_2); (try clear hz1_1); (try clear hz1_2)
      go_wp2_with fail
      all_goals exact bodyPost_ret (v := .tuple #[.agg #[.int .i64 0, .int .i64 0], .int .i64 2]) (by first | (simp [results, Try.results33, go_sem]; done) | (simp (maxDischargeDepth := 7) [results, Try.results33, go_sem, *]; done)) rfl ⟨rfl, (by repeat (first | with_reducible exact Kept.refl _ | with_reducible assumption | with_reducible refine Kept.setCell ?_ (by first | (simp; done) | (simp; omega) | omega) _ | with_reducible refine Kept.alloc ?_ _ | with_reducible refine Kept.drewN ?_ _ | with_reducible refine Kept.drew ?_ | with_reducible refine Kept.trans ?_ (by with_reducible assumption) | with_reducible refine Kept.dr ?_ (by with_reducible assumption)))⟩
  · rcases h with h | h
    · go_enter Try.func33, Try.ntmps33
      go_wp2_with fail
      with_reducible refine (rpv_ok cX cY hc _).mono ?_
      rintro e w1 ⟨rfl, hk1⟩
      refine kuz (b := w.heap.size) hk1 (by first | (simp; done) | (simp; omega) | omega) ?_
      intro ha hb hz1_0 hn1_0 hm1_0
      have hf1_0_0 : w1.cell? ⟨w.heap.size, 0, none⟩ = some (.int .i64 cX) := (ha _).trans (by first | with_reducible assumption | (simp (maxDischargeDepth := 7) [go_sem]; done) | (simp (maxDischargeDepth := 7) [go_sem, *]; done))
      have hf1_0_1 : w1.cell? ⟨w.heap.size, 1, none⟩ = some (.int .i64 cY) := (ha _).trans (by first | with_reducible assumption | (simp (maxDischargeDepth := 7) [go_sem]; done) | (simp (maxDischargeDepth := 7) [go_sem, *]; done))
      try have hg1_0 : ∀ o, w1.frozen? ⟨w.heap.size, o, none⟩ = false := by intro o; rw [hb]; first | (simp (maxDischargeDepth := 7) [go_sem]; done) | (simp (maxDischargeDepth := 7) [go_sem, *]; done)
      clear ha hb
      refine kuz (b := w.heap.size + 1) hk1 (by first | (simp; done) | (simp; omega) | omega) ?_
      intro ha hb hz1_1 hn1_1 hm1_1
      have hf1_1_0 : w1.cell? ⟨w.heap.size + 1, 0, none⟩ = some (.int .i64 pX) := (ha _).trans (by first | with_reducible assumption | (simp (maxDischargeDepth := 7) [go_sem]; done) | (simp (maxDischargeDepth := 7) [go_sem, *]; done))
      have hf1_1_1 : w1.cell? ⟨w.heap.size + 1, 1, none⟩ = some (.int .i64 pY) := (ha _).trans (by first | with_reducible assumption | (simp (maxDischargeDepth := 7) [go_sem]; done) | (simp (maxDischargeDepth := 7) [go_sem, *]; done))
      try have hg1_1 : ∀ o, w1.frozen? ⟨w.heap.size + 1, o, none⟩ = false := by intro o; rw [hb]; first | (simp (maxDischargeDepth := 7) [go_sem]; done) | (simp (maxDischargeDepth := 7) [go_sem, *]; done)
      clear ha hb
      refine kuz (b := w.heap.size + 2) hk1 (by first | (simp; done) | (simp; omega) | omega) ?_
      intro ha hb hz1_2 hn1_2 hm1_2
      have hf1_2_0 : w1.cell? ⟨w.heap.size + 2, 0, none⟩ = some (.int .i64 0) := (ha _).trans (by first | with_reducible assumption | (simp (maxDischargeDepth := 7) [go_sem]; done) | (simp (maxDischargeDepth := 7) [go_sem, *]; done))
      have hf1_2_1 : w1.cell? ⟨w.heap.size + 2, 1, none⟩ = some (.int .i64 0) := (ha _).trans (by first | with_reducible assumption | (simp (maxDischargeDepth := 7) [go_sem]; done) | (simp (maxDischargeDepth := 7) [go_sem, *]; done))
      try have hg1_2 : ∀ o, w1.frozen? ⟨w.heap.size + 2, o, none⟩ = false := by intro o; rw [hb]; first | (simp (maxDischargeDepth := 7) [go_sem]; done) | (simp (maxDischargeDepth := 7) [go_sem, *]; done)
      clear ha hb
      go_wp2_with fail
      with_reducible refine (rpv_ok pX pY hp _).mono ?_
      rintro e w2 ⟨rfl, hk2⟩
      refine kuz (b := w.heap.size) hk2 (by first | (simp; done) | (simp; omega) | omega) ?_
      intro ha hb hz2_0 hn2_0 hm2_0
      have hf2_0_0 : w2.cell? ⟨w.heap.size, 0, none⟩ = some (.int .i64 cX) := (ha _).trans (by first | with_reducible assumption | (simp (maxDischargeDepth := 7) [go_sem]; done) | (simp (maxDischargeDepth := 7) [go_sem, *]; done))
      have hf2_0_1 : w2.cell? ⟨w.heap.size, 1, none⟩ = some (.int .i64 cY) := (ha _).trans (by first | with_reducible assumption | (simp (maxDischargeDepth := 7) [go_sem]; done) | (simp (maxDischargeDepth := 7) [go_sem, *]; done))
      try have hg2_0 : ∀ o, w2.frozen? ⟨w.heap.size, o, none⟩ = false := by intro o; rw [hb]; first | (simp (maxDischargeDepth := 7) [go_sem]; done) | (simp (maxDischargeDepth := 7) [go_sem, *]; done)
      clear ha hb
      refine kuz (b := w.heap.size + 1) hk2 (by first | (simp; done) | (simp; omega) | omega) ?_
      intro ha hb hz2_1 hn2_1 hm2_1
      have hf2_1_0 : w2.cell? ⟨w.heap.size + 1, 0, none⟩ = some (.int .i64 pX) := (ha _).trans (by first | with_reducible assumption | (simp (maxDischargeDepth := 7) [go_sem]; done) | (simp (maxDischargeDepth := 7) [go_sem, *]; done))
      have hf2_1_1 : w2.cell? ⟨w.heap.size + 1, 1, none⟩ = some (.int .i64 pY) := (ha _).trans (by first | with_reducible assumption | (simp (maxDischargeDepth := 7) [go_sem]; done) | (simp (maxDischargeDepth := 7) [go_sem, *]; done))
      try have hg2_1 : ∀ o, w2.frozen? ⟨w.heap.size + 1, o, none⟩ = false := by intro o; rw [hb]; first | (simp (maxDischargeDepth := 7) [go_sem]; done) | (simp (maxDischargeDepth := 7) [go_sem, *]; done)
      clear ha hb
      refine kuz (b := w.heap.size + 2) hk2 (by first | (simp; done) | (simp; omega) | omega) ?_
      intro ha hb hz2_2 hn2_2 hm2_2
      have hf2_2_0 : w2.cell? ⟨w.heap.size + 2, 0, none⟩ = some (.int .i64 0) := (ha _).trans (by first | with_reducible assumption | (simp (maxDischargeDepth := 7) [go_sem]; done) | (simp (maxDischargeDepth := 7) [go_sem, *]; done))
      have hf2_2_1 : w2.cell? ⟨w.heap.size + 2, 1, none⟩ = some (.int .i64 0) := (ha _).trans (by first | with_reducible assumption | (simp (maxDischargeDepth := 7) [go_sem]; done) | (simp (maxDischargeDepth := 7) [go_sem, *]; done))
      try have hg2_2 : ∀ o, w2.frozen? ⟨w.heap.size + 2, o, none⟩ = false := by intro o; rw [hb]; first | (simp (maxDischargeDepth := 7) [go_sem]; done) | (simp (maxDischargeDepth := 7) [go_sem, *]; done)
      clear ha hb
      (try clear hf1_0_0); (try clear hf1_0_1); (try clear hf1_1_0); (try clear hf1_1_1); (try clear hf1_2_0); (try clear hf1_2_1); (try clear hg1_0); (try clear hg1_1); (try clear hg1_2); (try clear hz1_1); (try clear hz1_2)
      go_wp2_with fail
      all_goals exact bodyPost_ret (v := .tuple #[.agg #[.int .i64 0, .int .i64 0], .int .i64 2]) (by first | (simp [results, Try.results33, go_sem]; done) | (simp (maxDischargeDepth := 7) [results, Try.results33, go_sem, *]; done)) rfl ⟨rfl, (by repeat (first | with_reducible exact Kept.refl _ | with_reducible assumption | with_reducible refine Kept.setCell ?_ (by first | (simp; done) | (simp; omega) | omega) _ | with_reducible refine Kept.alloc ?_ _ | with_reducible refine Kept.drewN ?_ _ | with_reducible refine Kept.drew ?_ | with_reducible refine Kept.trans ?_ (by with_reducible assumption) | with_reducible refine Kept.dr ?_ (by with_reducible assumption)))⟩
    · have h' : ¬ r < 1 := by omega
      go_enter Try.func33, Try.ntmps33
      go_wp2_with fail
      with_reducible refine (rpv_ok cX cY hc _).mono ?_
      rintro e w1 ⟨rfl, hk1⟩
      refine kuz (b := w.heap.size) hk1 (by first | (simp; done) | (simp; omega) | omega) ?_
      intro ha hb hz1_0 hn1_0 hm1_0
      have hf1_0_0 : w1.cell? ⟨w.heap.size, 0, none⟩ = some (.int .i64 cX) := (ha _).trans (by first | with_reducible assumption | (simp (maxDischargeDepth := 7) [go_sem]; done) | (simp (maxDischargeDepth := 7) [go_sem, *]; done))
      have hf1_0_1 : w1.cell? ⟨w.heap.size, 1, none⟩ = some (.int .i64 cY) := (ha _).trans (by first | with_reducible assumption | (simp (maxDischargeDepth := 7) [go_sem]; done) | (simp (maxDischargeDepth := 7) [go_sem, *]; done))
      try have hg1_0 : ∀ o, w1.frozen? ⟨w.heap.size, o, none⟩ = false := by intro o; rw [hb]; first | (simp (maxDischargeDepth := 7) [go_sem]; done) | (simp (maxDischargeDepth := 7) [go_sem, *]; done)
      clear ha hb
      refine kuz (b := w.heap.size + 1) hk1 (by first | (simp; done) | (simp; omega) | omega) ?_
      intro ha hb hz1_1 hn1_1 hm1_1
      have hf1_1_0 : w1.cell? ⟨w.heap.size + 1, 0, none⟩ = some (.int .i64 pX) := (ha _).trans (by first | with_reducible assumption | (simp (maxDischargeDepth := 7) [go_sem]; done) | (simp (maxDischargeDepth := 7) [go_sem, *]; done))
      have hf1_1_1 : w1.cell? ⟨w.heap.size + 1, 1, none⟩ = some (.int .i64 pY) := (ha _).trans (by first | with_reducible assumption | (simp (maxDischargeDepth := 7) [go_sem]; done) | (simp (maxDischargeDepth := 7) [go_sem, *]; done))
      try have hg1_1 : ∀ o, w1.frozen? ⟨w.heap.size + 1, o, none⟩ = false := by intro o; rw [hb]; first | (simp (maxDischargeDepth := 7) [go_sem]; done) | (simp (maxDischargeDepth := 7) [go_sem, *]; done)
      clear ha hb
      refine kuz (b := w.heap.size + 2) hk1 (by first | (simp; done) | (simp; omega) | omega) ?_
      intro ha hb hz1_2 hn1_2 hm1_2
      have hf1_2_0 : w1.cell? ⟨w.heap.size + 2, 0, none⟩ = some (.int .i64 0) := (ha _).trans (by first | with_reducible assumption | (simp (maxDischargeDepth := 7) [go_sem]; done) | (simp (maxDischargeDepth := 7) [go_sem, *]; done))
      have hf1_2_1 : w1.cell? ⟨w.heap.size + 2, 1, none⟩ = some (.int .i64 0) := (ha _).trans (by first | with_reducible assumption | (simp (maxDischargeDepth := 7) [go_sem]; done) | (simp (maxDischargeDepth := 7) [go_sem, *]; done))
      try have hg1_2 : ∀ o, w1.frozen? ⟨w.heap.size + 2, o, none⟩ = false := by intro o; rw [hb]; first | (simp (maxDischargeDepth := 7) [go_sem]; done) | (simp (maxDischargeDepth := 7) [go_sem, *]; done)
      clear ha hb
      go_wp2_with fail
      with_reducible refine (rpv_ok pX pY hp _).mono ?_
      rintro e w2 ⟨rfl, hk2⟩
      refine kuz (b := w.heap.size) hk2 (by first | (simp; done) | (simp; omega) | omega) ?_
      intro ha hb hz2_0 hn2_0 hm2_0
      have hf2_0_0 : w2.cell? ⟨w.heap.size, 0, none⟩ = some (.int .i64 cX) := (ha _).trans (by first | with_reducible assumption | (simp (maxDischargeDepth := 7) [go_sem]; done) | (simp (maxDischargeDepth := 7) [go_sem, *]; done))
      have hf2_0_1 : w2.cell? ⟨w.heap.size, 1, none⟩ = some (.int .i64 cY) := (ha _).trans (by first | with_reducible assumption | (simp (maxDischargeDepth := 7) [go_sem]; done) | (simp (maxDischargeDepth := 7) [go_sem, *]; done))
      try have hg2_0 : ∀ o, w2.frozen? ⟨w.heap.size, o, none⟩ = false := by intro o; rw [hb]; first | (simp (maxDischargeDepth := 7) [go_sem]; done) | (simp (maxDischargeDepth := 7) [go_sem, *]; done)
      clear ha hb
      refine kuz (b := w.heap.size + 1) hk2 (by first | (simp; done) | (simp; omega) | omega) ?_
      intro ha hb hz2_1 hn2_1 hm2_1
      have hf2_1_0 : w2.cell? ⟨w.heap.size + 1, 0, none⟩ = some (.int .i64 pX) := (ha _).trans (by first | with_reducible assumption | (simp (maxDischargeDepth := 7) [go_sem]; done) | (simp (maxDischargeDepth := 7) [go_sem, *]; done))
      have hf2_1_1 : w2.cell? ⟨w.heap.size + 1, 1, none⟩ = some (.int .i64 pY) := (ha _).trans (by first | with_reducible assumption | (simp (maxDischargeDepth := 7) [go_sem]; done) | (simp (maxDischargeDepth := 7) [go_sem, *]; done))
      try have hg2_1 : ∀ o, w2.frozen? ⟨w.heap.size + 1, o, none⟩ = false := by intro o; rw [hb]; first | (simp (maxDischargeDepth := 7) [go_sem]; done) | (simp (maxDischargeDepth := 7) [go_sem, *]; done)
      clear ha hb
      refine kuz (b := w.heap.size + 2) hk2 (by first | (simp; done) | (simp; omega) | omega) ?_
      intro ha hb hz2_2 hn2_2 hm2_2
      have hf2_2_0 : w2.cell? ⟨w.heap.size + 2, 0, none⟩ = some (.int .i64 0) := (ha _).trans (by first | with_reducible assumption | (simp (maxDischargeDepth := 7) [go_sem]; done) | (simp (maxDischargeDepth := 7) [go_sem, *]; done))
      have hf2_2_1 : w2.cell? ⟨w.heap.size + 2, 1, none⟩ = some (.int .i64 0) := (ha _).trans (by first | with_reducible assumption | (simp (maxDischargeDepth := 7) [go_sem]; done) | (simp (maxDischargeDepth := 7) [go_sem, *]; done))
      try have hg2_2 : ∀ o, w2.frozen? ⟨w.heap.size + 2, o, none⟩ = false := by intro o; rw [hb]; first | (simp (maxDischargeDepth := 7) [go_sem]; done) | (simp (maxDischargeDepth := 7) [go_sem, *]; done)
      clear ha hb
      (try clear hf1_0_0); (try clear hf1_0_1); (try clear hf1_1_0); (try clear hf1_1_1); (try clear hf1_2_0); (try clear hf1_2_1); (try clear hg1_0); (try clear hg1_1); (try clear hg1_2); (try clear hz1_1); (try clear hz1_2)
      go_wp2_with fail
      all_goals exact bodyPost_ret (v := .tuple #[.agg #[.int .i64 0, .int .i64 0], .int .i64 2]) (by first | (simp [results, Try.results33, go_sem]; done) | (simp (maxDischargeDepth := 7) [results, Try.results33, go_sem, *]; done)) rfl ⟨rfl, (by repeat (first | with_reducible exact Kept.refl _ | with_reducible assumption | with_reducible refine Kept.setCell ?_ (by first | (simp; done) | (simp; omega) | omega) _ | with_reducible refine Kept.alloc ?_ _ | with_reducible refine Kept.drewN ?_ _ | with_reducible refine Kept.drew ?_ | with_reducible refine Kept.trans ?_ (by with_reducible assumption) | with_reducible refine Kept.dr ?_ (by with_reducible assumption)))⟩
set_option maxHeartbeats 4000000 in
set_option maxRecDepth 100000 in
theorem ref_tangent_geo (cX cY pX pY r k : Int) (hc : pokB cX cY = true) (hp : pokB pX pY = true) (hk : k = 1 ∨ k = 2) (r0 : 1 ≤ r) (r1 : r ≤ 8000000) (hs : dtp (pX - cX) (pY - cY) (pX - cX) (pY - cY) ≤ r * r) (w : World) : Calls Try.prog 33 #[.agg #[.int .i64 cX, .int .i64 cY], .int .i64 r, .int .u8 k, .agg #[.int .i64 pX, .int .i64 pY]] w fun e w' => e = .returned (.tuple #[.agg #[.int .i64 0, .int .i64 0], .int .i64 10]) ∧ Kept w w' := by
  rcases hk with rfl | rfl
  · obtain ⟨cX0, cX1, cY0, cY1⟩ := pok_yes hc
    obtain ⟨pX0, pX1, pY0, pY1⟩ := pok_yes hp
    obtain ⟨lm00, lm01⟩ := dtp_lim4 (pX - cX) (pY - cY) (pX - cX) (pY - cY) (by omega) (by omega) (by omega) (by omega) (by omega) (by omega) (by omega) (by omega)
    have rr := Int.mul_le_mul r1 r1 (by omega) (show (0 : Int) ≤ 8000000 by omega)
    have rn := Int.mul_nonneg (show 0 ≤ r by omega) (show 0 ≤ r by omega)
    have DT := fun w => ref_dot_w cX cY pX pY cX cY pX pY (by omega) (by omega) (by omega) (by omega) (by omega) (by omega) (by omega) (by omega) (by omega) (by omega) (by omega) (by omega) (by omega) (by omega) (by omega) (by omega) w
    have wrr : IntKind.i64.wrap (r * r) = r * r := IntWalk.i64_in _ (by omega)
    generalize dtp (pX - cX) (pY - cY) (pX - cX) (pY - cY) = SS at *
    have HDT := Lib.hid DT
    clear DT
    go_enter Try.func33, Try.ntmps33
    go_wp2_with fail
    with_reducible refine (rpv_ok cX cY hc _).mono ?_
    rintro e w1 ⟨rfl, hk1⟩
    refine kuz (b := w.heap.size) hk1 (by first | (simp; done) | (simp; omega) | omega) ?_
    intro ha hb hz1_0 hn1_0 hm1_0
    have hf1_0_0 : w1.cell? ⟨w.heap.size, 0, none⟩ = some (.int .i64 cX) := (ha _).trans (by first | with_reducible assumption | (simp (maxDischargeDepth := 7) [go_sem]; done) | (simp (maxDischargeDepth := 7) [go_sem, *]; done))
    have hf1_0_1 : w1.cell? ⟨w.heap.size, 1, none⟩ = some (.int .i64 cY) := (ha _).trans (by first | with_reducible assumption | (simp (maxDischargeDepth := 7) [go_sem]; done) | (simp (maxDischargeDepth := 7) [go_sem, *]; done))
    try have hg1_0 : ∀ o, w1.frozen? ⟨w.heap.size, o, none⟩ = false := by intro o; rw [hb]; first | (simp (maxDischargeDepth := 7) [go_sem]; done) | (simp (maxDischargeDepth := 7) [go_sem, *]; done)
    clear ha hb
    refine kuz (b := w.heap.size + 1) hk1 (by first | (simp; done) | (simp; omega) | omega) ?_
    intro ha hb hz1_1 hn1_1 hm1_1
    have hf1_1_0 : w1.cell? ⟨w.heap.size + 1, 0, none⟩ = some (.int .i64 pX) := (ha _).trans (by first | with_reducible assumption | (simp (maxDischargeDepth := 7) [go_sem]; done) | (simp (maxDischargeDepth := 7) [go_sem, *]; done))
    have hf1_1_1 : w1.cell? ⟨w.heap.size + 1, 1, none⟩ = some (.int .i64 pY) := (ha _).trans (by first | with_reducible assumption | (simp (maxDischargeDepth := 7) [go_sem]; done) | (simp (maxDischargeDepth := 7) [go_sem, *]; done))
    try have hg1_1 : ∀ o, w1.frozen? ⟨w.heap.size + 1, o, none⟩ = false := by intro o; rw [hb]; first | (simp (maxDischargeDepth := 7) [go_sem]; done) | (simp (maxDischargeDepth := 7) [go_sem, *]; done)
    clear ha hb
    refine kuz (b := w.heap.size + 2) hk1 (by first | (simp; done) | (simp; omega) | omega) ?_
    intro ha hb hz1_2 hn1_2 hm1_2
    have hf1_2_0 : w1.cell? ⟨w.heap.size + 2, 0, none⟩ = some (.int .i64 0) := (ha _).trans (by first | with_reducible assumption | (simp (maxDischargeDepth := 7) [go_sem]; done) | (simp (maxDischargeDepth := 7) [go_sem, *]; done))
    have hf1_2_1 : w1.cell? ⟨w.heap.size + 2, 1, none⟩ = some (.int .i64 0) := (ha _).trans (by first | with_reducible assumption | (simp (maxDischargeDepth := 7) [go_sem]; done) | (simp (maxDischargeDepth := 7) [go_sem, *]; done))
    try have hg1_2 : ∀ o, w1.frozen? ⟨w.heap.size + 2, o, none⟩ = false := by intro o; rw [hb]; first | (simp (maxDischargeDepth := 7) [go_sem]; done) | (simp (maxDischargeDepth := 7) [go_sem, *]; done)
    clear ha hb
    go_wp2_with fail
    with_reducible refine (rpv_ok pX pY hp _).mono ?_
    rintro e w2 ⟨rfl, hk2⟩
    refine kuz (b := w.heap.size) hk2 (by first | (simp; done) | (simp; omega) | omega) ?_
    intro ha hb hz2_0 hn2_0 hm2_0
    have hf2_0_0 : w2.cell? ⟨w.heap.size, 0, none⟩ = some (.int .i64 cX) := (ha _).trans (by first | with_reducible assumption | (simp (maxDischargeDepth := 7) [go_sem]; done) | (simp (maxDischargeDepth := 7) [go_sem, *]; done))
    have hf2_0_1 : w2.cell? ⟨w.heap.size, 1, none⟩ = some (.int .i64 cY) := (ha _).trans (by first | with_reducible assumption | (simp (maxDischargeDepth := 7) [go_sem]; done) | (simp (maxDischargeDepth := 7) [go_sem, *]; done))
    try have hg2_0 : ∀ o, w2.frozen? ⟨w.heap.size, o, none⟩ = false := by intro o; rw [hb]; first | (simp (maxDischargeDepth := 7) [go_sem]; done) | (simp (maxDischargeDepth := 7) [go_sem, *]; done)
    clear ha hb
    refine kuz (b := w.heap.size + 1) hk2 (by first | (simp; done) | (simp; omega) | omega) ?_
    intro ha hb hz2_1 hn2_1 hm2_1
    have hf2_1_0 : w2.cell? ⟨w.heap.size + 1, 0, none⟩ = some (.int .i64 pX) := (ha _).trans (by first | with_reducible assumption | (simp (maxDischargeDepth := 7) [go_sem]; done) | (simp (maxDischargeDepth := 7) [go_sem, *]; done))
    have hf2_1_1 : w2.cell? ⟨w.heap.size + 1, 1, none⟩ = some (.int .i64 pY) := (ha _).trans (by first | with_reducible assumption | (simp (maxDischargeDepth := 7) [go_sem]; done) | (simp (maxDischargeDepth := 7) [go_sem, *]; done))
    try have hg2_1 : ∀ o, w2.frozen? ⟨w.heap.size + 1, o, none⟩ = false := by intro o; rw [hb]; first | (simp (maxDischargeDepth := 7) [go_sem]; done) | (simp (maxDischargeDepth := 7) [go_sem, *]; done)
    clear ha hb
    refine kuz (b := w.heap.size + 2) hk2 (by first | (simp; done) | (simp; omega) | omega) ?_
    intro ha hb hz2_2 hn2_2 hm2_2
    have hf2_2_0 : w2.cell? ⟨w.heap.size + 2, 0, none⟩ = some (.int .i64 0) := (ha _).trans (by first | with_reducible assumption | (simp (maxDischargeDepth := 7) [go_sem]; done) | (simp (maxDischargeDepth := 7) [go_sem, *]; done))
    have hf2_2_1 : w2.cell? ⟨w.heap.size + 2, 1, none⟩ = some (.int .i64 0) := (ha _).trans (by first | with_reducible assumption | (simp (maxDischargeDepth := 7) [go_sem]; done) | (simp (maxDischargeDepth := 7) [go_sem, *]; done))
    try have hg2_2 : ∀ o, w2.frozen? ⟨w.heap.size + 2, o, none⟩ = false := by intro o; rw [hb]; first | (simp (maxDischargeDepth := 7) [go_sem]; done) | (simp (maxDischargeDepth := 7) [go_sem, *]; done)
    clear ha hb
    (try clear hf1_0_0); (try clear hf1_0_1); (try clear hf1_1_0); (try clear hf1_1_1); (try clear hf1_2_0); (try clear hf1_2_1); (try clear hg1_0); (try clear hg1_1); (try clear hg1_2); (try clear hz1_1); (try clear hz1_2)
    go_wp2_with fail
    with_reducible refine (HDT.out _).mono ?_
    rintro e w3 ⟨rfl, hk3⟩
    refine kuz (b := w.heap.size) hk3 (by first | (simp; done) | (simp; omega) | omega) ?_
    intro ha hb hz3_0 hn3_0 hm3_0
    have hf3_0_0 : w3.cell? ⟨w.heap.size, 0, none⟩ = some (.int .i64 cX) := (ha _).trans (by first | with_reducible assumption | (simp (maxDischargeDepth := 7) [go_sem]; done) | (simp (maxDischargeDepth := 7) [go_sem, *]; done))
    have hf3_0_1 : w3.cell? ⟨w.heap.size, 1, none⟩ = some (.int .i64 cY) := (ha _).trans (by first | with_reducible assumption | (simp (maxDischargeDepth := 7) [go_sem]; done) | (simp (maxDischargeDepth := 7) [go_sem, *]; done))
    try have hg3_0 : ∀ o, w3.frozen? ⟨w.heap.size, o, none⟩ = false := by intro o; rw [hb]; first | (simp (maxDischargeDepth := 7) [go_sem]; done) | (simp (maxDischargeDepth := 7) [go_sem, *]; done)
    clear ha hb
    refine kuz (b := w.heap.size + 1) hk3 (by first | (simp; done) | (simp; omega) | omega) ?_
    intro ha hb hz3_1 hn3_1 hm3_1
    have hf3_1_0 : w3.cell? ⟨w.heap.size + 1, 0, none⟩ = some (.int .i64 pX) := (ha _).trans (by first | with_reducible assumption | (simp (maxDischargeDepth := 7) [go_sem]; done) | (simp (maxDischargeDepth := 7) [go_sem, *]; done))
    have hf3_1_1 : w3.cell? ⟨w.heap.size + 1, 1, none⟩ = some (.int .i64 pY) := (ha _).trans (by first | with_reducible assumption | (simp (maxDischargeDepth := 7) [go_sem]; done) | (simp (maxDischargeDepth := 7) [go_sem, *]; done))
    try have hg3_1 : ∀ o, w3.frozen? ⟨w.heap.size + 1, o, none⟩ = false := by intro o; rw [hb]; first | (simp (maxDischargeDepth := 7) [go_sem]; done) | (simp (maxDischargeDepth := 7) [go_sem, *]; done)
    clear ha hb
    refine kuz (b := w.heap.size + 2) hk3 (by first | (simp; done) | (simp; omega) | omega) ?_
    intro ha hb hz3_2 hn3_2 hm3_2
    have hf3_2_0 : w3.cell? ⟨w.heap.size + 2, 0, none⟩ = some (.int .i64 0) := (ha _).trans (by first | with_reducible assumption | (simp (maxDischargeDepth := 7) [go_sem]; done) | (simp (maxDischargeDepth := 7) [go_sem, *]; done))
    have hf3_2_1 : w3.cell? ⟨w.heap.size + 2, 1, none⟩ = some (.int .i64 0) := (ha _).trans (by first | with_reducible assumption | (simp (maxDischargeDepth := 7) [go_sem]; done) | (simp (maxDischargeDepth := 7) [go_sem, *]; done))
    try have hg3_2 : ∀ o, w3.frozen? ⟨w.heap.size + 2, o, none⟩ = false := by intro o; rw [hb]; first | (simp (maxDischargeDepth := 7) [go_sem]; done) | (simp (maxDischargeDepth := 7) [go_sem, *]; done)
    clear ha hb
    (try clear hf2_0_0); (try clear hf2_0_1); (try clear hf2_1_0); (try clear hf2_1_1); (try clear hf2_2_0); (try clear hf2_2_1); (try clear hg2_0); (try clear hg2_1); (try clear hg2_2); (try clear hz2_1); (try clear hz2_2)
    go_wp2_with fail
    all_goals exact bodyPost_ret (v := .tuple #[.agg #[.int .i64 0, .int .i64 0], .int .i64 10]) (by first | (simp [results, Try.results33, go_sem]; done) | (simp (maxDischargeDepth := 7) [results, Try.results33, go_sem, *]; done)) rfl ⟨rfl, (by repeat (first | with_reducible exact Kept.refl _ | with_reducible assumption | with_reducible refine Kept.setCell ?_ (by first | (simp; done) | (simp; omega) | omega) _ | with_reducible refine Kept.alloc ?_ _ | with_reducible refine Kept.drewN ?_ _ | with_reducible refine Kept.drew ?_ | with_reducible refine Kept.trans ?_ (by with_reducible assumption) | with_reducible refine Kept.dr ?_ (by with_reducible assumption)))⟩
  · obtain ⟨cX0, cX1, cY0, cY1⟩ := pok_yes hc
    obtain ⟨pX0, pX1, pY0, pY1⟩ := pok_yes hp
    obtain ⟨lm00, lm01⟩ := dtp_lim4 (pX - cX) (pY - cY) (pX - cX) (pY - cY) (by omega) (by omega) (by omega) (by omega) (by omega) (by omega) (by omega) (by omega)
    have rr := Int.mul_le_mul r1 r1 (by omega) (show (0 : Int) ≤ 8000000 by omega)
    have rn := Int.mul_nonneg (show 0 ≤ r by omega) (show 0 ≤ r by omega)
    have DT := fun w => ref_dot_w cX cY pX pY cX cY pX pY (by omega) (by omega) (by omega) (by omega) (by omega) (by omega) (by omega) (by omega) (by omega) (by omega) (by omega) (by omega) (by omega) (by omega) (by omega) (by omega) w
    have wrr : IntKind.i64.wrap (r * r) = r * r := IntWalk.i64_in _ (by omega)
    generalize dtp (pX - cX) (pY - cY) (pX - cX) (pY - cY) = SS at *
    have HDT := Lib.hid DT
    clear DT
    go_enter Try.func33, Try.ntmps33
    go_wp2_with fail
    with_reducible refine (rpv_ok cX cY hc _).mono ?_
    rintro e w1 ⟨rfl, hk1⟩
    refine kuz (b := w.heap.size) hk1 (by first | (simp; done) | (simp; omega) | omega) ?_
    intro ha hb hz1_0 hn1_0 hm1_0
    have hf1_0_0 : w1.cell? ⟨w.heap.size, 0, none⟩ = some (.int .i64 cX) := (ha _).trans (by first | with_reducible assumption | (simp (maxDischargeDepth := 7) [go_sem]; done) | (simp (maxDischargeDepth := 7) [go_sem, *]; done))
    have hf1_0_1 : w1.cell? ⟨w.heap.size, 1, none⟩ = some (.int .i64 cY) := (ha _).trans (by first | with_reducible assumption | (simp (maxDischargeDepth := 7) [go_sem]; done) | (simp (maxDischargeDepth := 7) [go_sem, *]; done))
    try have hg1_0 : ∀ o, w1.frozen? ⟨w.heap.size, o, none⟩ = false := by intro o; rw [hb]; first | (simp (maxDischargeDepth := 7) [go_sem]; done) | (simp (maxDischargeDepth := 7) [go_sem, *]; done)
    clear ha hb
    refine kuz (b := w.heap.size + 1) hk1 (by first | (simp; done) | (simp; omega) | omega) ?_
    intro ha hb hz1_1 hn1_1 hm1_1
    have hf1_1_0 : w1.cell? ⟨w.heap.size + 1, 0, none⟩ = some (.int .i64 pX) := (ha _).trans (by first | with_reducible assumption | (simp (maxDischargeDepth := 7) [go_sem]; done) | (simp (maxDischargeDepth := 7) [go_sem, *]; done))
    have hf1_1_1 : w1.cell? ⟨w.heap.size + 1, 1, none⟩ = some (.int .i64 pY) := (ha _).trans (by first | with_reducible assumption | (simp (maxDischargeDepth := 7) [go_sem]; done) | (simp (maxDischargeDepth := 7) [go_sem, *]; done))
    try have hg1_1 : ∀ o, w1.frozen? ⟨w.heap.size + 1, o, none⟩ = false := by intro o; rw [hb]; first | (simp (maxDischargeDepth := 7) [go_sem]; done) | (simp (maxDischargeDepth := 7) [go_sem, *]; done)
    clear ha hb
    refine kuz (b := w.heap.size + 2) hk1 (by first | (simp; done) | (simp; omega) | omega) ?_
    intro ha hb hz1_2 hn1_2 hm1_2
    have hf1_2_0 : w1.cell? ⟨w.heap.size + 2, 0, none⟩ = some (.int .i64 0) := (ha _).trans (by first | with_reducible assumption | (simp (maxDischargeDepth := 7) [go_sem]; done) | (simp (maxDischargeDepth := 7) [go_sem, *]; done))
    have hf1_2_1 : w1.cell? ⟨w.heap.size + 2, 1, none⟩ = some (.int .i64 0) := (ha _).trans (by first | with_reducible assumption | (simp (maxDischargeDepth := 7) [go_sem]; done) | (simp (maxDischargeDepth := 7) [go_sem, *]; done))
    try have hg1_2 : ∀ o, w1.frozen? ⟨w.heap.size + 2, o, none⟩ = false := by intro o; rw [hb]; first | (simp (maxDischargeDepth := 7) [go_sem]; done) | (simp (maxDischargeDepth := 7) [go_sem, *]; done)
    clear ha hb
    go_wp2_with fail
    with_reducible refine (rpv_ok pX pY hp _).mono ?_
    rintro e w2 ⟨rfl, hk2⟩
    refine kuz (b := w.heap.size) hk2 (by first | (simp; done) | (simp; omega) | omega) ?_
    intro ha hb hz2_0 hn2_0 hm2_0
    have hf2_0_0 : w2.cell? ⟨w.heap.size, 0, none⟩ = some (.int .i64 cX) := (ha _).trans (by first | with_reducible assumption | (simp (maxDischargeDepth := 7) [go_sem]; done) | (simp (maxDischargeDepth := 7) [go_sem, *]; done))
    have hf2_0_1 : w2.cell? ⟨w.heap.size, 1, none⟩ = some (.int .i64 cY) := (ha _).trans (by first | with_reducible assumption | (simp (maxDischargeDepth := 7) [go_sem]; done) | (simp (maxDischargeDepth := 7) [go_sem, *]; done))
    try have hg2_0 : ∀ o, w2.frozen? ⟨w.heap.size, o, none⟩ = false := by intro o; rw [hb]; first | (simp (maxDischargeDepth := 7) [go_sem]; done) | (simp (maxDischargeDepth := 7) [go_sem, *]; done)
    clear ha hb
    refine kuz (b := w.heap.size + 1) hk2 (by first | (simp; done) | (simp; omega) | omega) ?_
    intro ha hb hz2_1 hn2_1 hm2_1
    have hf2_1_0 : w2.cell? ⟨w.heap.size + 1, 0, none⟩ = some (.int .i64 pX) := (ha _).trans (by first | with_reducible assumption | (simp (maxDischargeDepth := 7) [go_sem]; done) | (simp (maxDischargeDepth := 7) [go_sem, *]; done))
    have hf2_1_1 : w2.cell? ⟨w.heap.size + 1, 1, none⟩ = some (.int .i64 pY) := (ha _).trans (by first | with_reducible assumption | (simp (maxDischargeDepth := 7) [go_sem]; done) | (simp (maxDischargeDepth := 7) [go_sem, *]; done))
    try have hg2_1 : ∀ o, w2.frozen? ⟨w.heap.size + 1, o, none⟩ = false := by intro o; rw [hb]; first | (simp (maxDischargeDepth := 7) [go_sem]; done) | (simp (maxDischargeDepth := 7) [go_sem, *]; done)
    clear ha hb
    refine kuz (b := w.heap.size + 2) hk2 (by first | (simp; done) | (simp; omega) | omega) ?_
    intro ha hb hz2_2 hn2_2 hm2_2
    have hf2_2_0 : w2.cell? ⟨w.heap.size + 2, 0, none⟩ = some (.int .i64 0) := (ha _).trans (by first | with_reducible assumption | (simp (maxDischargeDepth := 7) [go_sem]; done) | (simp (maxDischargeDepth := 7) [go_sem, *]; done))
    have hf2_2_1 : w2.cell? ⟨w.heap.size + 2, 1, none⟩ = some (.int .i64 0) := (ha _).trans (by first | with_reducible assumption | (simp (maxDischargeDepth := 7) [go_sem]; done) | (simp (maxDischargeDepth := 7) [go_sem, *]; done))
    try have hg2_2 : ∀ o, w2.frozen? ⟨w.heap.size + 2, o, none⟩ = false := by intro o; rw [hb]; first | (simp (maxDischargeDepth := 7) [go_sem]; done) | (simp (maxDischargeDepth := 7) [go_sem, *]; done)
    clear ha hb
    (try clear hf1_0_0); (try clear hf1_0_1); (try clear hf1_1_0); (try clear hf1_1_1); (try clear hf1_2_0); (try clear hf1_2_1); (try clear hg1_0); (try clear hg1_1); (try clear hg1_2); (try clear hz1_1); (try clear hz1_2)
    go_wp2_with fail
    with_reducible refine (HDT.out _).mono ?_
    rintro e w3 ⟨rfl, hk3⟩
    refine kuz (b := w.heap.size) hk3 (by first | (simp; done) | (simp; omega) | omega) ?_
    intro ha hb hz3_0 hn3_0 hm3_0
    have hf3_0_0 : w3.cell? ⟨w.heap.size, 0, none⟩ = some (.int .i64 cX) := (ha _).trans (by first | with_reducible assumption | (simp (maxDischargeDepth := 7) [go_sem]; done) | (simp (maxDischargeDepth := 7) [go_sem, *]; done))
    have hf3_0_1 : w3.cell? ⟨w.heap.size, 1, none⟩ = some (.int .i64 cY) := (ha _).trans (by first | with_reducible assumption | (simp (maxDischargeDepth := 7) [go_sem]; done) | (simp (maxDischargeDepth := 7) [go_sem, *]; done))
    try have hg3_0 : ∀ o, w3.frozen? ⟨w.heap.size, o, none⟩ = false := by intro o; rw [hb]; first | (simp (maxDischargeDepth := 7) [go_sem]; done) | (simp (maxDischargeDepth := 7) [go_sem, *]; done)
    clear ha hb
    refine kuz (b := w.heap.size + 1) hk3 (by first | (simp; done) | (simp; omega) | omega) ?_
    intro ha hb hz3_1 hn3_1 hm3_1
    have hf3_1_0 : w3.cell? ⟨w.heap.size + 1, 0, none⟩ = some (.int .i64 pX) := (ha _).trans (by first | with_reducible assumption | (simp (maxDischargeDepth := 7) [go_sem]; done) | (simp (maxDischargeDepth := 7) [go_sem, *]; done))
    have hf3_1_1 : w3.cell? ⟨w.heap.size + 1, 1, none⟩ = some (.int .i64 pY) := (ha _).trans (by first | with_reducible assumption | (simp (maxDischargeDepth := 7) [go_sem]; done) | (simp (maxDischargeDepth := 7) [go_sem, *]; done))
    try have hg3_1 : ∀ o, w3.frozen? ⟨w.heap.size + 1, o, none⟩ = false := by intro o; rw [hb]; first | (simp (maxDischargeDepth := 7) [go_sem]; done) | (simp (maxDischargeDepth := 7) [go_sem, *]; done)
    clear ha hb
    refine kuz (b := w.heap.size + 2) hk3 (by first | (simp; done) | (simp; omega) | omega) ?_
    intro ha hb hz3_2 hn3_2 hm3_2
    have hf3_2_0 : w3.cell? ⟨w.heap.size + 2, 0, none⟩ = some (.int .i64 0) := (ha _).trans (by first | with_reducible assumption | (simp (maxDischargeDepth := 7) [go_sem]; done) | (simp (maxDischargeDepth := 7) [go_sem, *]; done))
    have hf3_2_1 : w3.cell? ⟨w.heap.size + 2, 1, none⟩ = some (.int .i64 0) := (ha _).trans (by first | with_reducible assumption | (simp (maxDischargeDepth := 7) [go_sem]; done) | (simp (maxDischargeDepth := 7) [go_sem, *]; done))
    try have hg3_2 : ∀ o, w3.frozen? ⟨w.heap.size + 2, o, none⟩ = false := by intro o; rw [hb]; first | (simp (maxDischargeDepth := 7) [go_sem]; done) | (simp (maxDischargeDepth := 7) [go_sem, *]; done)
    clear ha hb
    (try clear hf2_0_0); (try clear hf2_0_1); (try clear hf2_1_0); (try clear hf2_1_1); (try clear hf2_2_0); (try clear hf2_2_1); (try clear hg2_0); (try clear hg2_1); (try clear hg2_2); (try clear hz2_1); (try clear hz2_2)
    go_wp2_with fail
    all_goals exact bodyPost_ret (v := .tuple #[.agg #[.int .i64 0, .int .i64 0], .int .i64 10]) (by first | (simp [results, Try.results33, go_sem]; done) | (simp (maxDischargeDepth := 7) [results, Try.results33, go_sem, *]; done)) rfl ⟨rfl, (by repeat (first | with_reducible exact Kept.refl _ | with_reducible assumption | with_reducible refine Kept.setCell ?_ (by first | (simp; done) | (simp; omega) | omega) _ | with_reducible refine Kept.alloc ?_ _ | with_reducible refine Kept.drewN ?_ _ | with_reducible refine Kept.drew ?_ | with_reducible refine Kept.trans ?_ (by with_reducible assumption) | with_reducible refine Kept.dr ?_ (by with_reducible assumption)))⟩
theorem ref_mv_two (aX aY dX dY n d : Int) : mvE aX aY dX dY n d = 0 ∨ mvE aX aY dX dY n d = 2 := by
  unfold mvE
  split
  · exact Or.inr rfl
  · split
    · exact Or.inl rfl
    · exact Or.inr rfl
set_option maxHeartbeats 4000000 in
set_option maxRecDepth 100000 in
theorem ref_tangent_2 (cX cY pX pY r : Int) (hc : pokB cX cY = true) (hp : pokB pX pY = true) (r0 : 1 ≤ r) (r1 : r ≤ 8000000) (hs : r * r < dtp (pX - cX) (pY - cY) (pX - cX) (pY - cY)) (w : World) : Calls Try.prog 33 #[.agg #[.int .i64 cX, .int .i64 cY], .int .i64 r, .int .u8 2, .agg #[.int .i64 pX, .int .i64 pY]] w fun e w' => e = .returned (.tuple #[.agg #[.int .i64 (mvX cX cY (sinV (trn (csV cX cY pX pY) (-(at2V (isq (dtp (pX - cX) (pY - cY) (pX - cX) (pY - cY) - r * r)) r)))) (cosV (trn (csV cX cY pX pY) (-(at2V (isq (dtp (pX - cX) (pY - cY) (pX - cX) (pY - cY) - r * r)) r)))) r 1073741824), .int .i64 (mvY cX cY (sinV (trn (csV cX cY pX pY) (-(at2V (isq (dtp (pX - cX) (pY - cY) (pX - cX) (pY - cY) - r * r)) r)))) (cosV (trn (csV cX cY pX pY) (-(at2V (isq (dtp (pX - cX) (pY - cY) (pX - cX) (pY - cY) - r * r)) r)))) r 1073741824)], .int .i64 (mvE cX cY (sinV (trn (csV cX cY pX pY) (-(at2V (isq (dtp (pX - cX) (pY - cY) (pX - cX) (pY - cY) - r * r)) r)))) (cosV (trn (csV cX cY pX pY) (-(at2V (isq (dtp (pX - cX) (pY - cY) (pX - cX) (pY - cY) - r * r)) r)))) r 1073741824)]) ∧ Kept w w' := by
  rcases ref_mv_two cX cY (sinV (trn (csV cX cY pX pY) (-(at2V (isq (dtp (pX - cX) (pY - cY) (pX - cX) (pY - cY) - r * r)) r)))) (cosV (trn (csV cX cY pX pY) (-(at2V (isq (dtp (pX - cX) (pY - cY) (pX - cX) (pY - cY) - r * r)) r)))) r 1073741824 with hE | hE
  · obtain ⟨cX0, cX1, cY0, cY1⟩ := pok_yes hc
    obtain ⟨pX0, pX1, pY0, pY1⟩ := pok_yes hp
    obtain ⟨lm00, lm01⟩ := dtp_lim4 (pX - cX) (pY - cY) (pX - cX) (pY - cY) (by omega) (by omega) (by omega) (by omega) (by omega) (by omega) (by omega) (by omega)
    have rr := Int.mul_le_mul r1 r1 (by omega) (show (0 : Int) ≤ 8000000 by omega)
    have rn := Int.mul_nonneg (show 0 ≤ r by omega) (show 0 ≤ r by omega)
    obtain ⟨q0, q1, q2, q3⟩ := isq_ok (dtp (pX - cX) (pY - cY) (pX - cX) (pY - cY) - r * r) (by omega) (by omega)
    have CS := fun w => ref_course_w cX cY pX pY w
    generalize csE cX cY pX pY = EE at *
    have cb := csV_bd cX cY pX pY
    obtain ⟨cb0, cb1⟩ := cb
    have SQ := fun w => ref_sqrt_w (dtp (pX - cX) (pY - cY) (pX - cX) (pY - cY) - r * r) (by omega) (by omega) w
    have AT := fun w => calls_kept (ref_atan2_w (isq (dtp (pX - cX) (pY - cY) (pX - cX) (pY - cY) - r * r)) r (by omega) (by omega) (by omega) (by omega) w)
    have zb := at2V_lim (isq (dtp (pX - cX) (pY - cY) (pX - cX) (pY - cY) - r * r)) r
    obtain ⟨zb0, zb1⟩ := zb
    generalize at2E (isq (dtp (pX - cX) (pY - cY) (pX - cX) (pY - cY) - r * r)) r = AE at *
    have TN := fun w => ref_turn_w (csV cX cY pX pY) (-(at2V (isq (dtp (pX - cX) (pY - cY) (pX - cX) (pY - cY) - r * r)) r)) (by omega) (by omega) (by omega) (by omega) w
    have tb := trn_bd (csV cX cY pX pY) (-(at2V (isq (dtp (pX - cX) (pY - cY) (pX - cX) (pY - cY) - r * r)) r))
    obtain ⟨tb0, tb1⟩ := tb
    have RY := fun w => ref_ray_ok cX cY (trn (csV cX cY pX pY) (-(at2V (isq (dtp (pX - cX) (pY - cY) (pX - cX) (pY - cY) - r * r)) r))) r hc (by omega) (by omega) (by omega) (by omega) w
    rw [hE] at RY ⊢
    clear hE
    generalize mvX cX cY (sinV (trn (csV cX cY pX pY) (-(at2V (isq (dtp (pX - cX) (pY - cY) (pX - cX) (pY - cY) - r * r)) r)))) (cosV (trn (csV cX cY pX pY) (-(at2V (isq (dtp (pX - cX) (pY - cY) (pX - cX) (pY - cY) - r * r)) r)))) r 1073741824 = X at *
    generalize mvY cX cY (sinV (trn (csV cX cY pX pY) (-(at2V (isq (dtp (pX - cX) (pY - cY) (pX - cX) (pY - cY) - r * r)) r)))) (cosV (trn (csV cX cY pX pY) (-(at2V (isq (dtp (pX - cX) (pY - cY) (pX - cX) (pY - cY) - r * r)) r)))) r 1073741824 = Y at *
    generalize trn (csV cX cY pX pY) (-(at2V (isq (dtp (pX - cX) (pY - cY) (pX - cX) (pY - cY) - r * r)) r)) = T at *
    generalize (at2V (isq (dtp (pX - cX) (pY - cY) (pX - cX) (pY - cY) - r * r)) r) = ZA at *
    generalize isq (dtp (pX - cX) (pY - cY) (pX - cX) (pY - cY) - r * r) = Q at *
    clear q2 q3
    have wrs : IntKind.i64.wrap (dtp (pX - cX) (pY - cY) (pX - cX) (pY - cY) - r * r) = dtp (pX - cX) (pY - cY) (pX - cX) (pY - cY) - r * r := IntWalk.i64_in _ (by omega)
    have wrz : IntKind.i64.wrap (-ZA) = -ZA := IntWalk.i64_in _ (by omega)
    have DT := fun w => ref_dot_w cX cY pX pY cX cY pX pY (by omega) (by omega) (by omega) (by omega) (by omega) (by omega) (by omega) (by omega) (by omega) (by omega) (by omega) (by omega) (by omega) (by omega) (by omega) (by omega) w
    have wrr : IntKind.i64.wrap (r * r) = r * r := IntWalk.i64_in _ (by omega)
    generalize dtp (pX - cX) (pY - cY) (pX - cX) (pY - cY) = SS at *
    have HDT := Lib.hid DT
    clear DT
    generalize csV cX cY pX pY = C at *
    have HCS := Lib.hid CS
    have HSQ := Lib.hid SQ
    have HAT := Lib.hid AT
    have HTN := Lib.hid TN
    have HRY := Lib.hid RY
    clear CS SQ AT TN RY
    go_enter Try.func33, Try.ntmps33
    go_wp2_with fail
    with_reducible refine (rpv_ok cX cY hc _).mono ?_
    rintro e w1 ⟨rfl, hk1⟩
    refine kuz (b := w.heap.size) hk1 (by first | (simp; done) | (simp; omega) | omega) ?_
    intro ha hb hz1_0 hn1_0 hm1_0
    have hf1_0_0 : w1.cell? ⟨w.heap.size, 0, none⟩ = some (.int .i64 cX) := (ha _).trans (by first | with_reducible assumption | (simp (maxDischargeDepth := 7) [go_sem]; done) | (simp (maxDischargeDepth := 7) [go_sem, *]; done))
    have hf1_0_1 : w1.cell? ⟨w.heap.size, 1, none⟩ = some (.int .i64 cY) := (ha _).trans (by first | with_reducible assumption | (simp (maxDischargeDepth := 7) [go_sem]; done) | (simp (maxDischargeDepth := 7) [go_sem, *]; done))
    try have hg1_0 : ∀ o, w1.frozen? ⟨w.heap.size, o, none⟩ = false := by intro o; rw [hb]; first | (simp (maxDischargeDepth := 7) [go_sem]; done) | (simp (maxDischargeDepth := 7) [go_sem, *]; done)
    clear ha hb
    refine kuz (b := w.heap.size + 1) hk1 (by first | (simp; done) | (simp; omega) | omega) ?_
    intro ha hb hz1_1 hn1_1 hm1_1
    have hf1_1_0 : w1.cell? ⟨w.heap.size + 1, 0, none⟩ = some (.int .i64 pX) := (ha _).trans (by first | with_reducible assumption | (simp (maxDischargeDepth := 7) [go_sem]; done) | (simp (maxDischargeDepth := 7) [go_sem, *]; done))
    have hf1_1_1 : w1.cell? ⟨w.heap.size + 1, 1, none⟩ = some (.int .i64 pY) := (ha _).trans (by first | with_reducible assumption | (simp (maxDischargeDepth := 7) [go_sem]; done) | (simp (maxDischargeDepth := 7) [go_sem, *]; done))
    try have hg1_1 : ∀ o, w1.frozen? ⟨w.heap.size + 1, o, none⟩ = false := by intro o; rw [hb]; first | (simp (maxDischargeDepth := 7) [go_sem]; done) | (simp (maxDischargeDepth := 7) [go_sem, *]; done)
    clear ha hb
    refine kuz (b := w.heap.size + 2) hk1 (by first | (simp; done) | (simp; omega) | omega) ?_
    intro ha hb hz1_2 hn1_2 hm1_2
    have hf1_2_0 : w1.cell? ⟨w.heap.size + 2, 0, none⟩ = some (.int .i64 0) := (ha _).trans (by first | with_reducible assumption | (simp (maxDischargeDepth := 7) [go_sem]; done) | (simp (maxDischargeDepth := 7) [go_sem, *]; done))
    have hf1_2_1 : w1.cell? ⟨w.heap.size + 2, 1, none⟩ = some (.int .i64 0) := (ha _).trans (by first | with_reducible assumption | (simp (maxDischargeDepth := 7) [go_sem]; done) | (simp (maxDischargeDepth := 7) [go_sem, *]; done))
    try have hg1_2 : ∀ o, w1.frozen? ⟨w.heap.size + 2, o, none⟩ = false := by intro o; rw [hb]; first | (simp (maxDischargeDepth := 7) [go_sem]; done) | (simp (maxDischargeDepth := 7) [go_sem, *]; done)
    clear ha hb
    go_wp2_with fail
    with_reducible refine (rpv_ok pX pY hp _).mono ?_
    rintro e w2 ⟨rfl, hk2⟩
    refine kuz (b := w.heap.size) hk2 (by first | (simp; done) | (simp; omega) | omega) ?_
    intro ha hb hz2_0 hn2_0 hm2_0
    have hf2_0_0 : w2.cell? ⟨w.heap.size, 0, none⟩ = some (.int .i64 cX) := (ha _).trans (by first | with_reducible assumption | (simp (maxDischargeDepth := 7) [go_sem]; done) | (simp (maxDischargeDepth := 7) [go_sem, *]; done))
    have hf2_0_1 : w2.cell? ⟨w.heap.size, 1, none⟩ = some (.int .i64 cY) := (ha _).trans (by first | with_reducible assumption | (simp (maxDischargeDepth := 7) [go_sem]; done) | (simp (maxDischargeDepth := 7) [go_sem, *]; done))
    try have hg2_0 : ∀ o, w2.frozen? ⟨w.heap.size, o, none⟩ = false := by intro o; rw [hb]; first | (simp (maxDischargeDepth := 7) [go_sem]; done) | (simp (maxDischargeDepth := 7) [go_sem, *]; done)
    clear ha hb
    refine kuz (b := w.heap.size + 1) hk2 (by first | (simp; done) | (simp; omega) | omega) ?_
    intro ha hb hz2_1 hn2_1 hm2_1
    have hf2_1_0 : w2.cell? ⟨w.heap.size + 1, 0, none⟩ = some (.int .i64 pX) := (ha _).trans (by first | with_reducible assumption | (simp (maxDischargeDepth := 7) [go_sem]; done) | (simp (maxDischargeDepth := 7) [go_sem, *]; done))
    have hf2_1_1 : w2.cell? ⟨w.heap.size + 1, 1, none⟩ = some (.int .i64 pY) := (ha _).trans (by first | with_reducible assumption | (simp (maxDischargeDepth := 7) [go_sem]; done) | (simp (maxDischargeDepth := 7) [go_sem, *]; done))
    try have hg2_1 : ∀ o, w2.frozen? ⟨w.heap.size + 1, o, none⟩ = false := by intro o; rw [hb]; first | (simp (maxDischargeDepth := 7) [go_sem]; done) | (simp (maxDischargeDepth := 7) [go_sem, *]; done)
    clear ha hb
    refine kuz (b := w.heap.size + 2) hk2 (by first | (simp; done) | (simp; omega) | omega) ?_
    intro ha hb hz2_2 hn2_2 hm2_2
    have hf2_2_0 : w2.cell? ⟨w.heap.size + 2, 0, none⟩ = some (.int .i64 0) := (ha _).trans (by first | with_reducible assumption | (simp (maxDischargeDepth := 7) [go_sem]; done) | (simp (maxDischargeDepth := 7) [go_sem, *]; done))
    have hf2_2_1 : w2.cell? ⟨w.heap.size + 2, 1, none⟩ = some (.int .i64 0) := (ha _).trans (by first | with_reducible assumption | (simp (maxDischargeDepth := 7) [go_sem]; done) | (simp (maxDischargeDepth := 7) [go_sem, *]; done))
    try have hg2_2 : ∀ o, w2.frozen? ⟨w.heap.size + 2, o, none⟩ = false := by intro o; rw [hb]; first | (simp (maxDischargeDepth := 7) [go_sem]; done) | (simp (maxDischargeDepth := 7) [go_sem, *]; done)
    clear ha hb
    (try clear hf1_0_0); (try clear hf1_0_1); (try clear hf1_1_0); (try clear hf1_1_1); (try clear hf1_2_0); (try clear hf1_2_1); (try clear hg1_0); (try clear hg1_1); (try clear hg1_2); (try clear hz1_1); (try clear hz1_2)
    go_wp2_with fail
    with_reducible refine (HDT.out _).mono ?_
    rintro e w3 ⟨rfl, hk3⟩
    refine kuz (b := w.heap.size) hk3 (by first | (simp; done) | (simp; omega) | omega) ?_
    intro ha hb hz3_0 hn3_0 hm3_0
    have hf3_0_0 : w3.cell? ⟨w.heap.size, 0, none⟩ = some (.int .i64 cX) := (ha _).trans (by first | with_reducible assumption | (simp (maxDischargeDepth := 7) [go_sem]; done) | (simp (maxDischargeDepth := 7) [go_sem, *]; done))
    have hf3_0_1 : w3.cell? ⟨w.heap.size, 1, none⟩ = some (.int .i64 cY) := (ha _).trans (by first | with_reducible assumption | (simp (maxDischargeDepth := 7) [go_sem]; done) | (simp (maxDischargeDepth := 7) [go_sem, *]; done))
    try have hg3_0 : ∀ o, w3.frozen? ⟨w.heap.size, o, none⟩ = false := by intro o; rw [hb]; first | (simp (maxDischargeDepth := 7) [go_sem]; done) | (simp (maxDischargeDepth := 7) [go_sem, *]; done)
    clear ha hb
    refine kuz (b := w.heap.size + 1) hk3 (by first | (simp; done) | (simp; omega) | omega) ?_
    intro ha hb hz3_1 hn3_1 hm3_1
    have hf3_1_0 : w3.cell? ⟨w.heap.size + 1, 0, none⟩ = some (.int .i64 pX) := (ha _).trans (by first | with_reducible assumption | (simp (maxDischargeDepth := 7) [go_sem]; done) | (simp (maxDischargeDepth := 7) [go_sem, *]; done))
    have hf3_1_1 : w3.cell? ⟨w.heap.size + 1, 1, none⟩ = some (.int .i64 pY) := (ha _).trans (by first | with_reducible assumption | (simp (maxDischargeDepth := 7) [go_sem]; done) | (simp (maxDischargeDepth := 7) [go_sem, *]; done))
    try have hg3_1 : ∀ o, w3.frozen? ⟨w.heap.size + 1, o, none⟩ = false := by intro o; rw [hb]; first | (simp (maxDischargeDepth := 7) [go_sem]; done) | (simp (maxDischargeDepth := 7) [go_sem, *]; done)
    clear ha hb
    refine kuz (b := w.heap.size + 2) hk3 (by first | (simp; done) | (simp; omega) | omega) ?_
    intro ha hb hz3_2 hn3_2 hm3_2
    have hf3_2_0 : w3.cell? ⟨w.heap.size + 2, 0, none⟩ = some (.int .i64 0) := (ha _).trans (by first | with_reducible assumption | (simp (maxDischargeDepth := 7) [go_sem]; done) | (simp (maxDischargeDepth := 7) [go_sem, *]; done))
    have hf3_2_1 : w3.cell? ⟨w.heap.size + 2, 1, none⟩ = some (.int .i64 0) := (ha _).trans (by first | with_reducible assumption | (simp (maxDischargeDepth := 7) [go_sem]; done) | (simp (maxDischargeDepth := 7) [go_sem, *]; done))
    try have hg3_2 : ∀ o, w3.frozen? ⟨w.heap.size + 2, o, none⟩ = false := by intro o; rw [hb]; first | (simp (maxDischargeDepth := 7) [go_sem]; done) | (simp (maxDischargeDepth := 7) [go_sem, *]; done)
    clear ha hb
    (try clear hf2_0_0); (try clear hf2_0_1); (try clear hf2_1_0); (try clear hf2_1_1); (try clear hf2_2_0); (try clear hf2_2_1); (try clear hg2_0); (try clear hg2_1); (try clear hg2_2); (try clear hz2_1); (try clear hz2_2)
    go_wp2_with fail
    with_reducible refine (HCS.out _).mono ?_
    rintro e w4 ⟨rfl, hk4⟩
    refine kuz (b := w.heap.size) hk4 (by first | (simp; done) | (simp; omega) | omega) ?_
    intro ha hb hz4_0 hn4_0 hm4_0
    have hf4_0_0 : w4.cell? ⟨w.heap.size, 0, none⟩ = some (.int .i64 cX) := (ha _).trans (by first | with_reducible assumption | (simp (maxDischargeDepth := 7) [go_sem]; done) | (simp (maxDischargeDepth := 7) [go_sem, *]; done))
    have hf4_0_1 : w4.cell? ⟨w.heap.size, 1, none⟩ = some (.int .i64 cY) := (ha _).trans (by first | with_reducible assumption | (simp (maxDischargeDepth := 7) [go_sem]; done) | (simp (maxDischargeDepth := 7) [go_sem, *]; done))
    try have hg4_0 : ∀ o, w4.frozen? ⟨w.heap.size, o, none⟩ = false := by intro o; rw [hb]; first | (simp (maxDischargeDepth := 7) [go_sem]; done) | (simp (maxDischargeDepth := 7) [go_sem, *]; done)
    clear ha hb
    refine kuz (b := w.heap.size + 1) hk4 (by first | (simp; done) | (simp; omega) | omega) ?_
    intro ha hb hz4_1 hn4_1 hm4_1
    have hf4_1_0 : w4.cell? ⟨w.heap.size + 1, 0, none⟩ = some (.int .i64 pX) := (ha _).trans (by first | with_reducible assumption | (simp (maxDischargeDepth := 7) [go_sem]; done) | (simp (maxDischargeDepth := 7) [go_sem, *]; done))
    have hf4_1_1 : w4.cell? ⟨w.heap.size + 1, 1, none⟩ = some (.int .i64 pY) := (ha _).trans (by first | with_reducible assumption | (simp (maxDischargeDepth := 7) [go_sem]; done) | (simp (maxDischargeDepth := 7) [go_sem, *]; done))
    try have hg4_1 : ∀ o, w4.frozen? ⟨w.heap.size + 1, o, none⟩ = false := by intro o; rw [hb]; first | (simp (maxDischargeDepth := 7) [go_sem]; done) | (simp (maxDischargeDepth := 7) [go_sem, *]; done)
    clear ha hb
    refine kuz (b := w.heap.size + 2) hk4 (by first | (simp; done) | (simp; omega) | omega) ?_
    intro ha hb hz4_2 hn4_2 hm4_2
    have hf4_2_0 : w4.cell? ⟨w.heap.size + 2, 0, none⟩ = some (.int .i64 0) := (ha _).trans (by first | with_reducible assumption | (simp (maxDischargeDepth := 7) [go_sem]; done) | (simp (maxDischargeDepth := 7) [go_sem, *]; done))
    have hf4_2_1 : w4.cell? ⟨w.heap.size + 2, 1, none⟩ = some (.int .i64 0) := (ha _).trans (by first | with_reducible assumption | (simp (maxDischargeDepth := 7) [go_sem]; done) | (simp (maxDischargeDepth := 7) [go_sem, *]; done))
    try have hg4_2 : ∀ o, w4.frozen? ⟨w.heap.size + 2, o, none⟩ = false := by intro o; rw [hb]; first | (simp (maxDischargeDepth := 7) [go_sem]; done) | (simp (maxDischargeDepth := 7) [go_sem, *]; done)
    clear ha hb
    (try clear hf3_0_0); (try clear hf3_0_1); (try clear hf3_1_0); (try clear hf3_1_1); (try clear hf3_2_0); (try clear hf3_2_1); (try clear hg3_0); (try clear hg3_1); (try clear hg3_2); (try clear hz3_1); (try clear hz3_2)
    go_wp2_with fail
    with_reducible refine (HSQ.out _).mono ?_
    rintro e w' ⟨rfl, rfl⟩
    go_wp2_with fail
    with_reducible refine (HAT.out _).mono ?_
    rintro e w6 ⟨rfl, hk6⟩
    refine kuz (b := w.heap.size) hk6 (by first | (simp; done) | (simp; omega) | omega) ?_
    intro ha hb hz6_0 hn6_0 hm6_0
    have hf6_0_0 : w6.cell? ⟨w.heap.size, 0, none⟩ = some (.int .i64 cX) := (ha _).trans (by first | with_reducible assumption | (simp (maxDischargeDepth := 7) [go_sem]; done) | (simp (maxDischargeDepth := 7) [go_sem, *]; done))
    have hf6_0_1 : w6.cell? ⟨w.heap.size, 1, none⟩ = some (.int .i64 cY) := (ha _).trans (by first | with_reducible assumption | (simp (maxDischargeDepth := 7) [go_sem]; done) | (simp (maxDischargeDepth := 7) [go_sem, *]; done))
    try have hg6_0 : ∀ o, w6.frozen? ⟨w.heap.size, o, none⟩ = false := by intro o; rw [hb]; first | (simp (maxDischargeDepth := 7) [go_sem]; done) | (simp (maxDischargeDepth := 7) [go_sem, *]; done)
    clear ha hb
    refine kuz (b := w.heap.size + 1) hk6 (by first | (simp; done) | (simp; omega) | omega) ?_
    intro ha hb hz6_1 hn6_1 hm6_1
    have hf6_1_0 : w6.cell? ⟨w.heap.size + 1, 0, none⟩ = some (.int .i64 pX) := (ha _).trans (by first | with_reducible assumption | (simp (maxDischargeDepth := 7) [go_sem]; done) | (simp (maxDischargeDepth := 7) [go_sem, *]; done))
    have hf6_1_1 : w6.cell? ⟨w.heap.size + 1, 1, none⟩ = some (.int .i64 pY) := (ha _).trans (by first | with_reducible assumption | (simp (maxDischargeDepth := 7) [go_sem]; done) | (simp (maxDischargeDepth := 7) [go_sem, *]; done))
    try have hg6_1 : ∀ o, w6.frozen? ⟨w.heap.size + 1, o, none⟩ = false := by intro o; rw [hb]; first | (simp (maxDischargeDepth := 7) [go_sem]; done) | (simp (maxDischargeDepth := 7) [go_sem, *]; done)
    clear ha hb
    refine kuz (b := w.heap.size + 2) hk6 (by first | (simp; done) | (simp; omega) | omega) ?_
    intro ha hb hz6_2 hn6_2 hm6_2
    have hf6_2_0 : w6.cell? ⟨w.heap.size + 2, 0, none⟩ = some (.int .i64 0) := (ha _).trans (by first | with_reducible assumption | (simp (maxDischargeDepth := 7) [go_sem]; done) | (simp (maxDischargeDepth := 7) [go_sem, *]; done))
    have hf6_2_1 : w6.cell? ⟨w.heap.size + 2, 1, none⟩ = some (.int .i64 0) := (ha _).trans (by first | with_reducible assumption | (simp (maxDischargeDepth := 7) [go_sem]; done) | (simp (maxDischargeDepth := 7) [go_sem, *]; done))
    try have hg6_2 : ∀ o, w6.frozen? ⟨w.heap.size + 2, o, none⟩ = false := by intro o; rw [hb]; first | (simp (maxDischargeDepth := 7) [go_sem]; done) | (simp (maxDischargeDepth := 7) [go_sem, *]; done)
    clear ha hb
    (try clear hf4_0_0); (try clear hf4_0_1); (try clear hf4_1_0); (try clear hf4_1_1); (try clear hf4_2_0); (try clear hf4_2_1); (try clear hg4_0); (try clear hg4_1); (try clear hg4_2); (try clear hz4_1); (try clear hz4_2)
    go_wp2_with fail
    have B0 : OwnB w6 (w.heap.size) [.int .i64 cX, .int .i64 cY] := ⟨hz6_0, hg6_0, hf6_0_0, hf6_0_1, trivial⟩
    have HB0_0 := Lib.hid B0
    clear B0
    have B1 : OwnB w6 (w.heap.size + 1) [.int .i64 pX, .int .i64 pY] := ⟨hz6_1, hg6_1, hf6_1_0, hf6_1_1, trivial⟩
    have HB0_1 := Lib.hid B1
    clear B1
    have B2 : OwnB w6 (w.heap.size + 2) [.int .i64 0, .int .i64 0] := ⟨hz6_2, hg6_2, hf6_2_0, hf6_2_1, trivial⟩
    have HB0_2 := Lib.hid B2
    clear B2
    go_upto_region 12 with (fail)
    go_cut [15, 16] (fun p0 c0 wx => ∃ b0 : Nat, p0 = .pointer (some ⟨b0, 0, none⟩) ∧ c0 = .int .i64 0 ∧ w.heap.size + 2 < b0 ∧ OwnB wx (b0) [.int .i64 X, .int .i64 Y] ∧ OwnB wx (w.heap.size) [.int .i64 cX, .int .i64 cY] ∧ OwnB wx (w.heap.size + 1) [.int .i64 pX, .int .i64 pY] ∧ OwnB wx (w.heap.size + 2) [.int .i64 0, .int .i64 0] ∧ Kept w6 wx)
    case first =>
      go_region_held3 (fun W => W.cell? ⟨w.heap.size, 0, none⟩ = some (.int .i64 cX) ∧ W.cell? ⟨w.heap.size, 1, none⟩ = some (.int .i64 cY)) (first | (go_keep; done) | (simp (maxDischargeDepth := 9) [*, World.cell?_alloc_some, World.cell?_setCell_far]; done) | (simp (maxDischargeDepth := 9) [go_sem, *]; done)) (first | (go_at_call 77; with_reducible refine (HTN.out _).mono ?_; rintro e w' ⟨rfl, rfl⟩) | (go_at_call 61; (with_reducible refine (HRY.out _).mono ?_); rintro e v1 ⟨rfl, hk⟩; have hz := hk.size; (try (refine kuse (b := w.heap.size) hk (by first | (simp; done) | (simp; omega) | omega) ?_; intro hq hg; have hy : w.heap.size < v1.heap.size := (by (try simp at hz); omega); have hn : ¬ w.heap.size = v1.heap.size := (by omega); have hm : ¬ w.heap.size = v1.heap.size + 1 := (by omega); have hn' : ¬ v1.heap.size = w.heap.size := (by omega); have hm' : ¬ v1.heap.size + 1 = w.heap.size := (by omega))); (try (refine kuse (b := w.heap.size + 1) hk (by first | (simp; done) | (simp; omega) | omega) ?_; intro hq hg; have hy : w.heap.size + 1 < v1.heap.size := (by (try simp at hz); omega); have hn : ¬ w.heap.size + 1 = v1.heap.size := (by omega); have hm : ¬ w.heap.size + 1 = v1.heap.size + 1 := (by omega); have hn' : ¬ v1.heap.size = w.heap.size + 1 := (by omega); have hm' : ¬ v1.heap.size + 1 = w.heap.size + 1 := (by omega))); (try (refine kuse (b := w.heap.size + 2) hk (by first | (simp; done) | (simp; omega) | omega) ?_; intro hq hg; have hy : w.heap.size + 2 < v1.heap.size := (by (try simp at hz); omega); have hn : ¬ w.heap.size + 2 = v1.heap.size := (by omega); have hm : ¬ w.heap.size + 2 = v1.heap.size + 1 := (by omega); have hn' : ¬ v1.heap.size = w.heap.size + 2 := (by omega); have hm' : ¬ v1.heap.size + 1 = w.heap.size + 2 := (by omega))); (try (have hle : w1.heap.size ≤ v1.heap.size := (by (try simp at hz); omega))); (try (have hle : w2.heap.size ≤ v1.heap.size := (by (try simp at hz); omega))); (try (have hle : w3.heap.size ≤ v1.heap.size := (by (try simp at hz); omega))); (try (have hle : w4.heap.size ≤ v1.heap.size := (by (try simp at hz); omega))); (try (have hle : w5.heap.size ≤ v1.heap.size := (by (try simp at hz); omega))); (try (have hle : w6.heap.size ≤ v1.heap.size := (by (try simp at hz); omega))); (try (refine kuse (b := w6.heap.size) hk (by first | (simp; done) | (simp; omega) | omega) ?_; intro hq hg; have hy : w6.heap.size < v1.heap.size := (by (try simp at hz); omega))); (try (refine withF (p := v1.cell? ⟨w.heap.size, 0, none⟩ = some (.int .i64 cX)) (by first | (simp (maxDischargeDepth := 7) [go_sem, *]; done) | fail) ?_; intro ff)); (try (refine withF (p := v1.cell? ⟨w.heap.size, 1, none⟩ = some (.int .i64 cY)) (by first | (simp (maxDischargeDepth := 7) [go_sem, *]; done) | fail) ?_; intro ff))))
      all_goals (try go_wp2_with fail)
      all_goals (go_meet; case rel => refine (fun (hkx : Kept w6 _) => ⟨_, rfl, rfl, (by first | with_reducible assumption | omega | (simp; omega)), (by repeat (first | with_reducible exact own_alloc _ [.int .i64 X, .int .i64 Y] 28 | with_reducible exact own_alloc _ [.int .i64 0, .int .i64 0] 28 | ((with_reducible refine own_allocE _ [.int .i64 X, .int .i64 Y] 28 _ ?_); (simp; done)) | ((with_reducible refine own_allocE _ [.int .i64 0, .int .i64 0] 28 _ ?_); (simp; done)) | with_reducible refine own_set2 (us := [.int .i64 0, .int .i64 0]) ?_ rfl | with_reducible refine OwnB.other2 ?_ (by first | with_reducible assumption | omega | (simp; done) | (simp; omega)) | with_reducible refine OwnB.alloc ?_ _ | with_reducible refine OwnB.drew ?_ | with_reducible refine OwnB.drewN ?_ _ | with_reducible refine OwnB.kept (by with_reducible assumption) ?_)), OwnB.kept hkx HB0_0.out, OwnB.kept hkx HB0_1.out, OwnB.kept hkx HB0_2.out, hkx⟩) ?_; exact (by repeat (first | with_reducible exact Kept.refl _ | with_reducible assumption | with_reducible refine Kept.set12 ?_ (by first | with_reducible assumption | omega | (simp; done) | (simp; omega)) | with_reducible refine Kept.set11 ?_ (by first | with_reducible assumption | omega | (simp; done) | (simp; omega)) | with_reducible refine Kept.set10 ?_ (by first | with_reducible assumption | omega | (simp; done) | (simp; omega)) | with_reducible refine Kept.set9 ?_ (by first | with_reducible assumption | omega | (simp; done) | (simp; omega)) | with_reducible refine Kept.set8 ?_ (by first | with_reducible assumption | omega | (simp; done) | (simp; omega)) | with_reducible refine Kept.set7 ?_ (by first | with_reducible assumption | omega | (simp; done) | (simp; omega)) | with_reducible refine Kept.set6 ?_ (by first | with_reducible assumption | omega | (simp; done) | (simp; omega)) | with_reducible refine Kept.set5 ?_ (by first | with_reducible assumption | omega | (simp; done) | (simp; omega)) | with_reducible refine Kept.set4 ?_ (by first | with_reducible assumption | omega | (simp; done) | (simp; omega)) | with_reducible refine Kept.set3 ?_ (by first | with_reducible assumption | omega | (simp; done) | (simp; omega)) | with_reducible refine Kept.set2 ?_ (by first | with_reducible assumption | omega | (simp; done) | (simp; omega)) | with_reducible refine Kept.setCell ?_ (by first | with_reducible assumption | omega | (simp; done) | (simp; omega)) _ | with_reducible refine Kept.alloc ?_ _ | with_reducible refine Kept.drewN ?_ _ | with_reducible refine Kept.drew ?_ | with_reducible refine Kept.trans ?_ (by with_reducible assumption) | with_reducible refine Kept.dr ?_ (by with_reducible assumption))))
    case rest =>
    obtain ⟨b1_0, rfl, rfl, lt1_0, O1_0, O1_1, O1_2, O1_3, hkc1⟩ := hcut
    obtain ⟨hz_c1_0, hg_c1_0, hf_c1_0_0, hf_c1_0_1, _⟩ := O1_0
    obtain ⟨hz_c1_1, hg_c1_1, hf_c1_1_0, hf_c1_1_1, _⟩ := O1_1
    obtain ⟨hz_c1_2, hg_c1_2, hf_c1_2_0, hf_c1_2_1, _⟩ := O1_2
    obtain ⟨hz_c1_3, hg_c1_3, hf_c1_3_0, hf_c1_3_1, _⟩ := O1_3
    (try clear hf6_0_0); (try clear hf6_0_1); (try clear hf6_1_0); (try clear hf6_1_1); (try clear hf6_2_0); (try clear hf6_2_1); (try clear hg6_0); (try clear hg6_1); (try clear hg6_2); (try clear hz6_1); (try clear hz6_2)
    go_wp2_with fail
    all_goals exact bodyPost_ret (v := .tuple #[.agg #[.int .i64 X, .int .i64 Y], .int .i64 0]) (by first | (simp [results, Try.results33, go_sem]; done) | (simp (maxDischargeDepth := 7) [results, Try.results33, go_sem, *]; done)) rfl ⟨rfl, (by repeat (first | with_reducible exact Kept.refl _ | with_reducible assumption | with_reducible refine Kept.setCell ?_ (by first | (simp; done) | (simp; omega) | omega) _ | with_reducible refine Kept.alloc ?_ _ | with_reducible refine Kept.drewN ?_ _ | with_reducible refine Kept.drew ?_ | with_reducible refine Kept.trans ?_ (by with_reducible assumption) | with_reducible refine Kept.dr ?_ (by with_reducible assumption)))⟩
  · obtain ⟨cX0, cX1, cY0, cY1⟩ := pok_yes hc
    obtain ⟨pX0, pX1, pY0, pY1⟩ := pok_yes hp
    obtain ⟨lm00, lm01⟩ := dtp_lim4 (pX - cX) (pY - cY) (pX - cX) (pY - cY) (by omega) (by omega) (by omega) (by omega) (by omega) (by omega) (by omega) (by omega)
    have rr := Int.mul_le_mul r1 r1 (by omega) (show (0 : Int) ≤ 8000000 by omega)
    have rn := Int.mul_nonneg (show 0 ≤ r by omega) (show 0 ≤ r by omega)
    obtain ⟨q0, q1, q2, q3⟩ := isq_ok (dtp (pX - cX) (pY - cY) (pX - cX) (pY - cY) - r * r) (by omega) (by omega)
    have CS := fun w => ref_course_w cX cY pX pY w
    generalize csE cX cY pX pY = EE at *
    have cb := csV_bd cX cY pX pY
    obtain ⟨cb0, cb1⟩ := cb
    have SQ := fun w => ref_sqrt_w (dtp (pX - cX) (pY - cY) (pX - cX) (pY - cY) - r * r) (by omega) (by omega) w
    have AT := fun w => calls_kept (ref_atan2_w (isq (dtp (pX - cX) (pY - cY) (pX - cX) (pY - cY) - r * r)) r (by omega) (by omega) (by omega) (by omega) w)
    have zb := at2V_lim (isq (dtp (pX - cX) (pY - cY) (pX - cX) (pY - cY) - r * r)) r
    obtain ⟨zb0, zb1⟩ := zb
    generalize at2E (isq (dtp (pX - cX) (pY - cY) (pX - cX) (pY - cY) - r * r)) r = AE at *
    have TN := fun w => ref_turn_w (csV cX cY pX pY) (-(at2V (isq (dtp (pX - cX) (pY - cY) (pX - cX) (pY - cY) - r * r)) r)) (by omega) (by omega) (by omega) (by omega) w
    have tb := trn_bd (csV cX cY pX pY) (-(at2V (isq (dtp (pX - cX) (pY - cY) (pX - cX) (pY - cY) - r * r)) r))
    obtain ⟨tb0, tb1⟩ := tb
    have RY := fun w => ref_ray_ok cX cY (trn (csV cX cY pX pY) (-(at2V (isq (dtp (pX - cX) (pY - cY) (pX - cX) (pY - cY) - r * r)) r))) r hc (by omega) (by omega) (by omega) (by omega) w
    rw [hE, (mv_bad hE).1, (mv_bad hE).2] at RY ⊢
    clear hE
    generalize trn (csV cX cY pX pY) (-(at2V (isq (dtp (pX - cX) (pY - cY) (pX - cX) (pY - cY) - r * r)) r)) = T at *
    generalize (at2V (isq (dtp (pX - cX) (pY - cY) (pX - cX) (pY - cY) - r * r)) r) = ZA at *
    generalize isq (dtp (pX - cX) (pY - cY) (pX - cX) (pY - cY) - r * r) = Q at *
    clear q2 q3
    have wrs : IntKind.i64.wrap (dtp (pX - cX) (pY - cY) (pX - cX) (pY - cY) - r * r) = dtp (pX - cX) (pY - cY) (pX - cX) (pY - cY) - r * r := IntWalk.i64_in _ (by omega)
    have wrz : IntKind.i64.wrap (-ZA) = -ZA := IntWalk.i64_in _ (by omega)
    have DT := fun w => ref_dot_w cX cY pX pY cX cY pX pY (by omega) (by omega) (by omega) (by omega) (by omega) (by omega) (by omega) (by omega) (by omega) (by omega) (by omega) (by omega) (by omega) (by omega) (by omega) (by omega) w
    have wrr : IntKind.i64.wrap (r * r) = r * r := IntWalk.i64_in _ (by omega)
    generalize dtp (pX - cX) (pY - cY) (pX - cX) (pY - cY) = SS at *
    have HDT := Lib.hid DT
    clear DT
    generalize csV cX cY pX pY = C at *
    have HCS := Lib.hid CS
    have HSQ := Lib.hid SQ
    have HAT := Lib.hid AT
    have HTN := Lib.hid TN
    have HRY := Lib.hid RY
    clear CS SQ AT TN RY
    go_enter Try.func33, Try.ntmps33
    go_wp2_with fail
    with_reducible refine (rpv_ok cX cY hc _).mono ?_
    rintro e w1 ⟨rfl, hk1⟩
    refine kuz (b := w.heap.size) hk1 (by first | (simp; done) | (simp; omega) | omega) ?_
    intro ha hb hz1_0 hn1_0 hm1_0
    have hf1_0_0 : w1.cell? ⟨w.heap.size, 0, none⟩ = some (.int .i64 cX) := (ha _).trans (by first | with_reducible assumption | (simp (maxDischargeDepth := 7) [go_sem]; done) | (simp (maxDischargeDepth := 7) [go_sem, *]; done))
    have hf1_0_1 : w1.cell? ⟨w.heap.size, 1, none⟩ = some (.int .i64 cY) := (ha _).trans (by first | with_reducible assumption | (simp (maxDischargeDepth := 7) [go_sem]; done) | (simp (maxDischargeDepth := 7) [go_sem, *]; done))
    try have hg1_0 : ∀ o, w1.frozen? ⟨w.heap.size, o, none⟩ = false := by intro o; rw [hb]; first | (simp (maxDischargeDepth := 7) [go_sem]; done) | (simp (maxDischargeDepth := 7) [go_sem, *]; done)
    clear ha hb
    refine kuz (b := w.heap.size + 1) hk1 (by first | (simp; done) | (simp; omega) | omega) ?_
    intro ha hb hz1_1 hn1_1 hm1_1
    have hf1_1_0 : w1.cell? ⟨w.heap.size + 1, 0, none⟩ = some (.int .i64 pX) := (ha _).trans (by first | with_reducible assumption | (simp (maxDischargeDepth := 7) [go_sem]; done) | (simp (maxDischargeDepth := 7) [go_sem, *]; done))
    have hf1_1_1 : w1.cell? ⟨w.heap.size + 1, 1, none⟩ = some (.int .i64 pY) := (ha _).trans (by first | with_reducible assumption | (simp (maxDischargeDepth := 7) [go_sem]; done) | (simp (maxDischargeDepth := 7) [go_sem, *]; done))
    try have hg1_1 : ∀ o, w1.frozen? ⟨w.heap.size + 1, o, none⟩ = false := by intro o; rw [hb]; first | (simp (maxDischargeDepth := 7) [go_sem]; done) | (simp (maxDischargeDepth := 7) [go_sem, *]; done)
    clear ha hb
    refine kuz (b := w.heap.size + 2) hk1 (by first | (simp; done) | (simp; omega) | omega) ?_
    intro ha hb hz1_2 hn1_2 hm1_2
    have hf1_2_0 : w1.cell? ⟨w.heap.size + 2, 0, none⟩ = some (.int .i64 0) := (ha _).trans (by first | with_reducible assumption | (simp (maxDischargeDepth := 7) [go_sem]; done) | (simp (maxDischargeDepth := 7) [go_sem, *]; done))
    have hf1_2_1 : w1.cell? ⟨w.heap.size + 2, 1, none⟩ = some (.int .i64 0) := (ha _).trans (by first | with_reducible assumption | (simp (maxDischargeDepth := 7) [go_sem]; done) | (simp (maxDischargeDepth := 7) [go_sem, *]; done))
    try have hg1_2 : ∀ o, w1.frozen? ⟨w.heap.size + 2, o, none⟩ = false := by intro o; rw [hb]; first | (simp (maxDischargeDepth := 7) [go_sem]; done) | (simp (maxDischargeDepth := 7) [go_sem, *]; done)
    clear ha hb
    go_wp2_with fail
    with_reducible refine (rpv_ok pX pY hp _).mono ?_
    rintro e w2 ⟨rfl, hk2⟩
    refine kuz (b := w.heap.size) hk2 (by first | (simp; done) | (simp; omega) | omega) ?_
    intro ha hb hz2_0 hn2_0 hm2_0
    have hf2_0_0 : w2.cell? ⟨w.heap.size, 0, none⟩ = some (.int .i64 cX) := (ha _).trans (by first | with_reducible assumption | (simp (maxDischargeDepth := 7) [go_sem]; done) | (simp (maxDischargeDepth := 7) [go_sem, *]; done))
    have hf2_0_1 : w2.cell? ⟨w.heap.size, 1, none⟩ = some (.int .i64 cY) := (ha _).trans (by first | with_reducible assumption | (simp (maxDischargeDepth := 7) [go_sem]; done) | (simp (maxDischargeDepth := 7) [go_sem, *]; done))
    try have hg2_0 : ∀ o, w2.frozen? ⟨w.heap.size, o, none⟩ = false := by intro o; rw [hb]; first | (simp (maxDischargeDepth := 7) [go_sem]; done) | (simp (maxDischargeDepth := 7) [go_sem, *]; done)
    clear ha hb
    refine kuz (b := w.heap.size + 1) hk2 (by first | (simp; done) | (simp; omega) | omega) ?_
    intro ha hb hz2_1 hn2_1 hm2_1
    have hf2_1_0 : w2.cell? ⟨w.heap.size + 1, 0, none⟩ = some (.int .i64 pX) := (ha _).trans (by first | with_reducible assumption | (simp (maxDischargeDepth := 7) [go_sem]; done) | (simp (maxDischargeDepth := 7) [go_sem, *]; done))
    have hf2_1_1 : w2.cell? ⟨w.heap.size + 1, 1, none⟩ = some (.int .i64 pY) := (ha _).trans (by first | with_reducible assumption | (simp (maxDischargeDepth := 7) [go_sem]; done) | (simp (maxDischargeDepth := 7) [go_sem, *]; done))
    try have hg2_1 : ∀ o, w2.frozen? ⟨w.heap.size + 1, o, none⟩ = false := by intro o; rw [hb]; first | (simp (maxDischargeDepth := 7) [go_sem]; done) | (simp (maxDischargeDepth := 7) [go_sem, *]; done)
    clear ha hb
    refine kuz (b := w.heap.size + 2) hk2 (by first | (simp; done) | (simp; omega) | omega) ?_
    intro ha hb hz2_2 hn2_2 hm2_2
    have hf2_2_0 : w2.cell? ⟨w.heap.size + 2, 0, none⟩ = some (.int .i64 0) := (ha _).trans (by first | with_reducible assumption | (simp (maxDischargeDepth := 7) [go_sem]; done) | (simp (maxDischargeDepth := 7) [go_sem, *]; done))
    have hf2_2_1 : w2.cell? ⟨w.heap.size + 2, 1, none⟩ = some (.int .i64 0) := (ha _).trans (by first | with_reducible assumption | (simp (maxDischargeDepth := 7) [go_sem]; done) | (simp (maxDischargeDepth := 7) [go_sem, *]; done))
    try have hg2_2 : ∀ o, w2.frozen? ⟨w.heap.size + 2, o, none⟩ = false := by intro o; rw [hb]; first | (simp (maxDischargeDepth := 7) [go_sem]; done) | (simp (maxDischargeDepth := 7) [go_sem, *]; done)
    clear ha hb
    (try clear hf1_0_0); (try clear hf1_0_1); (try clear hf1_1_0); (try clear hf1_1_1); (try clear hf1_2_0); (try clear hf1_2_1); (try clear hg1_0); (try clear hg1_1); (try clear hg1_2); (try clear hz1_1); (try clear hz1_2)
    go_wp2_with fail
    with_reducible refine (HDT.out _).mono ?_
    rintro e w3 ⟨rfl, hk3⟩
    refine kuz (b := w.heap.size) hk3 (by first | (simp; done) | (simp; omega) | omega) ?_
    intro ha hb hz3_0 hn3_0 hm3_0
    have hf3_0_0 : w3.cell? ⟨w.heap.size, 0, none⟩ = some (.int .i64 cX) := (ha _).trans (by first | with_reducible assumption | (simp (maxDischargeDepth := 7) [go_sem]; done) | (simp (maxDischargeDepth := 7) [go_sem, *]; done))
    have hf3_0_1 : w3.cell? ⟨w.heap.size, 1, none⟩ = some (.int .i64 cY) := (ha _).trans (by first | with_reducible assumption | (simp (maxDischargeDepth := 7) [go_sem]; done) | (simp (maxDischargeDepth := 7) [go_sem, *]; done))
    try have hg3_0 : ∀ o, w3.frozen? ⟨w.heap.size, o, none⟩ = false := by intro o; rw [hb]; first | (simp (maxDischargeDepth := 7) [go_sem]; done) | (simp (maxDischargeDepth := 7) [go_sem, *]; done)
    clear ha hb
    refine kuz (b := w.heap.size + 1) hk3 (by first | (simp; done) | (simp; omega) | omega) ?_
    intro ha hb hz3_1 hn3_1 hm3_1
    have hf3_1_0 : w3.cell? ⟨w.heap.size + 1, 0, none⟩ = some (.int .i64 pX) := (ha _).trans (by first | with_reducible assumption | (simp (maxDischargeDepth := 7) [go_sem]; done) | (simp (maxDischargeDepth := 7) [go_sem, *]; done))
    have hf3_1_1 : w3.cell? ⟨w.heap.size + 1, 1, none⟩ = some (.int .i64 pY) := (ha _).trans (by first | with_reducible assumption | (simp (maxDischargeDepth := 7) [go_sem]; done) | (simp (maxDischargeDepth := 7) [go_sem, *]; done))
    try have hg3_1 : ∀ o, w3.frozen? ⟨w.heap.size + 1, o, none⟩ = false := by intro o; rw [hb]; first | (simp (maxDischargeDepth := 7) [go_sem]; done) | (simp (maxDischargeDepth := 7) [go_sem, *]; done)
    clear ha hb
    refine kuz (b := w.heap.size + 2) hk3 (by first | (simp; done) | (simp; omega) | omega) ?_
    intro ha hb hz3_2 hn3_2 hm3_2
    have hf3_2_0 : w3.cell? ⟨w.heap.size + 2, 0, none⟩ = some (.int .i64 0) := (ha _).trans (by first | with_reducible assumption | (simp (maxDischargeDepth := 7) [go_sem]; done) | (simp (maxDischargeDepth := 7) [go_sem, *]; done))
    have hf3_2_1 : w3.cell? ⟨w.heap.size + 2, 1, none⟩ = some (.int .i64 0) := (ha _).trans (by first | with_reducible assumption | (simp (maxDischargeDepth := 7) [go_sem]; done) | (simp (maxDischargeDepth := 7) [go_sem, *]; done))
    try have hg3_2 : ∀ o, w3.frozen? ⟨w.heap.size + 2, o, none⟩ = false := by intro o; rw [hb]; first | (simp (maxDischargeDepth := 7) [go_sem]; done) | (simp (maxDischargeDepth := 7) [go_sem, *]; done)
    clear ha hb
    (try clear hf2_0_0); (try clear hf2_0_1); (try clear hf2_1_0); (try clear hf2_1_1); (try clear hf2_2_0); (try clear hf2_2_1); (try clear hg2_0); (try clear hg2_1); (try clear hg2_2); (try clear hz2_1); (try clear hz2_2)
    go_wp2_with fail
    with_reducible refine (HCS.out _).mono ?_
    rintro e w4 ⟨rfl, hk4⟩
    refine kuz (b := w.heap.size) hk4 (by first | (simp; done) | (simp; omega) | omega) ?_
    intro ha hb hz4_0 hn4_0 hm4_0
    have hf4_0_0 : w4.cell? ⟨w.heap.size, 0, none⟩ = some (.int .i64 cX) := (ha _).trans (by first | with_reducible assumption | (simp (maxDischargeDepth := 7) [go_sem]; done) | (simp (maxDischargeDepth := 7) [go_sem, *]; done))
    have hf4_0_1 : w4.cell? ⟨w.heap.size, 1, none⟩ = some (.int .i64 cY) := (ha _).trans (by first | with_reducible assumption | (simp (maxDischargeDepth := 7) [go_sem]; done) | (simp (maxDischargeDepth := 7) [go_sem, *]; done))
    try have hg4_0 : ∀ o, w4.frozen? ⟨w.heap.size, o, none⟩ = false := by intro o; rw [hb]; first | (simp (maxDischargeDepth := 7) [go_sem]; done) | (simp (maxDischargeDepth := 7) [go_sem, *]; done)
    clear ha hb
    refine kuz (b := w.heap.size + 1) hk4 (by first | (simp; done) | (simp; omega) | omega) ?_
    intro ha hb hz4_1 hn4_1 hm4_1
    have hf4_1_0 : w4.cell? ⟨w.heap.size + 1, 0, none⟩ = some (.int .i64 pX) := (ha _).trans (by first | with_reducible assumption | (simp (maxDischargeDepth := 7) [go_sem]; done) | (simp (maxDischargeDepth := 7) [go_sem, *]; done))
    have hf4_1_1 : w4.cell? ⟨w.heap.size + 1, 1, none⟩ = some (.int .i64 pY) := (ha _).trans (by first | with_reducible assumption | (simp (maxDischargeDepth := 7) [go_sem]; done) | (simp (maxDischargeDepth := 7) [go_sem, *]; done))
    try have hg4_1 : ∀ o, w4.frozen? ⟨w.heap.size + 1, o, none⟩ = false := by intro o; rw [hb]; first | (simp (maxDischargeDepth := 7) [go_sem]; done) | (simp (maxDischargeDepth := 7) [go_sem, *]; done)
    clear ha hb
    refine kuz (b := w.heap.size + 2) hk4 (by first | (simp; done) | (simp; omega) | omega) ?_
    intro ha hb hz4_2 hn4_2 hm4_2
    have hf4_2_0 : w4.cell? ⟨w.heap.size + 2, 0, none⟩ = some (.int .i64 0) := (ha _).trans (by first | with_reducible assumption | (simp (maxDischargeDepth := 7) [go_sem]; done) | (simp (maxDischargeDepth := 7) [go_sem, *]; done))
    have hf4_2_1 : w4.cell? ⟨w.heap.size + 2, 1, none⟩ = some (.int .i64 0) := (ha _).trans (by first | with_reducible assumption | (simp (maxDischargeDepth := 7) [go_sem]; done) | (simp (maxDischargeDepth := 7) [go_sem, *]; done))
    try have hg4_2 : ∀ o, w4.frozen? ⟨w.heap.size + 2, o, none⟩ = false := by intro o; rw [hb]; first | (simp (maxDischargeDepth := 7) [go_sem]; done) | (simp (maxDischargeDepth := 7) [go_sem, *]; done)
    clear ha hb
    (try clear hf3_0_0); (try clear hf3_0_1); (try clear hf3_1_0); (try clear hf3_1_1); (try clear hf3_2_0); (try clear hf3_2_1); (try clear hg3_0); (try clear hg3_1); (try clear hg3_2); (try clear hz3_1); (try clear hz3_2)
    go_wp2_with fail
    with_reducible refine (HSQ.out _).mono ?_
    rintro e w' ⟨rfl, rfl⟩
    go_wp2_with fail
    with_reducible refine (HAT.out _).mono ?_
    rintro e w6 ⟨rfl, hk6⟩
    refine kuz (b := w.heap.size) hk6 (by first | (simp; done) | (simp; omega) | omega) ?_
    intro ha hb hz6_0 hn6_0 hm6_0
    have hf6_0_0 : w6.cell? ⟨w.heap.size, 0, none⟩ = some (.int .i64 cX) := (ha _).trans (by first | with_reducible assumption | (simp (maxDischargeDepth := 7) [go_sem]; done) | (simp (maxDischargeDepth := 7) [go_sem, *]; done))
    have hf6_0_1 : w6.cell? ⟨w.heap.size, 1, none⟩ = some (.int .i64 cY) := (ha _).trans (by first | with_reducible assumption | (simp (maxDischargeDepth := 7) [go_sem]; done) | (simp (maxDischargeDepth := 7) [go_sem, *]; done))
    try have hg6_0 : ∀ o, w6.frozen? ⟨w.heap.size, o, none⟩ = false := by intro o; rw [hb]; first | (simp (maxDischargeDepth := 7) [go_sem]; done) | (simp (maxDischargeDepth := 7) [go_sem, *]; done)
    clear ha hb
    refine kuz (b := w.heap.size + 1) hk6 (by first | (simp; done) | (simp; omega) | omega) ?_
    intro ha hb hz6_1 hn6_1 hm6_1
    have hf6_1_0 : w6.cell? ⟨w.heap.size + 1, 0, none⟩ = some (.int .i64 pX) := (ha _).trans (by first | with_reducible assumption | (simp (maxDischargeDepth := 7) [go_sem]; done) | (simp (maxDischargeDepth := 7) [go_sem, *]; done))
    have hf6_1_1 : w6.cell? ⟨w.heap.size + 1, 1, none⟩ = some (.int .i64 pY) := (ha _).trans (by first | with_reducible assumption | (simp (maxDischargeDepth := 7) [go_sem]; done) | (simp (maxDischargeDepth := 7) [go_sem, *]; done))
    try have hg6_1 : ∀ o, w6.frozen? ⟨w.heap.size + 1, o, none⟩ = false := by intro o; rw [hb]; first | (simp (maxDischargeDepth := 7) [go_sem]; done) | (simp (maxDischargeDepth := 7) [go_sem, *]; done)
    clear ha hb
    refine kuz (b := w.heap.size + 2) hk6 (by first | (simp; done) | (simp; omega) | omega) ?_
    intro ha hb hz6_2 hn6_2 hm6_2
    have hf6_2_0 : w6.cell? ⟨w.heap.size + 2, 0, none⟩ = some (.int .i64 0) := (ha _).trans (by first | with_reducible assumption | (simp (maxDischargeDepth := 7) [go_sem]; done) | (simp (maxDischargeDepth := 7) [go_sem, *]; done))
    have hf6_2_1 : w6.cell? ⟨w.heap.size + 2, 1, none⟩ = some (.int .i64 0) := (ha _).trans (by first | with_reducible assumption | (simp (maxDischargeDepth := 7) [go_sem]; done) | (simp (maxDischargeDepth := 7) [go_sem, *]; done))
    try have hg6_2 : ∀ o, w6.frozen? ⟨w.heap.size + 2, o, none⟩ = false := by intro o; rw [hb]; first | (simp (maxDischargeDepth := 7) [go_sem]; done) | (simp (maxDischargeDepth := 7) [go_sem, *]; done)
    clear ha hb
    (try clear hf4_0_0); (try clear hf4_0_1); (try clear hf4_1_0); (try clear hf4_1_1); (try clear hf4_2_0); (try clear hf4_2_1); (try clear hg4_0); (try clear hg4_1); (try clear hg4_2); (try clear hz4_1); (try clear hz4_2)
    go_wp2_with fail
    have B0 : OwnB w6 (w.heap.size) [.int .i64 cX, .int .i64 cY] := ⟨hz6_0, hg6_0, hf6_0_0, hf6_0_1, trivial⟩
    have HB0_0 := Lib.hid B0
    clear B0
    have B1 : OwnB w6 (w.heap.size + 1) [.int .i64 pX, .int .i64 pY] := ⟨hz6_1, hg6_1, hf6_1_0, hf6_1_1, trivial⟩
    have HB0_1 := Lib.hid B1
    clear B1
    have B2 : OwnB w6 (w.heap.size + 2) [.int .i64 0, .int .i64 0] := ⟨hz6_2, hg6_2, hf6_2_0, hf6_2_1, trivial⟩
    have HB0_2 := Lib.hid B2
    clear B2
    go_upto_region 12 with (fail)
    go_cut [15, 16] (fun p0 c0 wx => ∃ b0 : Nat, p0 = .pointer (some ⟨b0, 0, none⟩) ∧ c0 = .int .i64 2 ∧ w.heap.size + 2 < b0 ∧ OwnB wx (b0) [.int .i64 0, .int .i64 0] ∧ OwnB wx (w.heap.size) [.int .i64 cX, .int .i64 cY] ∧ OwnB wx (w.heap.size + 1) [.int .i64 pX, .int .i64 pY] ∧ OwnB wx (w.heap.size + 2) [.int .i64 0, .int .i64 0] ∧ Kept w6 wx)
    case first =>
      go_region_held3 (fun W => W.cell? ⟨w.heap.size, 0, none⟩ = some (.int .i64 cX) ∧ W.cell? ⟨w.heap.size, 1, none⟩ = some (.int .i64 cY)) (first | (go_keep; done) | (simp (maxDischargeDepth := 9) [*, World.cell?_alloc_some, World.cell?_setCell_far]; done) | (simp (maxDischargeDepth := 9) [go_sem, *]; done)) (first | (go_at_call 77; with_reducible refine (HTN.out _).mono ?_; rintro e w' ⟨rfl, rfl⟩) | (go_at_call 61; (with_reducible refine (HRY.out _).mono ?_); rintro e v1 ⟨rfl, hk⟩; have hz := hk.size; (try (refine kuse (b := w.heap.size) hk (by first | (simp; done) | (simp; omega) | omega) ?_; intro hq hg; have hy : w.heap.size < v1.heap.size := (by (try simp at hz); omega); have hn : ¬ w.heap.size = v1.heap.size := (by omega); have hm : ¬ w.heap.size = v1.heap.size + 1 := (by omega); have hn' : ¬ v1.heap.size = w.heap.size := (by omega); have hm' : ¬ v1.heap.size + 1 = w.heap.size := (by omega))); (try (refine kuse (b := w.heap.size + 1) hk (by first | (simp; done) | (simp; omega) | omega) ?_; intro hq hg; have hy : w.heap.size + 1 < v1.heap.size := (by (try simp at hz); omega); have hn : ¬ w.heap.size + 1 = v1.heap.size := (by omega); have hm : ¬ w.heap.size + 1 = v1.heap.size + 1 := (by omega); have hn' : ¬ v1.heap.size = w.heap.size + 1 := (by omega); have hm' : ¬ v1.heap.size + 1 = w.heap.size + 1 := (by omega))); (try (refine kuse (b := w.heap.size + 2) hk (by first | (simp; done) | (simp; omega) | omega) ?_; intro hq hg; have hy : w.heap.size + 2 < v1.heap.size := (by (try simp at hz); omega); have hn : ¬ w.heap.size + 2 = v1.heap.size := (by omega); have hm : ¬ w.heap.size + 2 = v1.heap.size + 1 := (by omega); have hn' : ¬ v1.heap.size = w.heap.size + 2 := (by omega); have hm' : ¬ v1.heap.size + 1 = w.heap.size + 2 := (by omega))); (try (have hle : w1.heap.size ≤ v1.heap.size := (by (try simp at hz); omega))); (try (have hle : w2.heap.size ≤ v1.heap.size := (by (try simp at hz); omega))); (try (have hle : w3.heap.size ≤ v1.heap.size := (by (try simp at hz); omega))); (try (have hle : w4.heap.size ≤ v1.heap.size := (by (try simp at hz); omega))); (try (have hle : w5.heap.size ≤ v1.heap.size := (by (try simp at hz); omega))); (try (have hle : w6.heap.size ≤ v1.heap.size := (by (try simp at hz); omega))); (try (refine kuse (b := w6.heap.size) hk (by first | (simp; done) | (simp; omega) | omega) ?_; intro hq hg; have hy : w6.heap.size < v1.heap.size := (by (try simp at hz); omega))); (try (refine withF (p := v1.cell? ⟨w.heap.size, 0, none⟩ = some (.int .i64 cX)) (by first | (simp (maxDischargeDepth := 7) [go_sem, *]; done) | fail) ?_; intro ff)); (try (refine withF (p := v1.cell? ⟨w.heap.size, 1, none⟩ = some (.int .i64 cY)) (by first | (simp (maxDischargeDepth := 7) [go_sem, *]; done) | fail) ?_; intro ff))))
      all_goals (try go_wp2_with fail)
      all_goals (go_meet; case rel => refine (fun (hkx : Kept w6 _) => ⟨_, rfl, rfl, (by first | with_reducible assumption | omega | (simp; omega)), (by repeat (first | with_reducible exact own_alloc _ [.int .i64 0, .int .i64 0] 28 | with_reducible exact own_alloc _ [.int .i64 0, .int .i64 0] 28 | ((with_reducible refine own_allocE _ [.int .i64 0, .int .i64 0] 28 _ ?_); (simp; done)) | ((with_reducible refine own_allocE _ [.int .i64 0, .int .i64 0] 28 _ ?_); (simp; done)) | with_reducible refine own_set2 (us := [.int .i64 0, .int .i64 0]) ?_ rfl | with_reducible refine OwnB.other2 ?_ (by first | with_reducible assumption | omega | (simp; done) | (simp; omega)) | with_reducible refine OwnB.alloc ?_ _ | with_reducible refine OwnB.drew ?_ | with_reducible refine OwnB.drewN ?_ _ | with_reducible refine OwnB.kept (by with_reducible assumption) ?_)), OwnB.kept hkx HB0_0.out, OwnB.kept hkx HB0_1.out, OwnB.kept hkx HB0_2.out, hkx⟩) ?_; exact (by repeat (first | with_reducible exact Kept.refl _ | with_reducible assumption | with_reducible refine Kept.set12 ?_ (by first | with_reducible assumption | omega | (simp; done) | (simp; omega)) | with_reducible refine Kept.set11 ?_ (by first | with_reducible assumption | omega | (simp; done) | (simp; omega)) | with_reducible refine Kept.set10 ?_ (by first | with_reducible assumption | omega | (simp; done) | (simp; omega)) | with_reducible refine Kept.set9 ?_ (by first | with_reducible assumption | omega | (simp; done) | (simp; omega)) | with_reducible refine Kept.set8 ?_ (by first | with_reducible assumption | omega | (simp; done) | (simp; omega)) | with_reducible refine Kept.set7 ?_ (by first | with_reducible assumption | omega | (simp; done) | (simp; omega)) | with_reducible refine Kept.set6 ?_ (by first | with_reducible assumption | omega | (simp; done) | (simp; omega)) | with_reducible refine Kept.set5 ?_ (by first | with_reducible assumption | omega | (simp; done) | (simp; omega)) | with_reducible refine Kept.set4 ?_ (by first | with_reducible assumption | omega | (simp; done) | (simp; omega)) | with_reducible refine Kept.set3 ?_ (by first | with_reducible assumption | omega | (simp; done) | (simp; omega)) | with_reducible refine Kept.set2 ?_ (by first | with_reducible assumption | omega | (simp; done) | (simp; omega)) | with_reducible refine Kept.setCell ?_ (by first | with_reducible assumption | omega | (simp; done) | (simp; omega)) _ | with_reducible refine Kept.alloc ?_ _ | with_reducible refine Kept.drewN ?_ _ | with_reducible refine Kept.drew ?_ | with_reducible refine Kept.trans ?_ (by with_reducible assumption) | with_reducible refine Kept.dr ?_ (by with_reducible assumption))))
    case rest =>
    obtain ⟨b1_0, rfl, rfl, lt1_0, O1_0, O1_1, O1_2, O1_3, hkc1⟩ := hcut
    obtain ⟨hz_c1_0, hg_c1_0, hf_c1_0_0, hf_c1_0_1, _⟩ := O1_0
    obtain ⟨hz_c1_1, hg_c1_1, hf_c1_1_0, hf_c1_1_1, _⟩ := O1_1
    obtain ⟨hz_c1_2, hg_c1_2, hf_c1_2_0, hf_c1_2_1, _⟩ := O1_2
    obtain ⟨hz_c1_3, hg_c1_3, hf_c1_3_0, hf_c1_3_1, _⟩ := O1_3
    (try clear hf6_0_0); (try clear hf6_0_1); (try clear hf6_1_0); (try clear hf6_1_1); (try clear hf6_2_0); (try clear hf6_2_1); (try clear hg6_0); (try clear hg6_1); (try clear hg6_2); (try clear hz6_1); (try clear hz6_2)
    go_wp2_with fail
    all_goals exact bodyPost_ret (v := .tuple #[.agg #[.int .i64 0, .int .i64 0], .int .i64 2]) (by first | (simp [results, Try.results33, go_sem]; done) | (simp (maxDischargeDepth := 7) [results, Try.results33, go_sem, *]; done)) rfl ⟨rfl, (by repeat (first | with_reducible exact Kept.refl _ | with_reducible assumption | with_reducible refine Kept.setCell ?_ (by first | (simp; done) | (simp; omega) | omega) _ | with_reducible refine Kept.alloc ?_ _ | with_reducible refine Kept.drewN ?_ _ | with_reducible refine Kept.drew ?_ | with_reducible refine Kept.trans ?_ (by with_reducible assumption) | with_reducible refine Kept.dr ?_ (by with_reducible assumption)))⟩
set_option maxHeartbeats 4000000 in
set_option maxRecDepth 100000 in
theorem ref_tangent_1 (cX cY pX pY r : Int) (hc : pokB cX cY = true) (hp : pokB pX pY = true) (r0 : 1 ≤ r) (r1 : r ≤ 8000000) (hs : r * r < dtp (pX - cX) (pY - cY) (pX - cX) (pY - cY)) (w : World) : Calls Try.prog 33 #[.agg #[.int .i64 cX, .int .i64 cY], .int .i64 r, .int .u8 1, .agg #[.int .i64 pX, .int .i64 pY]] w fun e w' => e = .returned (.tuple #[.agg #[.int .i64 (mvX cX cY (sinV (trn (csV cX cY pX pY) (at2V (isq (dtp (pX - cX) (pY - cY) (pX - cX) (pY - cY) - r * r)) r))) (cosV (trn (csV cX cY pX pY) (at2V (isq (dtp (pX - cX) (pY - cY) (pX - cX) (pY - cY) - r * r)) r))) r 1073741824), .int .i64 (mvY cX cY (sinV (trn (csV cX cY pX pY) (at2V (isq (dtp (pX - cX) (pY - cY) (pX - cX) (pY - cY) - r * r)) r))) (cosV (trn (csV cX cY pX pY) (at2V (isq (dtp (pX - cX) (pY - cY) (pX - cX) (pY - cY) - r * r)) r))) r 1073741824)], .int .i64 (mvE cX cY (sinV (trn (csV cX cY pX pY) (at2V (isq (dtp (pX - cX) (pY - cY) (pX - cX) (pY - cY) - r * r)) r))) (cosV (trn (csV cX cY pX pY) (at2V (isq (dtp (pX - cX) (pY - cY) (pX - cX) (pY - cY) - r * r)) r))) r 1073741824)]) ∧ Kept w w' := by
  rcases ref_mv_two cX cY (sinV (trn (csV cX cY pX pY) (at2V (isq (dtp (pX - cX) (pY - cY) (pX - cX) (pY - cY) - r * r)) r))) (cosV (trn (csV cX cY pX pY) (at2V (isq (dtp (pX - cX) (pY - cY) (pX - cX) (pY - cY) - r * r)) r))) r 1073741824 with hE | hE
  · obtain ⟨cX0, cX1, cY0, cY1⟩ := pok_yes hc
    obtain ⟨pX0, pX1, pY0, pY1⟩ := pok_yes hp
    obtain ⟨lm00, lm01⟩ := dtp_lim4 (pX - cX) (pY - cY) (pX - cX) (pY - cY) (by omega) (by omega) (by omega) (by omega) (by omega) (by omega) (by omega) (by omega)
    have rr := Int.mul_le_mul r1 r1 (by omega) (show (0 : Int) ≤ 8000000 by omega)
    have rn := Int.mul_nonneg (show 0 ≤ r by omega) (show 0 ≤ r by omega)
    obtain ⟨q0, q1, q2, q3⟩ := isq_ok (dtp (pX - cX) (pY - cY) (pX - cX) (pY - cY) - r * r) (by omega) (by omega)
    have CS := fun w => ref_course_w cX cY pX pY w
    generalize csE cX cY pX pY = EE at *
    have cb := csV_bd cX cY pX pY
    obtain ⟨cb0, cb1⟩ := cb
    have SQ := fun w => ref_sqrt_w (dtp (pX - cX) (pY - cY) (pX - cX) (pY - cY) - r * r) (by omega) (by omega) w
    have AT := fun w => calls_kept (ref_atan2_w (isq (dtp (pX - cX) (pY - cY) (pX - cX) (pY - cY) - r * r)) r (by omega) (by omega) (by omega) (by omega) w)
    have zb := at2V_lim (isq (dtp (pX - cX) (pY - cY) (pX - cX) (pY - cY) - r * r)) r
    obtain ⟨zb0, zb1⟩ := zb
    generalize at2E (isq (dtp (pX - cX) (pY - cY) (pX - cX) (pY - cY) - r * r)) r = AE at *
    have TN := fun w => ref_turn_w (csV cX cY pX pY) (at2V (isq (dtp (pX - cX) (pY - cY) (pX - cX) (pY - cY) - r * r)) r) (by omega) (by omega) (by omega) (by omega) w
    have tb := trn_bd (csV cX cY pX pY) (at2V (isq (dtp (pX - cX) (pY - cY) (pX - cX) (pY - cY) - r * r)) r)
    obtain ⟨tb0, tb1⟩ := tb
    have RY := fun w => ref_ray_ok cX cY (trn (csV cX cY pX pY) (at2V (isq (dtp (pX - cX) (pY - cY) (pX - cX) (pY - cY) - r * r)) r)) r hc (by omega) (by omega) (by omega) (by omega) w
    rw [hE] at RY ⊢
    clear hE
    generalize mvX cX cY (sinV (trn (csV cX cY pX pY) (at2V (isq (dtp (pX - cX) (pY - cY) (pX - cX) (pY - cY) - r * r)) r))) (cosV (trn (csV cX cY pX pY) (at2V (isq (dtp (pX - cX) (pY - cY) (pX - cX) (pY - cY) - r * r)) r))) r 1073741824 = X at *
    generalize mvY cX cY (sinV (trn (csV cX cY pX pY) (at2V (isq (dtp (pX - cX) (pY - cY) (pX - cX) (pY - cY) - r * r)) r))) (cosV (trn (csV cX cY pX pY) (at2V (isq (dtp (pX - cX) (pY - cY) (pX - cX) (pY - cY) - r * r)) r))) r 1073741824 = Y at *
    generalize trn (csV cX cY pX pY) (at2V (isq (dtp (pX - cX) (pY - cY) (pX - cX) (pY - cY) - r * r)) r) = T at *
    generalize (at2V (isq (dtp (pX - cX) (pY - cY) (pX - cX) (pY - cY) - r * r)) r) = ZA at *
    generalize isq (dtp (pX - cX) (pY - cY) (pX - cX) (pY - cY) - r * r) = Q at *
    clear q2 q3
    have wrs : IntKind.i64.wrap (dtp (pX - cX) (pY - cY) (pX - cX) (pY - cY) - r * r) = dtp (pX - cX) (pY - cY) (pX - cX) (pY - cY) - r * r := IntWalk.i64_in _ (by omega)
    have wrz : IntKind.i64.wrap (-ZA) = -ZA := IntWalk.i64_in _ (by omega)
    have DT := fun w => ref_dot_w cX cY pX pY cX cY pX pY (by omega) (by omega) (by omega) (by omega) (by omega) (by omega) (by omega) (by omega) (by omega) (by omega) (by omega) (by omega) (by omega) (by omega) (by omega) (by omega) w
    have wrr : IntKind.i64.wrap (r * r) = r * r := IntWalk.i64_in _ (by omega)
    generalize dtp (pX - cX) (pY - cY) (pX - cX) (pY - cY) = SS at *
    have HDT := Lib.hid DT
    clear DT
    generalize csV cX cY pX pY = C at *
    have HCS := Lib.hid CS
    have HSQ := Lib.hid SQ
    have HAT := Lib.hid AT
    have HTN := Lib.hid TN
    have HRY := Lib.hid RY
    clear CS SQ AT TN RY
    go_enter Try.func33, Try.ntmps33
    go_wp2_with fail
    with_reducible refine (rpv_ok cX cY hc _).mono ?_
    rintro e w1 ⟨rfl, hk1⟩
    refine kuz (b := w.heap.size) hk1 (by first | (simp; done) | (simp; omega) | omega) ?_
    intro ha hb hz1_0 hn1_0 hm1_0
    have hf1_0_0 : w1.cell? ⟨w.heap.size, 0, none⟩ = some (.int .i64 cX) := (ha _).trans (by first | with_reducible assumption | (simp (maxDischargeDepth := 7) [go_sem]; done) | (simp (maxDischargeDepth := 7) [go_sem, *]; done))
    have hf1_0_1 : w1.cell? ⟨w.heap.size, 1, none⟩ = some (.int .i64 cY) := (ha _).trans (by first | with_reducible assumption | (simp (maxDischargeDepth := 7) [go_sem]; done) | (simp (maxDischargeDepth := 7) [go_sem, *]; done))
    try have hg1_0 : ∀ o, w1.frozen? ⟨w.heap.size, o, none⟩ = false := by intro o; rw [hb]; first | (simp (maxDischargeDepth := 7) [go_sem]; done) | (simp (maxDischargeDepth := 7) [go_sem, *]; done)
    clear ha hb
    refine kuz (b := w.heap.size + 1) hk1 (by first | (simp; done) | (simp; omega) | omega) ?_
    intro ha hb hz1_1 hn1_1 hm1_1
    have hf1_1_0 : w1.cell? ⟨w.heap.size + 1, 0, none⟩ = some (.int .i64 pX) := (ha _).trans (by first | with_reducible assumption | (simp (maxDischargeDepth := 7) [go_sem]; done) | (simp (maxDischargeDepth := 7) [go_sem, *]; done))
    have hf1_1_1 : w1.cell? ⟨w.heap.size + 1, 1, none⟩ = some (.int .i64 pY) := (ha _).trans (by first | with_reducible assumption | (simp (maxDischargeDepth := 7) [go_sem]; done) | (simp (maxDischargeDepth := 7) [go_sem, *]; done))
    try have hg1_1 : ∀ o, w1.frozen? ⟨w.heap.size + 1, o, none⟩ = false := by intro o; rw [hb]; first | (simp (maxDischargeDepth := 7) [go_sem]; done) | (simp (maxDischargeDepth := 7) [go_sem, *]; done)
    clear ha hb
    refine kuz (b := w.heap.size + 2) hk1 (by first | (simp; done) | (simp; omega) | omega) ?_
    intro ha hb hz1_2 hn1_2 hm1_2
    have hf1_2_0 : w1.cell? ⟨w.heap.size + 2, 0, none⟩ = some (.int .i64 0) := (ha _).trans (by first | with_reducible assumption | (simp (maxDischargeDepth := 7) [go_sem]; done) | (simp (maxDischargeDepth := 7) [go_sem, *]; done))
    have hf1_2_1 : w1.cell? ⟨w.heap.size + 2, 1, none⟩ = some (.int .i64 0) := (ha _).trans (by first | with_reducible assumption | (simp (maxDischargeDepth := 7) [go_sem]; done) | (simp (maxDischargeDepth := 7) [go_sem, *]; done))
    try have hg1_2 : ∀ o, w1.frozen? ⟨w.heap.size + 2, o, none⟩ = false := by intro o; rw [hb]; first | (simp (maxDischargeDepth := 7) [go_sem]; done) | (simp (maxDischargeDepth := 7) [go_sem, *]; done)
    clear ha hb
    go_wp2_with fail
    with_reducible refine (rpv_ok pX pY hp _).mono ?_
    rintro e w2 ⟨rfl, hk2⟩
    refine kuz (b := w.heap.size) hk2 (by first | (simp; done) | (simp; omega) | omega) ?_
    intro ha hb hz2_0 hn2_0 hm2_0
    have hf2_0_0 : w2.cell? ⟨w.heap.size, 0, none⟩ = some (.int .i64 cX) := (ha _).trans (by first | with_reducible assumption | (simp (maxDischargeDepth := 7) [go_sem]; done) | (simp (maxDischargeDepth := 7) [go_sem, *]; done))
    have hf2_0_1 : w2.cell? ⟨w.heap.size, 1, none⟩ = some (.int .i64 cY) := (ha _).trans (by first | with_reducible assumption | (simp (maxDischargeDepth := 7) [go_sem]; done) | (simp (maxDischargeDepth := 7) [go_sem, *]; done))
    try have hg2_0 : ∀ o, w2.frozen? ⟨w.heap.size, o, none⟩ = false := by intro o; rw [hb]; first | (simp (maxDischargeDepth := 7) [go_sem]; done) | (simp (maxDischargeDepth := 7) [go_sem, *]; done)
    clear ha hb
    refine kuz (b := w.heap.size + 1) hk2 (by first | (simp; done) | (simp; omega) | omega) ?_
    intro ha hb hz2_1 hn2_1 hm2_1
    have hf2_1_0 : w2.cell? ⟨w.heap.size + 1, 0, none⟩ = some (.int .i64 pX) := (ha _).trans (by first | with_reducible assumption | (simp (maxDischargeDepth := 7) [go_sem]; done) | (simp (maxDischargeDepth := 7) [go_sem, *]; done))
    have hf2_1_1 : w2.cell? ⟨w.heap.size + 1, 1, none⟩ = some (.int .i64 pY) := (ha _).trans (by first | with_reducible assumption | (simp (maxDischargeDepth := 7) [go_sem]; done) | (simp (maxDischargeDepth := 7) [go_sem, *]; done))
    try have hg2_1 : ∀ o, w2.frozen? ⟨w.heap.size + 1, o, none⟩ = false := by intro o; rw [hb]; first | (simp (maxDischargeDepth := 7) [go_sem]; done) | (simp (maxDischargeDepth := 7) [go_sem, *]; done)
    clear ha hb
    refine kuz (b := w.heap.size + 2) hk2 (by first | (simp; done) | (simp; omega) | omega) ?_
    intro ha hb hz2_2 hn2_2 hm2_2
    have hf2_2_0 : w2.cell? ⟨w.heap.size + 2, 0, none⟩ = some (.int .i64 0) := (ha _).trans (by first | with_reducible assumption | (simp (maxDischargeDepth := 7) [go_sem]; done) | (simp (maxDischargeDepth := 7) [go_sem, *]; done))
    have hf2_2_1 : w2.cell? ⟨w.heap.size + 2, 1, none⟩ = some (.int .i64 0) := (ha _).trans (by first | with_reducible assumption | (simp (maxDischargeDepth := 7) [go_sem]; done) | (simp (maxDischargeDepth := 7) [go_sem, *]; done))
    try have hg2_2 : ∀ o, w2.frozen? ⟨w.heap.size + 2, o, none⟩ = false := by intro o; rw [hb]; first | (simp (maxDischargeDepth := 7) [go_sem]; done) | (simp (maxDischargeDepth := 7) [go_sem, *]; done)
    clear ha hb
    (try clear hf1_0_0); (try clear hf1_0_1); (try clear hf1_1_0); (try clear hf1_1_1); (try clear hf1_2_0); (try clear hf1_2_1); (try clear hg1_0); (try clear hg1_1); (try clear hg1_2); (try clear hz1_1); (try clear hz1_2)
    go_wp2_with fail
    with_reducible refine (HDT.out _).mono ?_
    rintro e w3 ⟨rfl, hk3⟩
    refine kuz (b := w.heap.size) hk3 (by first | (simp; done) | (simp; omega) | omega) ?_
    intro ha hb hz3_0 hn3_0 hm3_0
    have hf3_0_0 : w3.cell? ⟨w.heap.size, 0, none⟩ = some (.int .i64 cX) := (ha _).trans (by first | with_reducible assumption | (simp (maxDischargeDepth := 7) [go_sem]; done) | (simp (maxDischargeDepth := 7) [go_sem, *]; done))
    have hf3_0_1 : w3.cell? ⟨w.heap.size, 1, none⟩ = some (.int .i64 cY) := (ha _).trans (by first | with_reducible assumption | (simp (maxDischargeDepth := 7) [go_sem]; done) | (simp (maxDischargeDepth := 7) [go_sem, *]; done))
    try have hg3_0 : ∀ o, w3.frozen? ⟨w.heap.size, o, none⟩ = false := by intro o; rw [hb]; first | (simp (maxDischargeDepth := 7) [go_sem]; done) | (simp (maxDischargeDepth := 7) [go_sem, *]; done)
    clear ha hb
    refine kuz (b := w.heap.size + 1) hk3 (by first | (simp; done) | (simp; omega) | omega) ?_
    intro ha hb hz3_1 hn3_1 hm3_1
    have hf3_1_0 : w3.cell? ⟨w.heap.size + 1, 0, none⟩ = some (.int .i64 pX) := (ha _).trans (by first | with_reducible assumption | (simp (maxDischargeDepth := 7) [go_sem]; done) | (simp (maxDischargeDepth := 7) [go_sem, *]; done))
    have hf3_1_1 : w3.cell? ⟨w.heap.size + 1, 1, none⟩ = some (.int .i64 pY) := (ha _).trans (by first | with_reducible assumption | (simp (maxDischargeDepth := 7) [go_sem]; done) | (simp (maxDischargeDepth := 7) [go_sem, *]; done))
    try have hg3_1 : ∀ o, w3.frozen? ⟨w.heap.size + 1, o, none⟩ = false := by intro o; rw [hb]; first | (simp (maxDischargeDepth := 7) [go_sem]; done) | (simp (maxDischargeDepth := 7) [go_sem, *]; done)
    clear ha hb
    refine kuz (b := w.heap.size + 2) hk3 (by first | (simp; done) | (simp; omega) | omega) ?_
    intro ha hb hz3_2 hn3_2 hm3_2
    have hf3_2_0 : w3.cell? ⟨w.heap.size + 2, 0, none⟩ = some (.int .i64 0) := (ha _).trans (by first | with_reducible assumption | (simp (maxDischargeDepth := 7) [go_sem]; done) | (simp (maxDischargeDepth := 7) [go_sem, *]; done))
    have hf3_2_1 : w3.cell? ⟨w.heap.size + 2, 1, none⟩ = some (.int .i64 0) := (ha _).trans (by first | with_reducible assumption | (simp (maxDischargeDepth := 7) [go_sem]; done) | (simp (maxDischargeDepth := 7) [go_sem, *]; done))
    try have hg3_2 : ∀ o, w3.frozen? ⟨w.heap.size + 2, o, none⟩ = false := by intro o; rw [hb]; first | (simp (maxDischargeDepth := 7) [go_sem]; done) | (simp (maxDischargeDepth := 7) [go_sem, *]; done)
    clear ha hb
    (try clear hf2_0_0); (try clear hf2_0_1); (try clear hf2_1_0); (try clear hf2_1_1); (try clear hf2_2_0); (try clear hf2_2_1); (try clear hg2_0); (try clear hg2_1); (try clear hg2_2); (try clear hz2_1); (try clear hz2_2)
    go_wp2_with fail
    with_reducible refine (HCS.out _).mono ?_
    rintro e w4 ⟨rfl, hk4⟩
    refine kuz (b := w.heap.size) hk4 (by first | (simp; done) | (simp; omega) | omega) ?_
    intro ha hb hz4_0 hn4_0 hm4_0
    have hf4_0_0 : w4.cell? ⟨w.heap.size, 0, none⟩ = some (.int .i64 cX) := (ha _).trans (by first | with_reducible assumption | (simp (maxDischargeDepth := 7) [go_sem]; done) | (simp (maxDischargeDepth := 7) [go_sem, *]; done))
    have hf4_0_1 : w4.cell? ⟨w.heap.size, 1, none⟩ = some (.int .i64 cY) := (ha _).trans (by first | with_reducible assumption | (simp (maxDischargeDepth := 7) [go_sem]; done) | (simp (maxDischargeDepth := 7) [go_sem, *]; done))
    try have hg4_0 : ∀ o, w4.frozen? ⟨w.heap.size, o, none⟩ = false := by intro o; rw [hb]; first | (simp (maxDischargeDepth := 7) [go_sem]; done) | (simp (maxDischargeDepth := 7) [go_sem, *]; done)
    clear ha hb
    refine kuz (b := w.heap.size + 1) hk4 (by first | (simp; done) | (simp; omega) | omega) ?_
    intro ha hb hz4_1 hn4_1 hm4_1
    have hf4_1_0 : w4.cell? ⟨w.heap.size + 1, 0, none⟩ = some (.int .i64 pX) := (ha _).trans (by first | with_reducible assumption | (simp (maxDischargeDepth := 7) [go_sem]; done) | (simp (maxDischargeDepth := 7) [go_sem, *]; done))
    have hf4_1_1 : w4.cell? ⟨w.heap.size + 1, 1, none⟩ = some (.int .i64 pY) := (ha _).trans (by first | with_reducible assumption | (simp (maxDischargeDepth := 7) [go_sem]; done) | (simp (maxDischargeDepth := 7) [go_sem, *]; done))
    try have hg4_1 : ∀ o, w4.frozen? ⟨w.heap.size + 1, o, none⟩ = false := by intro o; rw [hb]; first | (simp (maxDischargeDepth := 7) [go_sem]; done) | (simp (maxDischargeDepth := 7) [go_sem, *]; done)
    clear ha hb
    refine kuz (b := w.heap.size + 2) hk4 (by first | (simp; done) | (simp; omega) | omega) ?_
    intro ha hb hz4_2 hn4_2 hm4_2
    have hf4_2_0 : w4.cell? ⟨w.heap.size + 2, 0, none⟩ = some (.int .i64 0) := (ha _).trans (by first | with_reducible assumption | (simp (maxDischargeDepth := 7) [go_sem]; done) | (simp (maxDischargeDepth := 7) [go_sem, *]; done))
    have hf4_2_1 : w4.cell? ⟨w.heap.size + 2, 1, none⟩ = some (.int .i64 0) := (ha _).trans (by first | with_reducible assumption | (simp (maxDischargeDepth := 7) [go_sem]; done) | (simp (maxDischargeDepth := 7) [go_sem, *]; done))
    try have hg4_2 : ∀ o, w4.frozen? ⟨w.heap.size + 2, o, none⟩ = false := by intro o; rw [hb]; first | (simp (maxDischargeDepth := 7) [go_sem]; done) | (simp (maxDischargeDepth := 7) [go_sem, *]; done)
    clear ha hb
    (try clear hf3_0_0); (try clear hf3_0_1); (try clear hf3_1_0); (try clear hf3_1_1); (try clear hf3_2_0); (try clear hf3_2_1); (try clear hg3_0); (try clear hg3_1); (try clear hg3_2); (try clear hz3_1); (try clear hz3_2)
    go_wp2_with fail
    with_reducible refine (HSQ.out _).mono ?_
    rintro e w' ⟨rfl, rfl⟩
    go_wp2_with fail
    with_reducible refine (HAT.out _).mono ?_
    rintro e w6 ⟨rfl, hk6⟩
    refine kuz (b := w.heap.size) hk6 (by first | (simp; done) | (simp; omega) | omega) ?_
    intro ha hb hz6_0 hn6_0 hm6_0
    have hf6_0_0 : w6.cell? ⟨w.heap.size, 0, none⟩ = some (.int .i64 cX) := (ha _).trans (by first | with_reducible assumption | (simp (maxDischargeDepth := 7) [go_sem]; done) | (simp (maxDischargeDepth := 7) [go_sem, *]; done))
    have hf6_0_1 : w6.cell? ⟨w.heap.size, 1, none⟩ = some (.int .i64 cY) := (ha _).trans (by first | with_reducible assumption | (simp (maxDischargeDepth := 7) [go_sem]; done) | (simp (maxDischargeDepth := 7) [go_sem, *]; done))
    try have hg6_0 : ∀ o, w6.frozen? ⟨w.heap.size, o, none⟩ = false := by intro o; rw [hb]; first | (simp (maxDischargeDepth := 7) [go_sem]; done) | (simp (maxDischargeDepth := 7) [go_sem, *]; done)
    clear ha hb
    refine kuz (b := w.heap.size + 1) hk6 (by first | (simp; done) | (simp; omega) | omega) ?_
    intro ha hb hz6_1 hn6_1 hm6_1
    have hf6_1_0 : w6.cell? ⟨w.heap.size + 1, 0, none⟩ = some (.int .i64 pX) := (ha _).trans (by first | with_reducible assumption | (simp (maxDischargeDepth := 7) [go_sem]; done) | (simp (maxDischargeDepth := 7) [go_sem, *]; done))
    have hf6_1_1 : w6.cell? ⟨w.heap.size + 1, 1, none⟩ = some (.int .i64 pY) := (ha _).trans (by first | with_reducible assumption | (simp (maxDischargeDepth := 7) [go_sem]; done) | (simp (maxDischargeDepth := 7) [go_sem, *]; done))
    try have hg6_1 : ∀ o, w6.frozen? ⟨w.heap.size + 1, o, none⟩ = false := by intro o; rw [hb]; first | (simp (maxDischargeDepth := 7) [go_sem]; done) | (simp (maxDischargeDepth := 7) [go_sem, *]; done)
    clear ha hb
    refine kuz (b := w.heap.size + 2) hk6 (by first | (simp; done) | (simp; omega) | omega) ?_
    intro ha hb hz6_2 hn6_2 hm6_2
    have hf6_2_0 : w6.cell? ⟨w.heap.size + 2, 0, none⟩ = some (.int .i64 0) := (ha _).trans (by first | with_reducible assumption | (simp (maxDischargeDepth := 7) [go_sem]; done) | (simp (maxDischargeDepth := 7) [go_sem, *]; done))
    have hf6_2_1 : w6.cell? ⟨w.heap.size + 2, 1, none⟩ = some (.int .i64 0) := (ha _).trans (by first | with_reducible assumption | (simp (maxDischargeDepth := 7) [go_sem]; done) | (simp (maxDischargeDepth := 7) [go_sem, *]; done))
    try have hg6_2 : ∀ o, w6.frozen? ⟨w.heap.size + 2, o, none⟩ = false := by intro o; rw [hb]; first | (simp (maxDischargeDepth := 7) [go_sem]; done) | (simp (maxDischargeDepth := 7) [go_sem, *]; done)
    clear ha hb
    (try clear hf4_0_0); (try clear hf4_0_1); (try clear hf4_1_0); (try clear hf4_1_1); (try clear hf4_2_0); (try clear hf4_2_1); (try clear hg4_0); (try clear hg4_1); (try clear hg4_2); (try clear hz4_1); (try clear hz4_2)
    go_wp2_with fail
    have B0 : OwnB w6 (w.heap.size) [.int .i64 cX, .int .i64 cY] := ⟨hz6_0, hg6_0, hf6_0_0, hf6_0_1, trivial⟩
    have HB0_0 := Lib.hid B0
    clear B0
    have B1 : OwnB w6 (w.heap.size + 1) [.int .i64 pX, .int .i64 pY] := ⟨hz6_1, hg6_1, hf6_1_0, hf6_1_1, trivial⟩
    have HB0_1 := Lib.hid B1
    clear B1
    have B2 : OwnB w6 (w.heap.size + 2) [.int .i64 0, .int .i64 0] := ⟨hz6_2, hg6_2, hf6_2_0, hf6_2_1, trivial⟩
    have HB0_2 := Lib.hid B2
    clear B2
    go_upto_region 12 with (fail)
    go_cut [15, 16] (fun p0 c0 wx => ∃ b0 : Nat, p0 = .pointer (some ⟨b0, 0, none⟩) ∧ c0 = .int .i64 0 ∧ w.heap.size + 2 < b0 ∧ OwnB wx (b0) [.int .i64 X, .int .i64 Y] ∧ OwnB wx (w.heap.size) [.int .i64 cX, .int .i64 cY] ∧ OwnB wx (w.heap.size + 1) [.int .i64 pX, .int .i64 pY] ∧ OwnB wx (w.heap.size + 2) [.int .i64 0, .int .i64 0] ∧ Kept w6 wx)
    case first =>
      go_region_held3 (fun W => W.cell? ⟨w.heap.size, 0, none⟩ = some (.int .i64 cX) ∧ W.cell? ⟨w.heap.size, 1, none⟩ = some (.int .i64 cY)) (first | (go_keep; done) | (simp (maxDischargeDepth := 9) [*, World.cell?_alloc_some, World.cell?_setCell_far]; done) | (simp (maxDischargeDepth := 9) [go_sem, *]; done)) (first | (go_at_call 77; with_reducible refine (HTN.out _).mono ?_; rintro e w' ⟨rfl, rfl⟩) | (go_at_call 61; (with_reducible refine (HRY.out _).mono ?_); rintro e v1 ⟨rfl, hk⟩; have hz := hk.size; (try (refine kuse (b := w.heap.size) hk (by first | (simp; done) | (simp; omega) | omega) ?_; intro hq hg; have hy : w.heap.size < v1.heap.size := (by (try simp at hz); omega); have hn : ¬ w.heap.size = v1.heap.size := (by omega); have hm : ¬ w.heap.size = v1.heap.size + 1 := (by omega); have hn' : ¬ v1.heap.size = w.heap.size := (by omega); have hm' : ¬ v1.heap.size + 1 = w.heap.size := (by omega))); (try (refine kuse (b := w.heap.size + 1) hk (by first | (simp; done) | (simp; omega) | omega) ?_; intro hq hg; have hy : w.heap.size + 1 < v1.heap.size := (by (try simp at hz); omega); have hn : ¬ w.heap.size + 1 = v1.heap.size := (by omega); have hm : ¬ w.heap.size + 1 = v1.heap.size + 1 := (by omega); have hn' : ¬ v1.heap.size = w.heap.size + 1 := (by omega); have hm' : ¬ v1.heap.size + 1 = w.heap.size + 1 := (by omega))); (try (refine kuse (b := w.heap.size + 2) hk (by first | (simp; done) | (simp; omega) | omega) ?_; intro hq hg; have hy : w.heap.size + 2 < v1.heap.size := (by (try simp at hz); omega); have hn : ¬ w.heap.size + 2 = v1.heap.size := (by omega); have hm : ¬ w.heap.size + 2 = v1.heap.size + 1 := (by omega); have hn' : ¬ v1.heap.size = w.heap.size + 2 := (by omega); have hm' : ¬ v1.heap.size + 1 = w.heap.size + 2 := (by omega))); (try (have hle : w1.heap.size ≤ v1.heap.size := (by (try simp at hz); omega))); (try (have hle : w2.heap.size ≤ v1.heap.size := (by (try simp at hz); omega))); (try (have hle : w3.heap.size ≤ v1.heap.size := (by (try simp at hz); omega))); (try (have hle : w4.heap.size ≤ v1.heap.size := (by (try simp at hz); omega))); (try (have hle : w5.heap.size ≤ v1.heap.size := (by (try simp at hz); omega))); (try (have hle : w6.heap.size ≤ v1.heap.size := (by (try simp at hz); omega))); (try (refine kuse (b := w6.heap.size) hk (by first | (simp; done) | (simp; omega) | omega) ?_; intro hq hg; have hy : w6.heap.size < v1.heap.size := (by (try simp at hz); omega))); (try (refine withF (p := v1.cell? ⟨w.heap.size, 0, none⟩ = some (.int .i64 cX)) (by first | (simp (maxDischargeDepth := 7) [go_sem, *]; done) | fail) ?_; intro ff)); (try (refine withF (p := v1.cell? ⟨w.heap.size, 1, none⟩ = some (.int .i64 cY)) (by first | (simp (maxDischargeDepth := 7) [go_sem, *]; done) | fail) ?_; intro ff))))
      all_goals (try go_wp2_with fail)
      all_goals (go_meet; case rel => refine (fun (hkx : Kept w6 _) => ⟨_, rfl, rfl, (by first | with_reducible assumption | omega | (simp; omega)), (by repeat (first | with_reducible exact own_alloc _ [.int .i64 X, .int .i64 Y] 28 | with_reducible exact own_alloc _ [.int .i64 0, .int .i64 0] 28 | ((with_reducible refine own_allocE _ [.int .i64 X, .int .i64 Y] 28 _ ?_); (simp; done)) | ((with_reducible refine own_allocE _ [.int .i64 0, .int .i64 0] 28 _ ?_); (simp; done)) | with_reducible refine own_set2 (us := [.int .i64 0, .int .i64 0]) ?_ rfl | with_reducible refine OwnB.other2 ?_ (by first | with_reducible assumption | omega | (simp; done) | (simp; omega)) | with_reducible refine OwnB.alloc ?_ _ | with_reducible refine OwnB.drew ?_ | with_reducible refine OwnB.drewN ?_ _ | with_reducible refine OwnB.kept (by with_reducible assumption) ?_)), OwnB.kept hkx HB0_0.out, OwnB.kept hkx HB0_1.out, OwnB.kept hkx HB0_2.out, hkx⟩) ?_; exact (by repeat (first | with_reducible exact Kept.refl _ | with_reducible assumption | with_reducible refine Kept.set12 ?_ (by first | with_reducible assumption | omega | (simp; done) | (simp; omega)) | with_reducible refine Kept.set11 ?_ (by first | with_reducible assumption | omega | (simp; done) | (simp; omega)) | with_reducible refine Kept.set10 ?_ (by first | with_reducible assumption | omega | (simp; done) | (simp; omega)) | with_reducible refine Kept.set9 ?_ (by first | with_reducible assumption | omega | (simp; done) | (simp; omega)) | with_reducible refine Kept.set8 ?_ (by first | with_reducible assumption | omega | (simp; done) | (simp; omega)) | with_reducible refine Kept.set7 ?_ (by first | with_reducible assumption | omega | (simp; done) | (simp; omega)) | with_reducible refine Kept.set6 ?_ (by first | with_reducible assumption | omega | (simp; done) | (simp; omega)) | with_reducible refine Kept.set5 ?_ (by first | with_reducible assumption | omega | (simp; done) | (simp; omega)) | with_reducible refine Kept.set4 ?_ (by first | with_reducible assumption | omega | (simp; done) | (simp; omega)) | with_reducible refine Kept.set3 ?_ (by first | with_reducible assumption | omega | (simp; done) | (simp; omega)) | with_reducible refine Kept.set2 ?_ (by first | with_reducible assumption | omega | (simp; done) | (simp; omega)) | with_reducible refine Kept.setCell ?_ (by first | with_reducible assumption | omega | (simp; done) | (simp; omega)) _ | with_reducible refine Kept.alloc ?_ _ | with_reducible refine Kept.drewN ?_ _ | with_reducible refine Kept.drew ?_ | with_reducible refine Kept.trans ?_ (by with_reducible assumption) | with_reducible refine Kept.dr ?_ (by with_reducible assumption))))
    case rest =>
    obtain ⟨b1_0, rfl, rfl, lt1_0, O1_0, O1_1, O1_2, O1_3, hkc1⟩ := hcut
    obtain ⟨hz_c1_0, hg_c1_0, hf_c1_0_0, hf_c1_0_1, _⟩ := O1_0
    obtain ⟨hz_c1_1, hg_c1_1, hf_c1_1_0, hf_c1_1_1, _⟩ := O1_1
    obtain ⟨hz_c1_2, hg_c1_2, hf_c1_2_0, hf_c1_2_1, _⟩ := O1_2
    obtain ⟨hz_c1_3, hg_c1_3, hf_c1_3_0, hf_c1_3_1, _⟩ := O1_3
    (try clear hf6_0_0); (try clear hf6_0_1); (try clear hf6_1_0); (try clear hf6_1_1); (try clear hf6_2_0); (try clear hf6_2_1); (try clear hg6_0); (try clear hg6_1); (try clear hg6_2); (try clear hz6_1); (try clear hz6_2)
    go_wp2_with fail
    all_goals exact bodyPost_ret (v := .tuple #[.agg #[.int .i64 X, .int .i64 Y], .int .i64 0]) (by first | (simp [results, Try.results33, go_sem]; done) | (simp (maxDischargeDepth := 7) [results, Try.results33, go_sem, *]; done)) rfl ⟨rfl, (by repeat (first | with_reducible exact Kept.refl _ | with_reducible assumption | with_reducible refine Kept.setCell ?_ (by first | (simp; done) | (simp; omega) | omega) _ | with_reducible refine Kept.alloc ?_ _ | with_reducible refine Kept.drewN ?_ _ | with_reducible refine Kept.drew ?_ | with_reducible refine Kept.trans ?_ (by with_reducible assumption) | with_reducible refine Kept.dr ?_ (by with_reducible assumption)))⟩
  · obtain ⟨cX0, cX1, cY0, cY1⟩ := pok_yes hc
    obtain ⟨pX0, pX1, pY0, pY1⟩ := pok_yes hp
    obtain ⟨lm00, lm01⟩ := dtp_lim4 (pX - cX) (pY - cY) (pX - cX) (pY - cY) (by omega) (by omega) (by omega) (by omega) (by omega) (by omega) (by omega) (by omega)
    have rr := Int.mul_le_mul r1 r1 (by omega) (show (0 : Int) ≤ 8000000 by omega)
    have rn := Int.mul_nonneg (show 0 ≤ r by omega) (show 0 ≤ r by omega)
    obtain ⟨q0, q1, q2, q3⟩ := isq_ok (dtp (pX - cX) (pY - cY) (pX - cX) (pY - cY) - r * r) (by omega) (by omega)
    have CS := fun w => ref_course_w cX cY pX pY w
    generalize csE cX cY pX pY = EE at *
    have cb := csV_bd cX cY pX pY
    obtain ⟨cb0, cb1⟩ := cb
    have SQ := fun w => ref_sqrt_w (dtp (pX - cX) (pY - cY) (pX - cX) (pY - cY) - r * r) (by omega) (by omega) w
    have AT := fun w => calls_kept (ref_atan2_w (isq (dtp (pX - cX) (pY - cY) (pX - cX) (pY - cY) - r * r)) r (by omega) (by omega) (by omega) (by omega) w)
    have zb := at2V_lim (isq (dtp (pX - cX) (pY - cY) (pX - cX) (pY - cY) - r * r)) r
    obtain ⟨zb0, zb1⟩ := zb
    generalize at2E (isq (dtp (pX - cX) (pY - cY) (pX - cX) (pY - cY) - r * r)) r = AE at *
    have TN := fun w => ref_turn_w (csV cX cY pX pY) (at2V (isq (dtp (pX - cX) (pY - cY) (pX - cX) (pY - cY) - r * r)) r) (by omega) (by omega) (by omega) (by omega) w
    have tb := trn_bd (csV cX cY pX pY) (at2V (isq (dtp (pX - cX) (pY - cY) (pX - cX) (pY - cY) - r * r)) r)
    obtain ⟨tb0, tb1⟩ := tb
    have RY := fun w => ref_ray_ok cX cY (trn (csV cX cY pX pY) (at2V (isq (dtp (pX - cX) (pY - cY) (pX - cX) (pY - cY) - r * r)) r)) r hc (by omega) (by omega) (by omega) (by omega) w
    rw [hE, (mv_bad hE).1, (mv_bad hE).2] at RY ⊢
    clear hE
    generalize trn (csV cX cY pX pY) (at2V (isq (dtp (pX - cX) (pY - cY) (pX - cX) (pY - cY) - r * r)) r) = T at *
    generalize (at2V (isq (dtp (pX - cX) (pY - cY) (pX - cX) (pY - cY) - r * r)) r) = ZA at *
    generalize isq (dtp (pX - cX) (pY - cY) (pX - cX) (pY - cY) - r * r) = Q at *
    clear q2 q3
    have wrs : IntKind.i64.wrap (dtp (pX - cX) (pY - cY) (pX - cX) (pY - cY) - r * r) = dtp (pX - cX) (pY - cY) (pX - cX) (pY - cY) - r * r := IntWalk.i64_in _ (by omega)
    have wrz : IntKind.i64.wrap (-ZA) = -ZA := IntWalk.i64_in _ (by omega)
    have DT := fun w => ref_dot_w cX cY pX pY cX cY pX pY (by omega) (by omega) (by omega) (by omega) (by omega) (by omega) (by omega) (by omega) (by omega) (by omega) (by omega) (by omega) (by omega) (by omega) (by omega) (by omega) w
    have wrr : IntKind.i64.wrap (r * r) = r * r := IntWalk.i64_in _ (by omega)
    generalize dtp (pX - cX) (pY - cY) (pX - cX) (pY - cY) = SS at *
    have HDT := Lib.hid DT
    clear DT
    generalize csV cX cY pX pY = C at *
    have HCS := Lib.hid CS
    have HSQ := Lib.hid SQ
    have HAT := Lib.hid AT
    have HTN := Lib.hid TN
    have HRY := Lib.hid RY
    clear CS SQ AT TN RY
    go_enter Try.func33, Try.ntmps33
    go_wp2_with fail
    with_reducible refine (rpv_ok cX cY hc _).mono ?_
    rintro e w1 ⟨rfl, hk1⟩
    refine kuz (b := w.heap.size) hk1 (by first | (simp; done) | (simp; omega) | omega) ?_
    intro ha hb hz1_0 hn1_0 hm1_0
    have hf1_0_0 : w1.cell? ⟨w.heap.size, 0, none⟩ = some (.int .i64 cX) := (ha _).trans (by first | with_reducible assumption | (simp (maxDischargeDepth := 7) [go_sem]; done) | (simp (maxDischargeDepth := 7) [go_sem, *]; done))
    have hf1_0_1 : w1.cell? ⟨w.heap.size, 1, none⟩ = some (.int .i64 cY) := (ha _).trans (by first | with_reducible assumption | (simp (maxDischargeDepth := 7) [go_sem]; done) | (simp (maxDischargeDepth := 7) [go_sem, *]; done))
    try have hg1_0 : ∀ o, w1.frozen? ⟨w.heap.size, o, none⟩ = false := by intro o; rw [hb]; first | (simp (maxDischargeDepth := 7) [go_sem]; done) | (simp (maxDischargeDepth := 7) [go_sem, *]; done)
    clear ha hb
    refine kuz (b := w.heap.size + 1) hk1 (by first | (simp; done) | (simp; omega) | omega) ?_
    intro ha hb hz1_1 hn1_1 hm1_1
    have hf1_1_0 : w1.cell? ⟨w.heap.size + 1, 0, none⟩ = some (.int .i64 pX) := (ha _).trans (by first | with_reducible assumption | (simp (maxDischargeDepth := 7) [go_sem]; done) | (simp (maxDischargeDepth := 7) [go_sem, *]; done))
    have hf1_1_1 : w1.cell? ⟨w.heap.size + 1, 1, none⟩ = some (.int .i64 pY) := (ha _).trans (by first | with_reducible assumption | (simp (maxDischargeDepth := 7) [go_sem]; done) | (simp (maxDischargeDepth := 7) [go_sem, *]; done))
    try have hg1_1 : ∀ o, w1.frozen? ⟨w.heap.size + 1, o, none⟩ = false := by intro o; rw [hb]; first | (simp (maxDischargeDepth := 7) [go_sem]; done) | (simp (maxDischargeDepth := 7) [go_sem, *]; done)
    clear ha hb
    refine kuz (b := w.heap.size + 2) hk1 (by first | (simp; done) | (simp; omega) | omega) ?_
    intro ha hb hz1_2 hn1_2 hm1_2
    have hf1_2_0 : w1.cell? ⟨w.heap.size + 2, 0, none⟩ = some (.int .i64 0) := (ha _).trans (by first | with_reducible assumption | (simp (maxDischargeDepth := 7) [go_sem]; done) | (simp (maxDischargeDepth := 7) [go_sem, *]; done))
    have hf1_2_1 : w1.cell? ⟨w.heap.size + 2, 1, none⟩ = some (.int .i64 0) := (ha _).trans (by first | with_reducible assumption | (simp (maxDischargeDepth := 7) [go_sem]; done) | (simp (maxDischargeDepth := 7) [go_sem, *]; done))
    try have hg1_2 : ∀ o, w1.frozen? ⟨w.heap.size + 2, o, none⟩ = false := by intro o; rw [hb]; first | (simp (maxDischargeDepth := 7) [go_sem]; done) | (simp (maxDischargeDepth := 7) [go_sem, *]; done)
    clear ha hb
    go_wp2_with fail
    with_reducible refine (rpv_ok pX pY hp _).mono ?_
    rintro e w2 ⟨rfl, hk2⟩
    refine kuz (b := w.heap.size) hk2 (by first | (simp; done) | (simp; omega) | omega) ?_
    intro ha hb hz2_0 hn2_0 hm2_0
    have hf2_0_0 : w2.cell? ⟨w.heap.size, 0, none⟩ = some (.int .i64 cX) := (ha _).trans (by first | with_reducible assumption | (simp (maxDischargeDepth := 7) [go_sem]; done) | (simp (maxDischargeDepth := 7) [go_sem, *]; done))
    have hf2_0_1 : w2.cell? ⟨w.heap.size, 1, none⟩ = some (.int .i64 cY) := (ha _).trans (by first | with_reducible assumption | (simp (maxDischargeDepth := 7) [go_sem]; done) | (simp (maxDischargeDepth := 7) [go_sem, *]; done))
    try have hg2_0 : ∀ o, w2.frozen? ⟨w.heap.size, o, none⟩ = false := by intro o; rw [hb]; first | (simp (maxDischargeDepth := 7) [go_sem]; done) | (simp (maxDischargeDepth := 7) [go_sem, *]; done)
    clear ha hb
    refine kuz (b := w.heap.size + 1) hk2 (by first | (simp; done) | (simp; omega) | omega) ?_
    intro ha hb hz2_1 hn2_1 hm2_1
    have hf2_1_0 : w2.cell? ⟨w.heap.size + 1, 0, none⟩ = some (.int .i64 pX) := (ha _).trans (by first | with_reducible assumption | (simp (maxDischargeDepth := 7) [go_sem]; done) | (simp (maxDischargeDepth := 7) [go_sem, *]; done))
    have hf2_1_1 : w2.cell? ⟨w.heap.size + 1, 1, none⟩ = some (.int .i64 pY) := (ha _).trans (by first | with_reducible assumption | (simp (maxDischargeDepth := 7) [go_sem]; done) | (simp (maxDischargeDepth := 7) [go_sem, *]; done))
    try have hg2_1 : ∀ o, w2.frozen? ⟨w.heap.size + 1, o, none⟩ = false := by intro o; rw [hb]; first | (simp (maxDischargeDepth := 7) [go_sem]; done) | (simp (maxDischargeDepth := 7) [go_sem, *]; done)
    clear ha hb
    refine kuz (b := w.heap.size + 2) hk2 (by first | (simp; done) | (simp; omega) | omega) ?_
    intro ha hb hz2_2 hn2_2 hm2_2
    have hf2_2_0 : w2.cell? ⟨w.heap.size + 2, 0, none⟩ = some (.int .i64 0) := (ha _).trans (by first | with_reducible assumption | (simp (maxDischargeDepth := 7) [go_sem]; done) | (simp (maxDischargeDepth := 7) [go_sem, *]; done))
    have hf2_2_1 : w2.cell? ⟨w.heap.size + 2, 1, none⟩ = some (.int .i64 0) := (ha _).trans (by first | with_reducible assumption | (simp (maxDischargeDepth := 7) [go_sem]; done) | (simp (maxDischargeDepth := 7) [go_sem, *]; done))
    try have hg2_2 : ∀ o, w2.frozen? ⟨w.heap.size + 2, o, none⟩ = false := by intro o; rw [hb]; first | (simp (maxDischargeDepth := 7) [go_sem]; done) | (simp (maxDischargeDepth := 7) [go_sem, *]; done)
    clear ha hb
    (try clear hf1_0_0); (try clear hf1_0_1); (try clear hf1_1_0); (try clear hf1_1_1); (try clear hf1_2_0); (try clear hf1_2_1); (try clear hg1_0); (try clear hg1_1); (try clear hg1_2); (try clear hz1_1); (try clear hz1_2)
    go_wp2_with fail
    with_reducible refine (HDT.out _).mono ?_
    rintro e w3 ⟨rfl, hk3⟩
    refine kuz (b := w.heap.size) hk3 (by first | (simp; done) | (simp; omega) | omega) ?_
    intro ha hb hz3_0 hn3_0 hm3_0
    have hf3_0_0 : w3.cell? ⟨w.heap.size, 0, none⟩ = some (.int .i64 cX) := (ha _).trans (by first | with_reducible assumption | (simp (maxDischargeDepth := 7) [go_sem]; done) | (simp (maxDischargeDepth := 7) [go_sem, *]; done))
    have hf3_0_1 : w3.cell? ⟨w.heap.size, 1, none⟩ = some (.int .i64 cY) := (ha _).trans (by first | with_reducible assumption | (simp (maxDischargeDepth := 7) [go_sem]; done) | (simp (maxDischargeDepth := 7) [go_sem, *]; done))
    try have hg3_0 : ∀ o, w3.frozen? ⟨w.heap.size, o, none⟩ = false := by intro o; rw [hb]; first | (simp (maxDischargeDepth := 7) [go_sem]; done) | (simp (maxDischargeDepth := 7) [go_sem, *]; done)
    clear ha hb
    refine kuz (b := w.heap.size + 1) hk3 (by first | (simp; done) | (simp; omega) | omega) ?_
    intro ha hb hz3_1 hn3_1 hm3_1
    have hf3_1_0 : w3.cell? ⟨w.heap.size + 1, 0, none⟩ = some (.int .i64 pX) := (ha _).trans (by first | with_reducible assumption | (simp (maxDischargeDepth := 7) [go_sem]; done) | (simp (maxDischargeDepth := 7) [go_sem, *]; done))
    have hf3_1_1 : w3.cell? ⟨w.heap.size + 1, 1, none⟩ = some (.int .i64 pY) := (ha _).trans (by first | with_reducible assumption | (simp (maxDischargeDepth := 7) [go_sem]; done) | (simp (maxDischargeDepth := 7) [go_sem, *]; done))
    try have hg3_1 : ∀ o, w3.frozen? ⟨w.heap.size + 1, o, none⟩ = false := by intro o; rw [hb]; first | (simp (maxDischargeDepth := 7) [go_sem]; done) | (simp (maxDischargeDepth := 7) [go_sem, *]; done)
    clear ha hb
    refine kuz (b := w.heap.size + 2) hk3 (by first | (simp; done) | (simp; omega) | omega) ?_
    intro ha hb hz3_2 hn3_2 hm3_2
    have hf3_2_0 : w3.cell? ⟨w.heap.size + 2, 0, none⟩ = some (.int .i64 0) := (ha _).trans (by first | with_reducible assumption | (simp (maxDischargeDepth := 7) [go_sem]; done) | (simp (maxDischargeDepth := 7) [go_sem, *]; done))
    have hf3_2_1 : w3.cell? ⟨w.heap.size + 2, 1, none⟩ = some (.int .i64 0) := (ha _).trans (by first | with_reducible assumption | (simp (maxDischargeDepth := 7) [go_sem]; done) | (simp (maxDischargeDepth := 7) [go_sem, *]; done))
    try have hg3_2 : ∀ o, w3.frozen? ⟨w.heap.size + 2, o, none⟩ = false := by intro o; rw [hb]; first | (simp (maxDischargeDepth := 7) [go_sem]; done) | (simp (maxDischargeDepth := 7) [go_sem, *]; done)
    clear ha hb
    (try clear hf2_0_0); (try clear hf2_0_1); (try clear hf2_1_0); (try clear hf2_1_1); (try clear hf2_2_0); (try clear hf2_2_1); (try clear hg2_0); (try clear hg2_1); (try clear hg2_2); (try clear hz2_1); (try clear hz2_2)
    go_wp2_with fail
    with_reducible refine (HCS.out _).mono ?_
    rintro e w4 ⟨rfl, hk4⟩
    refine kuz (b := w.heap.size) hk4 (by first | (simp; done) | (simp; omega) | omega) ?_
    intro ha hb hz4_0 hn4_0 hm4_0
    have hf4_0_0 : w4.cell? ⟨w.heap.size, 0, none⟩ = some (.int .i64 cX) := (ha _).trans (by first | with_reducible assumption | (simp (maxDischargeDepth := 7) [go_sem]; done) | (simp (maxDischargeDepth := 7) [go_sem, *]; done))
    have hf4_0_1 : w4.cell? ⟨w.heap.size, 1, none⟩ = some (.int .i64 cY) := (ha _).trans (by first | with_reducible assumption | (simp (maxDischargeDepth := 7) [go_sem]; done) | (simp (maxDischargeDepth := 7) [go_sem, *]; done))
    try have hg4_0 : ∀ o, w4.frozen? ⟨w.heap.size, o, none⟩ = false := by intro o; rw [hb]; first | (simp (maxDischargeDepth := 7) [go_sem]; done) | (simp (maxDischargeDepth := 7) [go_sem, *]; done)
    clear ha hb
    refine kuz (b := w.heap.size + 1) hk4 (by first | (simp; done) | (simp; omega) | omega) ?_
    intro ha hb hz4_1 hn4_1 hm4_1
    have hf4_1_0 : w4.cell? ⟨w.heap.size + 1, 0, none⟩ = some (.int .i64 pX) := (ha _).trans (by first | with_reducible assumption | (simp (maxDischargeDepth := 7) [go_sem]; done) | (simp (maxDischargeDepth := 7) [go_sem, *]; done))
    have hf4_1_1 : w4.cell? ⟨w.heap.size + 1, 1, none⟩ = some (.int .i64 pY) := (ha _).trans (by first | with_reducible assumption | (simp (maxDischargeDepth := 7) [go_sem]; done) | (simp (maxDischargeDepth := 7) [go_sem, *]; done))
    try have hg4_1 : ∀ o, w4.frozen? ⟨w.heap.size + 1, o, none⟩ = false := by intro o; rw [hb]; first | (simp (maxDischargeDepth := 7) [go_sem]; done) | (simp (maxDischargeDepth := 7) [go_sem, *]; done)
    clear ha hb
    refine kuz (b := w.heap.size + 2) hk4 (by first | (simp; done) | (simp; omega) | omega) ?_
    intro ha hb hz4_2 hn4_2 hm4_2
    have hf4_2_0 : w4.cell? ⟨w.heap.size + 2, 0, none⟩ = some (.int .i64 0) := (ha _).trans (by first | with_reducible assumption | (simp (maxDischargeDepth := 7) [go_sem]; done) | (simp (maxDischargeDepth := 7) [go_sem, *]; done))
    have hf4_2_1 : w4.cell? ⟨w.heap.size + 2, 1, none⟩ = some (.int .i64 0) := (ha _).trans (by first | with_reducible assumption | (simp (maxDischargeDepth := 7) [go_sem]; done) | (simp (maxDischargeDepth := 7) [go_sem, *]; done))
    try have hg4_2 : ∀ o, w4.frozen? ⟨w.heap.size + 2, o, none⟩ = false := by intro o; rw [hb]; first | (simp (maxDischargeDepth := 7) [go_sem]; done) | (simp (maxDischargeDepth := 7) [go_sem, *]; done)
    clear ha hb
    (try clear hf3_0_0); (try clear hf3_0_1); (try clear hf3_1_0); (try clear hf3_1_1); (try clear hf3_2_0); (try clear hf3_2_1); (try clear hg3_0); (try clear hg3_1); (try clear hg3_2); (try clear hz3_1); (try clear hz3_2)
    go_wp2_with fail
    with_reducible refine (HSQ.out _).mono ?_
    rintro e w' ⟨rfl, rfl⟩
    go_wp2_with fail
    with_reducible refine (HAT.out _).mono ?_
    rintro e w6 ⟨rfl, hk6⟩
    refine kuz (b := w.heap.size) hk6 (by first | (simp; done) | (simp; omega) | omega) ?_
    intro ha hb hz6_0 hn6_0 hm6_0
    have hf6_0_0 : w6.cell? ⟨w.heap.size, 0, none⟩ = some (.int .i64 cX) := (ha _).trans (by first | with_reducible assumption | (simp (maxDischargeDepth := 7) [go_sem]; done) | (simp (maxDischargeDepth := 7) [go_sem, *]; done))
    have hf6_0_1 : w6.cell? ⟨w.heap.size, 1, none⟩ = some (.int .i64 cY) := (ha _).trans (by first | with_reducible assumption | (simp (maxDischargeDepth := 7) [go_sem]; done) | (simp (maxDischargeDepth := 7) [go_sem, *]; done))
    try have hg6_0 : ∀ o, w6.frozen? ⟨w.heap.size, o, none⟩ = false := by intro o; rw [hb]; first | (simp (maxDischargeDepth := 7) [go_sem]; done) | (simp (maxDischargeDepth := 7) [go_sem, *]; done)
    clear ha hb
    refine kuz (b := w.heap.size + 1) hk6 (by first | (simp; done) | (simp; omega) | omega) ?_
    intro ha hb hz6_1 hn6_1 hm6_1
    have hf6_1_0 : w6.cell? ⟨w.heap.size + 1, 0, none⟩ = some (.int .i64 pX) := (ha _).trans (by first | with_reducible assumption | (simp (maxDischargeDepth := 7) [go_sem]; done) | (simp (maxDischargeDepth := 7) [go_sem, *]; done))
    have hf6_1_1 : w6.cell? ⟨w.heap.size + 1, 1, none⟩ = some (.int .i64 pY) := (ha _).trans (by first | with_reducible assumption | (simp (maxDischargeDepth := 7) [go_sem]; done) | (simp (maxDischargeDepth := 7) [go_sem, *]; done))
    try have hg6_1 : ∀ o, w6.frozen? ⟨w.heap.size + 1, o, none⟩ = false := by intro o; rw [hb]; first | (simp (maxDischargeDepth := 7) [go_sem]; done) | (simp (maxDischargeDepth := 7) [go_sem, *]; done)
    clear ha hb
    refine kuz (b := w.heap.size + 2) hk6 (by first | (simp; done) | (simp; omega) | omega) ?_
    intro ha hb hz6_2 hn6_2 hm6_2
    have hf6_2_0 : w6.cell? ⟨w.heap.size + 2, 0, none⟩ = some (.int .i64 0) := (ha _).trans (by first | with_reducible assumption | (simp (maxDischargeDepth := 7) [go_sem]; done) | (simp (maxDischargeDepth := 7) [go_sem, *]; done))
    have hf6_2_1 : w6.cell? ⟨w.heap.size + 2, 1, none⟩ = some (.int .i64 0) := (ha _).trans (by first | with_reducible assumption | (simp (maxDischargeDepth := 7) [go_sem]; done) | (simp (maxDischargeDepth := 7) [go_sem, *]; done))
    try have hg6_2 : ∀ o, w6.frozen? ⟨w.heap.size + 2, o, none⟩ = false := by intro o; rw [hb]; first | (simp (maxDischargeDepth := 7) [go_sem]; done) | (simp (maxDischargeDepth := 7) [go_sem, *]; done)
    clear ha hb
    (try clear hf4_0_0); (try clear hf4_0_1); (try clear hf4_1_0); (try clear hf4_1_1); (try clear hf4_2_0); (try clear hf4_2_1); (try clear hg4_0); (try clear hg4_1); (try clear hg4_2); (try clear hz4_1); (try clear hz4_2)
    go_wp2_with fail
    have B0 : OwnB w6 (w.heap.size) [.int .i64 cX, .int .i64 cY] := ⟨hz6_0, hg6_0, hf6_0_0, hf6_0_1, trivial⟩
    have HB0_0 := Lib.hid B0
    clear B0
    have B1 : OwnB w6 (w.heap.size + 1) [.int .i64 pX, .int .i64 pY] := ⟨hz6_1, hg6_1, hf6_1_0, hf6_1_1, trivial⟩
    have HB0_1 := Lib.hid B1
    clear B1
    have B2 : OwnB w6 (w.heap.size + 2) [.int .i64 0, .int .i64 0] := ⟨hz6_2, hg6_2, hf6_2_0, hf6_2_1, trivial⟩
    have HB0_2 := Lib.hid B2
    clear B2
    go_upto_region 12 with (fail)
    go_cut [15, 16] (fun p0 c0 wx => ∃ b0 : Nat, p0 = .pointer (some ⟨b0, 0, none⟩) ∧ c0 = .int .i64 2 ∧ w.heap.size + 2 < b0 ∧ OwnB wx (b0) [.int .i64 0, .int .i64 0] ∧ OwnB wx (w.heap.size) [.int .i64 cX, .int .i64 cY] ∧ OwnB wx (w.heap.size + 1) [.int .i64 pX, .int .i64 pY] ∧ OwnB wx (w.heap.size + 2) [.int .i64 0, .int .i64 0] ∧ Kept w6 wx)
    case first =>
      go_region_held3 (fun W => W.cell? ⟨w.heap.size, 0, none⟩ = some (.int .i64 cX) ∧ W.cell? ⟨w.heap.size, 1, none⟩ = some (.int .i64 cY)) (first | (go_keep; done) | (simp (maxDischargeDepth := 9) [*, World.cell?_alloc_some, World.cell?_setCell_far]; done) | (simp (maxDischargeDepth := 9) [go_sem, *]; done)) (first | (go_at_call 77; with_reducible refine (HTN.out _).mono ?_; rintro e w' ⟨rfl, rfl⟩) | (go_at_call 61; (with_reducible refine (HRY.out _).mono ?_); rintro e v1 ⟨rfl, hk⟩; have hz := hk.size; (try (refine kuse (b := w.heap.size) hk (by first | (simp; done) | (simp; omega) | omega) ?_; intro hq hg; have hy : w.heap.size < v1.heap.size := (by (try simp at hz); omega); have hn : ¬ w.heap.size = v1.heap.size := (by omega); have hm : ¬ w.heap.size = v1.heap.size + 1 := (by omega); have hn' : ¬ v1.heap.size = w.heap.size := (by omega); have hm' : ¬ v1.heap.size + 1 = w.heap.size := (by omega))); (try (refine kuse (b := w.heap.size + 1) hk (by first | (simp; done) | (simp; omega) | omega) ?_; intro hq hg; have hy : w.heap.size + 1 < v1.heap.size := (by (try simp at hz); omega); have hn : ¬ w.heap.size + 1 = v1.heap.size := (by omega); have hm : ¬ w.heap.size + 1 = v1.heap.size + 1 := (by omega); have hn' : ¬ v1.heap.size = w.heap.size + 1 := (by omega); have hm' : ¬ v1.heap.size + 1 = w.heap.size + 1 := (by omega))); (try (refine kuse (b := w.heap.size + 2) hk (by first | (simp; done) | (simp; omega) | omega) ?_; intro hq hg; have hy : w.heap.size + 2 < v1.heap.size := (by (try simp at hz); omega); have hn : ¬ w.heap.size + 2 = v1.heap.size := (by omega); have hm : ¬ w.heap.size + 2 = v1.heap.size + 1 := (by omega); have hn' : ¬ v1.heap.size = w.heap.size + 2 := (by omega); have hm' : ¬ v1.heap.size + 1 = w.heap.size + 2 := (by omega))); (try (have hle : w1.heap.size ≤ v1.heap.size := (by (try simp at hz); omega))); (try (have hle : w2.heap.size ≤ v1.heap.size := (by (try simp at hz); omega))); (try (have hle : w3.heap.size ≤ v1.heap.size := (by (try simp at hz); omega))); (try (have hle : w4.heap.size ≤ v1.heap.size := (by (try simp at hz); omega))); (try (have hle : w5.heap.size ≤ v1.heap.size := (by (try simp at hz); omega))); (try (have hle : w6.heap.size ≤ v1.heap.size := (by (try simp at hz); omega))); (try (refine kuse (b := w6.heap.size) hk (by first | (simp; done) | (simp; omega) | omega) ?_; intro hq hg; have hy : w6.heap.size < v1.heap.size := (by (try simp at hz); omega))); (try (refine withF (p := v1.cell? ⟨w.heap.size, 0, none⟩ = some (.int .i64 cX)) (by first | (simp (maxDischargeDepth := 7) [go_sem, *]; done) | fail) ?_; intro ff)); (try (refine withF (p := v1.cell? ⟨w.heap.size, 1, none⟩ = some (.int .i64 cY)) (by first | (simp (maxDischargeDepth := 7) [go_sem, *]; done) | fail) ?_; intro ff))))
      all_goals (try go_wp2_with fail)
      all_goals (go_meet; case rel => refine (fun (hkx : Kept w6 _) => ⟨_, rfl, rfl, (by first | with_reducible assumption | omega | (simp; omega)), (by repeat (first | with_reducible exact own_alloc _ [.int .i64 0, .int .i64 0] 28 | with_reducible exact own_alloc _ [.int .i64 0, .int .i64 0] 28 | ((with_reducible refine own_allocE _ [.int .i64 0, .int .i64 0] 28 _ ?_); (simp; done)) | ((with_reducible refine own_allocE _ [.int .i64 0, .int .i64 0] 28 _ ?_); (simp; done)) | with_reducible refine own_set2 (us := [.int .i64 0, .int .i64 0]) ?_ rfl | with_reducible refine OwnB.other2 ?_ (by first | with_reducible assumption | omega | (simp; done) | (simp; omega)) | with_reducible refine OwnB.alloc ?_ _ | with_reducible refine OwnB.drew ?_ | with_reducible refine OwnB.drewN ?_ _ | with_reducible refine OwnB.kept (by with_reducible assumption) ?_)), OwnB.kept hkx HB0_0.out, OwnB.kept hkx HB0_1.out, OwnB.kept hkx HB0_2.out, hkx⟩) ?_; exact (by repeat (first | with_reducible exact Kept.refl _ | with_reducible assumption | with_reducible refine Kept.set12 ?_ (by first | with_reducible assumption | omega | (simp; done) | (simp; omega)) | with_reducible refine Kept.set11 ?_ (by first | with_reducible assumption | omega | (simp; done) | (simp; omega)) | with_reducible refine Kept.set10 ?_ (by first | with_reducible assumption | omega | (simp; done) | (simp; omega)) | with_reducible refine Kept.set9 ?_ (by first | with_reducible assumption | omega | (simp; done) | (simp; omega)) | with_reducible refine Kept.set8 ?_ (by first | with_reducible assumption | omega | (simp; done) | (simp; omega)) | with_reducible refine Kept.set7 ?_ (by first | with_reducible assumption | omega | (simp; done) | (simp; omega)) | with_reducible refine Kept.set6 ?_ (by first | with_reducible assumption | omega | (simp; done) | (simp; omega)) | with_reducible refine Kept.set5 ?_ (by first | with_reducible assumption | omega | (simp; done) | (simp; omega)) | with_reducible refine Kept.set4 ?_ (by first | with_reducible assumption | omega | (simp; done) | (simp; omega)) | with_reducible refine Kept.set3 ?_ (by first | with_reducible assumption | omega | (simp; done) | (simp; omega)) | with_reducible refine Kept.set2 ?_ (by first | with_reducible assumption | omega | (simp; done) | (simp; omega)) | with_reducible refine Kept.setCell ?_ (by first | with_reducible assumption | omega | (simp; done) | (simp; omega)) _ | with_reducible refine Kept.alloc ?_ _ | with_reducible refine Kept.drewN ?_ _ | with_reducible refine Kept.drew ?_ | with_reducible refine Kept.trans ?_ (by with_reducible assumption) | with_reducible refine Kept.dr ?_ (by with_reducible assumption))))
    case rest =>
    obtain ⟨b1_0, rfl, rfl, lt1_0, O1_0, O1_1, O1_2, O1_3, hkc1⟩ := hcut
    obtain ⟨hz_c1_0, hg_c1_0, hf_c1_0_0, hf_c1_0_1, _⟩ := O1_0
    obtain ⟨hz_c1_1, hg_c1_1, hf_c1_1_0, hf_c1_1_1, _⟩ := O1_1
    obtain ⟨hz_c1_2, hg_c1_2, hf_c1_2_0, hf_c1_2_1, _⟩ := O1_2
    obtain ⟨hz_c1_3, hg_c1_3, hf_c1_3_0, hf_c1_3_1, _⟩ := O1_3
    (try clear hf6_0_0); (try clear hf6_0_1); (try clear hf6_1_0); (try clear hf6_1_1); (try clear hf6_2_0); (try clear hf6_2_1); (try clear hg6_0); (try clear hg6_1); (try clear hg6_2); (try clear hz6_1); (try clear hz6_2)
    go_wp2_with fail
    all_goals exact bodyPost_ret (v := .tuple #[.agg #[.int .i64 0, .int .i64 0], .int .i64 2]) (by first | (simp [results, Try.results33, go_sem]; done) | (simp (maxDischargeDepth := 7) [results, Try.results33, go_sem, *]; done)) rfl ⟨rfl, (by repeat (first | with_reducible exact Kept.refl _ | with_reducible assumption | with_reducible refine Kept.setCell ?_ (by first | (simp; done) | (simp; omega) | omega) _ | with_reducible refine Kept.alloc ?_ _ | with_reducible refine Kept.drewN ?_ _ | with_reducible refine Kept.drew ?_ | with_reducible refine Kept.trans ?_ (by with_reducible assumption) | with_reducible refine Kept.dr ?_ (by with_reducible assumption)))⟩

end Go.Proofs.Ytfnhnlnofglkoaa
