/-
  Own contracts: package line and the document's answers of layer 11: points along arcs, distances from arcs.
-/
import Derived.Test.YtfnhnlnofglkoaaTura
import Derived.WalkKit
import Derived.ProofKit
import Derived.OpenShut
import Derived.WalkLawsBesides
import Derived.WalkSpells
import Derived.Lib.Hide
import Derived.Deep.DeepCutAuto
import Derived.Deep.CutBlock
import Derived.Deep.QuietTactic
import Derived.BigQuiet
import Derived.Handy
import Derived.StillTailTactics
import Derived.IntWalk
import Derived.LoopN
import Derived.Deep.RegionHeld3
namespace Go.Proofs.Ytfnhnlnofglkoaa
open Go.ChangeShapes Go.WideShapes Go.ChangeAt Go.RowKit
set_option linter.unusedVariables false
set_option linter.unusedSimpArgs false
theorem swT_bd (f t k : Int) : 0 ≤ swT f t k ∧ swT f t k < 129600000 := by
  unfold swT
  have a := swp_bd f t; have b := swp_bd t f
  split
  · exact a
  split
  · exact b
  · omega
set_option maxHeartbeats 2000000 in
set_option maxRecDepth 100000 in
theorem toffset_bad (cX cY r fr sw pX pY : Int) (h : arB cX cY r fr sw = false) (w : World) : Calls Try.prog 27 #[.agg #[.int .i64 cX, .int .i64 cY, .int .i64 r, .int .i64 fr, .int .i64 sw], .agg #[.int .i64 pX, .int .i64 pY]] w fun e w' => e = .returned (.tuple #[.int .i64 0, .int .i64 0, .int .i64 1]) ∧ Kept w w' := by
  go_enter Try.func27, Try.ntmps27
  go_wp2_with fail
  with_reducible refine (av_bad cX cY r fr sw h _).mono ?_
  rintro e w1 ⟨rfl, hk1⟩
  refine kuz (b := w.heap.size) hk1 (by first | (simp; done) | (simp; omega) | omega) ?_
  intro ha hb hz1_0 hn1_0 hm1_0
  have hf1_0_0 : w1.cell? ⟨w.heap.size, 0, none⟩ = some (.int .i64 cX) := (ha _).trans (by first | with_reducible assumption | (simp (maxDischargeDepth := 7) [go_sem]; done) | (simp (maxDischargeDepth := 7) [go_sem, *]; done))
  have hf1_0_1 : w1.cell? ⟨w.heap.size, 1, none⟩ = some (.int .i64 cY) := (ha _).trans (by first | with_reducible assumption | (simp (maxDischargeDepth := 7) [go_sem]; done) | (simp (maxDischargeDepth := 7) [go_sem, *]; done))
  have hf1_0_2 : w1.cell? ⟨w.heap.size, 2, none⟩ = some (.int .i64 r) := (ha _).trans (by first | with_reducible assumption | (simp (maxDischargeDepth := 7) [go_sem]; done) | (simp (maxDischargeDepth := 7) [go_sem, *]; done))
  have hf1_0_3 : w1.cell? ⟨w.heap.size, 3, none⟩ = some (.int .i64 fr) := (ha _).trans (by first | with_reducible assumption | (simp (maxDischargeDepth := 7) [go_sem]; done) | (simp (maxDischargeDepth := 7) [go_sem, *]; done))
  have hf1_0_4 : w1.cell? ⟨w.heap.size, 4, none⟩ = some (.int .i64 sw) := (ha _).trans (by first | with_reducible assumption | (simp (maxDischargeDepth := 7) [go_sem]; done) | (simp (maxDischargeDepth := 7) [go_sem, *]; done))
  try have hg1_0 : ∀ o, w1.frozen? ⟨w.heap.size, o, none⟩ = false := by intro o; rw [hb]; first | (simp (maxDischargeDepth := 7) [go_sem]; done) | (simp (maxDischargeDepth := 7) [go_sem, *]; done)
  clear ha hb
  refine kuz (b := w.heap.size + 1) hk1 (by first | (simp; done) | (simp; omega) | omega) ?_
  intro ha hb hz1_1 hn1_1 hm1_1
  have hf1_1_0 : w1.cell? ⟨w.heap.size + 1, 0, none⟩ = some (.int .i64 pX) := (ha _).trans (by first | with_reducible assumption | (simp (maxDischargeDepth := 7) [go_sem]; done) | (simp (maxDischargeDepth := 7) [go_sem, *]; done))
  have hf1_1_1 : w1.cell? ⟨w.heap.size + 1, 1, none⟩ = some (.int .i64 pY) := (ha _).trans (by first | with_reducible assumption | (simp (maxDischargeDepth := 7) [go_sem]; done) | (simp (maxDischargeDepth := 7) [go_sem, *]; done))
  try have hg1_1 : ∀ o, w1.frozen? ⟨w.heap.size + 1, o, none⟩ = false := by intro o; rw [hb]; first | (simp (maxDischargeDepth := 7) [go_sem]; done) | (simp (maxDischargeDepth := 7) [go_sem, *]; done)
  clear ha hb
  go_wp2_with fail
  all_goals exact bodyPost_ret (v := .tuple #[.int .i64 0, .int .i64 0, .int .i64 1]) (by first | (simp [results, Try.results27, go_sem]; done) | (simp (maxDischargeDepth := 7) [results, Try.results27, go_sem, *]; done)) rfl ⟨rfl, (by repeat (first | with_reducible exact Kept.refl _ | with_reducible assumption | with_reducible refine Kept.setCell ?_ (by first | (simp; done) | (simp; omega) | omega) _ | with_reducible refine Kept.alloc ?_ _ | with_reducible refine Kept.drewN ?_ _ | with_reducible refine Kept.drew ?_ | with_reducible refine Kept.trans ?_ (by with_reducible assumption) | with_reducible refine Kept.dr ?_ (by with_reducible assumption)))⟩
set_option maxHeartbeats 2000000 in
set_option maxRecDepth 100000 in
theorem toffset_e (cX cY r fr sw pX pY : Int) (ha : arB cX cY r fr sw = true) (h : csE cX cY pX pY ≠ 0) (w : World) : Calls Try.prog 27 #[.agg #[.int .i64 cX, .int .i64 cY, .int .i64 r, .int .i64 fr, .int .i64 sw], .agg #[.int .i64 pX, .int .i64 pY]] w fun e w' => e = .returned (.tuple #[.int .i64 0, .int .i64 0, .int .i64 (csE cX cY pX pY)]) ∧ Kept w w' := by
  have CS := fun w => course_w cX cY pX pY w
  rw [csV_no h] at CS
  generalize csE cX cY pX pY = E at *
  have HCS := Lib.hid CS
  clear CS
  go_enter Try.func27, Try.ntmps27
  go_wp2_with fail
  with_reducible refine (av_ok cX cY r fr sw ha _).mono ?_
  rintro e w1 ⟨rfl, hk1⟩
  refine kuz (b := w.heap.size) hk1 (by first | (simp; done) | (simp; omega) | omega) ?_
  intro ha hb hz1_0 hn1_0 hm1_0
  have hf1_0_0 : w1.cell? ⟨w.heap.size, 0, none⟩ = some (.int .i64 cX) := (ha _).trans (by first | with_reducible assumption | (simp (maxDischargeDepth := 7) [go_sem]; done) | (simp (maxDischargeDepth := 7) [go_sem, *]; done))
  have hf1_0_1 : w1.cell? ⟨w.heap.size, 1, none⟩ = some (.int .i64 cY) := (ha _).trans (by first | with_reducible assumption | (simp (maxDischargeDepth := 7) [go_sem]; done) | (simp (maxDischargeDepth := 7) [go_sem, *]; done))
  have hf1_0_2 : w1.cell? ⟨w.heap.size, 2, none⟩ = some (.int .i64 r) := (ha _).trans (by first | with_reducible assumption | (simp (maxDischargeDepth := 7) [go_sem]; done) | (simp (maxDischargeDepth := 7) [go_sem, *]; done))
  have hf1_0_3 : w1.cell? ⟨w.heap.size, 3, none⟩ = some (.int .i64 fr) := (ha _).trans (by first | with_reducible assumption | (simp (maxDischargeDepth := 7) [go_sem]; done) | (simp (maxDischargeDepth := 7) [go_sem, *]; done))
  have hf1_0_4 : w1.cell? ⟨w.heap.size, 4, none⟩ = some (.int .i64 sw) := (ha _).trans (by first | with_reducible assumption | (simp (maxDischargeDepth := 7) [go_sem]; done) | (simp (maxDischargeDepth := 7) [go_sem, *]; done))
  try have hg1_0 : ∀ o, w1.frozen? ⟨w.heap.size, o, none⟩ = false := by intro o; rw [hb]; first | (simp (maxDischargeDepth := 7) [go_sem]; done) | (simp (maxDischargeDepth := 7) [go_sem, *]; done)
  clear ha hb
  refine kuz (b := w.heap.size + 1) hk1 (by first | (simp; done) | (simp; omega) | omega) ?_
  intro ha hb hz1_1 hn1_1 hm1_1
  have hf1_1_0 : w1.cell? ⟨w.heap.size + 1, 0, none⟩ = some (.int .i64 pX) := (ha _).trans (by first | with_reducible assumption | (simp (maxDischargeDepth := 7) [go_sem]; done) | (simp (maxDischargeDepth := 7) [go_sem, *]; done))
  have hf1_1_1 : w1.cell? ⟨w.heap.size + 1, 1, none⟩ = some (.int .i64 pY) := (ha _).trans (by first | with_reducible assumption | (simp (maxDischargeDepth := 7) [go_sem]; done) | (simp (maxDischargeDepth := 7) [go_sem, *]; done))
  try have hg1_1 : ∀ o, w1.frozen? ⟨w.heap.size + 1, o, none⟩ = false := by intro o; rw [hb]; first | (simp (maxDischargeDepth := 7) [go_sem]; done) | (simp (maxDischargeDepth := 7) [go_sem, *]; done)
  clear ha hb
  go_wp2_with fail
  with_reducible refine (HCS.out _).mono ?_
  rintro e w2 ⟨rfl, hk2⟩
  refine kuz (b := w.heap.size) hk2 (by first | (simp; done) | (simp; omega) | omega) ?_
  intro ha hb hz2_0 hn2_0 hm2_0
  have hf2_0_0 : w2.cell? ⟨w.heap.size, 0, none⟩ = some (.int .i64 cX) := (ha _).trans (by first | with_reducible assumption | (simp (maxDischargeDepth := 7) [go_sem]; done) | (simp (maxDischargeDepth := 7) [go_sem, *]; done))
  have hf2_0_1 : w2.cell? ⟨w.heap.size, 1, none⟩ = some (.int .i64 cY) := (ha _).trans (by first | with_reducible assumption | (simp (maxDischargeDepth := 7) [go_sem]; done) | (simp (maxDischargeDepth := 7) [go_sem, *]; done))
  have hf2_0_2 : w2.cell? ⟨w.heap.size, 2, none⟩ = some (.int .i64 r) := (ha _).trans (by first | with_reducible assumption | (simp (maxDischargeDepth := 7) [go_sem]; done) | (simp (maxDischargeDepth := 7) [go_sem, *]; done))
  have hf2_0_3 : w2.cell? ⟨w.heap.size, 3, none⟩ = some (.int .i64 fr) := (ha _).trans (by first | with_reducible assumption | (simp (maxDischargeDepth := 7) [go_sem]; done) | (simp (maxDischargeDepth := 7) [go_sem, *]; done))
  have hf2_0_4 : w2.cell? ⟨w.heap.size, 4, none⟩ = some (.int .i64 sw) := (ha _).trans (by first | with_reducible assumption | (simp (maxDischargeDepth := 7) [go_sem]; done) | (simp (maxDischargeDepth := 7) [go_sem, *]; done))
  try have hg2_0 : ∀ o, w2.frozen? ⟨w.heap.size, o, none⟩ = false := by intro o; rw [hb]; first | (simp (maxDischargeDepth := 7) [go_sem]; done) | (simp (maxDischargeDepth := 7) [go_sem, *]; done)
  clear ha hb
  refine kuz (b := w.heap.size + 1) hk2 (by first | (simp; done) | (simp; omega) | omega) ?_
  intro ha hb hz2_1 hn2_1 hm2_1
  have hf2_1_0 : w2.cell? ⟨w.heap.size + 1, 0, none⟩ = some (.int .i64 pX) := (ha _).trans (by first | with_reducible assumption | (simp (maxDischargeDepth := 7) [go_sem]; done) | (simp (maxDischargeDepth := 7) [go_sem, *]; done))
  have hf2_1_1 : w2.cell? ⟨w.heap.size + 1, 1, none⟩ = some (.int .i64 pY) := (ha _).trans (by first | with_reducible assumption | (simp (maxDischargeDepth := 7) [go_sem]; done) | (simp (maxDischargeDepth := 7) [go_sem, *]; done))
  try have hg2_1 : ∀ o, w2.frozen? ⟨w.heap.size + 1, o, none⟩ = false := by intro o; rw [hb]; first | (simp (maxDischargeDepth := 7) [go_sem]; done) | (simp (maxDischargeDepth := 7) [go_sem, *]; done)
  clear ha hb
  (try clear hf1_0_0); (try clear hf1_0_1); (try clear hf1_0_2); (try clear hf1_0_3); (try clear hf1_0_4); (try clear hf1_1_0); (try clear hf1_1_1); (try clear hg1_0); (try clear hg1_1); (try clear hz1_1)
  go_wp2_with fail
  all_goals exact bodyPost_ret (v := .tuple #[.int .i64 0, .int .i64 0, .int .i64 E]) (by first | (simp [results, Try.results27, go_sem]; done) | (simp (maxDischargeDepth := 7) [results, Try.results27, go_sem, *]; done)) rfl ⟨rfl, (by repeat (first | with_reducible exact Kept.refl _ | with_reducible assumption | with_reducible refine Kept.setCell ?_ (by first | (simp; done) | (simp; omega) | omega) _ | with_reducible refine Kept.alloc ?_ _ | with_reducible refine Kept.drewN ?_ _ | with_reducible refine Kept.drew ?_ | with_reducible refine Kept.trans ?_ (by with_reducible assumption) | with_reducible refine Kept.dr ?_ (by with_reducible assumption)))⟩
set_option maxHeartbeats 4000000 in
set_option maxRecDepth 100000 in
theorem toffset_ok (cX cY r fr sw pX pY : Int) (ha : arB cX cY r fr sw = true) (hpp : pokB pX pY = true) (hE : csE cX cY pX pY = 0) (hne : ¬ (pX = cX ∧ pY = cY)) (w : World) : Calls Try.prog 27 #[.agg #[.int .i64 cX, .int .i64 cY, .int .i64 r, .int .i64 fr, .int .i64 sw], .agg #[.int .i64 pX, .int .i64 pY]] w fun e w' => e = .returned (.tuple #[.int .i64 (sg1 sw * (r - (isq (dtp (pX - cX) (pY - cY) (pX - cX) (pY - cY))))), .int .i64 (alV (swT fr (csV cX cY pX pY) (if sw < 0 then 1 else 2)) r sw), .int .i64 0]) ∧ Kept w w' := by
  by_cases hw : (swT fr (csV cX cY pX pY) (if sw < 0 then 1 else 2)) ≤ iabs sw ∧ iabs sw ≠ 0
  · obtain ⟨hc, r0, r1, f0, f1, s0, s1⟩ := ar_yes ha
    obtain ⟨cX0, cX1, cY0, cY1⟩ := pok_yes hc
    obtain ⟨l0, l1, l2, l3, l4, l5⟩ := ln_fit r sw r0 r1 s0 s1
    have ib := iabs_lim sw 129600000 s0 s1
    obtain ⟨ib0, ib1⟩ := ib
    have hp := hpp
    have CS := fun w => course_w cX cY pX pY w
    rw [hE] at CS
    have cb := csV_bd cX cY pX pY
    have DS := fun w => dist_ok cX cY pX pY hc hp w
    obtain ⟨pX0, pX1, pY0, pY1⟩ := pok_yes hp
    have nn := dtp_nn (pX - cX) (pY - cY)
    have dl := dtp_lim4 (pX - cX) (pY - cY) (pX - cX) (pY - cY) (by omega) (by omega) (by omega) (by omega) (by omega) (by omega) (by omega) (by omega)
    have d0 := (isq_ok _ nn (by omega)).1
    have d1 := isq_le _ 5656854 nn (by omega) (by omega) (by omega)
    have wb := swT_bd fr (csV cX cY pX pY) (if sw < 0 then 1 else 2)
    have SW := fun w => sweep_w fr (csV cX cY pX pY) (if sw < 0 then 1 else 2) (by omega) (by omega) (by omega) (by omega) (by split <;> omega) (by split <;> omega) w
    have al := alV_fit (swT fr (csV cX cY pX pY) (if sw < 0 then 1 else 2)) r sw wb.1 hw.1 hw.2 l4 l5
    have MD := fun w => tmdr_w (swT fr (csV cX cY pX pY) (if sw < 0 then 1 else 2)) (lnV r sw) (iabs sw) (by omega) (by omega) (by omega) (by omega) (by omega) (by omega) w
    rw [al] at MD
    clear al
    generalize mqe 2 (swT fr (csV cX cY pX pY) (if sw < 0 then 1 else 2)) (lnV r sw) (iabs sw) = ME at *
    generalize alV (swT fr (csV cX cY pX pY) (if sw < 0 then 1 else 2)) r sw = AL at *
    have LN := fun w => length_ok cX cY r fr sw ha w
    have sgm := sg1_mul sw (r - (isq (dtp (pX - cX) (pY - cY) (pX - cX) (pY - cY))))
    have TO := fun w => turnOf_w sw w
    have SD := fun w => aside_w sw w
    have SA := fun w => sabs_w sw (by omega) (by omega) w
    generalize (swT fr (csV cX cY pX pY) (if sw < 0 then 1 else 2)) = WA at *
    generalize (isq (dtp (pX - cX) (pY - cY) (pX - cX) (pY - cY))) = DD at *
    generalize csV cX cY pX pY = C at *
    generalize lnV r sw = L at *
    generalize iabs sw = I at *
    have wr0 : IntKind.i64.wrap (r - DD) = r - DD := IntWalk.i64_in _ (by omega)
    have wr1 : IntKind.i64.wrap (sg1 sw * (r - DD)) = sg1 sw * (r - DD) := IntWalk.i64_in _ (by omega)
    clear sgm
    generalize sg1 sw = G at *
    obtain ⟨KK, hKK⟩ : ∃ A, (if sw < 0 then (1 : Int) else 2) = A := ⟨_, rfl⟩
    rw [hKK] at SW TO
    clear hKK
    obtain ⟨wb0, wb1⟩ := wb
    obtain ⟨cb0, cb1⟩ := cb
    have HCS := Lib.hid CS
    have HDS := Lib.hid DS
    have HSW := Lib.hid SW
    have HSA := Lib.hid SA
    clear CS DS SW SA
    have HTO := Lib.hid TO
    have HSD := Lib.hid SD
    clear TO SD
    have HLN := Lib.hid LN
    clear LN
    have HMD := Lib.hid MD
    clear MD
    clear hE hne nn dl
    go_enter Try.func27, Try.ntmps27
    go_wp2_with fail
    with_reducible refine (av_ok cX cY r fr sw ha _).mono ?_
    rintro e w1 ⟨rfl, hk1⟩
    refine kuz (b := w.heap.size) hk1 (by first | (simp; done) | (simp; omega) | omega) ?_
    intro ha hb hz1_0 hn1_0 hm1_0
    have hf1_0_0 : w1.cell? ⟨w.heap.size, 0, none⟩ = some (.int .i64 cX) := (ha _).trans (by first | with_reducible assumption | (simp (maxDischargeDepth := 7) [go_sem]; done) | (simp (maxDischargeDepth := 7) [go_sem, *]; done))
    have hf1_0_1 : w1.cell? ⟨w.heap.size, 1, none⟩ = some (.int .i64 cY) := (ha _).trans (by first | with_reducible assumption | (simp (maxDischargeDepth := 7) [go_sem]; done) | (simp (maxDischargeDepth := 7) [go_sem, *]; done))
    have hf1_0_2 : w1.cell? ⟨w.heap.size, 2, none⟩ = some (.int .i64 r) := (ha _).trans (by first | with_reducible assumption | (simp (maxDischargeDepth := 7) [go_sem]; done) | (simp (maxDischargeDepth := 7) [go_sem, *]; done))
    have hf1_0_3 : w1.cell? ⟨w.heap.size, 3, none⟩ = some (.int .i64 fr) := (ha _).trans (by first | with_reducible assumption | (simp (maxDischargeDepth := 7) [go_sem]; done) | (simp (maxDischargeDepth := 7) [go_sem, *]; done))
    have hf1_0_4 : w1.cell? ⟨w.heap.size, 4, none⟩ = some (.int .i64 sw) := (ha _).trans (by first | with_reducible assumption | (simp (maxDischargeDepth := 7) [go_sem]; done) | (simp (maxDischargeDepth := 7) [go_sem, *]; done))
    try have hg1_0 : ∀ o, w1.frozen? ⟨w.heap.size, o, none⟩ = false := by intro o; rw [hb]; first | (simp (maxDischargeDepth := 7) [go_sem]; done) | (simp (maxDischargeDepth := 7) [go_sem, *]; done)
    clear ha hb
    refine kuz (b := w.heap.size + 1) hk1 (by first | (simp; done) | (simp; omega) | omega) ?_
    intro ha hb hz1_1 hn1_1 hm1_1
    have hf1_1_0 : w1.cell? ⟨w.heap.size + 1, 0, none⟩ = some (.int .i64 pX) := (ha _).trans (by first | with_reducible assumption | (simp (maxDischargeDepth := 7) [go_sem]; done) | (simp (maxDischargeDepth := 7) [go_sem, *]; done))
    have hf1_1_1 : w1.cell? ⟨w.heap.size + 1, 1, none⟩ = some (.int .i64 pY) := (ha _).trans (by first | with_reducible assumption | (simp (maxDischargeDepth := 7) [go_sem]; done) | (simp (maxDischargeDepth := 7) [go_sem, *]; done))
    try have hg1_1 : ∀ o, w1.frozen? ⟨w.heap.size + 1, o, none⟩ = false := by intro o; rw [hb]; first | (simp (maxDischargeDepth := 7) [go_sem]; done) | (simp (maxDischargeDepth := 7) [go_sem, *]; done)
    clear ha hb
    go_wp2_with fail
    with_reducible refine (HCS.out _).mono ?_
    rintro e w2 ⟨rfl, hk2⟩
    refine kuz (b := w.heap.size) hk2 (by first | (simp; done) | (simp; omega) | omega) ?_
    intro ha hb hz2_0 hn2_0 hm2_0
    have hf2_0_0 : w2.cell? ⟨w.heap.size, 0, none⟩ = some (.int .i64 cX) := (ha _).trans (by first | with_reducible assumption | (simp (maxDischargeDepth := 7) [go_sem]; done) | (simp (maxDischargeDepth := 7) [go_sem, *]; done))
    have hf2_0_1 : w2.cell? ⟨w.heap.size, 1, none⟩ = some (.int .i64 cY) := (ha _).trans (by first | with_reducible assumption | (simp (maxDischargeDepth := 7) [go_sem]; done) | (simp (maxDischargeDepth := 7) [go_sem, *]; done))
    have hf2_0_2 : w2.cell? ⟨w.heap.size, 2, none⟩ = some (.int .i64 r) := (ha _).trans (by first | with_reducible assumption | (simp (maxDischargeDepth := 7) [go_sem]; done) | (simp (maxDischargeDepth := 7) [go_sem, *]; done))
    have hf2_0_3 : w2.cell? ⟨w.heap.size, 3, none⟩ = some (.int .i64 fr) := (ha _).trans (by first | with_reducible assumption | (simp (maxDischargeDepth := 7) [go_sem]; done) | (simp (maxDischargeDepth := 7) [go_sem, *]; done))
    have hf2_0_4 : w2.cell? ⟨w.heap.size, 4, none⟩ = some (.int .i64 sw) := (ha _).trans (by first | with_reducible assumption | (simp (maxDischargeDepth := 7) [go_sem]; done) | (simp (maxDischargeDepth := 7) [go_sem, *]; done))
    try have hg2_0 : ∀ o, w2.frozen? ⟨w.heap.size, o, none⟩ = false := by intro o; rw [hb]; first | (simp (maxDischargeDepth := 7) [go_sem]; done) | (simp (maxDischargeDepth := 7) [go_sem, *]; done)
    clear ha hb
    refine kuz (b := w.heap.size + 1) hk2 (by first | (simp; done) | (simp; omega) | omega) ?_
    intro ha hb hz2_1 hn2_1 hm2_1
    have hf2_1_0 : w2.cell? ⟨w.heap.size + 1, 0, none⟩ = some (.int .i64 pX) := (ha _).trans (by first | with_reducible assumption | (simp (maxDischargeDepth := 7) [go_sem]; done) | (simp (maxDischargeDepth := 7) [go_sem, *]; done))
    have hf2_1_1 : w2.cell? ⟨w.heap.size + 1, 1, none⟩ = some (.int .i64 pY) := (ha _).trans (by first | with_reducible assumption | (simp (maxDischargeDepth := 7) [go_sem]; done) | (simp (maxDischargeDepth := 7) [go_sem, *]; done))
    try have hg2_1 : ∀ o, w2.frozen? ⟨w.heap.size + 1, o, none⟩ = false := by intro o; rw [hb]; first | (simp (maxDischargeDepth := 7) [go_sem]; done) | (simp (maxDischargeDepth := 7) [go_sem, *]; done)
    clear ha hb
    (try clear hf1_0_0); (try clear hf1_0_1); (try clear hf1_0_2); (try clear hf1_0_3); (try clear hf1_0_4); (try clear hf1_1_0); (try clear hf1_1_1); (try clear hg1_0); (try clear hg1_1); (try clear hz1_1)
    go_wp2_with fail
    go_region_held3 (fun W => W.cell? ⟨w.heap.size, 0, none⟩ = some (.int .i64 cX) ∧ W.cell? ⟨w.heap.size, 1, none⟩ = some (.int .i64 cY) ∧ W.cell? ⟨w.heap.size, 2, none⟩ = some (.int .i64 r) ∧ W.cell? ⟨w.heap.size, 3, none⟩ = some (.int .i64 fr) ∧ W.cell? ⟨w.heap.size, 4, none⟩ = some (.int .i64 sw) ∧ W.cell? ⟨w.heap.size + 1, 0, none⟩ = some (.int .i64 pX) ∧ W.cell? ⟨w.heap.size + 1, 1, none⟩ = some (.int .i64 pY)) (first | (go_keep; done) | (simp (maxDischargeDepth := 9) [*, World.cell?_alloc_some, World.cell?_setCell_far]; done) | (simp (maxDischargeDepth := 9) [go_sem, *]; done)) (first | (go_at_call 34; (first | with_reducible refine (HDS.out _).mono ?_); rintro e w' ⟨rfl, hk⟩; have hz := hk.size; (try (refine kuse (b := w.heap.size) hk (by first | (simp; done) | (simp; omega) | omega) ?_; intro hq0 hg0; have hy0 : w.heap.size < w'.heap.size := (by (try simp at hz); omega); have hn0 : ¬ w.heap.size = w'.heap.size := (by omega); have hm0 : ¬ w.heap.size = w'.heap.size + 1 := (by omega); refine withF (p := w'.cell? ⟨w.heap.size, 0, none⟩ = some (.int .i64 cX)) (by first | (rw [hq0]; with_reducible assumption) | (simp (maxDischargeDepth := 7) [go_sem, hq0]; done) | (simp (maxDischargeDepth := 7) [go_sem, hq0, *]; done) | fail) ?_; intro ff00; refine withF (p := w'.cell? ⟨w.heap.size, 1, none⟩ = some (.int .i64 cY)) (by first | (rw [hq0]; with_reducible assumption) | (simp (maxDischargeDepth := 7) [go_sem, hq0]; done) | (simp (maxDischargeDepth := 7) [go_sem, hq0, *]; done) | fail) ?_; intro ff01; refine withF (p := w'.cell? ⟨w.heap.size, 2, none⟩ = some (.int .i64 r)) (by first | (rw [hq0]; with_reducible assumption) | (simp (maxDischargeDepth := 7) [go_sem, hq0]; done) | (simp (maxDischargeDepth := 7) [go_sem, hq0, *]; done) | fail) ?_; intro ff02; refine withF (p := w'.cell? ⟨w.heap.size, 3, none⟩ = some (.int .i64 fr)) (by first | (rw [hq0]; with_reducible assumption) | (simp (maxDischargeDepth := 7) [go_sem, hq0]; done) | (simp (maxDischargeDepth := 7) [go_sem, hq0, *]; done) | fail) ?_; intro ff03; refine withF (p := w'.cell? ⟨w.heap.size, 4, none⟩ = some (.int .i64 sw)) (by first | (rw [hq0]; with_reducible assumption) | (simp (maxDischargeDepth := 7) [go_sem, hq0]; done) | (simp (maxDischargeDepth := 7) [go_sem, hq0, *]; done) | fail) ?_; intro ff04)); (try (refine kuse (b := w.heap.size + 1) hk (by first | (simp; done) | (simp; omega) | omega) ?_; intro hq1 hg1; have hy1 : w.heap.size + 1 < w'.heap.size := (by (try simp at hz); omega); have hn1 : ¬ w.heap.size + 1 = w'.heap.size := (by omega); have hm1 : ¬ w.heap.size + 1 = w'.heap.size + 1 := (by omega); refine withF (p := w'.cell? ⟨w.heap.size + 1, 0, none⟩ = some (.int .i64 pX)) (by first | (rw [hq1]; with_reducible assumption) | (simp (maxDischargeDepth := 7) [go_sem, hq1]; done) | (simp (maxDischargeDepth := 7) [go_sem, hq1, *]; done) | fail) ?_; intro ff10; refine withF (p := w'.cell? ⟨w.heap.size + 1, 1, none⟩ = some (.int .i64 pY)) (by first | (rw [hq1]; with_reducible assumption) | (simp (maxDischargeDepth := 7) [go_sem, hq1]; done) | (simp (maxDischargeDepth := 7) [go_sem, hq1, *]; done) | fail) ?_; intro ff11))) | (go_at_call 57; with_reducible refine (HSD.out _).mono ?_; rintro e w' ⟨rfl, rfl⟩))
    all_goals go_wp2_with fail
    go_region_held3 (fun W => W.cell? ⟨w.heap.size, 0, none⟩ = some (.int .i64 cX) ∧ W.cell? ⟨w.heap.size, 1, none⟩ = some (.int .i64 cY) ∧ W.cell? ⟨w.heap.size, 2, none⟩ = some (.int .i64 r) ∧ W.cell? ⟨w.heap.size, 3, none⟩ = some (.int .i64 fr) ∧ W.cell? ⟨w.heap.size, 4, none⟩ = some (.int .i64 sw)) (first | (go_keep; done) | (simp (maxDischargeDepth := 9) [*, World.cell?_alloc_some, World.cell?_setCell_far]; done) | (simp (maxDischargeDepth := 9) [go_sem, *]; done)) (first | (go_at_call 64; with_reducible refine (HTO.out _).mono ?_; rintro e w' ⟨rfl, rfl⟩) | (go_at_call 63; with_reducible refine (HSW.out _).mono ?_; rintro e w' ⟨rfl, rfl⟩) | (go_at_call 53; with_reducible refine (HSA.out _).mono ?_; rintro e w' ⟨rfl, rfl⟩))
    obtain ⟨hw1, hw2⟩ := hw
    all_goals go_wp2_with fail
    with_reducible refine (HLN.out _).mono ?_
    rintro e w3 ⟨rfl, hk3⟩
    refine kuz (b := w.heap.size) hk3 (by first | (simp; done) | (simp; omega) | omega) ?_
    intro ha hb hz3_0 hn3_0 hm3_0
    have hf3_0_0 : w3.cell? ⟨w.heap.size, 0, none⟩ = some (.int .i64 cX) := (ha _).trans (by first | with_reducible assumption | (simp (maxDischargeDepth := 7) [go_sem]; done) | (simp (maxDischargeDepth := 7) [go_sem, *]; done))
    have hf3_0_1 : w3.cell? ⟨w.heap.size, 1, none⟩ = some (.int .i64 cY) := (ha _).trans (by first | with_reducible assumption | (simp (maxDischargeDepth := 7) [go_sem]; done) | (simp (maxDischargeDepth := 7) [go_sem, *]; done))
    have hf3_0_2 : w3.cell? ⟨w.heap.size, 2, none⟩ = some (.int .i64 r) := (ha _).trans (by first | with_reducible assumption | (simp (maxDischargeDepth := 7) [go_sem]; done) | (simp (maxDischargeDepth := 7) [go_sem, *]; done))
    have hf3_0_3 : w3.cell? ⟨w.heap.size, 3, none⟩ = some (.int .i64 fr) := (ha _).trans (by first | with_reducible assumption | (simp (maxDischargeDepth := 7) [go_sem]; done) | (simp (maxDischargeDepth := 7) [go_sem, *]; done))
    have hf3_0_4 : w3.cell? ⟨w.heap.size, 4, none⟩ = some (.int .i64 sw) := (ha _).trans (by first | with_reducible assumption | (simp (maxDischargeDepth := 7) [go_sem]; done) | (simp (maxDischargeDepth := 7) [go_sem, *]; done))
    try have hg3_0 : ∀ o, w3.frozen? ⟨w.heap.size, o, none⟩ = false := by intro o; rw [hb]; first | (simp (maxDischargeDepth := 7) [go_sem]; done) | (simp (maxDischargeDepth := 7) [go_sem, *]; done)
    clear ha hb
    refine kuz (b := w.heap.size + 1) hk3 (by first | (simp; done) | (simp; omega) | omega) ?_
    intro ha hb hz3_1 hn3_1 hm3_1
    have hf3_1_0 : w3.cell? ⟨w.heap.size + 1, 0, none⟩ = some (.int .i64 pX) := (ha _).trans (by first | with_reducible assumption | (simp (maxDischargeDepth := 7) [go_sem]; done) | (simp (maxDischargeDepth := 7) [go_sem, *]; done))
    have hf3_1_1 : w3.cell? ⟨w.heap.size + 1, 1, none⟩ = some (.int .i64 pY) := (ha _).trans (by first | with_reducible assumption | (simp (maxDischargeDepth := 7) [go_sem]; done) | (simp (maxDischargeDepth := 7) [go_sem, *]; done))
    try have hg3_1 : ∀ o, w3.frozen? ⟨w.heap.size + 1, o, none⟩ = false := by intro o; rw [hb]; first | (simp (maxDischargeDepth := 7) [go_sem]; done) | (simp (maxDischargeDepth := 7) [go_sem, *]; done)
    clear ha hb
    (try clear hf2_0_0); (try clear hf2_0_1); (try clear hf2_0_2); (try clear hf2_0_3); (try clear hf2_0_4); (try clear hf2_1_0); (try clear hf2_1_1); (try clear hg2_0); (try clear hg2_1); (try clear hz2_1)
    go_wp2_with fail
    with_reducible refine (HMD.out _).mono ?_
    rintro e w4 ⟨rfl, hk4⟩
    refine kuz (b := w.heap.size) hk4 (by first | (simp; done) | (simp; omega) | omega) ?_
    intro ha hb hz4_0 hn4_0 hm4_0
    have hf4_0_0 : w4.cell? ⟨w.heap.size, 0, none⟩ = some (.int .i64 cX) := (ha _).trans (by first | with_reducible assumption | (simp (maxDischargeDepth := 7) [go_sem]; done) | (simp (maxDischargeDepth := 7) [go_sem, *]; done))
    have hf4_0_1 : w4.cell? ⟨w.heap.size, 1, none⟩ = some (.int .i64 cY) := (ha _).trans (by first | with_reducible assumption | (simp (maxDischargeDepth := 7) [go_sem]; done) | (simp (maxDischargeDepth := 7) [go_sem, *]; done))
    have hf4_0_2 : w4.cell? ⟨w.heap.size, 2, none⟩ = some (.int .i64 r) := (ha _).trans (by first | with_reducible assumption | (simp (maxDischargeDepth := 7) [go_sem]; done) | (simp (maxDischargeDepth := 7) [go_sem, *]; done))
    have hf4_0_3 : w4.cell? ⟨w.heap.size, 3, none⟩ = some (.int .i64 fr) := (ha _).trans (by first | with_reducible assumption | (simp (maxDischargeDepth := 7) [go_sem]; done) | (simp (maxDischargeDepth := 7) [go_sem, *]; done))
    have hf4_0_4 : w4.cell? ⟨w.heap.size, 4, none⟩ = some (.int .i64 sw) := (ha _).trans (by first | with_reducible assumption | (simp (maxDischargeDepth := 7) [go_sem]; done) | (simp (maxDischargeDepth := 7) [go_sem, *]; done))
    try have hg4_0 : ∀ o, w4.frozen? ⟨w.heap.size, o, none⟩ = false := by intro o; rw [hb]; first | (simp (maxDischargeDepth := 7) [go_sem]; done) | (simp (maxDischargeDepth := 7) [go_sem, *]; done)
    clear ha hb
    refine kuz (b := w.heap.size + 1) hk4 (by first | (simp; done) | (simp; omega) | omega) ?_
    intro ha hb hz4_1 hn4_1 hm4_1
    have hf4_1_0 : w4.cell? ⟨w.heap.size + 1, 0, none⟩ = some (.int .i64 pX) := (ha _).trans (by first | with_reducible assumption | (simp (maxDischargeDepth := 7) [go_sem]; done) | (simp (maxDischargeDepth := 7) [go_sem, *]; done))
    have hf4_1_1 : w4.cell? ⟨w.heap.size + 1, 1, none⟩ = some (.int .i64 pY) := (ha _).trans (by first | with_reducible assumption | (simp (maxDischargeDepth := 7) [go_sem]; done) | (simp (maxDischargeDepth := 7) [go_sem, *]; done))
    try have hg4_1 : ∀ o, w4.frozen? ⟨w.heap.size + 1, o, none⟩ = false := by intro o; rw [hb]; first | (simp (maxDischargeDepth := 7) [go_sem]; done) | (simp (maxDischargeDepth := 7) [go_sem, *]; done)
    clear ha hb
    (try clear hf3_0_0); (try clear hf3_0_1); (try clear hf3_0_2); (try clear hf3_0_3); (try clear hf3_0_4); (try clear hf3_1_0); (try clear hf3_1_1); (try clear hg3_0); (try clear hg3_1); (try clear hz3_1)
    go_wp2_with fail
    all_goals exact bodyPost_ret (v := .tuple #[.int .i64 (G * (r - DD)), .int .i64 AL, .int .i64 0]) (by first | (simp [results, Try.results27, go_sem]; done) | (simp (maxDischargeDepth := 7) [results, Try.results27, go_sem, *]; done)) rfl ⟨rfl, (by repeat (first | with_reducible exact Kept.refl _ | with_reducible assumption | with_reducible refine Kept.setCell ?_ (by first | (simp; done) | (simp; omega) | omega) _ | with_reducible refine Kept.alloc ?_ _ | with_reducible refine Kept.drewN ?_ _ | with_reducible refine Kept.drew ?_ | with_reducible refine Kept.trans ?_ (by with_reducible assumption) | with_reducible refine Kept.dr ?_ (by with_reducible assumption)))⟩
  · by_cases hw2 : (swT fr (csV cX cY pX pY) (if sw < 0 then 1 else 2)) - iabs sw ≤ 129600000 - (swT fr (csV cX cY pX pY) (if sw < 0 then 1 else 2))
    · obtain ⟨hc, r0, r1, f0, f1, s0, s1⟩ := ar_yes ha
      obtain ⟨cX0, cX1, cY0, cY1⟩ := pok_yes hc
      obtain ⟨l0, l1, l2, l3, l4, l5⟩ := ln_fit r sw r0 r1 s0 s1
      have ib := iabs_lim sw 129600000 s0 s1
      obtain ⟨ib0, ib1⟩ := ib
      have hp := hpp
      have CS := fun w => course_w cX cY pX pY w
      rw [hE] at CS
      have cb := csV_bd cX cY pX pY
      have DS := fun w => dist_ok cX cY pX pY hc hp w
      obtain ⟨pX0, pX1, pY0, pY1⟩ := pok_yes hp
      have nn := dtp_nn (pX - cX) (pY - cY)
      have dl := dtp_lim4 (pX - cX) (pY - cY) (pX - cX) (pY - cY) (by omega) (by omega) (by omega) (by omega) (by omega) (by omega) (by omega) (by omega)
      have d0 := (isq_ok _ nn (by omega)).1
      have d1 := isq_le _ 5656854 nn (by omega) (by omega) (by omega)
      have wb := swT_bd fr (csV cX cY pX pY) (if sw < 0 then 1 else 2)
      have SW := fun w => sweep_w fr (csV cX cY pX pY) (if sw < 0 then 1 else 2) (by omega) (by omega) (by omega) (by omega) (by split <;> omega) (by split <;> omega) w
      have al : alV (swT fr (csV cX cY pX pY) (if sw < 0 then 1 else 2)) r sw = lnV r sw := by unfold alV; rw [if_neg hw, if_pos hw2]
      rw [al]
      clear al
      have LN := fun w => length_ok cX cY r fr sw ha w
      have sgm := sg1_mul sw (r - (isq (dtp (pX - cX) (pY - cY) (pX - cX) (pY - cY))))
      have TO := fun w => turnOf_w sw w
      have SD := fun w => aside_w sw w
      have SA := fun w => sabs_w sw (by omega) (by omega) w
      generalize (swT fr (csV cX cY pX pY) (if sw < 0 then 1 else 2)) = WA at *
      generalize (isq (dtp (pX - cX) (pY - cY) (pX - cX) (pY - cY))) = DD at *
      generalize csV cX cY pX pY = C at *
      generalize lnV r sw = L at *
      generalize iabs sw = I at *
      have wr0 : IntKind.i64.wrap (r - DD) = r - DD := IntWalk.i64_in _ (by omega)
      have wr1 : IntKind.i64.wrap (sg1 sw * (r - DD)) = sg1 sw * (r - DD) := IntWalk.i64_in _ (by omega)
      clear sgm
      generalize sg1 sw = G at *
      obtain ⟨KK, hKK⟩ : ∃ A, (if sw < 0 then (1 : Int) else 2) = A := ⟨_, rfl⟩
      rw [hKK] at SW TO
      clear hKK
      obtain ⟨wb0, wb1⟩ := wb
      obtain ⟨cb0, cb1⟩ := cb
      have HCS := Lib.hid CS
      have HDS := Lib.hid DS
      have HSW := Lib.hid SW
      have HSA := Lib.hid SA
      clear CS DS SW SA
      have HTO := Lib.hid TO
      have HSD := Lib.hid SD
      clear TO SD
      have HLN := Lib.hid LN
      clear LN
      clear hE hne nn dl
      have hI : ¬ WA ≤ I ∨ I = 0 := by
        by_cases g : WA ≤ I
        · refine Or.inr ?_
          by_cases z : I = 0
          · exact z
          · exact absurd ⟨g, z⟩ hw
        · exact Or.inl g
      go_enter Try.func27, Try.ntmps27
      go_wp2_with fail
      with_reducible refine (av_ok cX cY r fr sw ha _).mono ?_
      rintro e w1 ⟨rfl, hk1⟩
      refine kuz (b := w.heap.size) hk1 (by first | (simp; done) | (simp; omega) | omega) ?_
      intro ha hb hz1_0 hn1_0 hm1_0
      have hf1_0_0 : w1.cell? ⟨w.heap.size, 0, none⟩ = some (.int .i64 cX) := (ha _).trans (by first | with_reducible assumption | (simp (maxDischargeDepth := 7) [go_sem]; done) | (simp (maxDischargeDepth := 7) [go_sem, *]; done))
      have hf1_0_1 : w1.cell? ⟨w.heap.size, 1, none⟩ = some (.int .i64 cY) := (ha _).trans (by first | with_reducible assumption | (simp (maxDischargeDepth := 7) [go_sem]; done) | (simp (maxDischargeDepth := 7) [go_sem, *]; done))
      have hf1_0_2 : w1.cell? ⟨w.heap.size, 2, none⟩ = some (.int .i64 r) := (ha _).trans (by first | with_reducible assumption | (simp (maxDischargeDepth := 7) [go_sem]; done) | (simp (maxDischargeDepth := 7) [go_sem, *]; done))
      have hf1_0_3 : w1.cell? ⟨w.heap.size, 3, none⟩ = some (.int .i64 fr) := (ha _).trans (by first | with_reducible assumption | (simp (maxDischargeDepth := 7) [go_sem]; done) | (simp (maxDischargeDepth := 7) [go_sem, *]; done))
      have hf1_0_4 : w1.cell? ⟨w.heap.size, 4, none⟩ = some (.int .i64 sw) := (ha _).trans (by first | with_reducible assumption | (simp (maxDischargeDepth := 7) [go_sem]; done) | (simp (maxDischargeDepth := 7) [go_sem, *]; done))
      try have hg1_0 : ∀ o, w1.frozen? ⟨w.heap.size, o, none⟩ = false := by intro o; rw [hb]; first | (simp (maxDischargeDepth := 7) [go_sem]; done) | (simp (maxDischargeDepth := 7) [go_sem, *]; done)
      clear ha hb
      refine kuz (b := w.heap.size + 1) hk1 (by first | (simp; done) | (simp; omega) | omega) ?_
      intro ha hb hz1_1 hn1_1 hm1_1
      have hf1_1_0 : w1.cell? ⟨w.heap.size + 1, 0, none⟩ = some (.int .i64 pX) := (ha _).trans (by first | with_reducible assumption | (simp (maxDischargeDepth := 7) [go_sem]; done) | (simp (maxDischargeDepth := 7) [go_sem, *]; done))
      have hf1_1_1 : w1.cell? ⟨w.heap.size + 1, 1, none⟩ = some (.int .i64 pY) := (ha _).trans (by first | with_reducible assumption | (simp (maxDischargeDepth := 7) [go_sem]; done) | (simp (maxDischargeDepth := 7) [go_sem, *]; done))
      try have hg1_1 : ∀ o, w1.frozen? ⟨w.heap.size + 1, o, none⟩ = false := by intro o; rw [hb]; first | (simp (maxDischargeDepth := 7) [go_sem]; done) | (simp (maxDischargeDepth := 7) [go_sem, *]; done)
      clear ha hb
      go_wp2_with fail
      with_reducible refine (HCS.out _).mono ?_
      rintro e w2 ⟨rfl, hk2⟩
      refine kuz (b := w.heap.size) hk2 (by first | (simp; done) | (simp; omega) | omega) ?_
      intro ha hb hz2_0 hn2_0 hm2_0
      have hf2_0_0 : w2.cell? ⟨w.heap.size, 0, none⟩ = some (.int .i64 cX) := (ha _).trans (by first | with_reducible assumption | (simp (maxDischargeDepth := 7) [go_sem]; done) | (simp (maxDischargeDepth := 7) [go_sem, *]; done))
      have hf2_0_1 : w2.cell? ⟨w.heap.size, 1, none⟩ = some (.int .i64 cY) := (ha _).trans (by first | with_reducible assumption | (simp (maxDischargeDepth := 7) [go_sem]; done) | (simp (maxDischargeDepth := 7) [go_sem, *]; done))
      have hf2_0_2 : w2.cell? ⟨w.heap.size, 2, none⟩ = some (.int .i64 r) := (ha _).trans (by first | with_reducible assumption | (simp (maxDischargeDepth := 7) [go_sem]; done) | (simp (maxDischargeDepth := 7) [go_sem, *]; done))
      have hf2_0_3 : w2.cell? ⟨w.heap.size, 3, none⟩ = some (.int .i64 fr) := (ha _).trans (by first | with_reducible assumption | (simp (maxDischargeDepth := 7) [go_sem]; done) | (simp (maxDischargeDepth := 7) [go_sem, *]; done))
      have hf2_0_4 : w2.cell? ⟨w.heap.size, 4, none⟩ = some (.int .i64 sw) := (ha _).trans (by first | with_reducible assumption | (simp (maxDischargeDepth := 7) [go_sem]; done) | (simp (maxDischargeDepth := 7) [go_sem, *]; done))
      try have hg2_0 : ∀ o, w2.frozen? ⟨w.heap.size, o, none⟩ = false := by intro o; rw [hb]; first | (simp (maxDischargeDepth := 7) [go_sem]; done) | (simp (maxDischargeDepth := 7) [go_sem, *]; done)
      clear ha hb
      refine kuz (b := w.heap.size + 1) hk2 (by first | (simp; done) | (simp; omega) | omega) ?_
      intro ha hb hz2_1 hn2_1 hm2_1
      have hf2_1_0 : w2.cell? ⟨w.heap.size + 1, 0, none⟩ = some (.int .i64 pX) := (ha _).trans (by first | with_reducible assumption | (simp (maxDischargeDepth := 7) [go_sem]; done) | (simp (maxDischargeDepth := 7) [go_sem, *]; done))
      have hf2_1_1 : w2.cell? ⟨w.heap.size + 1, 1, none⟩ = some (.int .i64 pY) := (ha _).trans (by first | with_reducible assumption | (simp (maxDischargeDepth := 7) [go_sem]; done) | (simp (maxDischargeDepth := 7) [go_sem, *]; done))
      try have hg2_1 : ∀ o, w2.frozen? ⟨w.heap.size + 1, o, none⟩ = false := by intro o; rw [hb]; first | (simp (maxDischargeDepth := 7) [go_sem]; done) | (simp (maxDischargeDepth := 7) [go_sem, *]; done)
      clear ha hb
      (try clear hf1_0_0); (try clear hf1_0_1); (try clear hf1_0_2); (try clear hf1_0_3); (try clear hf1_0_4); (try clear hf1_1_0); (try clear hf1_1_1); (try clear hg1_0); (try clear hg1_1); (try clear hz1_1)
      go_wp2_with fail
      go_region_held3 (fun W => W.cell? ⟨w.heap.size, 0, none⟩ = some (.int .i64 cX) ∧ W.cell? ⟨w.heap.size, 1, none⟩ = some (.int .i64 cY) ∧ W.cell? ⟨w.heap.size, 2, none⟩ = some (.int .i64 r) ∧ W.cell? ⟨w.heap.size, 3, none⟩ = some (.int .i64 fr) ∧ W.cell? ⟨w.heap.size, 4, none⟩ = some (.int .i64 sw) ∧ W.cell? ⟨w.heap.size + 1, 0, none⟩ = some (.int .i64 pX) ∧ W.cell? ⟨w.heap.size + 1, 1, none⟩ = some (.int .i64 pY)) (first | (go_keep; done) | (simp (maxDischargeDepth := 9) [*, World.cell?_alloc_some, World.cell?_setCell_far]; done) | (simp (maxDischargeDepth := 9) [go_sem, *]; done)) (first | (go_at_call 34; (first | with_reducible refine (HDS.out _).mono ?_); rintro e w' ⟨rfl, hk⟩; have hz := hk.size; (try (refine kuse (b := w.heap.size) hk (by first | (simp; done) | (simp; omega) | omega) ?_; intro hq0 hg0; have hy0 : w.heap.size < w'.heap.size := (by (try simp at hz); omega); have hn0 : ¬ w.heap.size = w'.heap.size := (by omega); have hm0 : ¬ w.heap.size = w'.heap.size + 1 := (by omega); refine withF (p := w'.cell? ⟨w.heap.size, 0, none⟩ = some (.int .i64 cX)) (by first | (rw [hq0]; with_reducible assumption) | (simp (maxDischargeDepth := 7) [go_sem, hq0]; done) | (simp (maxDischargeDepth := 7) [go_sem, hq0, *]; done) | fail) ?_; intro ff00; refine withF (p := w'.cell? ⟨w.heap.size, 1, none⟩ = some (.int .i64 cY)) (by first | (rw [hq0]; with_reducible assumption) | (simp (maxDischargeDepth := 7) [go_sem, hq0]; done) | (simp (maxDischargeDepth := 7) [go_sem, hq0, *]; done) | fail) ?_; intro ff01; refine withF (p := w'.cell? ⟨w.heap.size, 2, none⟩ = some (.int .i64 r)) (by first | (rw [hq0]; with_reducible assumption) | (simp (maxDischargeDepth := 7) [go_sem, hq0]; done) | (simp (maxDischargeDepth := 7) [go_sem, hq0, *]; done) | fail) ?_; intro ff02; refine withF (p := w'.cell? ⟨w.heap.size, 3, none⟩ = some (.int .i64 fr)) (by first | (rw [hq0]; with_reducible assumption) | (simp (maxDischargeDepth := 7) [go_sem, hq0]; done) | (simp (maxDischargeDepth := 7) [go_sem, hq0, *]; done) | fail) ?_; intro ff03; refine withF (p := w'.cell? ⟨w.heap.size, 4, none⟩ = some (.int .i64 sw)) (by first | (rw [hq0]; with_reducible assumption) | (simp (maxDischargeDepth := 7) [go_sem, hq0]; done) | (simp (maxDischargeDepth := 7) [go_sem, hq0, *]; done) | fail) ?_; intro ff04)); (try (refine kuse (b := w.heap.size + 1) hk (by first | (simp; done) | (simp; omega) | omega) ?_; intro hq1 hg1; have hy1 : w.heap.size + 1 < w'.heap.size := (by (try simp at hz); omega); have hn1 : ¬ w.heap.size + 1 = w'.heap.size := (by omega); have hm1 : ¬ w.heap.size + 1 = w'.heap.size + 1 := (by omega); refine withF (p := w'.cell? ⟨w.heap.size + 1, 0, none⟩ = some (.int .i64 pX)) (by first | (rw [hq1]; with_reducible assumption) | (simp (maxDischargeDepth := 7) [go_sem, hq1]; done) | (simp (maxDischargeDepth := 7) [go_sem, hq1, *]; done) | fail) ?_; intro ff10; refine withF (p := w'.cell? ⟨w.heap.size + 1, 1, none⟩ = some (.int .i64 pY)) (by first | (rw [hq1]; with_reducible assumption) | (simp (maxDischargeDepth := 7) [go_sem, hq1]; done) | (simp (maxDischargeDepth := 7) [go_sem, hq1, *]; done) | fail) ?_; intro ff11))) | (go_at_call 57; with_reducible refine (HSD.out _).mono ?_; rintro e w' ⟨rfl, rfl⟩))
      all_goals go_wp2_with fail
      go_region_held3 (fun W => W.cell? ⟨w.heap.size, 0, none⟩ = some (.int .i64 cX) ∧ W.cell? ⟨w.heap.size, 1, none⟩ = some (.int .i64 cY) ∧ W.cell? ⟨w.heap.size, 2, none⟩ = some (.int .i64 r) ∧ W.cell? ⟨w.heap.size, 3, none⟩ = some (.int .i64 fr) ∧ W.cell? ⟨w.heap.size, 4, none⟩ = some (.int .i64 sw)) (first | (go_keep; done) | (simp (maxDischargeDepth := 9) [*, World.cell?_alloc_some, World.cell?_setCell_far]; done) | (simp (maxDischargeDepth := 9) [go_sem, *]; done)) (first | (go_at_call 64; with_reducible refine (HTO.out _).mono ?_; rintro e w' ⟨rfl, rfl⟩) | (go_at_call 63; with_reducible refine (HSW.out _).mono ?_; rintro e w' ⟨rfl, rfl⟩) | (go_at_call 53; with_reducible refine (HSA.out _).mono ?_; rintro e w' ⟨rfl, rfl⟩))
      clear hw
      rcases hI with hI | hI
      all_goals go_wp2_with fail
      all_goals (with_reducible refine (HLN.out _).mono ?_; rintro e w9 ⟨rfl, hk9⟩; go_wp2_with fail)
      all_goals exact bodyPost_ret (v := .tuple #[.int .i64 (G * (r - DD)), .int .i64 L, .int .i64 0]) (by first | (simp [results, Try.results27, go_sem]; done) | (simp (maxDischargeDepth := 7) [results, Try.results27, go_sem, *]; done)) rfl ⟨rfl, (by repeat (first | with_reducible exact Kept.refl _ | with_reducible assumption | with_reducible refine Kept.setCell ?_ (by first | (simp; done) | (simp; omega) | omega) _ | with_reducible refine Kept.alloc ?_ _ | with_reducible refine Kept.drewN ?_ _ | with_reducible refine Kept.drew ?_ | with_reducible refine Kept.trans ?_ (by with_reducible assumption) | with_reducible refine Kept.dr ?_ (by with_reducible assumption)))⟩
    · obtain ⟨hc, r0, r1, f0, f1, s0, s1⟩ := ar_yes ha
      obtain ⟨cX0, cX1, cY0, cY1⟩ := pok_yes hc
      obtain ⟨l0, l1, l2, l3, l4, l5⟩ := ln_fit r sw r0 r1 s0 s1
      have ib := iabs_lim sw 129600000 s0 s1
      obtain ⟨ib0, ib1⟩ := ib
      have hp := hpp
      have CS := fun w => course_w cX cY pX pY w
      rw [hE] at CS
      have cb := csV_bd cX cY pX pY
      have DS := fun w => dist_ok cX cY pX pY hc hp w
      obtain ⟨pX0, pX1, pY0, pY1⟩ := pok_yes hp
      have nn := dtp_nn (pX - cX) (pY - cY)
      have dl := dtp_lim4 (pX - cX) (pY - cY) (pX - cX) (pY - cY) (by omega) (by omega) (by omega) (by omega) (by omega) (by omega) (by omega) (by omega)
      have d0 := (isq_ok _ nn (by omega)).1
      have d1 := isq_le _ 5656854 nn (by omega) (by omega) (by omega)
      have wb := swT_bd fr (csV cX cY pX pY) (if sw < 0 then 1 else 2)
      have SW := fun w => sweep_w fr (csV cX cY pX pY) (if sw < 0 then 1 else 2) (by omega) (by omega) (by omega) (by omega) (by split <;> omega) (by split <;> omega) w
      have al : alV (swT fr (csV cX cY pX pY) (if sw < 0 then 1 else 2)) r sw = 0 := by unfold alV; rw [if_neg hw, if_neg hw2]
      rw [al]
      clear al
      have sgm := sg1_mul sw (r - (isq (dtp (pX - cX) (pY - cY) (pX - cX) (pY - cY))))
      have TO := fun w => turnOf_w sw w
      have SD := fun w => aside_w sw w
      have SA := fun w => sabs_w sw (by omega) (by omega) w
      generalize (swT fr (csV cX cY pX pY) (if sw < 0 then 1 else 2)) = WA at *
      generalize (isq (dtp (pX - cX) (pY - cY) (pX - cX) (pY - cY))) = DD at *
      generalize csV cX cY pX pY = C at *
      generalize lnV r sw = L at *
      generalize iabs sw = I at *
      have wr0 : IntKind.i64.wrap (r - DD) = r - DD := IntWalk.i64_in _ (by omega)
      have wr1 : IntKind.i64.wrap (sg1 sw * (r - DD)) = sg1 sw * (r - DD) := IntWalk.i64_in _ (by omega)
      clear sgm
      generalize sg1 sw = G at *
      obtain ⟨KK, hKK⟩ : ∃ A, (if sw < 0 then (1 : Int) else 2) = A := ⟨_, rfl⟩
      rw [hKK] at SW TO
      clear hKK
      obtain ⟨wb0, wb1⟩ := wb
      obtain ⟨cb0, cb1⟩ := cb
      have HCS := Lib.hid CS
      have HDS := Lib.hid DS
      have HSW := Lib.hid SW
      have HSA := Lib.hid SA
      clear CS DS SW SA
      have HTO := Lib.hid TO
      have HSD := Lib.hid SD
      clear TO SD
      clear hE hne nn dl
      have hI : ¬ WA ≤ I ∨ I = 0 := by
        by_cases g : WA ≤ I
        · refine Or.inr ?_
          by_cases z : I = 0
          · exact z
          · exact absurd ⟨g, z⟩ hw
        · exact Or.inl g
      go_enter Try.func27, Try.ntmps27
      go_wp2_with fail
      with_reducible refine (av_ok cX cY r fr sw ha _).mono ?_
      rintro e w1 ⟨rfl, hk1⟩
      refine kuz (b := w.heap.size) hk1 (by first | (simp; done) | (simp; omega) | omega) ?_
      intro ha hb hz1_0 hn1_0 hm1_0
      have hf1_0_0 : w1.cell? ⟨w.heap.size, 0, none⟩ = some (.int .i64 cX) := (ha _).trans (by first | with_reducible assumption | (simp (maxDischargeDepth := 7) [go_sem]; done) | (simp (maxDischargeDepth := 7) [go_sem, *]; done))
      have hf1_0_1 : w1.cell? ⟨w.heap.size, 1, none⟩ = some (.int .i64 cY) := (ha _).trans (by first | with_reducible assumption | (simp (maxDischargeDepth := 7) [go_sem]; done) | (simp (maxDischargeDepth := 7) [go_sem, *]; done))
      have hf1_0_2 : w1.cell? ⟨w.heap.size, 2, none⟩ = some (.int .i64 r) := (ha _).trans (by first | with_reducible assumption | (simp (maxDischargeDepth := 7) [go_sem]; done) | (simp (maxDischargeDepth := 7) [go_sem, *]; done))
      have hf1_0_3 : w1.cell? ⟨w.heap.size, 3, none⟩ = some (.int .i64 fr) := (ha _).trans (by first | with_reducible assumption | (simp (maxDischargeDepth := 7) [go_sem]; done) | (simp (maxDischargeDepth := 7) [go_sem, *]; done))
      have hf1_0_4 : w1.cell? ⟨w.heap.size, 4, none⟩ = some (.int .i64 sw) := (ha _).trans (by first | with_reducible assumption | (simp (maxDischargeDepth := 7) [go_sem]; done) | (simp (maxDischargeDepth := 7) [go_sem, *]; done))
      try have hg1_0 : ∀ o, w1.frozen? ⟨w.heap.size, o, none⟩ = false := by intro o; rw [hb]; first | (simp (maxDischargeDepth := 7) [go_sem]; done) | (simp (maxDischargeDepth := 7) [go_sem, *]; done)
      clear ha hb
      refine kuz (b := w.heap.size + 1) hk1 (by first | (simp; done) | (simp; omega) | omega) ?_
      intro ha hb hz1_1 hn1_1 hm1_1
      have hf1_1_0 : w1.cell? ⟨w.heap.size + 1, 0, none⟩ = some (.int .i64 pX) := (ha _).trans (by first | with_reducible assumption | (simp (maxDischargeDepth := 7) [go_sem]; done) | (simp (maxDischargeDepth := 7) [go_sem, *]; done))
      have hf1_1_1 : w1.cell? ⟨w.heap.size + 1, 1, none⟩ = some (.int .i64 pY) := (ha _).trans (by first | with_reducible assumption | (simp (maxDischargeDepth := 7) [go_sem]; done) | (simp (maxDischargeDepth := 7) [go_sem, *]; done))
      try have hg1_1 : ∀ o, w1.frozen? ⟨w.heap.size + 1, o, none⟩ = false := by intro o; rw [hb]; first | (simp (maxDischargeDepth := 7) [go_sem]; done) | (simp (maxDischargeDepth := 7) [go_sem, *]; done)
      clear ha hb
      go_wp2_with fail
      with_reducible refine (HCS.out _).mono ?_
      rintro e w2 ⟨rfl, hk2⟩
      refine kuz (b := w.heap.size) hk2 (by first | (simp; done) | (simp; omega) | omega) ?_
      intro ha hb hz2_0 hn2_0 hm2_0
      have hf2_0_0 : w2.cell? ⟨w.heap.size, 0, none⟩ = some (.int .i64 cX) := (ha _).trans (by first | with_reducible assumption | (simp (maxDischargeDepth := 7) [go_sem]; done) | (simp (maxDischargeDepth := 7) [go_sem, *]; done))
      have hf2_0_1 : w2.cell? ⟨w.heap.size, 1, none⟩ = some (.int .i64 cY) := (ha _).trans (by first | with_reducible assumption | (simp (maxDischargeDepth := 7) [go_sem]; done) | (simp (maxDischargeDepth := 7) [go_sem, *]; done))
      have hf2_0_2 : w2.cell? ⟨w.heap.size, 2, none⟩ = some (.int .i64 r) := (ha _).trans (by first | with_reducible assumption | (simp (maxDischargeDepth := 7) [go_sem]; done) | (simp (maxDischargeDepth := 7) [go_sem, *]; done))
      have hf2_0_3 : w2.cell? ⟨w.heap.size, 3, none⟩ = some (.int .i64 fr) := (ha _).trans (by first | with_reducible assumption | (simp (maxDischargeDepth := 7) [go_sem]; done) | (simp (maxDischargeDepth := 7) [go_sem, *]; done))
      have hf2_0_4 : w2.cell? ⟨w.heap.size, 4, none⟩ = some (.int .i64 sw) := (ha _).trans (by first | with_reducible assumption | (simp (maxDischargeDepth := 7) [go_sem]; done) | (simp (maxDischargeDepth := 7) [go_sem, *]; done))
      try have hg2_0 : ∀ o, w2.frozen? ⟨w.heap.size, o, none⟩ = false := by intro o; rw [hb]; first | (simp (maxDischargeDepth := 7) [go_sem]; done) | (simp (maxDischargeDepth := 7) [go_sem, *]; done)
      clear ha hb
      refine kuz (b := w.heap.size + 1) hk2 (by first | (simp; done) | (simp; omega) | omega) ?_
      intro ha hb hz2_1 hn2_1 hm2_1
      have hf2_1_0 : w2.cell? ⟨w.heap.size + 1, 0, none⟩ = some (.int .i64 pX) := (ha _).trans (by first | with_reducible assumption | (simp (maxDischargeDepth := 7) [go_sem]; done) | (simp (maxDischargeDepth := 7) [go_sem, *]; done))
      have hf2_1_1 : w2.cell? ⟨w.heap.size + 1, 1, none⟩ = some (.int .i64 pY) := (ha _).trans (by first | with_reducible assumption | (simp (maxDischargeDepth := 7) [go_sem]; done) | (simp (maxDischargeDepth := 7) [go_sem, *]; done))
      try have hg2_1 : ∀ o, w2.frozen? ⟨w.heap.size + 1, o, none⟩ = false := by intro o; rw [hb]; first | (simp (maxDischargeDepth := 7) [go_sem]; done) | (simp (maxDischargeDepth := 7) [go_sem, *]; done)
      clear ha hb
      (try clear hf1_0_0); (try clear hf1_0_1); (try clear hf1_0_2); (try clear hf1_0_3); (try clear hf1_0_4); (try clear hf1_1_0); (try clear hf1_1_1); (try clear hg1_0); (try clear hg1_1); (try clear hz1_1)
      go_wp2_with fail
      go_region_held3 (fun W => W.cell? ⟨w.heap.size, 0, none⟩ = some (.int .i64 cX) ∧ W.cell? ⟨w.heap.size, 1, none⟩ = some (.int .i64 cY) ∧ W.cell? ⟨w.heap.size, 2, none⟩ = some (.int .i64 r) ∧ W.cell? ⟨w.heap.size, 3, none⟩ = some (.int .i64 fr) ∧ W.cell? ⟨w.heap.size, 4, none⟩ = some (.int .i64 sw) ∧ W.cell? ⟨w.heap.size + 1, 0, none⟩ = some (.int .i64 pX) ∧ W.cell? ⟨w.heap.size + 1, 1, none⟩ = some (.int .i64 pY)) (first | (go_keep; done) | (simp (maxDischargeDepth := 9) [*, World.cell?_alloc_some, World.cell?_setCell_far]; done) | (simp (maxDischargeDepth := 9) [go_sem, *]; done)) (first | (go_at_call 34; (first | with_reducible refine (HDS.out _).mono ?_); rintro e w' ⟨rfl, hk⟩; have hz := hk.size; (try (refine kuse (b := w.heap.size) hk (by first | (simp; done) | (simp; omega) | omega) ?_; intro hq0 hg0; have hy0 : w.heap.size < w'.heap.size := (by (try simp at hz); omega); have hn0 : ¬ w.heap.size = w'.heap.size := (by omega); have hm0 : ¬ w.heap.size = w'.heap.size + 1 := (by omega); refine withF (p := w'.cell? ⟨w.heap.size, 0, none⟩ = some (.int .i64 cX)) (by first | (rw [hq0]; with_reducible assumption) | (simp (maxDischargeDepth := 7) [go_sem, hq0]; done) | (simp (maxDischargeDepth := 7) [go_sem, hq0, *]; done) | fail) ?_; intro ff00; refine withF (p := w'.cell? ⟨w.heap.size, 1, none⟩ = some (.int .i64 cY)) (by first | (rw [hq0]; with_reducible assumption) | (simp (maxDischargeDepth := 7) [go_sem, hq0]; done) | (simp (maxDischargeDepth := 7) [go_sem, hq0, *]; done) | fail) ?_; intro ff01; refine withF (p := w'.cell? ⟨w.heap.size, 2, none⟩ = some (.int .i64 r)) (by first | (rw [hq0]; with_reducible assumption) | (simp (maxDischargeDepth := 7) [go_sem, hq0]; done) | (simp (maxDischargeDepth := 7) [go_sem, hq0, *]; done) | fail) ?_; intro ff02; refine withF (p := w'.cell? ⟨w.heap.size, 3, none⟩ = some (.int .i64 fr)) (by first | (rw [hq0]; with_reducible assumption) | (simp (maxDischargeDepth := 7) [go_sem, hq0]; done) | (simp (maxDischargeDepth := 7) [go_sem, hq0, *]; done) | fail) ?_; intro ff03; refine withF (p := w'.cell? ⟨w.heap.size, 4, none⟩ = some (.int .i64 sw)) (by first | (rw [hq0]; with_reducible assumption) | (simp (maxDischargeDepth := 7) [go_sem, hq0]; done) | (simp (maxDischargeDepth := 7) [go_sem, hq0, *]; done) | fail) ?_; intro ff04)); (try (refine kuse (b := w.heap.size + 1) hk (by first | (simp; done) | (simp; omega) | omega) ?_; intro hq1 hg1; have hy1 : w.heap.size + 1 < w'.heap.size := (by (try simp at hz); omega); have hn1 : ¬ w.heap.size + 1 = w'.heap.size := (by omega); have hm1 : ¬ w.heap.size + 1 = w'.heap.size + 1 := (by omega); refine withF (p := w'.cell? ⟨w.heap.size + 1, 0, none⟩ = some (.int .i64 pX)) (by first | (rw [hq1]; with_reducible assumption) | (simp (maxDischargeDepth := 7) [go_sem, hq1]; done) | (simp (maxDischargeDepth := 7) [go_sem, hq1, *]; done) | fail) ?_; intro ff10; refine withF (p := w'.cell? ⟨w.heap.size + 1, 1, none⟩ = some (.int .i64 pY)) (by first | (rw [hq1]; with_reducible assumption) | (simp (maxDischargeDepth := 7) [go_sem, hq1]; done) | (simp (maxDischargeDepth := 7) [go_sem, hq1, *]; done) | fail) ?_; intro ff11))) | (go_at_call 57; with_reducible refine (HSD.out _).mono ?_; rintro e w' ⟨rfl, rfl⟩))
      all_goals go_wp2_with fail
      go_region_held3 (fun W => W.cell? ⟨w.heap.size, 0, none⟩ = some (.int .i64 cX) ∧ W.cell? ⟨w.heap.size, 1, none⟩ = some (.int .i64 cY) ∧ W.cell? ⟨w.heap.size, 2, none⟩ = some (.int .i64 r) ∧ W.cell? ⟨w.heap.size, 3, none⟩ = some (.int .i64 fr) ∧ W.cell? ⟨w.heap.size, 4, none⟩ = some (.int .i64 sw)) (first | (go_keep; done) | (simp (maxDischargeDepth := 9) [*, World.cell?_alloc_some, World.cell?_setCell_far]; done) | (simp (maxDischargeDepth := 9) [go_sem, *]; done)) (first | (go_at_call 64; with_reducible refine (HTO.out _).mono ?_; rintro e w' ⟨rfl, rfl⟩) | (go_at_call 63; with_reducible refine (HSW.out _).mono ?_; rintro e w' ⟨rfl, rfl⟩) | (go_at_call 53; with_reducible refine (HSA.out _).mono ?_; rintro e w' ⟨rfl, rfl⟩))
      clear hw
      rcases hI with hI | hI
      all_goals go_wp2_with fail
      all_goals exact bodyPost_ret (v := .tuple #[.int .i64 (G * (r - DD)), .int .i64 0, .int .i64 0]) (by first | (simp [results, Try.results27, go_sem]; done) | (simp (maxDischargeDepth := 7) [results, Try.results27, go_sem, *]; done)) rfl ⟨rfl, (by repeat (first | with_reducible exact Kept.refl _ | with_reducible assumption | with_reducible refine Kept.setCell ?_ (by first | (simp; done) | (simp; omega) | omega) _ | with_reducible refine Kept.alloc ?_ _ | with_reducible refine Kept.drewN ?_ _ | with_reducible refine Kept.drew ?_ | with_reducible refine Kept.trans ?_ (by with_reducible assumption) | with_reducible refine Kept.dr ?_ (by with_reducible assumption)))⟩

end Go.Proofs.Ytfnhnlnofglkoaa
