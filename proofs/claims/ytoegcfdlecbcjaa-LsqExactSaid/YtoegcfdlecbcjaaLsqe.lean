/-
  Own contracts: package lsq: Solve.
-/
import Derived.Test.YtoegcfdlecbcjaaLsqd
import Derived.WalkKit
import Derived.ProofKit
import Derived.OpenShut
import Derived.WalkLawsBesides
import Derived.WalkSpells
import Derived.Lib.Hide
import Derived.Deep.DeepCutAuto
import Derived.Deep.CutBlock
import Derived.Deep.QuietTactic
import Derived.BigQuiet
import Derived.Handy
import Derived.StillTailTactics
import Derived.IntWalk
import Derived.LoopN
import Derived.Deep.RegionHeld3
namespace Go.Proofs.Ytoegcfdlecbcjaa
open Go.ChangeShapes Go.WideShapes Go.ChangeAt Go.RowKit
set_option linter.unusedVariables false
set_option linter.unusedSimpArgs false
theorem own_s7 {W : World} {b : Nat} {u0 u1 u2 u3 u4 u5 u6 v0 v1 v2 v3 v4 v5 v6 : Value} (o : OwnB W b [u0, u1, u2, u3, u4, u5, u6]) : OwnB (((((((W.setCell ⟨b, 0, none⟩ v0).setCell ⟨b, 1, none⟩ v1).setCell ⟨b, 2, none⟩ v2).setCell ⟨b, 3, none⟩ v3).setCell ⟨b, 4, none⟩ v4).setCell ⟨b, 5, none⟩ v5).setCell ⟨b, 6, none⟩ v6) b [v0, v1, v2, v3, v4, v5, v6] := own_set7 o rfl
set_option maxHeartbeats 2000000 in
set_option maxRecDepth 100000 in
theorem solve_no (p : Option Addr) (n c b o : Nat) (M : Ms) (hn : n ≤ maxLen) (hx : M.chk n ≠ 0) (w : World) (hS : SlM w p n b o M) : Calls Try.prog 18 #[.slice p n c] w fun e w' => e = .returned (.tuple #[.agg #[.int .i64 0, .int .u64 0, .int .i64 0, .int .u64 0, .int .i64 0, .int .i64 0, .int .i64 0], .int .i64 (M.chk n)]) ∧ Kept w w' := by
  have rbz : ∀ w, (Instr.build 38 #[]).run Try.prog w = .ok (.agg #[.int .i64 0, .int .u64 0, .int .i64 0, .int .u64 0, .int .i64 0, .int .i64 0, .int .i64 0]) w := fun w => run_build w 38 #[] _ (by kernel_rfl)
  have HC := Lib.hid (normal_no p n c b o M hn hx)
  have HS := Lib.hid hS
  clear hS
  obtain ⟨E, hE⟩ : ∃ E, M.chk n = E := ⟨_, rfl⟩
  rw [hE] at HC hx
  rw [hE]
  clear hE
  go_enter Try.func18, Try.ntmps18
  go_wp2_with fail
  refine (HC.out _ (HS.out.kept (by repeat (first | with_reducible exact Kept.refl _ | with_reducible assumption | with_reducible refine Kept.setCell ?_ (by first | (simp; done) | (simp; omega) | omega) _ | with_reducible refine Kept.alloc ?_ _ | with_reducible refine Kept.drewN ?_ _ | with_reducible refine Kept.drew ?_ | with_reducible refine Kept.trans ?_ (by with_reducible assumption) | with_reducible refine Kept.dr ?_ (by with_reducible assumption))))).mono ?_
  rintro e w1 ⟨rfl, hk1⟩
  refine kuz (b := w.heap.size) hk1 (by first | (simp; done) | (simp; omega) | omega) ?_
  intro ha hb hz1_0 hn1_0 hm1_0
  have hf1_0_0 : w1.cell? ⟨w.heap.size, 0, none⟩ = some (.int .i64 0) := (ha _).trans (by first | with_reducible assumption | (simp (maxDischargeDepth := 7) [go_sem]; done) | (simp (maxDischargeDepth := 7) [go_sem, *]; done))
  have hf1_0_1 : w1.cell? ⟨w.heap.size, 1, none⟩ = some (.int .u64 0) := (ha _).trans (by first | with_reducible assumption | (simp (maxDischargeDepth := 7) [go_sem]; done) | (simp (maxDischargeDepth := 7) [go_sem, *]; done))
  have hf1_0_2 : w1.cell? ⟨w.heap.size, 2, none⟩ = some (.int .i64 0) := (ha _).trans (by first | with_reducible assumption | (simp (maxDischargeDepth := 7) [go_sem]; done) | (simp (maxDischargeDepth := 7) [go_sem, *]; done))
  have hf1_0_3 : w1.cell? ⟨w.heap.size, 3, none⟩ = some (.int .u64 0) := (ha _).trans (by first | with_reducible assumption | (simp (maxDischargeDepth := 7) [go_sem]; done) | (simp (maxDischargeDepth := 7) [go_sem, *]; done))
  have hf1_0_4 : w1.cell? ⟨w.heap.size, 4, none⟩ = some (.int .i64 0) := (ha _).trans (by first | with_reducible assumption | (simp (maxDischargeDepth := 7) [go_sem]; done) | (simp (maxDischargeDepth := 7) [go_sem, *]; done))
  have hf1_0_5 : w1.cell? ⟨w.heap.size, 5, none⟩ = some (.int .i64 0) := (ha _).trans (by first | with_reducible assumption | (simp (maxDischargeDepth := 7) [go_sem]; done) | (simp (maxDischargeDepth := 7) [go_sem, *]; done))
  have hf1_0_6 : w1.cell? ⟨w.heap.size, 6, none⟩ = some (.int .i64 0) := (ha _).trans (by first | with_reducible assumption | (simp (maxDischargeDepth := 7) [go_sem]; done) | (simp (maxDischargeDepth := 7) [go_sem, *]; done))
  try have hg1_0 : ∀ o, w1.frozen? ⟨w.heap.size, o, none⟩ = false := by intro o; rw [hb]; first | (simp (maxDischargeDepth := 7) [go_sem]; done) | (simp (maxDischargeDepth := 7) [go_sem, *]; done)
  clear ha hb
  have B0 : OwnB w1 (w.heap.size) [.int .i64 0, .int .u64 0, .int .i64 0, .int .u64 0, .int .i64 0, .int .i64 0, .int .i64 0] := show OwnB w1 (w.heap.size) [.int .i64 0, .int .u64 0, .int .i64 0, .int .u64 0, .int .i64 0, .int .i64 0, .int .i64 0] from ⟨hz1_0, hg1_0, hf1_0_0, hf1_0_1, hf1_0_2, hf1_0_3, hf1_0_4, hf1_0_5, hf1_0_6, trivial⟩
  have HC1_0 := Lib.hid B0
  clear B0
  go_upto_region 3 with (fail)
  go_cut [3] (fun p0 wx => p0 = .int .i64 E ∧ OwnB wx (w.heap.size) [.int .i64 0, .int .u64 0, .int .i64 0, .int .u64 0, .int .i64 0, .int .i64 0, .int .i64 0] ∧ Kept w wx)
  case first =>
    skip
    all_goals (try go_wp2_with fail)
    all_goals (go_meet; case rel => exact ⟨rfl, (by repeat (first | with_reducible exact HC1_0.out | with_reducible refine own_s7 (u0 := .int .i64 0) (u1 := .int .u64 0) (u2 := .int .i64 0) (u3 := .int .u64 0) (u4 := .int .i64 0) (u5 := .int .i64 0) (u6 := .int .i64 0) ?_ | with_reducible refine OwnB.setOther ?_ (by first | with_reducible assumption | omega | (simp; done) | (simp; omega)) | with_reducible refine OwnB.drew ?_ | with_reducible refine OwnB.drewN ?_ _ | with_reducible refine OwnB.alloc ?_ _ | with_reducible refine OwnB.kept (by with_reducible assumption) ?_)), (by repeat (first | with_reducible exact Kept.refl _ | with_reducible assumption | with_reducible refine Kept.setCell ?_ (by first | (simp; done) | (simp; omega) | omega) _ | with_reducible refine Kept.alloc ?_ _ | with_reducible refine Kept.drewN ?_ _ | with_reducible refine Kept.drew ?_ | with_reducible refine Kept.trans ?_ (by with_reducible assumption) | with_reducible refine Kept.dr ?_ (by with_reducible assumption)))⟩)
  case rest =>
  obtain ⟨rfl, O1_0, hkc1⟩ := hcut
  obtain ⟨hz_c1_0, hg_c1_0, hf_c1_0_0, hf_c1_0_1, hf_c1_0_2, hf_c1_0_3, hf_c1_0_4, hf_c1_0_5, hf_c1_0_6, _⟩ := O1_0
  try clear hf1_0_0
  try clear hf1_0_1
  try clear hf1_0_2
  try clear hf1_0_3
  try clear hf1_0_4
  try clear hf1_0_5
  try clear hf1_0_6
  try clear hg1_0
  repeat (first | go_values | go_skip | go_guarded | go_step | go_upon)
  all_goals exact bodyPost_ret (v := .tuple #[.agg #[.int .i64 0, .int .u64 0, .int .i64 0, .int .u64 0, .int .i64 0, .int .i64 0, .int .i64 0], .int .i64 E]) (by simp (maxDischargeDepth := 3) [results, Try.results18, go_sem, *]; done) rfl ⟨rfl, (by repeat (first | with_reducible exact Kept.refl _ | with_reducible assumption | with_reducible refine Kept.setCell ?_ (by first | (simp; done) | (simp; omega) | omega) _ | with_reducible refine Kept.alloc ?_ _ | with_reducible refine Kept.drewN ?_ _ | with_reducible refine Kept.drew ?_ | with_reducible refine Kept.trans ?_ (by with_reducible assumption) | with_reducible refine Kept.dr ?_ (by with_reducible assumption)))⟩
set_option maxHeartbeats 4000000 in
set_option maxRecDepth 100000 in
theorem solve_rank (p : Option Addr) (n c b o : Nat) (M : Ms) (hn : n ≤ maxLen) (hx : M.chk n = 0) (hd : M.det n = 0) (w : World) (hS : SlM w p n b o M) : Calls Try.prog 18 #[.slice p n c] w fun e w' => e = .returned (.tuple #[.agg #[.int .i64 0, .int .u64 0, .int .i64 0, .int .u64 0, .int .i64 0, .int .i64 0, .int .i64 0], .int .i64 14]) ∧ Kept w w' := by
  have rbz : ∀ w, (Instr.build 38 #[]).run Try.prog w = .ok (.agg #[.int .i64 0, .int .u64 0, .int .i64 0, .int .u64 0, .int .i64 0, .int .i64 0, .int .i64 0]) w := fun w => run_build w 38 #[] _ (by kernel_rfl)
  obtain ⟨n16, hall⟩ := Ms.chk_0 hx
  have mb := mb_of n16 hall
  have mx := mx_of mb
  have HN := Lib.hid (normal_ok p n c b o M hn hx)
  have HE := Lib.hid (exact_w M n mb mx)
  have d0 : M.det n = 0 := hd
  rw [d0] at HE
  have HS := Lib.hid hS
  clear hS hd d0 mb mx hall n16 hx hn
  generalize M.xx n = N0 at *; generalize M.xy n = N1 at *; generalize M.yy n = N2 at *; generalize M.xz n = N3 at *; generalize M.yz n = N4 at *
  generalize wh (M.X n) = A at *; generalize wl (M.X n) = a at *; generalize wh (M.Y n) = B at *; generalize wl (M.Y n) = g at *
  go_enter Try.func18, Try.ntmps18
  go_wp2_with fail
  refine (HN.out _ (HS.out.kept (by repeat (first | with_reducible exact Kept.refl _ | with_reducible assumption | with_reducible refine Kept.setCell ?_ (by first | (simp; done) | (simp; omega) | omega) _ | with_reducible refine Kept.alloc ?_ _ | with_reducible refine Kept.drewN ?_ _ | with_reducible refine Kept.drew ?_ | with_reducible refine Kept.trans ?_ (by with_reducible assumption) | with_reducible refine Kept.dr ?_ (by with_reducible assumption))))).mono ?_
  rintro e w1 ⟨rfl, hk1⟩
  refine kuz (b := w.heap.size) hk1 (by first | (simp; done) | (simp; omega) | omega) ?_
  intro ha hb hz1_0 hn1_0 hm1_0
  have hf1_0_0 : w1.cell? ⟨w.heap.size, 0, none⟩ = some (.int .i64 0) := (ha _).trans (by first | with_reducible assumption | (simp (maxDischargeDepth := 7) [go_sem]; done) | (simp (maxDischargeDepth := 7) [go_sem, *]; done))
  have hf1_0_1 : w1.cell? ⟨w.heap.size, 1, none⟩ = some (.int .u64 0) := (ha _).trans (by first | with_reducible assumption | (simp (maxDischargeDepth := 7) [go_sem]; done) | (simp (maxDischargeDepth := 7) [go_sem, *]; done))
  have hf1_0_2 : w1.cell? ⟨w.heap.size, 2, none⟩ = some (.int .i64 0) := (ha _).trans (by first | with_reducible assumption | (simp (maxDischargeDepth := 7) [go_sem]; done) | (simp (maxDischargeDepth := 7) [go_sem, *]; done))
  have hf1_0_3 : w1.cell? ⟨w.heap.size, 3, none⟩ = some (.int .u64 0) := (ha _).trans (by first | with_reducible assumption | (simp (maxDischargeDepth := 7) [go_sem]; done) | (simp (maxDischargeDepth := 7) [go_sem, *]; done))
  have hf1_0_4 : w1.cell? ⟨w.heap.size, 4, none⟩ = some (.int .i64 0) := (ha _).trans (by first | with_reducible assumption | (simp (maxDischargeDepth := 7) [go_sem]; done) | (simp (maxDischargeDepth := 7) [go_sem, *]; done))
  have hf1_0_5 : w1.cell? ⟨w.heap.size, 5, none⟩ = some (.int .i64 0) := (ha _).trans (by first | with_reducible assumption | (simp (maxDischargeDepth := 7) [go_sem]; done) | (simp (maxDischargeDepth := 7) [go_sem, *]; done))
  have hf1_0_6 : w1.cell? ⟨w.heap.size, 6, none⟩ = some (.int .i64 0) := (ha _).trans (by first | with_reducible assumption | (simp (maxDischargeDepth := 7) [go_sem]; done) | (simp (maxDischargeDepth := 7) [go_sem, *]; done))
  try have hg1_0 : ∀ o, w1.frozen? ⟨w.heap.size, o, none⟩ = false := by intro o; rw [hb]; first | (simp (maxDischargeDepth := 7) [go_sem]; done) | (simp (maxDischargeDepth := 7) [go_sem, *]; done)
  clear ha hb
  go_wp2_with fail
  with_reducible refine (HE.out _).mono ?_
  rintro e w2 ⟨rfl, hk2⟩
  refine kuz (b := w.heap.size) hk2 (by first | (simp; done) | (simp; omega) | omega) ?_
  intro ha hb hz2_0 hn2_0 hm2_0
  have hf2_0_0 : w2.cell? ⟨w.heap.size, 0, none⟩ = some (.int .i64 0) := (ha _).trans (by first | with_reducible assumption | (simp (maxDischargeDepth := 7) [go_sem]; done) | (simp (maxDischargeDepth := 7) [go_sem, *]; done))
  have hf2_0_1 : w2.cell? ⟨w.heap.size, 1, none⟩ = some (.int .u64 0) := (ha _).trans (by first | with_reducible assumption | (simp (maxDischargeDepth := 7) [go_sem]; done) | (simp (maxDischargeDepth := 7) [go_sem, *]; done))
  have hf2_0_2 : w2.cell? ⟨w.heap.size, 2, none⟩ = some (.int .i64 0) := (ha _).trans (by first | with_reducible assumption | (simp (maxDischargeDepth := 7) [go_sem]; done) | (simp (maxDischargeDepth := 7) [go_sem, *]; done))
  have hf2_0_3 : w2.cell? ⟨w.heap.size, 3, none⟩ = some (.int .u64 0) := (ha _).trans (by first | with_reducible assumption | (simp (maxDischargeDepth := 7) [go_sem]; done) | (simp (maxDischargeDepth := 7) [go_sem, *]; done))
  have hf2_0_4 : w2.cell? ⟨w.heap.size, 4, none⟩ = some (.int .i64 0) := (ha _).trans (by first | with_reducible assumption | (simp (maxDischargeDepth := 7) [go_sem]; done) | (simp (maxDischargeDepth := 7) [go_sem, *]; done))
  have hf2_0_5 : w2.cell? ⟨w.heap.size, 5, none⟩ = some (.int .i64 0) := (ha _).trans (by first | with_reducible assumption | (simp (maxDischargeDepth := 7) [go_sem]; done) | (simp (maxDischargeDepth := 7) [go_sem, *]; done))
  have hf2_0_6 : w2.cell? ⟨w.heap.size, 6, none⟩ = some (.int .i64 0) := (ha _).trans (by first | with_reducible assumption | (simp (maxDischargeDepth := 7) [go_sem]; done) | (simp (maxDischargeDepth := 7) [go_sem, *]; done))
  try have hg2_0 : ∀ o, w2.frozen? ⟨w.heap.size, o, none⟩ = false := by intro o; rw [hb]; first | (simp (maxDischargeDepth := 7) [go_sem]; done) | (simp (maxDischargeDepth := 7) [go_sem, *]; done)
  clear ha hb
  refine kuz (b := w1.heap.size) hk2 (by first | (simp; done) | (simp; omega) | omega) ?_
  intro ha hb hz2_1 hn2_1 hm2_1
  have hf2_1_0 : w2.cell? ⟨w1.heap.size, 0, none⟩ = some (.int .i64 N0) := (ha _).trans (by first | with_reducible assumption | (simp (maxDischargeDepth := 7) [go_sem]; done) | (simp (maxDischargeDepth := 7) [go_sem, *]; done))
  have hf2_1_1 : w2.cell? ⟨w1.heap.size, 1, none⟩ = some (.int .i64 N1) := (ha _).trans (by first | with_reducible assumption | (simp (maxDischargeDepth := 7) [go_sem]; done) | (simp (maxDischargeDepth := 7) [go_sem, *]; done))
  have hf2_1_2 : w2.cell? ⟨w1.heap.size, 2, none⟩ = some (.int .i64 N2) := (ha _).trans (by first | with_reducible assumption | (simp (maxDischargeDepth := 7) [go_sem]; done) | (simp (maxDischargeDepth := 7) [go_sem, *]; done))
  have hf2_1_3 : w2.cell? ⟨w1.heap.size, 3, none⟩ = some (.int .i64 N3) := (ha _).trans (by first | with_reducible assumption | (simp (maxDischargeDepth := 7) [go_sem]; done) | (simp (maxDischargeDepth := 7) [go_sem, *]; done))
  have hf2_1_4 : w2.cell? ⟨w1.heap.size, 4, none⟩ = some (.int .i64 N4) := (ha _).trans (by first | with_reducible assumption | (simp (maxDischargeDepth := 7) [go_sem]; done) | (simp (maxDischargeDepth := 7) [go_sem, *]; done))
  try have hg2_1 : ∀ o, w2.frozen? ⟨w1.heap.size, o, none⟩ = false := by intro o; rw [hb]; first | (simp (maxDischargeDepth := 7) [go_sem]; done) | (simp (maxDischargeDepth := 7) [go_sem, *]; done)
  clear ha hb
  try clear hf1_0_0
  try clear hf1_0_1
  try clear hf1_0_2
  try clear hf1_0_3
  try clear hf1_0_4
  try clear hf1_0_5
  try clear hf1_0_6
  try clear hg1_0
  have B0 : OwnB w2 (w.heap.size) [.int .i64 0, .int .u64 0, .int .i64 0, .int .u64 0, .int .i64 0, .int .i64 0, .int .i64 0] := show OwnB w2 (w.heap.size) [.int .i64 0, .int .u64 0, .int .i64 0, .int .u64 0, .int .i64 0, .int .i64 0, .int .i64 0] from ⟨hz2_0, hg2_0, hf2_0_0, hf2_0_1, hf2_0_2, hf2_0_3, hf2_0_4, hf2_0_5, hf2_0_6, trivial⟩
  have HC1_0 := Lib.hid B0
  clear B0
  go_upto_region 6 with (fail)
  go_cut [3] (fun p0 wx => p0 = .int .i64 14 ∧ OwnB wx (w.heap.size) [.int .i64 0, .int .u64 0, .int .i64 0, .int .u64 0, .int .i64 0, .int .i64 0, .int .i64 0] ∧ Kept w wx)
  case first =>
    skip
    all_goals (try go_wp2_with fail)
    all_goals (go_meet; case rel => exact ⟨rfl, (by repeat (first | with_reducible exact HC1_0.out | with_reducible refine own_s7 (u0 := .int .i64 0) (u1 := .int .u64 0) (u2 := .int .i64 0) (u3 := .int .u64 0) (u4 := .int .i64 0) (u5 := .int .i64 0) (u6 := .int .i64 0) ?_ | with_reducible refine OwnB.setOther ?_ (by first | with_reducible assumption | omega | (simp; done) | (simp; omega)) | with_reducible refine OwnB.drew ?_ | with_reducible refine OwnB.drewN ?_ _ | with_reducible refine OwnB.alloc ?_ _ | with_reducible refine OwnB.kept (by with_reducible assumption) ?_)), (by repeat (first | with_reducible exact Kept.refl _ | with_reducible assumption | with_reducible refine Kept.setCell ?_ (by first | (simp; done) | (simp; omega) | omega) _ | with_reducible refine Kept.alloc ?_ _ | with_reducible refine Kept.drewN ?_ _ | with_reducible refine Kept.drew ?_ | with_reducible refine Kept.trans ?_ (by with_reducible assumption) | with_reducible refine Kept.dr ?_ (by with_reducible assumption)))⟩)
  case rest =>
  obtain ⟨rfl, O1_0, hkc1⟩ := hcut
  obtain ⟨hz_c1_0, hg_c1_0, hf_c1_0_0, hf_c1_0_1, hf_c1_0_2, hf_c1_0_3, hf_c1_0_4, hf_c1_0_5, hf_c1_0_6, _⟩ := O1_0
  try clear hf2_0_0
  try clear hf2_0_1
  try clear hf2_0_2
  try clear hf2_0_3
  try clear hf2_0_4
  try clear hf2_0_5
  try clear hf2_0_6
  try clear hf2_1_0
  try clear hf2_1_1
  try clear hf2_1_2
  try clear hf2_1_3
  try clear hf2_1_4
  try clear hg2_0
  try clear hg2_1
  try clear hz2_1
  repeat (first | go_values | go_skip | go_guarded | go_step | go_upon)
  all_goals exact bodyPost_ret (v := .tuple #[.agg #[.int .i64 0, .int .u64 0, .int .i64 0, .int .u64 0, .int .i64 0, .int .i64 0, .int .i64 0], .int .i64 14]) (by simp (maxDischargeDepth := 3) [results, Try.results18, go_sem, *]; done) rfl ⟨rfl, (by repeat (first | with_reducible exact Kept.refl _ | with_reducible assumption | with_reducible refine Kept.setCell ?_ (by first | (simp; done) | (simp; omega) | omega) _ | with_reducible refine Kept.alloc ?_ _ | with_reducible refine Kept.drewN ?_ _ | with_reducible refine Kept.drew ?_ | with_reducible refine Kept.trans ?_ (by with_reducible assumption) | with_reducible refine Kept.dr ?_ (by with_reducible assumption)))⟩
set_option maxHeartbeats 4000000 in
set_option maxRecDepth 100000 in
theorem solve_ok (p : Option Addr) (n c b o : Nat) (M : Ms) (hn : n ≤ maxLen) (hx : M.chk n = 0) (hd : M.det n ≠ 0) (hp : pok (M.px n) (M.py n) = true) (w : World) (hS : SlM w p n b o M) : Calls Try.prog 18 #[.slice p n c] w fun e w' => e = .returned (.tuple #[.agg #[.int .i64 (wh (M.X n)), .int .u64 (wl (M.X n)), .int .i64 (wh (M.Y n)), .int .u64 (wl (M.Y n)), .int .i64 (M.det n), .int .i64 (M.px n), .int .i64 (M.py n)], .int .i64 0]) ∧ Kept w w' := by
  have rbz : ∀ w, (Instr.build 38 #[]).run Try.prog w = .ok (.agg #[.int .i64 0, .int .u64 0, .int .i64 0, .int .u64 0, .int .i64 0, .int .i64 0, .int .i64 0]) w := fun w => run_build w 38 #[] _ (by kernel_rfl)
  obtain ⟨n16, hall⟩ := Ms.chk_0 hx
  have mb := mb_of n16 hall
  have mx := mx_of mb
  have HN := Lib.hid (normal_ok p n c b o M hn hx)
  have HE := Lib.hid (exact_w M n mb mx)
  have dn := det_nn n16 hall
  have dp : 0 < M.det n := by omega
  have d1 := mx.d1.2
  have HX := Lib.hid (nearest_w (M.X n) (M.det n) dp (by omega) (by have := mx.X.1; omega) (by have := mx.X.2; omega))
  have HY := Lib.hid (nearest_w (M.Y n) (M.det n) dp (by omega) (by have := mx.Y.1; omega) (by have := mx.Y.2; omega))
  have HV := Lib.hid (pval_w (nrV (M.px n)) (nrV (M.py n)))
  rw [pok_nr, hp] at HV
  have pb := pokk hp
  rw [nrV_in (q := M.px n) (by omega) (by omega), nrV_in (q := M.py n) (by omega) (by omega)] at HV
  have e1 : nrV (nq (M.X n) (M.det n)) = M.px n := nrV_in (by show _ ≤ M.px n; omega) (by show M.px n ≤ _; omega)
  have e2 : nrV (nq (M.Y n) (M.det n)) = M.py n := nrV_in (by show _ ≤ M.py n; omega) (by show M.py n ≤ _; omega)
  rw [e1] at HX
  rw [e2] at HY
  clear e1 e2 pb
  have HS := Lib.hid hS
  clear hS hd mb mx hall n16 hx hn hp dn d1
  generalize M.xx n = N0 at *; generalize M.xy n = N1 at *; generalize M.yy n = N2 at *; generalize M.xz n = N3 at *; generalize M.yz n = N4 at *
  generalize wh (M.X n) = A at *; generalize wl (M.X n) = a at *; generalize wh (M.Y n) = B at *; generalize wl (M.Y n) = g at *
  generalize M.px n = px at *; generalize M.py n = py at *
  generalize M.det n = D at *
  have dz : (D == 0) = false := by rw [beq_eq_false_iff_ne]; omega
  clear dp
  go_enter Try.func18, Try.ntmps18
  go_wp2_with fail
  refine (HN.out _ (HS.out.kept (by repeat (first | with_reducible exact Kept.refl _ | with_reducible assumption | with_reducible refine Kept.setCell ?_ (by first | (simp; done) | (simp; omega) | omega) _ | with_reducible refine Kept.alloc ?_ _ | with_reducible refine Kept.drewN ?_ _ | with_reducible refine Kept.drew ?_ | with_reducible refine Kept.trans ?_ (by with_reducible assumption) | with_reducible refine Kept.dr ?_ (by with_reducible assumption))))).mono ?_
  rintro e w1 ⟨rfl, hk1⟩
  refine kuz (b := w.heap.size) hk1 (by first | (simp; done) | (simp; omega) | omega) ?_
  intro ha hb hz1_0 hn1_0 hm1_0
  have hf1_0_0 : w1.cell? ⟨w.heap.size, 0, none⟩ = some (.int .i64 0) := (ha _).trans (by first | with_reducible assumption | (simp (maxDischargeDepth := 7) [go_sem]; done) | (simp (maxDischargeDepth := 7) [go_sem, *]; done))
  have hf1_0_1 : w1.cell? ⟨w.heap.size, 1, none⟩ = some (.int .u64 0) := (ha _).trans (by first | with_reducible assumption | (simp (maxDischargeDepth := 7) [go_sem]; done) | (simp (maxDischargeDepth := 7) [go_sem, *]; done))
  have hf1_0_2 : w1.cell? ⟨w.heap.size, 2, none⟩ = some (.int .i64 0) := (ha _).trans (by first | with_reducible assumption | (simp (maxDischargeDepth := 7) [go_sem]; done) | (simp (maxDischargeDepth := 7) [go_sem, *]; done))
  have hf1_0_3 : w1.cell? ⟨w.heap.size, 3, none⟩ = some (.int .u64 0) := (ha _).trans (by first | with_reducible assumption | (simp (maxDischargeDepth := 7) [go_sem]; done) | (simp (maxDischargeDepth := 7) [go_sem, *]; done))
  have hf1_0_4 : w1.cell? ⟨w.heap.size, 4, none⟩ = some (.int .i64 0) := (ha _).trans (by first | with_reducible assumption | (simp (maxDischargeDepth := 7) [go_sem]; done) | (simp (maxDischargeDepth := 7) [go_sem, *]; done))
  have hf1_0_5 : w1.cell? ⟨w.heap.size, 5, none⟩ = some (.int .i64 0) := (ha _).trans (by first | with_reducible assumption | (simp (maxDischargeDepth := 7) [go_sem]; done) | (simp (maxDischargeDepth := 7) [go_sem, *]; done))
  have hf1_0_6 : w1.cell? ⟨w.heap.size, 6, none⟩ = some (.int .i64 0) := (ha _).trans (by first | with_reducible assumption | (simp (maxDischargeDepth := 7) [go_sem]; done) | (simp (maxDischargeDepth := 7) [go_sem, *]; done))
  try have hg1_0 : ∀ o, w1.frozen? ⟨w.heap.size, o, none⟩ = false := by intro o; rw [hb]; first | (simp (maxDischargeDepth := 7) [go_sem]; done) | (simp (maxDischargeDepth := 7) [go_sem, *]; done)
  clear ha hb
  go_wp2_with fail
  with_reducible refine (HE.out _).mono ?_
  rintro e w2 ⟨rfl, hk2⟩
  refine kuz (b := w.heap.size) hk2 (by first | (simp; done) | (simp; omega) | omega) ?_
  intro ha hb hz2_0 hn2_0 hm2_0
  have hf2_0_0 : w2.cell? ⟨w.heap.size, 0, none⟩ = some (.int .i64 0) := (ha _).trans (by first | with_reducible assumption | (simp (maxDischargeDepth := 7) [go_sem]; done) | (simp (maxDischargeDepth := 7) [go_sem, *]; done))
  have hf2_0_1 : w2.cell? ⟨w.heap.size, 1, none⟩ = some (.int .u64 0) := (ha _).trans (by first | with_reducible assumption | (simp (maxDischargeDepth := 7) [go_sem]; done) | (simp (maxDischargeDepth := 7) [go_sem, *]; done))
  have hf2_0_2 : w2.cell? ⟨w.heap.size, 2, none⟩ = some (.int .i64 0) := (ha _).trans (by first | with_reducible assumption | (simp (maxDischargeDepth := 7) [go_sem]; done) | (simp (maxDischargeDepth := 7) [go_sem, *]; done))
  have hf2_0_3 : w2.cell? ⟨w.heap.size, 3, none⟩ = some (.int .u64 0) := (ha _).trans (by first | with_reducible assumption | (simp (maxDischargeDepth := 7) [go_sem]; done) | (simp (maxDischargeDepth := 7) [go_sem, *]; done))
  have hf2_0_4 : w2.cell? ⟨w.heap.size, 4, none⟩ = some (.int .i64 0) := (ha _).trans (by first | with_reducible assumption | (simp (maxDischargeDepth := 7) [go_sem]; done) | (simp (maxDischargeDepth := 7) [go_sem, *]; done))
  have hf2_0_5 : w2.cell? ⟨w.heap.size, 5, none⟩ = some (.int .i64 0) := (ha _).trans (by first | with_reducible assumption | (simp (maxDischargeDepth := 7) [go_sem]; done) | (simp (maxDischargeDepth := 7) [go_sem, *]; done))
  have hf2_0_6 : w2.cell? ⟨w.heap.size, 6, none⟩ = some (.int .i64 0) := (ha _).trans (by first | with_reducible assumption | (simp (maxDischargeDepth := 7) [go_sem]; done) | (simp (maxDischargeDepth := 7) [go_sem, *]; done))
  try have hg2_0 : ∀ o, w2.frozen? ⟨w.heap.size, o, none⟩ = false := by intro o; rw [hb]; first | (simp (maxDischargeDepth := 7) [go_sem]; done) | (simp (maxDischargeDepth := 7) [go_sem, *]; done)
  clear ha hb
  refine kuz (b := w1.heap.size) hk2 (by first | (simp; done) | (simp; omega) | omega) ?_
  intro ha hb hz2_1 hn2_1 hm2_1
  have hf2_1_0 : w2.cell? ⟨w1.heap.size, 0, none⟩ = some (.int .i64 N0) := (ha _).trans (by first | with_reducible assumption | (simp (maxDischargeDepth := 7) [go_sem]; done) | (simp (maxDischargeDepth := 7) [go_sem, *]; done))
  have hf2_1_1 : w2.cell? ⟨w1.heap.size, 1, none⟩ = some (.int .i64 N1) := (ha _).trans (by first | with_reducible assumption | (simp (maxDischargeDepth := 7) [go_sem]; done) | (simp (maxDischargeDepth := 7) [go_sem, *]; done))
  have hf2_1_2 : w2.cell? ⟨w1.heap.size, 2, none⟩ = some (.int .i64 N2) := (ha _).trans (by first | with_reducible assumption | (simp (maxDischargeDepth := 7) [go_sem]; done) | (simp (maxDischargeDepth := 7) [go_sem, *]; done))
  have hf2_1_3 : w2.cell? ⟨w1.heap.size, 3, none⟩ = some (.int .i64 N3) := (ha _).trans (by first | with_reducible assumption | (simp (maxDischargeDepth := 7) [go_sem]; done) | (simp (maxDischargeDepth := 7) [go_sem, *]; done))
  have hf2_1_4 : w2.cell? ⟨w1.heap.size, 4, none⟩ = some (.int .i64 N4) := (ha _).trans (by first | with_reducible assumption | (simp (maxDischargeDepth := 7) [go_sem]; done) | (simp (maxDischargeDepth := 7) [go_sem, *]; done))
  try have hg2_1 : ∀ o, w2.frozen? ⟨w1.heap.size, o, none⟩ = false := by intro o; rw [hb]; first | (simp (maxDischargeDepth := 7) [go_sem]; done) | (simp (maxDischargeDepth := 7) [go_sem, *]; done)
  clear ha hb
  try clear hf1_0_0
  try clear hf1_0_1
  try clear hf1_0_2
  try clear hf1_0_3
  try clear hf1_0_4
  try clear hf1_0_5
  try clear hf1_0_6
  try clear hg1_0
  have B0 : OwnB (w2.alloc (.cells #[.int .i64 A, .int .u64 a, .int .i64 B, .int .u64 g, .int .i64 D, .int .i64 0, .int .i64 0] 38)) (w.heap.size) [.int .i64 0, .int .u64 0, .int .i64 0, .int .u64 0, .int .i64 0, .int .i64 0, .int .i64 0] := OwnB.alloc (show OwnB w2 (w.heap.size) [.int .i64 0, .int .u64 0, .int .i64 0, .int .u64 0, .int .i64 0, .int .i64 0, .int .i64 0] from ⟨hz2_0, hg2_0, hf2_0_0, hf2_0_1, hf2_0_2, hf2_0_3, hf2_0_4, hf2_0_5, hf2_0_6, trivial⟩) _
  have HC1_0 := Lib.hid B0
  clear B0
  have B1 : OwnB (w2.alloc (.cells #[.int .i64 A, .int .u64 a, .int .i64 B, .int .u64 g, .int .i64 D, .int .i64 0, .int .i64 0] 38)) (w1.heap.size) [.int .i64 N0, .int .i64 N1, .int .i64 N2, .int .i64 N3, .int .i64 N4] := OwnB.alloc (show OwnB w2 (w1.heap.size) [.int .i64 N0, .int .i64 N1, .int .i64 N2, .int .i64 N3, .int .i64 N4] from ⟨hz2_1, hg2_1, hf2_1_0, hf2_1_1, hf2_1_2, hf2_1_3, hf2_1_4, trivial⟩) _
  have HC1_1 := Lib.hid B1
  clear B1
  have B2 : OwnB (w2.alloc (.cells #[.int .i64 A, .int .u64 a, .int .i64 B, .int .u64 g, .int .i64 D, .int .i64 0, .int .i64 0] 38)) (w2.heap.size) [.int .i64 A, .int .u64 a, .int .i64 B, .int .u64 g, .int .i64 D, .int .i64 0, .int .i64 0] := own_alloc _ [.int .i64 A, .int .u64 a, .int .i64 B, .int .u64 g, .int .i64 D, .int .i64 0, .int .i64 0] 38
  have HC1_2 := Lib.hid B2
  clear B2
  go_upto_region 7 with (fail)
  go_cut [] (fun  wx => OwnB wx (w.heap.size) [.int .i64 0, .int .u64 0, .int .i64 0, .int .u64 0, .int .i64 0, .int .i64 0, .int .i64 0] ∧ OwnB wx (w1.heap.size) [.int .i64 N0, .int .i64 N1, .int .i64 N2, .int .i64 N3, .int .i64 N4] ∧ OwnB wx (w2.heap.size) [.int .i64 A, .int .u64 a, .int .i64 B, .int .u64 g, .int .i64 D, .int .i64 px, .int .i64 py] ∧ Kept w wx)
  case first =>
    go_region_held3 (fun W => W.cell? ⟨w2.heap.size, 0, none⟩ = some (.int .i64 A) ∧ W.cell? ⟨w2.heap.size, 1, none⟩ = some (.int .u64 a) ∧ W.cell? ⟨w2.heap.size, 2, none⟩ = some (.int .i64 B) ∧ W.cell? ⟨w2.heap.size, 3, none⟩ = some (.int .u64 g) ∧ W.cell? ⟨w2.heap.size, 4, none⟩ = some (.int .i64 D)) (first | (go_keep; done) | (simp (maxDischargeDepth := 9) [*, World.cell?_alloc_some, World.cell?_setCell_far]; done) | (simp (maxDischargeDepth := 9) [go_sem, *]; done)) (first | (go_at_call 35; (first | with_reducible refine (HX.out _).mono ?_); rintro e w' ⟨rfl, hk⟩; have hz := hk.size; (try (refine kuse (b := w.heap.size) hk (by first | (simp; done) | (simp; omega) | omega) ?_; intro hq0 hg0; have hy0 : w.heap.size < w'.heap.size := (by (try simp at hz); omega); have hn0 : ¬ w.heap.size = w'.heap.size := (by omega); have hm0 : ¬ w.heap.size = w'.heap.size + 1 := (by omega); refine withF (p := w'.cell? ⟨w.heap.size, 0, none⟩ = some (.int .i64 0)) (by first | (rw [hq0]; with_reducible assumption) | (simp (maxDischargeDepth := 7) [go_sem, hq0]; done) | (simp (maxDischargeDepth := 7) [go_sem, hq0, *]; done) | fail) ?_; intro ff00; refine withF (p := w'.cell? ⟨w.heap.size, 1, none⟩ = some (.int .u64 0)) (by first | (rw [hq0]; with_reducible assumption) | (simp (maxDischargeDepth := 7) [go_sem, hq0]; done) | (simp (maxDischargeDepth := 7) [go_sem, hq0, *]; done) | fail) ?_; intro ff01; refine withF (p := w'.cell? ⟨w.heap.size, 2, none⟩ = some (.int .i64 0)) (by first | (rw [hq0]; with_reducible assumption) | (simp (maxDischargeDepth := 7) [go_sem, hq0]; done) | (simp (maxDischargeDepth := 7) [go_sem, hq0, *]; done) | fail) ?_; intro ff02; refine withF (p := w'.cell? ⟨w.heap.size, 3, none⟩ = some (.int .u64 0)) (by first | (rw [hq0]; with_reducible assumption) | (simp (maxDischargeDepth := 7) [go_sem, hq0]; done) | (simp (maxDischargeDepth := 7) [go_sem, hq0, *]; done) | fail) ?_; intro ff03; refine withF (p := w'.cell? ⟨w.heap.size, 4, none⟩ = some (.int .i64 0)) (by first | (rw [hq0]; with_reducible assumption) | (simp (maxDischargeDepth := 7) [go_sem, hq0]; done) | (simp (maxDischargeDepth := 7) [go_sem, hq0, *]; done) | fail) ?_; intro ff04; refine withF (p := w'.cell? ⟨w.heap.size, 5, none⟩ = some (.int .i64 0)) (by first | (rw [hq0]; with_reducible assumption) | (simp (maxDischargeDepth := 7) [go_sem, hq0]; done) | (simp (maxDischargeDepth := 7) [go_sem, hq0, *]; done) | fail) ?_; intro ff05; refine withF (p := w'.cell? ⟨w.heap.size, 6, none⟩ = some (.int .i64 0)) (by first | (rw [hq0]; with_reducible assumption) | (simp (maxDischargeDepth := 7) [go_sem, hq0]; done) | (simp (maxDischargeDepth := 7) [go_sem, hq0, *]; done) | fail) ?_; intro ff06)); (try (refine kuse (b := w1.heap.size) hk (by first | (simp; done) | (simp; omega) | omega) ?_; intro hq1 hg1; have hy1 : w1.heap.size < w'.heap.size := (by (try simp at hz); omega); have hn1 : ¬ w1.heap.size = w'.heap.size := (by omega); have hm1 : ¬ w1.heap.size = w'.heap.size + 1 := (by omega); refine withF (p := w'.cell? ⟨w1.heap.size, 0, none⟩ = some (.int .i64 N0)) (by first | (rw [hq1]; with_reducible assumption) | (simp (maxDischargeDepth := 7) [go_sem, hq1]; done) | (simp (maxDischargeDepth := 7) [go_sem, hq1, *]; done) | fail) ?_; intro ff10; refine withF (p := w'.cell? ⟨w1.heap.size, 1, none⟩ = some (.int .i64 N1)) (by first | (rw [hq1]; with_reducible assumption) | (simp (maxDischargeDepth := 7) [go_sem, hq1]; done) | (simp (maxDischargeDepth := 7) [go_sem, hq1, *]; done) | fail) ?_; intro ff11; refine withF (p := w'.cell? ⟨w1.heap.size, 2, none⟩ = some (.int .i64 N2)) (by first | (rw [hq1]; with_reducible assumption) | (simp (maxDischargeDepth := 7) [go_sem, hq1]; done) | (simp (maxDischargeDepth := 7) [go_sem, hq1, *]; done) | fail) ?_; intro ff12; refine withF (p := w'.cell? ⟨w1.heap.size, 3, none⟩ = some (.int .i64 N3)) (by first | (rw [hq1]; with_reducible assumption) | (simp (maxDischargeDepth := 7) [go_sem, hq1]; done) | (simp (maxDischargeDepth := 7) [go_sem, hq1, *]; done) | fail) ?_; intro ff13; refine withF (p := w'.cell? ⟨w1.heap.size, 4, none⟩ = some (.int .i64 N4)) (by first | (rw [hq1]; with_reducible assumption) | (simp (maxDischargeDepth := 7) [go_sem, hq1]; done) | (simp (maxDischargeDepth := 7) [go_sem, hq1, *]; done) | fail) ?_; intro ff14)); (try (refine kuse (b := w2.heap.size) hk (by first | (simp; done) | (simp; omega) | omega) ?_; intro hq2 hg2; have hy2 : w2.heap.size < w'.heap.size := (by (try simp at hz); omega); have hn2 : ¬ w2.heap.size = w'.heap.size := (by omega); have hm2 : ¬ w2.heap.size = w'.heap.size + 1 := (by omega); refine withF (p := w'.cell? ⟨w2.heap.size, 0, none⟩ = some (.int .i64 A)) (by first | (rw [hq2]; with_reducible assumption) | (simp (maxDischargeDepth := 7) [go_sem, hq2]; done) | (simp (maxDischargeDepth := 7) [go_sem, hq2, *]; done) | fail) ?_; intro ff20; refine withF (p := w'.cell? ⟨w2.heap.size, 1, none⟩ = some (.int .u64 a)) (by first | (rw [hq2]; with_reducible assumption) | (simp (maxDischargeDepth := 7) [go_sem, hq2]; done) | (simp (maxDischargeDepth := 7) [go_sem, hq2, *]; done) | fail) ?_; intro ff21; refine withF (p := w'.cell? ⟨w2.heap.size, 2, none⟩ = some (.int .i64 B)) (by first | (rw [hq2]; with_reducible assumption) | (simp (maxDischargeDepth := 7) [go_sem, hq2]; done) | (simp (maxDischargeDepth := 7) [go_sem, hq2, *]; done) | fail) ?_; intro ff22; refine withF (p := w'.cell? ⟨w2.heap.size, 3, none⟩ = some (.int .u64 g)) (by first | (rw [hq2]; with_reducible assumption) | (simp (maxDischargeDepth := 7) [go_sem, hq2]; done) | (simp (maxDischargeDepth := 7) [go_sem, hq2, *]; done) | fail) ?_; intro ff23; refine withF (p := w'.cell? ⟨w2.heap.size, 4, none⟩ = some (.int .i64 D)) (by first | (rw [hq2]; with_reducible assumption) | (simp (maxDischargeDepth := 7) [go_sem, hq2]; done) | (simp (maxDischargeDepth := 7) [go_sem, hq2, *]; done) | fail) ?_; intro ff24; refine withF (p := w'.cell? ⟨w2.heap.size, 5, none⟩ = some (.int .i64 0)) (by first | (rw [hq2]; with_reducible assumption) | (simp (maxDischargeDepth := 7) [go_sem, hq2]; done) | (simp (maxDischargeDepth := 7) [go_sem, hq2, *]; done) | fail) ?_; intro ff25; refine withF (p := w'.cell? ⟨w2.heap.size, 6, none⟩ = some (.int .i64 0)) (by first | (rw [hq2]; with_reducible assumption) | (simp (maxDischargeDepth := 7) [go_sem, hq2]; done) | (simp (maxDischargeDepth := 7) [go_sem, hq2, *]; done) | fail) ?_; intro ff26))) | (go_at_call 35; (first | with_reducible refine (HY.out _).mono ?_); rintro e w' ⟨rfl, hk⟩; have hz := hk.size; (try (refine kuse (b := w.heap.size) hk (by first | (simp; done) | (simp; omega) | omega) ?_; intro hq0 hg0; have hy0 : w.heap.size < w'.heap.size := (by (try simp at hz); omega); have hn0 : ¬ w.heap.size = w'.heap.size := (by omega); have hm0 : ¬ w.heap.size = w'.heap.size + 1 := (by omega); refine withF (p := w'.cell? ⟨w.heap.size, 0, none⟩ = some (.int .i64 0)) (by first | (rw [hq0]; with_reducible assumption) | (simp (maxDischargeDepth := 7) [go_sem, hq0]; done) | (simp (maxDischargeDepth := 7) [go_sem, hq0, *]; done) | fail) ?_; intro ff00; refine withF (p := w'.cell? ⟨w.heap.size, 1, none⟩ = some (.int .u64 0)) (by first | (rw [hq0]; with_reducible assumption) | (simp (maxDischargeDepth := 7) [go_sem, hq0]; done) | (simp (maxDischargeDepth := 7) [go_sem, hq0, *]; done) | fail) ?_; intro ff01; refine withF (p := w'.cell? ⟨w.heap.size, 2, none⟩ = some (.int .i64 0)) (by first | (rw [hq0]; with_reducible assumption) | (simp (maxDischargeDepth := 7) [go_sem, hq0]; done) | (simp (maxDischargeDepth := 7) [go_sem, hq0, *]; done) | fail) ?_; intro ff02; refine withF (p := w'.cell? ⟨w.heap.size, 3, none⟩ = some (.int .u64 0)) (by first | (rw [hq0]; with_reducible assumption) | (simp (maxDischargeDepth := 7) [go_sem, hq0]; done) | (simp (maxDischargeDepth := 7) [go_sem, hq0, *]; done) | fail) ?_; intro ff03; refine withF (p := w'.cell? ⟨w.heap.size, 4, none⟩ = some (.int .i64 0)) (by first | (rw [hq0]; with_reducible assumption) | (simp (maxDischargeDepth := 7) [go_sem, hq0]; done) | (simp (maxDischargeDepth := 7) [go_sem, hq0, *]; done) | fail) ?_; intro ff04; refine withF (p := w'.cell? ⟨w.heap.size, 5, none⟩ = some (.int .i64 0)) (by first | (rw [hq0]; with_reducible assumption) | (simp (maxDischargeDepth := 7) [go_sem, hq0]; done) | (simp (maxDischargeDepth := 7) [go_sem, hq0, *]; done) | fail) ?_; intro ff05; refine withF (p := w'.cell? ⟨w.heap.size, 6, none⟩ = some (.int .i64 0)) (by first | (rw [hq0]; with_reducible assumption) | (simp (maxDischargeDepth := 7) [go_sem, hq0]; done) | (simp (maxDischargeDepth := 7) [go_sem, hq0, *]; done) | fail) ?_; intro ff06)); (try (refine kuse (b := w1.heap.size) hk (by first | (simp; done) | (simp; omega) | omega) ?_; intro hq1 hg1; have hy1 : w1.heap.size < w'.heap.size := (by (try simp at hz); omega); have hn1 : ¬ w1.heap.size = w'.heap.size := (by omega); have hm1 : ¬ w1.heap.size = w'.heap.size + 1 := (by omega); refine withF (p := w'.cell? ⟨w1.heap.size, 0, none⟩ = some (.int .i64 N0)) (by first | (rw [hq1]; with_reducible assumption) | (simp (maxDischargeDepth := 7) [go_sem, hq1]; done) | (simp (maxDischargeDepth := 7) [go_sem, hq1, *]; done) | fail) ?_; intro ff10; refine withF (p := w'.cell? ⟨w1.heap.size, 1, none⟩ = some (.int .i64 N1)) (by first | (rw [hq1]; with_reducible assumption) | (simp (maxDischargeDepth := 7) [go_sem, hq1]; done) | (simp (maxDischargeDepth := 7) [go_sem, hq1, *]; done) | fail) ?_; intro ff11; refine withF (p := w'.cell? ⟨w1.heap.size, 2, none⟩ = some (.int .i64 N2)) (by first | (rw [hq1]; with_reducible assumption) | (simp (maxDischargeDepth := 7) [go_sem, hq1]; done) | (simp (maxDischargeDepth := 7) [go_sem, hq1, *]; done) | fail) ?_; intro ff12; refine withF (p := w'.cell? ⟨w1.heap.size, 3, none⟩ = some (.int .i64 N3)) (by first | (rw [hq1]; with_reducible assumption) | (simp (maxDischargeDepth := 7) [go_sem, hq1]; done) | (simp (maxDischargeDepth := 7) [go_sem, hq1, *]; done) | fail) ?_; intro ff13; refine withF (p := w'.cell? ⟨w1.heap.size, 4, none⟩ = some (.int .i64 N4)) (by first | (rw [hq1]; with_reducible assumption) | (simp (maxDischargeDepth := 7) [go_sem, hq1]; done) | (simp (maxDischargeDepth := 7) [go_sem, hq1, *]; done) | fail) ?_; intro ff14)); (try (refine kuse (b := w2.heap.size) hk (by first | (simp; done) | (simp; omega) | omega) ?_; intro hq2 hg2; have hy2 : w2.heap.size < w'.heap.size := (by (try simp at hz); omega); have hn2 : ¬ w2.heap.size = w'.heap.size := (by omega); have hm2 : ¬ w2.heap.size = w'.heap.size + 1 := (by omega); refine withF (p := w'.cell? ⟨w2.heap.size, 0, none⟩ = some (.int .i64 A)) (by first | (rw [hq2]; with_reducible assumption) | (simp (maxDischargeDepth := 7) [go_sem, hq2]; done) | (simp (maxDischargeDepth := 7) [go_sem, hq2, *]; done) | fail) ?_; intro ff20; refine withF (p := w'.cell? ⟨w2.heap.size, 1, none⟩ = some (.int .u64 a)) (by first | (rw [hq2]; with_reducible assumption) | (simp (maxDischargeDepth := 7) [go_sem, hq2]; done) | (simp (maxDischargeDepth := 7) [go_sem, hq2, *]; done) | fail) ?_; intro ff21; refine withF (p := w'.cell? ⟨w2.heap.size, 2, none⟩ = some (.int .i64 B)) (by first | (rw [hq2]; with_reducible assumption) | (simp (maxDischargeDepth := 7) [go_sem, hq2]; done) | (simp (maxDischargeDepth := 7) [go_sem, hq2, *]; done) | fail) ?_; intro ff22; refine withF (p := w'.cell? ⟨w2.heap.size, 3, none⟩ = some (.int .u64 g)) (by first | (rw [hq2]; with_reducible assumption) | (simp (maxDischargeDepth := 7) [go_sem, hq2]; done) | (simp (maxDischargeDepth := 7) [go_sem, hq2, *]; done) | fail) ?_; intro ff23; refine withF (p := w'.cell? ⟨w2.heap.size, 4, none⟩ = some (.int .i64 D)) (by first | (rw [hq2]; with_reducible assumption) | (simp (maxDischargeDepth := 7) [go_sem, hq2]; done) | (simp (maxDischargeDepth := 7) [go_sem, hq2, *]; done) | fail) ?_; intro ff24; refine withF (p := w'.cell? ⟨w2.heap.size, 5, none⟩ = some (.int .i64 0)) (by first | (rw [hq2]; with_reducible assumption) | (simp (maxDischargeDepth := 7) [go_sem, hq2]; done) | (simp (maxDischargeDepth := 7) [go_sem, hq2, *]; done) | fail) ?_; intro ff25; refine withF (p := w'.cell? ⟨w2.heap.size, 6, none⟩ = some (.int .i64 0)) (by first | (rw [hq2]; with_reducible assumption) | (simp (maxDischargeDepth := 7) [go_sem, hq2]; done) | (simp (maxDischargeDepth := 7) [go_sem, hq2, *]; done) | fail) ?_; intro ff26))))
    all_goals (try go_wp2_with fail)
    all_goals (go_meet; case rel => exact ⟨(by repeat (first | with_reducible exact HC1_0.out | with_reducible refine OwnB.setOther ?_ (by first | with_reducible assumption | omega | (simp; done) | (simp; omega)) | with_reducible refine OwnB.drew ?_ | with_reducible refine OwnB.drewN ?_ _ | with_reducible refine OwnB.alloc ?_ _ | with_reducible refine OwnB.kept (by with_reducible assumption) ?_)), (by repeat (first | with_reducible exact HC1_1.out | with_reducible refine OwnB.setOther ?_ (by first | with_reducible assumption | omega | (simp; done) | (simp; omega)) | with_reducible refine OwnB.drew ?_ | with_reducible refine OwnB.drewN ?_ _ | with_reducible refine OwnB.alloc ?_ _ | with_reducible refine OwnB.kept (by with_reducible assumption) ?_)), (by repeat (first | with_reducible exact HC1_2.out | with_reducible refine own7_56 (v5 := .int .i64 0) (v6 := .int .i64 0) ?_ | with_reducible refine OwnB.setOther ?_ (by first | with_reducible assumption | omega | (simp; done) | (simp; omega)) | with_reducible refine OwnB.drew ?_ | with_reducible refine OwnB.drewN ?_ _ | with_reducible refine OwnB.alloc ?_ _ | with_reducible refine OwnB.kept (by with_reducible assumption) ?_)), (by repeat (first | with_reducible exact Kept.refl _ | with_reducible assumption | with_reducible refine Kept.setCell ?_ (by first | (simp; done) | (simp; omega) | omega) _ | with_reducible refine Kept.alloc ?_ _ | with_reducible refine Kept.drewN ?_ _ | with_reducible refine Kept.drew ?_ | with_reducible refine Kept.trans ?_ (by with_reducible assumption) | with_reducible refine Kept.dr ?_ (by with_reducible assumption)))⟩)
  case rest =>
  obtain ⟨O1_0, O1_1, O1_2, hkc1⟩ := hcut
  obtain ⟨hz_c1_0, hg_c1_0, hf_c1_0_0, hf_c1_0_1, hf_c1_0_2, hf_c1_0_3, hf_c1_0_4, hf_c1_0_5, hf_c1_0_6, _⟩ := O1_0
  obtain ⟨hz_c1_1, hg_c1_1, hf_c1_1_0, hf_c1_1_1, hf_c1_1_2, hf_c1_1_3, hf_c1_1_4, _⟩ := O1_1
  obtain ⟨hz_c1_2, hg_c1_2, hf_c1_2_0, hf_c1_2_1, hf_c1_2_2, hf_c1_2_3, hf_c1_2_4, hf_c1_2_5, hf_c1_2_6, _⟩ := O1_2
  try clear hf2_0_0
  try clear hf2_0_1
  try clear hf2_0_2
  try clear hf2_0_3
  try clear hf2_0_4
  try clear hf2_0_5
  try clear hf2_0_6
  try clear hf2_1_0
  try clear hf2_1_1
  try clear hf2_1_2
  try clear hf2_1_3
  try clear hf2_1_4
  try clear hg2_0
  try clear hg2_1
  try clear hz2_1
  go_wp2_with fail
  with_reducible refine (HV.out _).mono ?_
  rintro e w3 ⟨rfl, hk3⟩
  refine kuz (b := w.heap.size) hk3 (by first | (simp; done) | (simp; omega) | omega) ?_
  intro ha hb hz3_0 hn3_0 hm3_0
  have hf3_0_0 : w3.cell? ⟨w.heap.size, 0, none⟩ = some (.int .i64 0) := (ha _).trans (by first | with_reducible assumption | (simp (maxDischargeDepth := 7) [go_sem]; done) | (simp (maxDischargeDepth := 7) [go_sem, *]; done))
  have hf3_0_1 : w3.cell? ⟨w.heap.size, 1, none⟩ = some (.int .u64 0) := (ha _).trans (by first | with_reducible assumption | (simp (maxDischargeDepth := 7) [go_sem]; done) | (simp (maxDischargeDepth := 7) [go_sem, *]; done))
  have hf3_0_2 : w3.cell? ⟨w.heap.size, 2, none⟩ = some (.int .i64 0) := (ha _).trans (by first | with_reducible assumption | (simp (maxDischargeDepth := 7) [go_sem]; done) | (simp (maxDischargeDepth := 7) [go_sem, *]; done))
  have hf3_0_3 : w3.cell? ⟨w.heap.size, 3, none⟩ = some (.int .u64 0) := (ha _).trans (by first | with_reducible assumption | (simp (maxDischargeDepth := 7) [go_sem]; done) | (simp (maxDischargeDepth := 7) [go_sem, *]; done))
  have hf3_0_4 : w3.cell? ⟨w.heap.size, 4, none⟩ = some (.int .i64 0) := (ha _).trans (by first | with_reducible assumption | (simp (maxDischargeDepth := 7) [go_sem]; done) | (simp (maxDischargeDepth := 7) [go_sem, *]; done))
  have hf3_0_5 : w3.cell? ⟨w.heap.size, 5, none⟩ = some (.int .i64 0) := (ha _).trans (by first | with_reducible assumption | (simp (maxDischargeDepth := 7) [go_sem]; done) | (simp (maxDischargeDepth := 7) [go_sem, *]; done))
  have hf3_0_6 : w3.cell? ⟨w.heap.size, 6, none⟩ = some (.int .i64 0) := (ha _).trans (by first | with_reducible assumption | (simp (maxDischargeDepth := 7) [go_sem]; done) | (simp (maxDischargeDepth := 7) [go_sem, *]; done))
  try have hg3_0 : ∀ o, w3.frozen? ⟨w.heap.size, o, none⟩ = false := by intro o; rw [hb]; first | (simp (maxDischargeDepth := 7) [go_sem]; done) | (simp (maxDischargeDepth := 7) [go_sem, *]; done)
  clear ha hb
  refine kuz (b := w1.heap.size) hk3 (by first | (simp; done) | (simp; omega) | omega) ?_
  intro ha hb hz3_1 hn3_1 hm3_1
  have hf3_1_0 : w3.cell? ⟨w1.heap.size, 0, none⟩ = some (.int .i64 N0) := (ha _).trans (by first | with_reducible assumption | (simp (maxDischargeDepth := 7) [go_sem]; done) | (simp (maxDischargeDepth := 7) [go_sem, *]; done))
  have hf3_1_1 : w3.cell? ⟨w1.heap.size, 1, none⟩ = some (.int .i64 N1) := (ha _).trans (by first | with_reducible assumption | (simp (maxDischargeDepth := 7) [go_sem]; done) | (simp (maxDischargeDepth := 7) [go_sem, *]; done))
  have hf3_1_2 : w3.cell? ⟨w1.heap.size, 2, none⟩ = some (.int .i64 N2) := (ha _).trans (by first | with_reducible assumption | (simp (maxDischargeDepth := 7) [go_sem]; done) | (simp (maxDischargeDepth := 7) [go_sem, *]; done))
  have hf3_1_3 : w3.cell? ⟨w1.heap.size, 3, none⟩ = some (.int .i64 N3) := (ha _).trans (by first | with_reducible assumption | (simp (maxDischargeDepth := 7) [go_sem]; done) | (simp (maxDischargeDepth := 7) [go_sem, *]; done))
  have hf3_1_4 : w3.cell? ⟨w1.heap.size, 4, none⟩ = some (.int .i64 N4) := (ha _).trans (by first | with_reducible assumption | (simp (maxDischargeDepth := 7) [go_sem]; done) | (simp (maxDischargeDepth := 7) [go_sem, *]; done))
  try have hg3_1 : ∀ o, w3.frozen? ⟨w1.heap.size, o, none⟩ = false := by intro o; rw [hb]; first | (simp (maxDischargeDepth := 7) [go_sem]; done) | (simp (maxDischargeDepth := 7) [go_sem, *]; done)
  clear ha hb
  refine kuz (b := w2.heap.size) hk3 (by first | (simp; done) | (simp; omega) | omega) ?_
  intro ha hb hz3_2 hn3_2 hm3_2
  have hf3_2_0 : w3.cell? ⟨w2.heap.size, 0, none⟩ = some (.int .i64 A) := (ha _).trans (by first | with_reducible assumption | (simp (maxDischargeDepth := 7) [go_sem]; done) | (simp (maxDischargeDepth := 7) [go_sem, *]; done))
  have hf3_2_1 : w3.cell? ⟨w2.heap.size, 1, none⟩ = some (.int .u64 a) := (ha _).trans (by first | with_reducible assumption | (simp (maxDischargeDepth := 7) [go_sem]; done) | (simp (maxDischargeDepth := 7) [go_sem, *]; done))
  have hf3_2_2 : w3.cell? ⟨w2.heap.size, 2, none⟩ = some (.int .i64 B) := (ha _).trans (by first | with_reducible assumption | (simp (maxDischargeDepth := 7) [go_sem]; done) | (simp (maxDischargeDepth := 7) [go_sem, *]; done))
  have hf3_2_3 : w3.cell? ⟨w2.heap.size, 3, none⟩ = some (.int .u64 g) := (ha _).trans (by first | with_reducible assumption | (simp (maxDischargeDepth := 7) [go_sem]; done) | (simp (maxDischargeDepth := 7) [go_sem, *]; done))
  have hf3_2_4 : w3.cell? ⟨w2.heap.size, 4, none⟩ = some (.int .i64 D) := (ha _).trans (by first | with_reducible assumption | (simp (maxDischargeDepth := 7) [go_sem]; done) | (simp (maxDischargeDepth := 7) [go_sem, *]; done))
  have hf3_2_5 : w3.cell? ⟨w2.heap.size, 5, none⟩ = some (.int .i64 px) := (ha _).trans (by first | with_reducible assumption | (simp (maxDischargeDepth := 7) [go_sem]; done) | (simp (maxDischargeDepth := 7) [go_sem, *]; done))
  have hf3_2_6 : w3.cell? ⟨w2.heap.size, 6, none⟩ = some (.int .i64 py) := (ha _).trans (by first | with_reducible assumption | (simp (maxDischargeDepth := 7) [go_sem]; done) | (simp (maxDischargeDepth := 7) [go_sem, *]; done))
  try have hg3_2 : ∀ o, w3.frozen? ⟨w2.heap.size, o, none⟩ = false := by intro o; rw [hb]; first | (simp (maxDischargeDepth := 7) [go_sem]; done) | (simp (maxDischargeDepth := 7) [go_sem, *]; done)
  clear ha hb
  try clear hf_c1_0_0
  try clear hf_c1_0_1
  try clear hf_c1_0_2
  try clear hf_c1_0_3
  try clear hf_c1_0_4
  try clear hf_c1_0_5
  try clear hf_c1_0_6
  try clear hf_c1_1_0
  try clear hf_c1_1_1
  try clear hf_c1_1_2
  try clear hf_c1_1_3
  try clear hf_c1_1_4
  try clear hf_c1_2_0
  try clear hf_c1_2_1
  try clear hf_c1_2_2
  try clear hf_c1_2_3
  try clear hf_c1_2_4
  try clear hf_c1_2_5
  try clear hf_c1_2_6
  try clear hg_c1_0
  try clear hg_c1_1
  try clear hg_c1_2
  have B0 : OwnB w3 (w.heap.size) [.int .i64 0, .int .u64 0, .int .i64 0, .int .u64 0, .int .i64 0, .int .i64 0, .int .i64 0] := show OwnB w3 (w.heap.size) [.int .i64 0, .int .u64 0, .int .i64 0, .int .u64 0, .int .i64 0, .int .i64 0, .int .i64 0] from ⟨hz3_0, hg3_0, hf3_0_0, hf3_0_1, hf3_0_2, hf3_0_3, hf3_0_4, hf3_0_5, hf3_0_6, trivial⟩
  have HC2_0 := Lib.hid B0
  clear B0
  have B1 : OwnB w3 (w1.heap.size) [.int .i64 N0, .int .i64 N1, .int .i64 N2, .int .i64 N3, .int .i64 N4] := show OwnB w3 (w1.heap.size) [.int .i64 N0, .int .i64 N1, .int .i64 N2, .int .i64 N3, .int .i64 N4] from ⟨hz3_1, hg3_1, hf3_1_0, hf3_1_1, hf3_1_2, hf3_1_3, hf3_1_4, trivial⟩
  have HC2_1 := Lib.hid B1
  clear B1
  have B2 : OwnB w3 (w2.heap.size) [.int .i64 A, .int .u64 a, .int .i64 B, .int .u64 g, .int .i64 D, .int .i64 px, .int .i64 py] := show OwnB w3 (w2.heap.size) [.int .i64 A, .int .u64 a, .int .i64 B, .int .u64 g, .int .i64 D, .int .i64 px, .int .i64 py] from ⟨hz3_2, hg3_2, hf3_2_0, hf3_2_1, hf3_2_2, hf3_2_3, hf3_2_4, hf3_2_5, hf3_2_6, trivial⟩
  have HC2_2 := Lib.hid B2
  clear B2
  go_upto_region 10 with (fail)
  go_cut [3] (fun p0 wx => p0 = .int .i64 0 ∧ OwnB wx (w.heap.size) [.int .i64 A, .int .u64 a, .int .i64 B, .int .u64 g, .int .i64 D, .int .i64 px, .int .i64 py] ∧ OwnB wx (w1.heap.size) [.int .i64 N0, .int .i64 N1, .int .i64 N2, .int .i64 N3, .int .i64 N4] ∧ OwnB wx (w2.heap.size) [.int .i64 A, .int .u64 a, .int .i64 B, .int .u64 g, .int .i64 D, .int .i64 px, .int .i64 py] ∧ Kept w wx)
  case first =>
    skip
    all_goals (try go_wp2_with fail)
    all_goals (go_meet; case rel => exact ⟨rfl, (by repeat (first | with_reducible exact HC2_0.out | with_reducible refine own_s7 (u0 := .int .i64 0) (u1 := .int .u64 0) (u2 := .int .i64 0) (u3 := .int .u64 0) (u4 := .int .i64 0) (u5 := .int .i64 0) (u6 := .int .i64 0) ?_ | with_reducible refine OwnB.setOther ?_ (by first | with_reducible assumption | omega | (simp; done) | (simp; omega)) | with_reducible refine OwnB.drew ?_ | with_reducible refine OwnB.drewN ?_ _ | with_reducible refine OwnB.alloc ?_ _ | with_reducible refine OwnB.kept (by with_reducible assumption) ?_)), (by repeat (first | with_reducible exact HC2_1.out | with_reducible refine OwnB.setOther ?_ (by first | with_reducible assumption | omega | (simp; done) | (simp; omega)) | with_reducible refine OwnB.drew ?_ | with_reducible refine OwnB.drewN ?_ _ | with_reducible refine OwnB.alloc ?_ _ | with_reducible refine OwnB.kept (by with_reducible assumption) ?_)), (by repeat (first | with_reducible exact HC2_2.out | with_reducible refine OwnB.setOther ?_ (by first | with_reducible assumption | omega | (simp; done) | (simp; omega)) | with_reducible refine OwnB.drew ?_ | with_reducible refine OwnB.drewN ?_ _ | with_reducible refine OwnB.alloc ?_ _ | with_reducible refine OwnB.kept (by with_reducible assumption) ?_)), (by repeat (first | with_reducible exact Kept.refl _ | with_reducible assumption | with_reducible refine Kept.setCell ?_ (by first | (simp; done) | (simp; omega) | omega) _ | with_reducible refine Kept.alloc ?_ _ | with_reducible refine Kept.drewN ?_ _ | with_reducible refine Kept.drew ?_ | with_reducible refine Kept.trans ?_ (by with_reducible assumption) | with_reducible refine Kept.dr ?_ (by with_reducible assumption)))⟩)
  case rest =>
  obtain ⟨rfl, O2_0, O2_1, O2_2, hkc2⟩ := hcut
  obtain ⟨hz_c2_0, hg_c2_0, hf_c2_0_0, hf_c2_0_1, hf_c2_0_2, hf_c2_0_3, hf_c2_0_4, hf_c2_0_5, hf_c2_0_6, _⟩ := O2_0
  obtain ⟨hz_c2_1, hg_c2_1, hf_c2_1_0, hf_c2_1_1, hf_c2_1_2, hf_c2_1_3, hf_c2_1_4, _⟩ := O2_1
  obtain ⟨hz_c2_2, hg_c2_2, hf_c2_2_0, hf_c2_2_1, hf_c2_2_2, hf_c2_2_3, hf_c2_2_4, hf_c2_2_5, hf_c2_2_6, _⟩ := O2_2
  try clear hf3_0_0
  try clear hf3_0_1
  try clear hf3_0_2
  try clear hf3_0_3
  try clear hf3_0_4
  try clear hf3_0_5
  try clear hf3_0_6
  try clear hf3_1_0
  try clear hf3_1_1
  try clear hf3_1_2
  try clear hf3_1_3
  try clear hf3_1_4
  try clear hf3_2_0
  try clear hf3_2_1
  try clear hf3_2_2
  try clear hf3_2_3
  try clear hf3_2_4
  try clear hf3_2_5
  try clear hf3_2_6
  try clear hg3_0
  try clear hg3_1
  try clear hg3_2
  try clear hz3_1
  try clear hz3_2
  repeat (first | go_values | go_skip | go_guarded | go_step | go_upon)
  all_goals exact bodyPost_ret (v := .tuple #[.agg #[.int .i64 A, .int .u64 a, .int .i64 B, .int .u64 g, .int .i64 D, .int .i64 px, .int .i64 py], .int .i64 0]) (by simp (maxDischargeDepth := 3) [results, Try.results18, go_sem, *]; done) rfl ⟨rfl, (by repeat (first | with_reducible exact Kept.refl _ | with_reducible assumption | with_reducible refine Kept.setCell ?_ (by first | (simp; done) | (simp; omega) | omega) _ | with_reducible refine Kept.alloc ?_ _ | with_reducible refine Kept.drewN ?_ _ | with_reducible refine Kept.drew ?_ | with_reducible refine Kept.trans ?_ (by with_reducible assumption) | with_reducible refine Kept.dr ?_ (by with_reducible assumption)))⟩
set_option maxHeartbeats 4000000 in
set_option maxRecDepth 100000 in
theorem solve_rng (p : Option Addr) (n c b o : Nat) (M : Ms) (hn : n ≤ maxLen) (hx : M.chk n = 0) (hd : M.det n ≠ 0) (hp : pok (M.px n) (M.py n) = false) (w : World) (hS : SlM w p n b o M) : Calls Try.prog 18 #[.slice p n c] w fun e w' => e = .returned (.tuple #[.agg #[.int .i64 0, .int .u64 0, .int .i64 0, .int .u64 0, .int .i64 0, .int .i64 0, .int .i64 0], .int .i64 2]) ∧ Kept w w' := by
  have rbz : ∀ w, (Instr.build 38 #[]).run Try.prog w = .ok (.agg #[.int .i64 0, .int .u64 0, .int .i64 0, .int .u64 0, .int .i64 0, .int .i64 0, .int .i64 0]) w := fun w => run_build w 38 #[] _ (by kernel_rfl)
  obtain ⟨n16, hall⟩ := Ms.chk_0 hx
  have mb := mb_of n16 hall
  have mx := mx_of mb
  have HN := Lib.hid (normal_ok p n c b o M hn hx)
  have HE := Lib.hid (exact_w M n mb mx)
  have dn := det_nn n16 hall
  have dp : 0 < M.det n := by omega
  have d1 := mx.d1.2
  have HX := Lib.hid (nearest_w (M.X n) (M.det n) dp (by omega) (by have := mx.X.1; omega) (by have := mx.X.2; omega))
  have HY := Lib.hid (nearest_w (M.Y n) (M.det n) dp (by omega) (by have := mx.Y.1; omega) (by have := mx.Y.2; omega))
  have HV := Lib.hid (pval_w (nrV (M.px n)) (nrV (M.py n)))
  rw [pok_nr, hp] at HV
  have e1 : nrV (nq (M.X n) (M.det n)) = nrV (M.px n) := rfl
  have e2 : nrV (nq (M.Y n) (M.det n)) = nrV (M.py n) := rfl
  rw [e1] at HX
  rw [e2] at HY
  clear e1 e2
  have HS := Lib.hid hS
  clear hS hd mb mx hall n16 hx hn hp dn d1
  generalize M.xx n = N0 at *; generalize M.xy n = N1 at *; generalize M.yy n = N2 at *; generalize M.xz n = N3 at *; generalize M.yz n = N4 at *
  generalize wh (M.X n) = A at *; generalize wl (M.X n) = a at *; generalize wh (M.Y n) = B at *; generalize wl (M.Y n) = g at *
  generalize nrV (M.px n) = px at *; generalize nrV (M.py n) = py at *
  generalize M.det n = D at *
  have dz : (D == 0) = false := by rw [beq_eq_false_iff_ne]; omega
  clear dp
  go_enter Try.func18, Try.ntmps18
  go_wp2_with fail
  refine (HN.out _ (HS.out.kept (by repeat (first | with_reducible exact Kept.refl _ | with_reducible assumption | with_reducible refine Kept.setCell ?_ (by first | (simp; done) | (simp; omega) | omega) _ | with_reducible refine Kept.alloc ?_ _ | with_reducible refine Kept.drewN ?_ _ | with_reducible refine Kept.drew ?_ | with_reducible refine Kept.trans ?_ (by with_reducible assumption) | with_reducible refine Kept.dr ?_ (by with_reducible assumption))))).mono ?_
  rintro e w1 ⟨rfl, hk1⟩
  refine kuz (b := w.heap.size) hk1 (by first | (simp; done) | (simp; omega) | omega) ?_
  intro ha hb hz1_0 hn1_0 hm1_0
  have hf1_0_0 : w1.cell? ⟨w.heap.size, 0, none⟩ = some (.int .i64 0) := (ha _).trans (by first | with_reducible assumption | (simp (maxDischargeDepth := 7) [go_sem]; done) | (simp (maxDischargeDepth := 7) [go_sem, *]; done))
  have hf1_0_1 : w1.cell? ⟨w.heap.size, 1, none⟩ = some (.int .u64 0) := (ha _).trans (by first | with_reducible assumption | (simp (maxDischargeDepth := 7) [go_sem]; done) | (simp (maxDischargeDepth := 7) [go_sem, *]; done))
  have hf1_0_2 : w1.cell? ⟨w.heap.size, 2, none⟩ = some (.int .i64 0) := (ha _).trans (by first | with_reducible assumption | (simp (maxDischargeDepth := 7) [go_sem]; done) | (simp (maxDischargeDepth := 7) [go_sem, *]; done))
  have hf1_0_3 : w1.cell? ⟨w.heap.size, 3, none⟩ = some (.int .u64 0) := (ha _).trans (by first | with_reducible assumption | (simp (maxDischargeDepth := 7) [go_sem]; done) | (simp (maxDischargeDepth := 7) [go_sem, *]; done))
  have hf1_0_4 : w1.cell? ⟨w.heap.size, 4, none⟩ = some (.int .i64 0) := (ha _).trans (by first | with_reducible assumption | (simp (maxDischargeDepth := 7) [go_sem]; done) | (simp (maxDischargeDepth := 7) [go_sem, *]; done))
  have hf1_0_5 : w1.cell? ⟨w.heap.size, 5, none⟩ = some (.int .i64 0) := (ha _).trans (by first | with_reducible assumption | (simp (maxDischargeDepth := 7) [go_sem]; done) | (simp (maxDischargeDepth := 7) [go_sem, *]; done))
  have hf1_0_6 : w1.cell? ⟨w.heap.size, 6, none⟩ = some (.int .i64 0) := (ha _).trans (by first | with_reducible assumption | (simp (maxDischargeDepth := 7) [go_sem]; done) | (simp (maxDischargeDepth := 7) [go_sem, *]; done))
  try have hg1_0 : ∀ o, w1.frozen? ⟨w.heap.size, o, none⟩ = false := by intro o; rw [hb]; first | (simp (maxDischargeDepth := 7) [go_sem]; done) | (simp (maxDischargeDepth := 7) [go_sem, *]; done)
  clear ha hb
  go_wp2_with fail
  with_reducible refine (HE.out _).mono ?_
  rintro e w2 ⟨rfl, hk2⟩
  refine kuz (b := w.heap.size) hk2 (by first | (simp; done) | (simp; omega) | omega) ?_
  intro ha hb hz2_0 hn2_0 hm2_0
  have hf2_0_0 : w2.cell? ⟨w.heap.size, 0, none⟩ = some (.int .i64 0) := (ha _).trans (by first | with_reducible assumption | (simp (maxDischargeDepth := 7) [go_sem]; done) | (simp (maxDischargeDepth := 7) [go_sem, *]; done))
  have hf2_0_1 : w2.cell? ⟨w.heap.size, 1, none⟩ = some (.int .u64 0) := (ha _).trans (by first | with_reducible assumption | (simp (maxDischargeDepth := 7) [go_sem]; done) | (simp (maxDischargeDepth := 7) [go_sem, *]; done))
  have hf2_0_2 : w2.cell? ⟨w.heap.size, 2, none⟩ = some (.int .i64 0) := (ha _).trans (by first | with_reducible assumption | (simp (maxDischargeDepth := 7) [go_sem]; done) | (simp (maxDischargeDepth := 7) [go_sem, *]; done))
  have hf2_0_3 : w2.cell? ⟨w.heap.size, 3, none⟩ = some (.int .u64 0) := (ha _).trans (by first | with_reducible assumption | (simp (maxDischargeDepth := 7) [go_sem]; done) | (simp (maxDischargeDepth := 7) [go_sem, *]; done))
  have hf2_0_4 : w2.cell? ⟨w.heap.size, 4, none⟩ = some (.int .i64 0) := (ha _).trans (by first | with_reducible assumption | (simp (maxDischargeDepth := 7) [go_sem]; done) | (simp (maxDischargeDepth := 7) [go_sem, *]; done))
  have hf2_0_5 : w2.cell? ⟨w.heap.size, 5, none⟩ = some (.int .i64 0) := (ha _).trans (by first | with_reducible assumption | (simp (maxDischargeDepth := 7) [go_sem]; done) | (simp (maxDischargeDepth := 7) [go_sem, *]; done))
  have hf2_0_6 : w2.cell? ⟨w.heap.size, 6, none⟩ = some (.int .i64 0) := (ha _).trans (by first | with_reducible assumption | (simp (maxDischargeDepth := 7) [go_sem]; done) | (simp (maxDischargeDepth := 7) [go_sem, *]; done))
  try have hg2_0 : ∀ o, w2.frozen? ⟨w.heap.size, o, none⟩ = false := by intro o; rw [hb]; first | (simp (maxDischargeDepth := 7) [go_sem]; done) | (simp (maxDischargeDepth := 7) [go_sem, *]; done)
  clear ha hb
  refine kuz (b := w1.heap.size) hk2 (by first | (simp; done) | (simp; omega) | omega) ?_
  intro ha hb hz2_1 hn2_1 hm2_1
  have hf2_1_0 : w2.cell? ⟨w1.heap.size, 0, none⟩ = some (.int .i64 N0) := (ha _).trans (by first | with_reducible assumption | (simp (maxDischargeDepth := 7) [go_sem]; done) | (simp (maxDischargeDepth := 7) [go_sem, *]; done))
  have hf2_1_1 : w2.cell? ⟨w1.heap.size, 1, none⟩ = some (.int .i64 N1) := (ha _).trans (by first | with_reducible assumption | (simp (maxDischargeDepth := 7) [go_sem]; done) | (simp (maxDischargeDepth := 7) [go_sem, *]; done))
  have hf2_1_2 : w2.cell? ⟨w1.heap.size, 2, none⟩ = some (.int .i64 N2) := (ha _).trans (by first | with_reducible assumption | (simp (maxDischargeDepth := 7) [go_sem]; done) | (simp (maxDischargeDepth := 7) [go_sem, *]; done))
  have hf2_1_3 : w2.cell? ⟨w1.heap.size, 3, none⟩ = some (.int .i64 N3) := (ha _).trans (by first | with_reducible assumption | (simp (maxDischargeDepth := 7) [go_sem]; done) | (simp (maxDischargeDepth := 7) [go_sem, *]; done))
  have hf2_1_4 : w2.cell? ⟨w1.heap.size, 4, none⟩ = some (.int .i64 N4) := (ha _).trans (by first | with_reducible assumption | (simp (maxDischargeDepth := 7) [go_sem]; done) | (simp (maxDischargeDepth := 7) [go_sem, *]; done))
  try have hg2_1 : ∀ o, w2.frozen? ⟨w1.heap.size, o, none⟩ = false := by intro o; rw [hb]; first | (simp (maxDischargeDepth := 7) [go_sem]; done) | (simp (maxDischargeDepth := 7) [go_sem, *]; done)
  clear ha hb
  try clear hf1_0_0
  try clear hf1_0_1
  try clear hf1_0_2
  try clear hf1_0_3
  try clear hf1_0_4
  try clear hf1_0_5
  try clear hf1_0_6
  try clear hg1_0
  have B0 : OwnB (w2.alloc (.cells #[.int .i64 A, .int .u64 a, .int .i64 B, .int .u64 g, .int .i64 D, .int .i64 0, .int .i64 0] 38)) (w.heap.size) [.int .i64 0, .int .u64 0, .int .i64 0, .int .u64 0, .int .i64 0, .int .i64 0, .int .i64 0] := OwnB.alloc (show OwnB w2 (w.heap.size) [.int .i64 0, .int .u64 0, .int .i64 0, .int .u64 0, .int .i64 0, .int .i64 0, .int .i64 0] from ⟨hz2_0, hg2_0, hf2_0_0, hf2_0_1, hf2_0_2, hf2_0_3, hf2_0_4, hf2_0_5, hf2_0_6, trivial⟩) _
  have HC1_0 := Lib.hid B0
  clear B0
  have B1 : OwnB (w2.alloc (.cells #[.int .i64 A, .int .u64 a, .int .i64 B, .int .u64 g, .int .i64 D, .int .i64 0, .int .i64 0] 38)) (w1.heap.size) [.int .i64 N0, .int .i64 N1, .int .i64 N2, .int .i64 N3, .int .i64 N4] := OwnB.alloc (show OwnB w2 (w1.heap.size) [.int .i64 N0, .int .i64 N1, .int .i64 N2, .int .i64 N3, .int .i64 N4] from ⟨hz2_1, hg2_1, hf2_1_0, hf2_1_1, hf2_1_2, hf2_1_3, hf2_1_4, trivial⟩) _
  have HC1_1 := Lib.hid B1
  clear B1
  have B2 : OwnB (w2.alloc (.cells #[.int .i64 A, .int .u64 a, .int .i64 B, .int .u64 g, .int .i64 D, .int .i64 0, .int .i64 0] 38)) (w2.heap.size) [.int .i64 A, .int .u64 a, .int .i64 B, .int .u64 g, .int .i64 D, .int .i64 0, .int .i64 0] := own_alloc _ [.int .i64 A, .int .u64 a, .int .i64 B, .int .u64 g, .int .i64 D, .int .i64 0, .int .i64 0] 38
  have HC1_2 := Lib.hid B2
  clear B2
  go_upto_region 7 with (fail)
  go_cut [] (fun  wx => OwnB wx (w.heap.size) [.int .i64 0, .int .u64 0, .int .i64 0, .int .u64 0, .int .i64 0, .int .i64 0, .int .i64 0] ∧ OwnB wx (w1.heap.size) [.int .i64 N0, .int .i64 N1, .int .i64 N2, .int .i64 N3, .int .i64 N4] ∧ OwnB wx (w2.heap.size) [.int .i64 A, .int .u64 a, .int .i64 B, .int .u64 g, .int .i64 D, .int .i64 px, .int .i64 py] ∧ Kept w wx)
  case first =>
    go_region_held3 (fun W => W.cell? ⟨w2.heap.size, 0, none⟩ = some (.int .i64 A) ∧ W.cell? ⟨w2.heap.size, 1, none⟩ = some (.int .u64 a) ∧ W.cell? ⟨w2.heap.size, 2, none⟩ = some (.int .i64 B) ∧ W.cell? ⟨w2.heap.size, 3, none⟩ = some (.int .u64 g) ∧ W.cell? ⟨w2.heap.size, 4, none⟩ = some (.int .i64 D)) (first | (go_keep; done) | (simp (maxDischargeDepth := 9) [*, World.cell?_alloc_some, World.cell?_setCell_far]; done) | (simp (maxDischargeDepth := 9) [go_sem, *]; done)) (first | (go_at_call 35; (first | with_reducible refine (HX.out _).mono ?_); rintro e w' ⟨rfl, hk⟩; have hz := hk.size; (try (refine kuse (b := w.heap.size) hk (by first | (simp; done) | (simp; omega) | omega) ?_; intro hq0 hg0; have hy0 : w.heap.size < w'.heap.size := (by (try simp at hz); omega); have hn0 : ¬ w.heap.size = w'.heap.size := (by omega); have hm0 : ¬ w.heap.size = w'.heap.size + 1 := (by omega); refine withF (p := w'.cell? ⟨w.heap.size, 0, none⟩ = some (.int .i64 0)) (by first | (rw [hq0]; with_reducible assumption) | (simp (maxDischargeDepth := 7) [go_sem, hq0]; done) | (simp (maxDischargeDepth := 7) [go_sem, hq0, *]; done) | fail) ?_; intro ff00; refine withF (p := w'.cell? ⟨w.heap.size, 1, none⟩ = some (.int .u64 0)) (by first | (rw [hq0]; with_reducible assumption) | (simp (maxDischargeDepth := 7) [go_sem, hq0]; done) | (simp (maxDischargeDepth := 7) [go_sem, hq0, *]; done) | fail) ?_; intro ff01; refine withF (p := w'.cell? ⟨w.heap.size, 2, none⟩ = some (.int .i64 0)) (by first | (rw [hq0]; with_reducible assumption) | (simp (maxDischargeDepth := 7) [go_sem, hq0]; done) | (simp (maxDischargeDepth := 7) [go_sem, hq0, *]; done) | fail) ?_; intro ff02; refine withF (p := w'.cell? ⟨w.heap.size, 3, none⟩ = some (.int .u64 0)) (by first | (rw [hq0]; with_reducible assumption) | (simp (maxDischargeDepth := 7) [go_sem, hq0]; done) | (simp (maxDischargeDepth := 7) [go_sem, hq0, *]; done) | fail) ?_; intro ff03; refine withF (p := w'.cell? ⟨w.heap.size, 4, none⟩ = some (.int .i64 0)) (by first | (rw [hq0]; with_reducible assumption) | (simp (maxDischargeDepth := 7) [go_sem, hq0]; done) | (simp (maxDischargeDepth := 7) [go_sem, hq0, *]; done) | fail) ?_; intro ff04; refine withF (p := w'.cell? ⟨w.heap.size, 5, none⟩ = some (.int .i64 0)) (by first | (rw [hq0]; with_reducible assumption) | (simp (maxDischargeDepth := 7) [go_sem, hq0]; done) | (simp (maxDischargeDepth := 7) [go_sem, hq0, *]; done) | fail) ?_; intro ff05; refine withF (p := w'.cell? ⟨w.heap.size, 6, none⟩ = some (.int .i64 0)) (by first | (rw [hq0]; with_reducible assumption) | (simp (maxDischargeDepth := 7) [go_sem, hq0]; done) | (simp (maxDischargeDepth := 7) [go_sem, hq0, *]; done) | fail) ?_; intro ff06)); (try (refine kuse (b := w1.heap.size) hk (by first | (simp; done) | (simp; omega) | omega) ?_; intro hq1 hg1; have hy1 : w1.heap.size < w'.heap.size := (by (try simp at hz); omega); have hn1 : ¬ w1.heap.size = w'.heap.size := (by omega); have hm1 : ¬ w1.heap.size = w'.heap.size + 1 := (by omega); refine withF (p := w'.cell? ⟨w1.heap.size, 0, none⟩ = some (.int .i64 N0)) (by first | (rw [hq1]; with_reducible assumption) | (simp (maxDischargeDepth := 7) [go_sem, hq1]; done) | (simp (maxDischargeDepth := 7) [go_sem, hq1, *]; done) | fail) ?_; intro ff10; refine withF (p := w'.cell? ⟨w1.heap.size, 1, none⟩ = some (.int .i64 N1)) (by first | (rw [hq1]; with_reducible assumption) | (simp (maxDischargeDepth := 7) [go_sem, hq1]; done) | (simp (maxDischargeDepth := 7) [go_sem, hq1, *]; done) | fail) ?_; intro ff11; refine withF (p := w'.cell? ⟨w1.heap.size, 2, none⟩ = some (.int .i64 N2)) (by first | (rw [hq1]; with_reducible assumption) | (simp (maxDischargeDepth := 7) [go_sem, hq1]; done) | (simp (maxDischargeDepth := 7) [go_sem, hq1, *]; done) | fail) ?_; intro ff12; refine withF (p := w'.cell? ⟨w1.heap.size, 3, none⟩ = some (.int .i64 N3)) (by first | (rw [hq1]; with_reducible assumption) | (simp (maxDischargeDepth := 7) [go_sem, hq1]; done) | (simp (maxDischargeDepth := 7) [go_sem, hq1, *]; done) | fail) ?_; intro ff13; refine withF (p := w'.cell? ⟨w1.heap.size, 4, none⟩ = some (.int .i64 N4)) (by first | (rw [hq1]; with_reducible assumption) | (simp (maxDischargeDepth := 7) [go_sem, hq1]; done) | (simp (maxDischargeDepth := 7) [go_sem, hq1, *]; done) | fail) ?_; intro ff14)); (try (refine kuse (b := w2.heap.size) hk (by first | (simp; done) | (simp; omega) | omega) ?_; intro hq2 hg2; have hy2 : w2.heap.size < w'.heap.size := (by (try simp at hz); omega); have hn2 : ¬ w2.heap.size = w'.heap.size := (by omega); have hm2 : ¬ w2.heap.size = w'.heap.size + 1 := (by omega); refine withF (p := w'.cell? ⟨w2.heap.size, 0, none⟩ = some (.int .i64 A)) (by first | (rw [hq2]; with_reducible assumption) | (simp (maxDischargeDepth := 7) [go_sem, hq2]; done) | (simp (maxDischargeDepth := 7) [go_sem, hq2, *]; done) | fail) ?_; intro ff20; refine withF (p := w'.cell? ⟨w2.heap.size, 1, none⟩ = some (.int .u64 a)) (by first | (rw [hq2]; with_reducible assumption) | (simp (maxDischargeDepth := 7) [go_sem, hq2]; done) | (simp (maxDischargeDepth := 7) [go_sem, hq2, *]; done) | fail) ?_; intro ff21; refine withF (p := w'.cell? ⟨w2.heap.size, 2, none⟩ = some (.int .i64 B)) (by first | (rw [hq2]; with_reducible assumption) | (simp (maxDischargeDepth := 7) [go_sem, hq2]; done) | (simp (maxDischargeDepth := 7) [go_sem, hq2, *]; done) | fail) ?_; intro ff22; refine withF (p := w'.cell? ⟨w2.heap.size, 3, none⟩ = some (.int .u64 g)) (by first | (rw [hq2]; with_reducible assumption) | (simp (maxDischargeDepth := 7) [go_sem, hq2]; done) | (simp (maxDischargeDepth := 7) [go_sem, hq2, *]; done) | fail) ?_; intro ff23; refine withF (p := w'.cell? ⟨w2.heap.size, 4, none⟩ = some (.int .i64 D)) (by first | (rw [hq2]; with_reducible assumption) | (simp (maxDischargeDepth := 7) [go_sem, hq2]; done) | (simp (maxDischargeDepth := 7) [go_sem, hq2, *]; done) | fail) ?_; intro ff24; refine withF (p := w'.cell? ⟨w2.heap.size, 5, none⟩ = some (.int .i64 0)) (by first | (rw [hq2]; with_reducible assumption) | (simp (maxDischargeDepth := 7) [go_sem, hq2]; done) | (simp (maxDischargeDepth := 7) [go_sem, hq2, *]; done) | fail) ?_; intro ff25; refine withF (p := w'.cell? ⟨w2.heap.size, 6, none⟩ = some (.int .i64 0)) (by first | (rw [hq2]; with_reducible assumption) | (simp (maxDischargeDepth := 7) [go_sem, hq2]; done) | (simp (maxDischargeDepth := 7) [go_sem, hq2, *]; done) | fail) ?_; intro ff26))) | (go_at_call 35; (first | with_reducible refine (HY.out _).mono ?_); rintro e w' ⟨rfl, hk⟩; have hz := hk.size; (try (refine kuse (b := w.heap.size) hk (by first | (simp; done) | (simp; omega) | omega) ?_; intro hq0 hg0; have hy0 : w.heap.size < w'.heap.size := (by (try simp at hz); omega); have hn0 : ¬ w.heap.size = w'.heap.size := (by omega); have hm0 : ¬ w.heap.size = w'.heap.size + 1 := (by omega); refine withF (p := w'.cell? ⟨w.heap.size, 0, none⟩ = some (.int .i64 0)) (by first | (rw [hq0]; with_reducible assumption) | (simp (maxDischargeDepth := 7) [go_sem, hq0]; done) | (simp (maxDischargeDepth := 7) [go_sem, hq0, *]; done) | fail) ?_; intro ff00; refine withF (p := w'.cell? ⟨w.heap.size, 1, none⟩ = some (.int .u64 0)) (by first | (rw [hq0]; with_reducible assumption) | (simp (maxDischargeDepth := 7) [go_sem, hq0]; done) | (simp (maxDischargeDepth := 7) [go_sem, hq0, *]; done) | fail) ?_; intro ff01; refine withF (p := w'.cell? ⟨w.heap.size, 2, none⟩ = some (.int .i64 0)) (by first | (rw [hq0]; with_reducible assumption) | (simp (maxDischargeDepth := 7) [go_sem, hq0]; done) | (simp (maxDischargeDepth := 7) [go_sem, hq0, *]; done) | fail) ?_; intro ff02; refine withF (p := w'.cell? ⟨w.heap.size, 3, none⟩ = some (.int .u64 0)) (by first | (rw [hq0]; with_reducible assumption) | (simp (maxDischargeDepth := 7) [go_sem, hq0]; done) | (simp (maxDischargeDepth := 7) [go_sem, hq0, *]; done) | fail) ?_; intro ff03; refine withF (p := w'.cell? ⟨w.heap.size, 4, none⟩ = some (.int .i64 0)) (by first | (rw [hq0]; with_reducible assumption) | (simp (maxDischargeDepth := 7) [go_sem, hq0]; done) | (simp (maxDischargeDepth := 7) [go_sem, hq0, *]; done) | fail) ?_; intro ff04; refine withF (p := w'.cell? ⟨w.heap.size, 5, none⟩ = some (.int .i64 0)) (by first | (rw [hq0]; with_reducible assumption) | (simp (maxDischargeDepth := 7) [go_sem, hq0]; done) | (simp (maxDischargeDepth := 7) [go_sem, hq0, *]; done) | fail) ?_; intro ff05; refine withF (p := w'.cell? ⟨w.heap.size, 6, none⟩ = some (.int .i64 0)) (by first | (rw [hq0]; with_reducible assumption) | (simp (maxDischargeDepth := 7) [go_sem, hq0]; done) | (simp (maxDischargeDepth := 7) [go_sem, hq0, *]; done) | fail) ?_; intro ff06)); (try (refine kuse (b := w1.heap.size) hk (by first | (simp; done) | (simp; omega) | omega) ?_; intro hq1 hg1; have hy1 : w1.heap.size < w'.heap.size := (by (try simp at hz); omega); have hn1 : ¬ w1.heap.size = w'.heap.size := (by omega); have hm1 : ¬ w1.heap.size = w'.heap.size + 1 := (by omega); refine withF (p := w'.cell? ⟨w1.heap.size, 0, none⟩ = some (.int .i64 N0)) (by first | (rw [hq1]; with_reducible assumption) | (simp (maxDischargeDepth := 7) [go_sem, hq1]; done) | (simp (maxDischargeDepth := 7) [go_sem, hq1, *]; done) | fail) ?_; intro ff10; refine withF (p := w'.cell? ⟨w1.heap.size, 1, none⟩ = some (.int .i64 N1)) (by first | (rw [hq1]; with_reducible assumption) | (simp (maxDischargeDepth := 7) [go_sem, hq1]; done) | (simp (maxDischargeDepth := 7) [go_sem, hq1, *]; done) | fail) ?_; intro ff11; refine withF (p := w'.cell? ⟨w1.heap.size, 2, none⟩ = some (.int .i64 N2)) (by first | (rw [hq1]; with_reducible assumption) | (simp (maxDischargeDepth := 7) [go_sem, hq1]; done) | (simp (maxDischargeDepth := 7) [go_sem, hq1, *]; done) | fail) ?_; intro ff12; refine withF (p := w'.cell? ⟨w1.heap.size, 3, none⟩ = some (.int .i64 N3)) (by first | (rw [hq1]; with_reducible assumption) | (simp (maxDischargeDepth := 7) [go_sem, hq1]; done) | (simp (maxDischargeDepth := 7) [go_sem, hq1, *]; done) | fail) ?_; intro ff13; refine withF (p := w'.cell? ⟨w1.heap.size, 4, none⟩ = some (.int .i64 N4)) (by first | (rw [hq1]; with_reducible assumption) | (simp (maxDischargeDepth := 7) [go_sem, hq1]; done) | (simp (maxDischargeDepth := 7) [go_sem, hq1, *]; done) | fail) ?_; intro ff14)); (try (refine kuse (b := w2.heap.size) hk (by first | (simp; done) | (simp; omega) | omega) ?_; intro hq2 hg2; have hy2 : w2.heap.size < w'.heap.size := (by (try simp at hz); omega); have hn2 : ¬ w2.heap.size = w'.heap.size := (by omega); have hm2 : ¬ w2.heap.size = w'.heap.size + 1 := (by omega); refine withF (p := w'.cell? ⟨w2.heap.size, 0, none⟩ = some (.int .i64 A)) (by first | (rw [hq2]; with_reducible assumption) | (simp (maxDischargeDepth := 7) [go_sem, hq2]; done) | (simp (maxDischargeDepth := 7) [go_sem, hq2, *]; done) | fail) ?_; intro ff20; refine withF (p := w'.cell? ⟨w2.heap.size, 1, none⟩ = some (.int .u64 a)) (by first | (rw [hq2]; with_reducible assumption) | (simp (maxDischargeDepth := 7) [go_sem, hq2]; done) | (simp (maxDischargeDepth := 7) [go_sem, hq2, *]; done) | fail) ?_; intro ff21; refine withF (p := w'.cell? ⟨w2.heap.size, 2, none⟩ = some (.int .i64 B)) (by first | (rw [hq2]; with_reducible assumption) | (simp (maxDischargeDepth := 7) [go_sem, hq2]; done) | (simp (maxDischargeDepth := 7) [go_sem, hq2, *]; done) | fail) ?_; intro ff22; refine withF (p := w'.cell? ⟨w2.heap.size, 3, none⟩ = some (.int .u64 g)) (by first | (rw [hq2]; with_reducible assumption) | (simp (maxDischargeDepth := 7) [go_sem, hq2]; done) | (simp (maxDischargeDepth := 7) [go_sem, hq2, *]; done) | fail) ?_; intro ff23; refine withF (p := w'.cell? ⟨w2.heap.size, 4, none⟩ = some (.int .i64 D)) (by first | (rw [hq2]; with_reducible assumption) | (simp (maxDischargeDepth := 7) [go_sem, hq2]; done) | (simp (maxDischargeDepth := 7) [go_sem, hq2, *]; done) | fail) ?_; intro ff24; refine withF (p := w'.cell? ⟨w2.heap.size, 5, none⟩ = some (.int .i64 0)) (by first | (rw [hq2]; with_reducible assumption) | (simp (maxDischargeDepth := 7) [go_sem, hq2]; done) | (simp (maxDischargeDepth := 7) [go_sem, hq2, *]; done) | fail) ?_; intro ff25; refine withF (p := w'.cell? ⟨w2.heap.size, 6, none⟩ = some (.int .i64 0)) (by first | (rw [hq2]; with_reducible assumption) | (simp (maxDischargeDepth := 7) [go_sem, hq2]; done) | (simp (maxDischargeDepth := 7) [go_sem, hq2, *]; done) | fail) ?_; intro ff26))))
    all_goals (try go_wp2_with fail)
    all_goals (go_meet; case rel => exact ⟨(by repeat (first | with_reducible exact HC1_0.out | with_reducible refine OwnB.setOther ?_ (by first | with_reducible assumption | omega | (simp; done) | (simp; omega)) | with_reducible refine OwnB.drew ?_ | with_reducible refine OwnB.drewN ?_ _ | with_reducible refine OwnB.alloc ?_ _ | with_reducible refine OwnB.kept (by with_reducible assumption) ?_)), (by repeat (first | with_reducible exact HC1_1.out | with_reducible refine OwnB.setOther ?_ (by first | with_reducible assumption | omega | (simp; done) | (simp; omega)) | with_reducible refine OwnB.drew ?_ | with_reducible refine OwnB.drewN ?_ _ | with_reducible refine OwnB.alloc ?_ _ | with_reducible refine OwnB.kept (by with_reducible assumption) ?_)), (by repeat (first | with_reducible exact HC1_2.out | with_reducible refine own7_56 (v5 := .int .i64 0) (v6 := .int .i64 0) ?_ | with_reducible refine OwnB.setOther ?_ (by first | with_reducible assumption | omega | (simp; done) | (simp; omega)) | with_reducible refine OwnB.drew ?_ | with_reducible refine OwnB.drewN ?_ _ | with_reducible refine OwnB.alloc ?_ _ | with_reducible refine OwnB.kept (by with_reducible assumption) ?_)), (by repeat (first | with_reducible exact Kept.refl _ | with_reducible assumption | with_reducible refine Kept.setCell ?_ (by first | (simp; done) | (simp; omega) | omega) _ | with_reducible refine Kept.alloc ?_ _ | with_reducible refine Kept.drewN ?_ _ | with_reducible refine Kept.drew ?_ | with_reducible refine Kept.trans ?_ (by with_reducible assumption) | with_reducible refine Kept.dr ?_ (by with_reducible assumption)))⟩)
  case rest =>
  obtain ⟨O1_0, O1_1, O1_2, hkc1⟩ := hcut
  obtain ⟨hz_c1_0, hg_c1_0, hf_c1_0_0, hf_c1_0_1, hf_c1_0_2, hf_c1_0_3, hf_c1_0_4, hf_c1_0_5, hf_c1_0_6, _⟩ := O1_0
  obtain ⟨hz_c1_1, hg_c1_1, hf_c1_1_0, hf_c1_1_1, hf_c1_1_2, hf_c1_1_3, hf_c1_1_4, _⟩ := O1_1
  obtain ⟨hz_c1_2, hg_c1_2, hf_c1_2_0, hf_c1_2_1, hf_c1_2_2, hf_c1_2_3, hf_c1_2_4, hf_c1_2_5, hf_c1_2_6, _⟩ := O1_2
  try clear hf2_0_0
  try clear hf2_0_1
  try clear hf2_0_2
  try clear hf2_0_3
  try clear hf2_0_4
  try clear hf2_0_5
  try clear hf2_0_6
  try clear hf2_1_0
  try clear hf2_1_1
  try clear hf2_1_2
  try clear hf2_1_3
  try clear hf2_1_4
  try clear hg2_0
  try clear hg2_1
  try clear hz2_1
  go_wp2_with fail
  with_reducible refine (HV.out _).mono ?_
  rintro e w3 ⟨rfl, hk3⟩
  refine kuz (b := w.heap.size) hk3 (by first | (simp; done) | (simp; omega) | omega) ?_
  intro ha hb hz3_0 hn3_0 hm3_0
  have hf3_0_0 : w3.cell? ⟨w.heap.size, 0, none⟩ = some (.int .i64 0) := (ha _).trans (by first | with_reducible assumption | (simp (maxDischargeDepth := 7) [go_sem]; done) | (simp (maxDischargeDepth := 7) [go_sem, *]; done))
  have hf3_0_1 : w3.cell? ⟨w.heap.size, 1, none⟩ = some (.int .u64 0) := (ha _).trans (by first | with_reducible assumption | (simp (maxDischargeDepth := 7) [go_sem]; done) | (simp (maxDischargeDepth := 7) [go_sem, *]; done))
  have hf3_0_2 : w3.cell? ⟨w.heap.size, 2, none⟩ = some (.int .i64 0) := (ha _).trans (by first | with_reducible assumption | (simp (maxDischargeDepth := 7) [go_sem]; done) | (simp (maxDischargeDepth := 7) [go_sem, *]; done))
  have hf3_0_3 : w3.cell? ⟨w.heap.size, 3, none⟩ = some (.int .u64 0) := (ha _).trans (by first | with_reducible assumption | (simp (maxDischargeDepth := 7) [go_sem]; done) | (simp (maxDischargeDepth := 7) [go_sem, *]; done))
  have hf3_0_4 : w3.cell? ⟨w.heap.size, 4, none⟩ = some (.int .i64 0) := (ha _).trans (by first | with_reducible assumption | (simp (maxDischargeDepth := 7) [go_sem]; done) | (simp (maxDischargeDepth := 7) [go_sem, *]; done))
  have hf3_0_5 : w3.cell? ⟨w.heap.size, 5, none⟩ = some (.int .i64 0) := (ha _).trans (by first | with_reducible assumption | (simp (maxDischargeDepth := 7) [go_sem]; done) | (simp (maxDischargeDepth := 7) [go_sem, *]; done))
  have hf3_0_6 : w3.cell? ⟨w.heap.size, 6, none⟩ = some (.int .i64 0) := (ha _).trans (by first | with_reducible assumption | (simp (maxDischargeDepth := 7) [go_sem]; done) | (simp (maxDischargeDepth := 7) [go_sem, *]; done))
  try have hg3_0 : ∀ o, w3.frozen? ⟨w.heap.size, o, none⟩ = false := by intro o; rw [hb]; first | (simp (maxDischargeDepth := 7) [go_sem]; done) | (simp (maxDischargeDepth := 7) [go_sem, *]; done)
  clear ha hb
  refine kuz (b := w1.heap.size) hk3 (by first | (simp; done) | (simp; omega) | omega) ?_
  intro ha hb hz3_1 hn3_1 hm3_1
  have hf3_1_0 : w3.cell? ⟨w1.heap.size, 0, none⟩ = some (.int .i64 N0) := (ha _).trans (by first | with_reducible assumption | (simp (maxDischargeDepth := 7) [go_sem]; done) | (simp (maxDischargeDepth := 7) [go_sem, *]; done))
  have hf3_1_1 : w3.cell? ⟨w1.heap.size, 1, none⟩ = some (.int .i64 N1) := (ha _).trans (by first | with_reducible assumption | (simp (maxDischargeDepth := 7) [go_sem]; done) | (simp (maxDischargeDepth := 7) [go_sem, *]; done))
  have hf3_1_2 : w3.cell? ⟨w1.heap.size, 2, none⟩ = some (.int .i64 N2) := (ha _).trans (by first | with_reducible assumption | (simp (maxDischargeDepth := 7) [go_sem]; done) | (simp (maxDischargeDepth := 7) [go_sem, *]; done))
  have hf3_1_3 : w3.cell? ⟨w1.heap.size, 3, none⟩ = some (.int .i64 N3) := (ha _).trans (by first | with_reducible assumption | (simp (maxDischargeDepth := 7) [go_sem]; done) | (simp (maxDischargeDepth := 7) [go_sem, *]; done))
  have hf3_1_4 : w3.cell? ⟨w1.heap.size, 4, none⟩ = some (.int .i64 N4) := (ha _).trans (by first | with_reducible assumption | (simp (maxDischargeDepth := 7) [go_sem]; done) | (simp (maxDischargeDepth := 7) [go_sem, *]; done))
  try have hg3_1 : ∀ o, w3.frozen? ⟨w1.heap.size, o, none⟩ = false := by intro o; rw [hb]; first | (simp (maxDischargeDepth := 7) [go_sem]; done) | (simp (maxDischargeDepth := 7) [go_sem, *]; done)
  clear ha hb
  refine kuz (b := w2.heap.size) hk3 (by first | (simp; done) | (simp; omega) | omega) ?_
  intro ha hb hz3_2 hn3_2 hm3_2
  have hf3_2_0 : w3.cell? ⟨w2.heap.size, 0, none⟩ = some (.int .i64 A) := (ha _).trans (by first | with_reducible assumption | (simp (maxDischargeDepth := 7) [go_sem]; done) | (simp (maxDischargeDepth := 7) [go_sem, *]; done))
  have hf3_2_1 : w3.cell? ⟨w2.heap.size, 1, none⟩ = some (.int .u64 a) := (ha _).trans (by first | with_reducible assumption | (simp (maxDischargeDepth := 7) [go_sem]; done) | (simp (maxDischargeDepth := 7) [go_sem, *]; done))
  have hf3_2_2 : w3.cell? ⟨w2.heap.size, 2, none⟩ = some (.int .i64 B) := (ha _).trans (by first | with_reducible assumption | (simp (maxDischargeDepth := 7) [go_sem]; done) | (simp (maxDischargeDepth := 7) [go_sem, *]; done))
  have hf3_2_3 : w3.cell? ⟨w2.heap.size, 3, none⟩ = some (.int .u64 g) := (ha _).trans (by first | with_reducible assumption | (simp (maxDischargeDepth := 7) [go_sem]; done) | (simp (maxDischargeDepth := 7) [go_sem, *]; done))
  have hf3_2_4 : w3.cell? ⟨w2.heap.size, 4, none⟩ = some (.int .i64 D) := (ha _).trans (by first | with_reducible assumption | (simp (maxDischargeDepth := 7) [go_sem]; done) | (simp (maxDischargeDepth := 7) [go_sem, *]; done))
  have hf3_2_5 : w3.cell? ⟨w2.heap.size, 5, none⟩ = some (.int .i64 px) := (ha _).trans (by first | with_reducible assumption | (simp (maxDischargeDepth := 7) [go_sem]; done) | (simp (maxDischargeDepth := 7) [go_sem, *]; done))
  have hf3_2_6 : w3.cell? ⟨w2.heap.size, 6, none⟩ = some (.int .i64 py) := (ha _).trans (by first | with_reducible assumption | (simp (maxDischargeDepth := 7) [go_sem]; done) | (simp (maxDischargeDepth := 7) [go_sem, *]; done))
  try have hg3_2 : ∀ o, w3.frozen? ⟨w2.heap.size, o, none⟩ = false := by intro o; rw [hb]; first | (simp (maxDischargeDepth := 7) [go_sem]; done) | (simp (maxDischargeDepth := 7) [go_sem, *]; done)
  clear ha hb
  try clear hf_c1_0_0
  try clear hf_c1_0_1
  try clear hf_c1_0_2
  try clear hf_c1_0_3
  try clear hf_c1_0_4
  try clear hf_c1_0_5
  try clear hf_c1_0_6
  try clear hf_c1_1_0
  try clear hf_c1_1_1
  try clear hf_c1_1_2
  try clear hf_c1_1_3
  try clear hf_c1_1_4
  try clear hf_c1_2_0
  try clear hf_c1_2_1
  try clear hf_c1_2_2
  try clear hf_c1_2_3
  try clear hf_c1_2_4
  try clear hf_c1_2_5
  try clear hf_c1_2_6
  try clear hg_c1_0
  try clear hg_c1_1
  try clear hg_c1_2
  have B0 : OwnB w3 (w.heap.size) [.int .i64 0, .int .u64 0, .int .i64 0, .int .u64 0, .int .i64 0, .int .i64 0, .int .i64 0] := show OwnB w3 (w.heap.size) [.int .i64 0, .int .u64 0, .int .i64 0, .int .u64 0, .int .i64 0, .int .i64 0, .int .i64 0] from ⟨hz3_0, hg3_0, hf3_0_0, hf3_0_1, hf3_0_2, hf3_0_3, hf3_0_4, hf3_0_5, hf3_0_6, trivial⟩
  have HC2_0 := Lib.hid B0
  clear B0
  have B1 : OwnB w3 (w1.heap.size) [.int .i64 N0, .int .i64 N1, .int .i64 N2, .int .i64 N3, .int .i64 N4] := show OwnB w3 (w1.heap.size) [.int .i64 N0, .int .i64 N1, .int .i64 N2, .int .i64 N3, .int .i64 N4] from ⟨hz3_1, hg3_1, hf3_1_0, hf3_1_1, hf3_1_2, hf3_1_3, hf3_1_4, trivial⟩
  have HC2_1 := Lib.hid B1
  clear B1
  have B2 : OwnB w3 (w2.heap.size) [.int .i64 A, .int .u64 a, .int .i64 B, .int .u64 g, .int .i64 D, .int .i64 px, .int .i64 py] := show OwnB w3 (w2.heap.size) [.int .i64 A, .int .u64 a, .int .i64 B, .int .u64 g, .int .i64 D, .int .i64 px, .int .i64 py] from ⟨hz3_2, hg3_2, hf3_2_0, hf3_2_1, hf3_2_2, hf3_2_3, hf3_2_4, hf3_2_5, hf3_2_6, trivial⟩
  have HC2_2 := Lib.hid B2
  clear B2
  go_upto_region 9 with (fail)
  go_cut [3] (fun p0 wx => p0 = .int .i64 2 ∧ OwnB wx (w.heap.size) [.int .i64 0, .int .u64 0, .int .i64 0, .int .u64 0, .int .i64 0, .int .i64 0, .int .i64 0] ∧ OwnB wx (w1.heap.size) [.int .i64 N0, .int .i64 N1, .int .i64 N2, .int .i64 N3, .int .i64 N4] ∧ OwnB wx (w2.heap.size) [.int .i64 A, .int .u64 a, .int .i64 B, .int .u64 g, .int .i64 D, .int .i64 px, .int .i64 py] ∧ Kept w wx)
  case first =>
    skip
    all_goals (try go_wp2_with fail)
    all_goals (go_meet; case rel => exact ⟨rfl, (by repeat (first | with_reducible exact HC2_0.out | with_reducible refine own_s7 (u0 := .int .i64 0) (u1 := .int .u64 0) (u2 := .int .i64 0) (u3 := .int .u64 0) (u4 := .int .i64 0) (u5 := .int .i64 0) (u6 := .int .i64 0) ?_ | with_reducible refine OwnB.setOther ?_ (by first | with_reducible assumption | omega | (simp; done) | (simp; omega)) | with_reducible refine OwnB.drew ?_ | with_reducible refine OwnB.drewN ?_ _ | with_reducible refine OwnB.alloc ?_ _ | with_reducible refine OwnB.kept (by with_reducible assumption) ?_)), (by repeat (first | with_reducible exact HC2_1.out | with_reducible refine OwnB.setOther ?_ (by first | with_reducible assumption | omega | (simp; done) | (simp; omega)) | with_reducible refine OwnB.drew ?_ | with_reducible refine OwnB.drewN ?_ _ | with_reducible refine OwnB.alloc ?_ _ | with_reducible refine OwnB.kept (by with_reducible assumption) ?_)), (by repeat (first | with_reducible exact HC2_2.out | with_reducible refine OwnB.setOther ?_ (by first | with_reducible assumption | omega | (simp; done) | (simp; omega)) | with_reducible refine OwnB.drew ?_ | with_reducible refine OwnB.drewN ?_ _ | with_reducible refine OwnB.alloc ?_ _ | with_reducible refine OwnB.kept (by with_reducible assumption) ?_)), (by repeat (first | with_reducible exact Kept.refl _ | with_reducible assumption | with_reducible refine Kept.setCell ?_ (by first | (simp; done) | (simp; omega) | omega) _ | with_reducible refine Kept.alloc ?_ _ | with_reducible refine Kept.drewN ?_ _ | with_reducible refine Kept.drew ?_ | with_reducible refine Kept.trans ?_ (by with_reducible assumption) | with_reducible refine Kept.dr ?_ (by with_reducible assumption)))⟩)
  case rest =>
  obtain ⟨rfl, O2_0, O2_1, O2_2, hkc2⟩ := hcut
  obtain ⟨hz_c2_0, hg_c2_0, hf_c2_0_0, hf_c2_0_1, hf_c2_0_2, hf_c2_0_3, hf_c2_0_4, hf_c2_0_5, hf_c2_0_6, _⟩ := O2_0
  obtain ⟨hz_c2_1, hg_c2_1, hf_c2_1_0, hf_c2_1_1, hf_c2_1_2, hf_c2_1_3, hf_c2_1_4, _⟩ := O2_1
  obtain ⟨hz_c2_2, hg_c2_2, hf_c2_2_0, hf_c2_2_1, hf_c2_2_2, hf_c2_2_3, hf_c2_2_4, hf_c2_2_5, hf_c2_2_6, _⟩ := O2_2
  try clear hf3_0_0
  try clear hf3_0_1
  try clear hf3_0_2
  try clear hf3_0_3
  try clear hf3_0_4
  try clear hf3_0_5
  try clear hf3_0_6
  try clear hf3_1_0
  try clear hf3_1_1
  try clear hf3_1_2
  try clear hf3_1_3
  try clear hf3_1_4
  try clear hf3_2_0
  try clear hf3_2_1
  try clear hf3_2_2
  try clear hf3_2_3
  try clear hf3_2_4
  try clear hf3_2_5
  try clear hf3_2_6
  try clear hg3_0
  try clear hg3_1
  try clear hg3_2
  try clear hz3_1
  try clear hz3_2
  repeat (first | go_values | go_skip | go_guarded | go_step | go_upon)
  all_goals exact bodyPost_ret (v := .tuple #[.agg #[.int .i64 0, .int .u64 0, .int .i64 0, .int .u64 0, .int .i64 0, .int .i64 0, .int .i64 0], .int .i64 2]) (by simp (maxDischargeDepth := 3) [results, Try.results18, go_sem, *]; done) rfl ⟨rfl, (by repeat (first | with_reducible exact Kept.refl _ | with_reducible assumption | with_reducible refine Kept.setCell ?_ (by first | (simp; done) | (simp; omega) | omega) _ | with_reducible refine Kept.alloc ?_ _ | with_reducible refine Kept.drewN ?_ _ | with_reducible refine Kept.drew ?_ | with_reducible refine Kept.trans ?_ (by with_reducible assumption) | with_reducible refine Kept.dr ?_ (by with_reducible assumption)))⟩
end Go.Proofs.Ytoegcfdlecbcjaa
