/-
  Own contracts: the document of layer 42: Solve.
-/
import Derived.Test.YtoegcfdlecbcjaaLsqo
import Derived.Test.YtoegcfdlecbcjaaLsqc
import Derived.WalkKit
import Derived.ProofKit
import Derived.OpenShut
import Derived.WalkLawsBesides
import Derived.WalkSpells
import Derived.Lib.Hide
import Derived.Deep.DeepCutAuto
import Derived.Deep.CutBlock
import Derived.Deep.QuietTactic
import Derived.BigQuiet
import Derived.Handy
import Derived.StillTailTactics
import Derived.IntWalk
import Derived.LoopN
import Derived.Deep.RegionHeld3
namespace Go.Proofs.Ytoegcfdlecbcjaa
open Go.ChangeShapes Go.WideShapes Go.ChangeAt Go.RowKit
set_option linter.unusedVariables false
set_option linter.unusedSimpArgs false
set_option maxHeartbeats 2000000 in
set_option maxRecDepth 100000 in
theorem rsolve_no (p : Option Addr) (n c b o : Nat) (M : Ms) (hn : n ≤ maxLen) (hx : M.chk n ≠ 0) (w : World) (hS : SlM w p n b o M) : Calls Try.prog 19 #[.slice p n c] w fun e w' => e = .returned (.tuple #[.agg #[.int .i64 0, .int .u64 0, .int .i64 0, .int .u64 0, .int .i64 0, .int .i64 0, .int .i64 0], .int .i64 (M.chk n)]) ∧ Kept w w' := by
  have rbz : ∀ w, (Instr.build 38 #[]).run Try.prog w = .ok (.agg #[.int .i64 0, .int .u64 0, .int .i64 0, .int .u64 0, .int .i64 0, .int .i64 0, .int .i64 0]) w := fun w => run_build w 38 #[] _ (by kernel_rfl)
  have HC := Lib.hid (exact_no p n c b o M hn hx)
  have HS := Lib.hid hS
  clear hS
  obtain ⟨E, hE⟩ : ∃ E, M.chk n = E := ⟨_, rfl⟩
  rw [hE] at HC hx
  rw [hE]
  clear hE
  go_enter Try.func19, Try.ntmps19
  go_wp2_with fail
  refine (HC.out _ (HS.out.kept (by repeat (first | with_reducible exact Kept.refl _ | with_reducible assumption | with_reducible refine Kept.setCell ?_ (by first | (simp; done) | (simp; omega) | omega) _ | with_reducible refine Kept.alloc ?_ _ | with_reducible refine Kept.drewN ?_ _ | with_reducible refine Kept.drew ?_ | with_reducible refine Kept.trans ?_ (by with_reducible assumption) | with_reducible refine Kept.dr ?_ (by with_reducible assumption))))).mono ?_
  rintro e w1 ⟨rfl, hk1⟩
  refine kuz (b := w.heap.size) hk1 (by first | (simp; done) | (simp; omega) | omega) ?_
  intro ha hb hz1_0 hn1_0 hm1_0
  have hf1_0_0 : w1.cell? ⟨w.heap.size, 0, none⟩ = some (.int .i64 0) := (ha _).trans (by first | with_reducible assumption | (simp (maxDischargeDepth := 7) [go_sem]; done) | (simp (maxDischargeDepth := 7) [go_sem, *]; done))
  have hf1_0_1 : w1.cell? ⟨w.heap.size, 1, none⟩ = some (.int .u64 0) := (ha _).trans (by first | with_reducible assumption | (simp (maxDischargeDepth := 7) [go_sem]; done) | (simp (maxDischargeDepth := 7) [go_sem, *]; done))
  have hf1_0_2 : w1.cell? ⟨w.heap.size, 2, none⟩ = some (.int .i64 0) := (ha _).trans (by first | with_reducible assumption | (simp (maxDischargeDepth := 7) [go_sem]; done) | (simp (maxDischargeDepth := 7) [go_sem, *]; done))
  have hf1_0_3 : w1.cell? ⟨w.heap.size, 3, none⟩ = some (.int .u64 0) := (ha _).trans (by first | with_reducible assumption | (simp (maxDischargeDepth := 7) [go_sem]; done) | (simp (maxDischargeDepth := 7) [go_sem, *]; done))
  have hf1_0_4 : w1.cell? ⟨w.heap.size, 4, none⟩ = some (.int .i64 0) := (ha _).trans (by first | with_reducible assumption | (simp (maxDischargeDepth := 7) [go_sem]; done) | (simp (maxDischargeDepth := 7) [go_sem, *]; done))
  have hf1_0_5 : w1.cell? ⟨w.heap.size, 5, none⟩ = some (.int .i64 0) := (ha _).trans (by first | with_reducible assumption | (simp (maxDischargeDepth := 7) [go_sem]; done) | (simp (maxDischargeDepth := 7) [go_sem, *]; done))
  have hf1_0_6 : w1.cell? ⟨w.heap.size, 6, none⟩ = some (.int .i64 0) := (ha _).trans (by first | with_reducible assumption | (simp (maxDischargeDepth := 7) [go_sem]; done) | (simp (maxDischargeDepth := 7) [go_sem, *]; done))
  try have hg1_0 : ∀ o, w1.frozen? ⟨w.heap.size, o, none⟩ = false := by intro o; rw [hb]; first | (simp (maxDischargeDepth := 7) [go_sem]; done) | (simp (maxDischargeDepth := 7) [go_sem, *]; done)
  clear ha hb
  have B0 : OwnB w1 (w.heap.size) [.int .i64 0, .int .u64 0, .int .i64 0, .int .u64 0, .int .i64 0, .int .i64 0, .int .i64 0] := show OwnB w1 (w.heap.size) [.int .i64 0, .int .u64 0, .int .i64 0, .int .u64 0, .int .i64 0, .int .i64 0, .int .i64 0] from ⟨hz1_0, hg1_0, hf1_0_0, hf1_0_1, hf1_0_2, hf1_0_3, hf1_0_4, hf1_0_5, hf1_0_6, trivial⟩
  have HC1_0 := Lib.hid B0
  clear B0
  go_upto_region 3 with (fail)
  go_cut [3] (fun p0 wx => p0 = .int .i64 E ∧ OwnB wx (w.heap.size) [.int .i64 0, .int .u64 0, .int .i64 0, .int .u64 0, .int .i64 0, .int .i64 0, .int .i64 0] ∧ Kept w wx)
  case first =>
    skip
    all_goals (try go_wp2_with fail)
    all_goals (go_meet; case rel => exact ⟨rfl, (by repeat (first | with_reducible exact HC1_0.out | with_reducible refine own_s7 (u0 := .int .i64 0) (u1 := .int .u64 0) (u2 := .int .i64 0) (u3 := .int .u64 0) (u4 := .int .i64 0) (u5 := .int .i64 0) (u6 := .int .i64 0) ?_ | with_reducible refine OwnB.setOther ?_ (by first | with_reducible assumption | omega | (simp; done) | (simp; omega)) | with_reducible refine OwnB.drew ?_ | with_reducible refine OwnB.drewN ?_ _ | with_reducible refine OwnB.alloc ?_ _ | with_reducible refine OwnB.kept (by with_reducible assumption) ?_)), (by repeat (first | with_reducible exact Kept.refl _ | with_reducible assumption | with_reducible refine Kept.setCell ?_ (by first | (simp; done) | (simp; omega) | omega) _ | with_reducible refine Kept.alloc ?_ _ | with_reducible refine Kept.drewN ?_ _ | with_reducible refine Kept.drew ?_ | with_reducible refine Kept.trans ?_ (by with_reducible assumption) | with_reducible refine Kept.dr ?_ (by with_reducible assumption)))⟩)
  case rest =>
  obtain ⟨rfl, O1_0, hkc1⟩ := hcut
  obtain ⟨hz_c1_0, hg_c1_0, hf_c1_0_0, hf_c1_0_1, hf_c1_0_2, hf_c1_0_3, hf_c1_0_4, hf_c1_0_5, hf_c1_0_6, _⟩ := O1_0
  try clear hf1_0_0
  try clear hf1_0_1
  try clear hf1_0_2
  try clear hf1_0_3
  try clear hf1_0_4
  try clear hf1_0_5
  try clear hf1_0_6
  try clear hg1_0
  repeat (first | go_values | go_skip | go_guarded | go_step | go_upon)
  all_goals exact bodyPost_ret (v := .tuple #[.agg #[.int .i64 0, .int .u64 0, .int .i64 0, .int .u64 0, .int .i64 0, .int .i64 0, .int .i64 0], .int .i64 E]) (by simp (maxDischargeDepth := 3) [results, Try.results19, go_sem, *]; done) rfl ⟨rfl, (by repeat (first | with_reducible exact Kept.refl _ | with_reducible assumption | with_reducible refine Kept.setCell ?_ (by first | (simp; done) | (simp; omega) | omega) _ | with_reducible refine Kept.alloc ?_ _ | with_reducible refine Kept.drewN ?_ _ | with_reducible refine Kept.drew ?_ | with_reducible refine Kept.trans ?_ (by with_reducible assumption) | with_reducible refine Kept.dr ?_ (by with_reducible assumption)))⟩
set_option maxHeartbeats 2000000 in
set_option maxRecDepth 100000 in
theorem rsolve_rank (p : Option Addr) (n c b o : Nat) (M : Ms) (hn : n ≤ maxLen) (hx : M.chk n = 0) (hd : M.det n = 0) (w : World) (hS : SlM w p n b o M) : Calls Try.prog 19 #[.slice p n c] w fun e w' => e = .returned (.tuple #[.agg #[.int .i64 0, .int .u64 0, .int .i64 0, .int .u64 0, .int .i64 0, .int .i64 0, .int .i64 0], .int .i64 14]) ∧ Kept w w' := by
  have rbz : ∀ w, (Instr.build 38 #[]).run Try.prog w = .ok (.agg #[.int .i64 0, .int .u64 0, .int .i64 0, .int .u64 0, .int .i64 0, .int .i64 0, .int .i64 0]) w := fun w => run_build w 38 #[] _ (by kernel_rfl)
  have HC := Lib.hid (exact_rank p n c b o M hn hx hd)
  have HS := Lib.hid hS
  clear hS
  go_enter Try.func19, Try.ntmps19
  go_wp2_with fail
  refine (HC.out _ (HS.out.kept (by repeat (first | with_reducible exact Kept.refl _ | with_reducible assumption | with_reducible refine Kept.setCell ?_ (by first | (simp; done) | (simp; omega) | omega) _ | with_reducible refine Kept.alloc ?_ _ | with_reducible refine Kept.drewN ?_ _ | with_reducible refine Kept.drew ?_ | with_reducible refine Kept.trans ?_ (by with_reducible assumption) | with_reducible refine Kept.dr ?_ (by with_reducible assumption))))).mono ?_
  rintro e w1 ⟨rfl, hk1⟩
  refine kuz (b := w.heap.size) hk1 (by first | (simp; done) | (simp; omega) | omega) ?_
  intro ha hb hz1_0 hn1_0 hm1_0
  have hf1_0_0 : w1.cell? ⟨w.heap.size, 0, none⟩ = some (.int .i64 0) := (ha _).trans (by first | with_reducible assumption | (simp (maxDischargeDepth := 7) [go_sem]; done) | (simp (maxDischargeDepth := 7) [go_sem, *]; done))
  have hf1_0_1 : w1.cell? ⟨w.heap.size, 1, none⟩ = some (.int .u64 0) := (ha _).trans (by first | with_reducible assumption | (simp (maxDischargeDepth := 7) [go_sem]; done) | (simp (maxDischargeDepth := 7) [go_sem, *]; done))
  have hf1_0_2 : w1.cell? ⟨w.heap.size, 2, none⟩ = some (.int .i64 0) := (ha _).trans (by first | with_reducible assumption | (simp (maxDischargeDepth := 7) [go_sem]; done) | (simp (maxDischargeDepth := 7) [go_sem, *]; done))
  have hf1_0_3 : w1.cell? ⟨w.heap.size, 3, none⟩ = some (.int .u64 0) := (ha _).trans (by first | with_reducible assumption | (simp (maxDischargeDepth := 7) [go_sem]; done) | (simp (maxDischargeDepth := 7) [go_sem, *]; done))
  have hf1_0_4 : w1.cell? ⟨w.heap.size, 4, none⟩ = some (.int .i64 0) := (ha _).trans (by first | with_reducible assumption | (simp (maxDischargeDepth := 7) [go_sem]; done) | (simp (maxDischargeDepth := 7) [go_sem, *]; done))
  have hf1_0_5 : w1.cell? ⟨w.heap.size, 5, none⟩ = some (.int .i64 0) := (ha _).trans (by first | with_reducible assumption | (simp (maxDischargeDepth := 7) [go_sem]; done) | (simp (maxDischargeDepth := 7) [go_sem, *]; done))
  have hf1_0_6 : w1.cell? ⟨w.heap.size, 6, none⟩ = some (.int .i64 0) := (ha _).trans (by first | with_reducible assumption | (simp (maxDischargeDepth := 7) [go_sem]; done) | (simp (maxDischargeDepth := 7) [go_sem, *]; done))
  try have hg1_0 : ∀ o, w1.frozen? ⟨w.heap.size, o, none⟩ = false := by intro o; rw [hb]; first | (simp (maxDischargeDepth := 7) [go_sem]; done) | (simp (maxDischargeDepth := 7) [go_sem, *]; done)
  clear ha hb
  have B0 : OwnB w1 (w.heap.size) [.int .i64 0, .int .u64 0, .int .i64 0, .int .u64 0, .int .i64 0, .int .i64 0, .int .i64 0] := show OwnB w1 (w.heap.size) [.int .i64 0, .int .u64 0, .int .i64 0, .int .u64 0, .int .i64 0, .int .i64 0, .int .i64 0] from ⟨hz1_0, hg1_0, hf1_0_0, hf1_0_1, hf1_0_2, hf1_0_3, hf1_0_4, hf1_0_5, hf1_0_6, trivial⟩
  have HC1_0 := Lib.hid B0
  clear B0
  go_upto_region 3 with (fail)
  go_cut [3] (fun p0 wx => p0 = .int .i64 14 ∧ OwnB wx (w.heap.size) [.int .i64 0, .int .u64 0, .int .i64 0, .int .u64 0, .int .i64 0, .int .i64 0, .int .i64 0] ∧ Kept w wx)
  case first =>
    skip
    all_goals (try go_wp2_with fail)
    all_goals (go_meet; case rel => exact ⟨rfl, (by repeat (first | with_reducible exact HC1_0.out | with_reducible refine own_s7 (u0 := .int .i64 0) (u1 := .int .u64 0) (u2 := .int .i64 0) (u3 := .int .u64 0) (u4 := .int .i64 0) (u5 := .int .i64 0) (u6 := .int .i64 0) ?_ | with_reducible refine OwnB.setOther ?_ (by first | with_reducible assumption | omega | (simp; done) | (simp; omega)) | with_reducible refine OwnB.drew ?_ | with_reducible refine OwnB.drewN ?_ _ | with_reducible refine OwnB.alloc ?_ _ | with_reducible refine OwnB.kept (by with_reducible assumption) ?_)), (by repeat (first | with_reducible exact Kept.refl _ | with_reducible assumption | with_reducible refine Kept.setCell ?_ (by first | (simp; done) | (simp; omega) | omega) _ | with_reducible refine Kept.alloc ?_ _ | with_reducible refine Kept.drewN ?_ _ | with_reducible refine Kept.drew ?_ | with_reducible refine Kept.trans ?_ (by with_reducible assumption) | with_reducible refine Kept.dr ?_ (by with_reducible assumption)))⟩)
  case rest =>
  obtain ⟨rfl, O1_0, hkc1⟩ := hcut
  obtain ⟨hz_c1_0, hg_c1_0, hf_c1_0_0, hf_c1_0_1, hf_c1_0_2, hf_c1_0_3, hf_c1_0_4, hf_c1_0_5, hf_c1_0_6, _⟩ := O1_0
  try clear hf1_0_0
  try clear hf1_0_1
  try clear hf1_0_2
  try clear hf1_0_3
  try clear hf1_0_4
  try clear hf1_0_5
  try clear hf1_0_6
  try clear hg1_0
  repeat (first | go_values | go_skip | go_guarded | go_step | go_upon)
  all_goals exact bodyPost_ret (v := .tuple #[.agg #[.int .i64 0, .int .u64 0, .int .i64 0, .int .u64 0, .int .i64 0, .int .i64 0, .int .i64 0], .int .i64 14]) (by simp (maxDischargeDepth := 3) [results, Try.results19, go_sem, *]; done) rfl ⟨rfl, (by repeat (first | with_reducible exact Kept.refl _ | with_reducible assumption | with_reducible refine Kept.setCell ?_ (by first | (simp; done) | (simp; omega) | omega) _ | with_reducible refine Kept.alloc ?_ _ | with_reducible refine Kept.drewN ?_ _ | with_reducible refine Kept.drew ?_ | with_reducible refine Kept.trans ?_ (by with_reducible assumption) | with_reducible refine Kept.dr ?_ (by with_reducible assumption)))⟩
set_option maxHeartbeats 4000000 in
set_option maxRecDepth 100000 in
theorem rsolve_ok (p : Option Addr) (n c b o : Nat) (M : Ms) (hn : n ≤ maxLen) (hx : M.chk n = 0) (hd : M.det n ≠ 0) (hp : pok (M.px n) (M.py n) = true) (w : World) (hS : SlM w p n b o M) : Calls Try.prog 19 #[.slice p n c] w fun e w' => e = .returned (.tuple #[.agg #[.int .i64 (wh (M.X n)), .int .u64 (wl (M.X n)), .int .i64 (wh (M.Y n)), .int .u64 (wl (M.Y n)), .int .i64 (M.det n), .int .i64 (M.px n), .int .i64 (M.py n)], .int .i64 0]) ∧ Kept w w' := by
  obtain ⟨bx, hby⟩ := pok_nb hp
  have rbz : ∀ w, (Instr.build 38 #[]).run Try.prog w = .ok (.agg #[.int .i64 0, .int .u64 0, .int .i64 0, .int .u64 0, .int .i64 0, .int .i64 0, .int .i64 0]) w := fun w => run_build w 38 #[] _ (by kernel_rfl)
  obtain ⟨n16, hall⟩ := Ms.chk_0 hx
  have mx := mx_of (mb_of n16 hall)
  have dn := det_nn n16 hall
  have dp : 0 < M.det n := by omega
  have d1 := mx.d1.2
  have HX0 := ref_near_w (M.X n) (M.det n) dp (by omega) (by have := mx.X.1; omega) (by have := mx.X.2; omega)
  have HY0 := ref_near_w (M.Y n) (M.det n) dp (by omega) (by have := mx.Y.1; omega) (by have := mx.Y.2; omega)
  have e1 : nq (M.X n) (M.det n) = M.px n := rfl
  have e2 : nq (M.Y n) (M.det n) = M.py n := rfl
  rw [e1] at HX0
  rw [e2] at HY0
  have HC := Lib.hid (exact_ok p n c b o M hn hx hd)
  rw [bx, nv_t bx] at HX0
  rw [hby, nv_t hby] at HY0
  have HV0 := ref_pval_w (M.px n) (M.py n)
  rw [hp] at HV0
  have HV := Lib.hid HV0
  clear HV0
  have HX := Lib.hid HX0
  have HY := Lib.hid HY0
  have HS := Lib.hid hS
  clear HX0 HY0 hS hd mx hall n16 hx hn hp dn d1 dp e1 e2 bx hby
  generalize M.px n = px at *; generalize M.py n = py at *
  generalize wh (M.X n) = A at *; generalize wl (M.X n) = a at *; generalize wh (M.Y n) = B at *; generalize wl (M.Y n) = g at *
  generalize M.det n = D at *
  go_enter Try.func19, Try.ntmps19
  go_wp2_with fail
  refine (HC.out _ (HS.out.kept (by repeat (first | with_reducible exact Kept.refl _ | with_reducible assumption | with_reducible refine Kept.setCell ?_ (by first | (simp; done) | (simp; omega) | omega) _ | with_reducible refine Kept.alloc ?_ _ | with_reducible refine Kept.drewN ?_ _ | with_reducible refine Kept.drew ?_ | with_reducible refine Kept.trans ?_ (by with_reducible assumption) | with_reducible refine Kept.dr ?_ (by with_reducible assumption))))).mono ?_
  rintro e w1 ⟨rfl, hk1⟩
  refine kuz (b := w.heap.size) hk1 (by first | (simp; done) | (simp; omega) | omega) ?_
  intro ha hb hz1_0 hn1_0 hm1_0
  have hf1_0_0 : w1.cell? ⟨w.heap.size, 0, none⟩ = some (.int .i64 0) := (ha _).trans (by first | with_reducible assumption | (simp (maxDischargeDepth := 7) [go_sem]; done) | (simp (maxDischargeDepth := 7) [go_sem, *]; done))
  have hf1_0_1 : w1.cell? ⟨w.heap.size, 1, none⟩ = some (.int .u64 0) := (ha _).trans (by first | with_reducible assumption | (simp (maxDischargeDepth := 7) [go_sem]; done) | (simp (maxDischargeDepth := 7) [go_sem, *]; done))
  have hf1_0_2 : w1.cell? ⟨w.heap.size, 2, none⟩ = some (.int .i64 0) := (ha _).trans (by first | with_reducible assumption | (simp (maxDischargeDepth := 7) [go_sem]; done) | (simp (maxDischargeDepth := 7) [go_sem, *]; done))
  have hf1_0_3 : w1.cell? ⟨w.heap.size, 3, none⟩ = some (.int .u64 0) := (ha _).trans (by first | with_reducible assumption | (simp (maxDischargeDepth := 7) [go_sem]; done) | (simp (maxDischargeDepth := 7) [go_sem, *]; done))
  have hf1_0_4 : w1.cell? ⟨w.heap.size, 4, none⟩ = some (.int .i64 0) := (ha _).trans (by first | with_reducible assumption | (simp (maxDischargeDepth := 7) [go_sem]; done) | (simp (maxDischargeDepth := 7) [go_sem, *]; done))
  have hf1_0_5 : w1.cell? ⟨w.heap.size, 5, none⟩ = some (.int .i64 0) := (ha _).trans (by first | with_reducible assumption | (simp (maxDischargeDepth := 7) [go_sem]; done) | (simp (maxDischargeDepth := 7) [go_sem, *]; done))
  have hf1_0_6 : w1.cell? ⟨w.heap.size, 6, none⟩ = some (.int .i64 0) := (ha _).trans (by first | with_reducible assumption | (simp (maxDischargeDepth := 7) [go_sem]; done) | (simp (maxDischargeDepth := 7) [go_sem, *]; done))
  try have hg1_0 : ∀ o, w1.frozen? ⟨w.heap.size, o, none⟩ = false := by intro o; rw [hb]; first | (simp (maxDischargeDepth := 7) [go_sem]; done) | (simp (maxDischargeDepth := 7) [go_sem, *]; done)
  clear ha hb
  go_wp2_with fail
  with_reducible refine (HX.out _).mono ?_
  rintro e w2 ⟨rfl, hk2⟩
  refine kuz (b := w.heap.size) hk2 (by first | (simp; done) | (simp; omega) | omega) ?_
  intro ha hb hz2_0 hn2_0 hm2_0
  have hf2_0_0 : w2.cell? ⟨w.heap.size, 0, none⟩ = some (.int .i64 0) := (ha _).trans (by first | with_reducible assumption | (simp (maxDischargeDepth := 7) [go_sem]; done) | (simp (maxDischargeDepth := 7) [go_sem, *]; done))
  have hf2_0_1 : w2.cell? ⟨w.heap.size, 1, none⟩ = some (.int .u64 0) := (ha _).trans (by first | with_reducible assumption | (simp (maxDischargeDepth := 7) [go_sem]; done) | (simp (maxDischargeDepth := 7) [go_sem, *]; done))
  have hf2_0_2 : w2.cell? ⟨w.heap.size, 2, none⟩ = some (.int .i64 0) := (ha _).trans (by first | with_reducible assumption | (simp (maxDischargeDepth := 7) [go_sem]; done) | (simp (maxDischargeDepth := 7) [go_sem, *]; done))
  have hf2_0_3 : w2.cell? ⟨w.heap.size, 3, none⟩ = some (.int .u64 0) := (ha _).trans (by first | with_reducible assumption | (simp (maxDischargeDepth := 7) [go_sem]; done) | (simp (maxDischargeDepth := 7) [go_sem, *]; done))
  have hf2_0_4 : w2.cell? ⟨w.heap.size, 4, none⟩ = some (.int .i64 0) := (ha _).trans (by first | with_reducible assumption | (simp (maxDischargeDepth := 7) [go_sem]; done) | (simp (maxDischargeDepth := 7) [go_sem, *]; done))
  have hf2_0_5 : w2.cell? ⟨w.heap.size, 5, none⟩ = some (.int .i64 0) := (ha _).trans (by first | with_reducible assumption | (simp (maxDischargeDepth := 7) [go_sem]; done) | (simp (maxDischargeDepth := 7) [go_sem, *]; done))
  have hf2_0_6 : w2.cell? ⟨w.heap.size, 6, none⟩ = some (.int .i64 0) := (ha _).trans (by first | with_reducible assumption | (simp (maxDischargeDepth := 7) [go_sem]; done) | (simp (maxDischargeDepth := 7) [go_sem, *]; done))
  try have hg2_0 : ∀ o, w2.frozen? ⟨w.heap.size, o, none⟩ = false := by intro o; rw [hb]; first | (simp (maxDischargeDepth := 7) [go_sem]; done) | (simp (maxDischargeDepth := 7) [go_sem, *]; done)
  clear ha hb
  refine kuz (b := w1.heap.size) hk2 (by first | (simp; done) | (simp; omega) | omega) ?_
  intro ha hb hz2_1 hn2_1 hm2_1
  have hf2_1_0 : w2.cell? ⟨w1.heap.size, 0, none⟩ = some (.int .i64 A) := (ha _).trans (by first | with_reducible assumption | (simp (maxDischargeDepth := 7) [go_sem]; done) | (simp (maxDischargeDepth := 7) [go_sem, *]; done))
  have hf2_1_1 : w2.cell? ⟨w1.heap.size, 1, none⟩ = some (.int .u64 a) := (ha _).trans (by first | with_reducible assumption | (simp (maxDischargeDepth := 7) [go_sem]; done) | (simp (maxDischargeDepth := 7) [go_sem, *]; done))
  have hf2_1_2 : w2.cell? ⟨w1.heap.size, 2, none⟩ = some (.int .i64 B) := (ha _).trans (by first | with_reducible assumption | (simp (maxDischargeDepth := 7) [go_sem]; done) | (simp (maxDischargeDepth := 7) [go_sem, *]; done))
  have hf2_1_3 : w2.cell? ⟨w1.heap.size, 3, none⟩ = some (.int .u64 g) := (ha _).trans (by first | with_reducible assumption | (simp (maxDischargeDepth := 7) [go_sem]; done) | (simp (maxDischargeDepth := 7) [go_sem, *]; done))
  have hf2_1_4 : w2.cell? ⟨w1.heap.size, 4, none⟩ = some (.int .i64 D) := (ha _).trans (by first | with_reducible assumption | (simp (maxDischargeDepth := 7) [go_sem]; done) | (simp (maxDischargeDepth := 7) [go_sem, *]; done))
  have hf2_1_5 : w2.cell? ⟨w1.heap.size, 5, none⟩ = some (.int .i64 0) := (ha _).trans (by first | with_reducible assumption | (simp (maxDischargeDepth := 7) [go_sem]; done) | (simp (maxDischargeDepth := 7) [go_sem, *]; done))
  have hf2_1_6 : w2.cell? ⟨w1.heap.size, 6, none⟩ = some (.int .i64 0) := (ha _).trans (by first | with_reducible assumption | (simp (maxDischargeDepth := 7) [go_sem]; done) | (simp (maxDischargeDepth := 7) [go_sem, *]; done))
  try have hg2_1 : ∀ o, w2.frozen? ⟨w1.heap.size, o, none⟩ = false := by intro o; rw [hb]; first | (simp (maxDischargeDepth := 7) [go_sem]; done) | (simp (maxDischargeDepth := 7) [go_sem, *]; done)
  clear ha hb
  try clear hf1_0_0
  try clear hf1_0_1
  try clear hf1_0_2
  try clear hf1_0_3
  try clear hf1_0_4
  try clear hf1_0_5
  try clear hf1_0_6
  try clear hg1_0
  go_wp2_with fail
  with_reducible refine (HY.out _).mono ?_
  rintro e w3 ⟨rfl, hk3⟩
  refine kuz (b := w.heap.size) hk3 (by first | (simp; done) | (simp; omega) | omega) ?_
  intro ha hb hz3_0 hn3_0 hm3_0
  have hf3_0_0 := (ha _).trans hf2_0_0
  have hf3_0_1 := (ha _).trans hf2_0_1
  have hf3_0_2 := (ha _).trans hf2_0_2
  have hf3_0_3 := (ha _).trans hf2_0_3
  have hf3_0_4 := (ha _).trans hf2_0_4
  have hf3_0_5 := (ha _).trans hf2_0_5
  have hf3_0_6 := (ha _).trans hf2_0_6
  have hg3_0 := fun o => (hb o).trans (hg2_0 o)
  clear ha hb
  refine kuz (b := w1.heap.size) hk3 (by first | (simp; done) | (simp; omega) | omega) ?_
  intro ha hb hz3_1 hn3_1 hm3_1
  have hf3_1_0 := (ha _).trans hf2_1_0
  have hf3_1_1 := (ha _).trans hf2_1_1
  have hf3_1_2 := (ha _).trans hf2_1_2
  have hf3_1_3 := (ha _).trans hf2_1_3
  have hf3_1_4 := (ha _).trans hf2_1_4
  have hf3_1_5 := (ha _).trans hf2_1_5
  have hf3_1_6 := (ha _).trans hf2_1_6
  have hg3_1 := fun o => (hb o).trans (hg2_1 o)
  clear ha hb
  try clear hf2_0_0
  try clear hf2_0_1
  try clear hf2_0_2
  try clear hf2_0_3
  try clear hf2_0_4
  try clear hf2_0_5
  try clear hf2_0_6
  try clear hf2_1_0
  try clear hf2_1_1
  try clear hf2_1_2
  try clear hf2_1_3
  try clear hf2_1_4
  try clear hf2_1_5
  try clear hf2_1_6
  try clear hg2_0
  try clear hg2_1
  try clear hz2_1
  go_wp2_with fail
  with_reducible refine (HV.out _).mono ?_
  rintro e w4 ⟨rfl, hk4⟩
  refine kuz (b := w.heap.size) hk4 (by first | (simp; done) | (simp; omega) | omega) ?_
  intro ha hb hz4_0 hn4_0 hm4_0
  have hf4_0_0 : w4.cell? ⟨w.heap.size, 0, none⟩ = some (.int .i64 0) := (ha _).trans (by first | with_reducible assumption | (simp (maxDischargeDepth := 7) [go_sem]; done) | (simp (maxDischargeDepth := 7) [go_sem, *]; done))
  have hf4_0_1 : w4.cell? ⟨w.heap.size, 1, none⟩ = some (.int .u64 0) := (ha _).trans (by first | with_reducible assumption | (simp (maxDischargeDepth := 7) [go_sem]; done) | (simp (maxDischargeDepth := 7) [go_sem, *]; done))
  have hf4_0_2 : w4.cell? ⟨w.heap.size, 2, none⟩ = some (.int .i64 0) := (ha _).trans (by first | with_reducible assumption | (simp (maxDischargeDepth := 7) [go_sem]; done) | (simp (maxDischargeDepth := 7) [go_sem, *]; done))
  have hf4_0_3 : w4.cell? ⟨w.heap.size, 3, none⟩ = some (.int .u64 0) := (ha _).trans (by first | with_reducible assumption | (simp (maxDischargeDepth := 7) [go_sem]; done) | (simp (maxDischargeDepth := 7) [go_sem, *]; done))
  have hf4_0_4 : w4.cell? ⟨w.heap.size, 4, none⟩ = some (.int .i64 0) := (ha _).trans (by first | with_reducible assumption | (simp (maxDischargeDepth := 7) [go_sem]; done) | (simp (maxDischargeDepth := 7) [go_sem, *]; done))
  have hf4_0_5 : w4.cell? ⟨w.heap.size, 5, none⟩ = some (.int .i64 0) := (ha _).trans (by first | with_reducible assumption | (simp (maxDischargeDepth := 7) [go_sem]; done) | (simp (maxDischargeDepth := 7) [go_sem, *]; done))
  have hf4_0_6 : w4.cell? ⟨w.heap.size, 6, none⟩ = some (.int .i64 0) := (ha _).trans (by first | with_reducible assumption | (simp (maxDischargeDepth := 7) [go_sem]; done) | (simp (maxDischargeDepth := 7) [go_sem, *]; done))
  try have hg4_0 : ∀ o, w4.frozen? ⟨w.heap.size, o, none⟩ = false := by intro o; rw [hb]; first | (simp (maxDischargeDepth := 7) [go_sem]; done) | (simp (maxDischargeDepth := 7) [go_sem, *]; done)
  clear ha hb
  refine kuz (b := w1.heap.size) hk4 (by first | (simp; done) | (simp; omega) | omega) ?_
  intro ha hb hz4_1 hn4_1 hm4_1
  have hf4_1_0 : w4.cell? ⟨w1.heap.size, 0, none⟩ = some (.int .i64 A) := (ha _).trans (by first | with_reducible assumption | (simp (maxDischargeDepth := 7) [go_sem]; done) | (simp (maxDischargeDepth := 7) [go_sem, *]; done))
  have hf4_1_1 : w4.cell? ⟨w1.heap.size, 1, none⟩ = some (.int .u64 a) := (ha _).trans (by first | with_reducible assumption | (simp (maxDischargeDepth := 7) [go_sem]; done) | (simp (maxDischargeDepth := 7) [go_sem, *]; done))
  have hf4_1_2 : w4.cell? ⟨w1.heap.size, 2, none⟩ = some (.int .i64 B) := (ha _).trans (by first | with_reducible assumption | (simp (maxDischargeDepth := 7) [go_sem]; done) | (simp (maxDischargeDepth := 7) [go_sem, *]; done))
  have hf4_1_3 : w4.cell? ⟨w1.heap.size, 3, none⟩ = some (.int .u64 g) := (ha _).trans (by first | with_reducible assumption | (simp (maxDischargeDepth := 7) [go_sem]; done) | (simp (maxDischargeDepth := 7) [go_sem, *]; done))
  have hf4_1_4 : w4.cell? ⟨w1.heap.size, 4, none⟩ = some (.int .i64 D) := (ha _).trans (by first | with_reducible assumption | (simp (maxDischargeDepth := 7) [go_sem]; done) | (simp (maxDischargeDepth := 7) [go_sem, *]; done))
  have hf4_1_5 : w4.cell? ⟨w1.heap.size, 5, none⟩ = some (.int .i64 px) := (ha _).trans (by first | with_reducible assumption | (simp (maxDischargeDepth := 7) [go_sem]; done) | (simp (maxDischargeDepth := 7) [go_sem, *]; done))
  have hf4_1_6 : w4.cell? ⟨w1.heap.size, 6, none⟩ = some (.int .i64 py) := (ha _).trans (by first | with_reducible assumption | (simp (maxDischargeDepth := 7) [go_sem]; done) | (simp (maxDischargeDepth := 7) [go_sem, *]; done))
  try have hg4_1 : ∀ o, w4.frozen? ⟨w1.heap.size, o, none⟩ = false := by intro o; rw [hb]; first | (simp (maxDischargeDepth := 7) [go_sem]; done) | (simp (maxDischargeDepth := 7) [go_sem, *]; done)
  clear ha hb
  try clear hf3_0_0
  try clear hf3_0_1
  try clear hf3_0_2
  try clear hf3_0_3
  try clear hf3_0_4
  try clear hf3_0_5
  try clear hf3_0_6
  try clear hf3_1_0
  try clear hf3_1_1
  try clear hf3_1_2
  try clear hf3_1_3
  try clear hf3_1_4
  try clear hf3_1_5
  try clear hf3_1_6
  try clear hg3_0
  try clear hg3_1
  try clear hz3_1
  have B0 : OwnB w4 (w.heap.size) [.int .i64 0, .int .u64 0, .int .i64 0, .int .u64 0, .int .i64 0, .int .i64 0, .int .i64 0] := show OwnB w4 (w.heap.size) [.int .i64 0, .int .u64 0, .int .i64 0, .int .u64 0, .int .i64 0, .int .i64 0, .int .i64 0] from ⟨hz4_0, hg4_0, hf4_0_0, hf4_0_1, hf4_0_2, hf4_0_3, hf4_0_4, hf4_0_5, hf4_0_6, trivial⟩
  have HC1_0 := Lib.hid B0
  clear B0
  have B1 : OwnB w4 (w1.heap.size) [.int .i64 A, .int .u64 a, .int .i64 B, .int .u64 g, .int .i64 D, .int .i64 px, .int .i64 py] := show OwnB w4 (w1.heap.size) [.int .i64 A, .int .u64 a, .int .i64 B, .int .u64 g, .int .i64 D, .int .i64 px, .int .i64 py] from ⟨hz4_1, hg4_1, hf4_1_0, hf4_1_1, hf4_1_2, hf4_1_3, hf4_1_4, hf4_1_5, hf4_1_6, trivial⟩
  have HC1_1 := Lib.hid B1
  clear B1
  go_upto_region 9 with (fail)
  go_cut [3] (fun p0 wx => p0 = .int .i64 0 ∧ OwnB wx (w.heap.size) [.int .i64 A, .int .u64 a, .int .i64 B, .int .u64 g, .int .i64 D, .int .i64 px, .int .i64 py] ∧ OwnB wx (w1.heap.size) [.int .i64 A, .int .u64 a, .int .i64 B, .int .u64 g, .int .i64 D, .int .i64 px, .int .i64 py] ∧ Kept w wx)
  case first =>
    skip
    all_goals (try go_wp2_with fail)
    all_goals (go_meet; case rel => exact ⟨rfl, (by repeat (first | with_reducible exact HC1_0.out | with_reducible refine own_s7 (u0 := .int .i64 0) (u1 := .int .u64 0) (u2 := .int .i64 0) (u3 := .int .u64 0) (u4 := .int .i64 0) (u5 := .int .i64 0) (u6 := .int .i64 0) ?_ | with_reducible refine OwnB.setOther ?_ (by first | with_reducible assumption | omega | (simp; done) | (simp; omega)) | with_reducible refine OwnB.drew ?_ | with_reducible refine OwnB.drewN ?_ _ | with_reducible refine OwnB.alloc ?_ _ | with_reducible refine OwnB.kept (by with_reducible assumption) ?_)), (by repeat (first | with_reducible exact HC1_1.out | with_reducible refine OwnB.setOther ?_ (by first | with_reducible assumption | omega | (simp; done) | (simp; omega)) | with_reducible refine OwnB.drew ?_ | with_reducible refine OwnB.drewN ?_ _ | with_reducible refine OwnB.alloc ?_ _ | with_reducible refine OwnB.kept (by with_reducible assumption) ?_)), (by repeat (first | with_reducible exact Kept.refl _ | with_reducible assumption | with_reducible refine Kept.setCell ?_ (by first | (simp; done) | (simp; omega) | omega) _ | with_reducible refine Kept.alloc ?_ _ | with_reducible refine Kept.drewN ?_ _ | with_reducible refine Kept.drew ?_ | with_reducible refine Kept.trans ?_ (by with_reducible assumption) | with_reducible refine Kept.dr ?_ (by with_reducible assumption)))⟩)
  case rest =>
  obtain ⟨rfl, O1_0, O1_1, hkc1⟩ := hcut
  obtain ⟨hz_c1_0, hg_c1_0, hf_c1_0_0, hf_c1_0_1, hf_c1_0_2, hf_c1_0_3, hf_c1_0_4, hf_c1_0_5, hf_c1_0_6, _⟩ := O1_0
  obtain ⟨hz_c1_1, hg_c1_1, hf_c1_1_0, hf_c1_1_1, hf_c1_1_2, hf_c1_1_3, hf_c1_1_4, hf_c1_1_5, hf_c1_1_6, _⟩ := O1_1
  try clear hf4_0_0
  try clear hf4_0_1
  try clear hf4_0_2
  try clear hf4_0_3
  try clear hf4_0_4
  try clear hf4_0_5
  try clear hf4_0_6
  try clear hf4_1_0
  try clear hf4_1_1
  try clear hf4_1_2
  try clear hf4_1_3
  try clear hf4_1_4
  try clear hf4_1_5
  try clear hf4_1_6
  try clear hg4_0
  try clear hg4_1
  try clear hz4_1
  repeat (first | go_values | go_skip | go_guarded | go_step | go_upon)
  all_goals exact bodyPost_ret (v := .tuple #[.agg #[.int .i64 A, .int .u64 a, .int .i64 B, .int .u64 g, .int .i64 D, .int .i64 px, .int .i64 py], .int .i64 0]) (by simp (maxDischargeDepth := 3) [results, Try.results19, go_sem, *]; done) rfl ⟨rfl, (by repeat (first | with_reducible exact Kept.refl _ | with_reducible assumption | with_reducible refine Kept.setCell ?_ (by first | (simp; done) | (simp; omega) | omega) _ | with_reducible refine Kept.alloc ?_ _ | with_reducible refine Kept.drewN ?_ _ | with_reducible refine Kept.drew ?_ | with_reducible refine Kept.trans ?_ (by with_reducible assumption) | with_reducible refine Kept.dr ?_ (by with_reducible assumption)))⟩
set_option maxHeartbeats 8000000 in
set_option maxRecDepth 100000 in
theorem rsolve_rng (p : Option Addr) (n c b o : Nat) (M : Ms) (hn : n ≤ maxLen) (hx : M.chk n = 0) (hd : M.det n ≠ 0) (hp : pok (M.px n) (M.py n) = false) (w : World) (hS : SlM w p n b o M) : Calls Try.prog 19 #[.slice p n c] w fun e w' => e = .returned (.tuple #[.agg #[.int .i64 0, .int .u64 0, .int .i64 0, .int .u64 0, .int .i64 0, .int .i64 0, .int .i64 0], .int .i64 2]) ∧ Kept w w' := by
  cases bx : nb (M.px n)
  · have rbz : ∀ w, (Instr.build 38 #[]).run Try.prog w = .ok (.agg #[.int .i64 0, .int .u64 0, .int .i64 0, .int .u64 0, .int .i64 0, .int .i64 0, .int .i64 0]) w := fun w => run_build w 38 #[] _ (by kernel_rfl)
    obtain ⟨n16, hall⟩ := Ms.chk_0 hx
    have mx := mx_of (mb_of n16 hall)
    have dn := det_nn n16 hall
    have dp : 0 < M.det n := by omega
    have d1 := mx.d1.2
    have HX0 := ref_near_w (M.X n) (M.det n) dp (by omega) (by have := mx.X.1; omega) (by have := mx.X.2; omega)
    have HY0 := ref_near_w (M.Y n) (M.det n) dp (by omega) (by have := mx.Y.1; omega) (by have := mx.Y.2; omega)
    have e1 : nq (M.X n) (M.det n) = M.px n := rfl
    have e2 : nq (M.Y n) (M.det n) = M.py n := rfl
    rw [e1] at HX0
    rw [e2] at HY0
    have HC := Lib.hid (exact_ok p n c b o M hn hx hd)
    rw [bx] at HX0
    have HX := Lib.hid HX0
    have HY := Lib.hid HY0
    have HS := Lib.hid hS
    clear HX0 HY0 hS hd mx hall n16 hx hn hp dn d1 dp e1 e2 bx
    generalize nv (M.px n) = qx at *; generalize nv (M.py n) = qy at *; generalize nb (M.py n) = by_ at *
    generalize M.px n = px at *; generalize M.py n = py at *
    generalize wh (M.X n) = A at *; generalize wl (M.X n) = a at *; generalize wh (M.Y n) = B at *; generalize wl (M.Y n) = g at *
    generalize M.det n = D at *
    go_enter Try.func19, Try.ntmps19
    go_wp2_with fail
    refine (HC.out _ (HS.out.kept (by repeat (first | with_reducible exact Kept.refl _ | with_reducible assumption | with_reducible refine Kept.setCell ?_ (by first | (simp; done) | (simp; omega) | omega) _ | with_reducible refine Kept.alloc ?_ _ | with_reducible refine Kept.drewN ?_ _ | with_reducible refine Kept.drew ?_ | with_reducible refine Kept.trans ?_ (by with_reducible assumption) | with_reducible refine Kept.dr ?_ (by with_reducible assumption))))).mono ?_
    rintro e w1 ⟨rfl, hk1⟩
    refine kuz (b := w.heap.size) hk1 (by first | (simp; done) | (simp; omega) | omega) ?_
    intro ha hb hz1_0 hn1_0 hm1_0
    have hf1_0_0 : w1.cell? ⟨w.heap.size, 0, none⟩ = some (.int .i64 0) := (ha _).trans (by first | with_reducible assumption | (simp (maxDischargeDepth := 7) [go_sem]; done) | (simp (maxDischargeDepth := 7) [go_sem, *]; done))
    have hf1_0_1 : w1.cell? ⟨w.heap.size, 1, none⟩ = some (.int .u64 0) := (ha _).trans (by first | with_reducible assumption | (simp (maxDischargeDepth := 7) [go_sem]; done) | (simp (maxDischargeDepth := 7) [go_sem, *]; done))
    have hf1_0_2 : w1.cell? ⟨w.heap.size, 2, none⟩ = some (.int .i64 0) := (ha _).trans (by first | with_reducible assumption | (simp (maxDischargeDepth := 7) [go_sem]; done) | (simp (maxDischargeDepth := 7) [go_sem, *]; done))
    have hf1_0_3 : w1.cell? ⟨w.heap.size, 3, none⟩ = some (.int .u64 0) := (ha _).trans (by first | with_reducible assumption | (simp (maxDischargeDepth := 7) [go_sem]; done) | (simp (maxDischargeDepth := 7) [go_sem, *]; done))
    have hf1_0_4 : w1.cell? ⟨w.heap.size, 4, none⟩ = some (.int .i64 0) := (ha _).trans (by first | with_reducible assumption | (simp (maxDischargeDepth := 7) [go_sem]; done) | (simp (maxDischargeDepth := 7) [go_sem, *]; done))
    have hf1_0_5 : w1.cell? ⟨w.heap.size, 5, none⟩ = some (.int .i64 0) := (ha _).trans (by first | with_reducible assumption | (simp (maxDischargeDepth := 7) [go_sem]; done) | (simp (maxDischargeDepth := 7) [go_sem, *]; done))
    have hf1_0_6 : w1.cell? ⟨w.heap.size, 6, none⟩ = some (.int .i64 0) := (ha _).trans (by first | with_reducible assumption | (simp (maxDischargeDepth := 7) [go_sem]; done) | (simp (maxDischargeDepth := 7) [go_sem, *]; done))
    try have hg1_0 : ∀ o, w1.frozen? ⟨w.heap.size, o, none⟩ = false := by intro o; rw [hb]; first | (simp (maxDischargeDepth := 7) [go_sem]; done) | (simp (maxDischargeDepth := 7) [go_sem, *]; done)
    clear ha hb
    go_wp2_with fail
    with_reducible refine (HX.out _).mono ?_
    rintro e w2 ⟨rfl, hk2⟩
    refine kuz (b := w.heap.size) hk2 (by first | (simp; done) | (simp; omega) | omega) ?_
    intro ha hb hz2_0 hn2_0 hm2_0
    have hf2_0_0 : w2.cell? ⟨w.heap.size, 0, none⟩ = some (.int .i64 0) := (ha _).trans (by first | with_reducible assumption | (simp (maxDischargeDepth := 7) [go_sem]; done) | (simp (maxDischargeDepth := 7) [go_sem, *]; done))
    have hf2_0_1 : w2.cell? ⟨w.heap.size, 1, none⟩ = some (.int .u64 0) := (ha _).trans (by first | with_reducible assumption | (simp (maxDischargeDepth := 7) [go_sem]; done) | (simp (maxDischargeDepth := 7) [go_sem, *]; done))
    have hf2_0_2 : w2.cell? ⟨w.heap.size, 2, none⟩ = some (.int .i64 0) := (ha _).trans (by first | with_reducible assumption | (simp (maxDischargeDepth := 7) [go_sem]; done) | (simp (maxDischargeDepth := 7) [go_sem, *]; done))
    have hf2_0_3 : w2.cell? ⟨w.heap.size, 3, none⟩ = some (.int .u64 0) := (ha _).trans (by first | with_reducible assumption | (simp (maxDischargeDepth := 7) [go_sem]; done) | (simp (maxDischargeDepth := 7) [go_sem, *]; done))
    have hf2_0_4 : w2.cell? ⟨w.heap.size, 4, none⟩ = some (.int .i64 0) := (ha _).trans (by first | with_reducible assumption | (simp (maxDischargeDepth := 7) [go_sem]; done) | (simp (maxDischargeDepth := 7) [go_sem, *]; done))
    have hf2_0_5 : w2.cell? ⟨w.heap.size, 5, none⟩ = some (.int .i64 0) := (ha _).trans (by first | with_reducible assumption | (simp (maxDischargeDepth := 7) [go_sem]; done) | (simp (maxDischargeDepth := 7) [go_sem, *]; done))
    have hf2_0_6 : w2.cell? ⟨w.heap.size, 6, none⟩ = some (.int .i64 0) := (ha _).trans (by first | with_reducible assumption | (simp (maxDischargeDepth := 7) [go_sem]; done) | (simp (maxDischargeDepth := 7) [go_sem, *]; done))
    try have hg2_0 : ∀ o, w2.frozen? ⟨w.heap.size, o, none⟩ = false := by intro o; rw [hb]; first | (simp (maxDischargeDepth := 7) [go_sem]; done) | (simp (maxDischargeDepth := 7) [go_sem, *]; done)
    clear ha hb
    refine kuz (b := w1.heap.size) hk2 (by first | (simp; done) | (simp; omega) | omega) ?_
    intro ha hb hz2_1 hn2_1 hm2_1
    have hf2_1_0 : w2.cell? ⟨w1.heap.size, 0, none⟩ = some (.int .i64 A) := (ha _).trans (by first | with_reducible assumption | (simp (maxDischargeDepth := 7) [go_sem]; done) | (simp (maxDischargeDepth := 7) [go_sem, *]; done))
    have hf2_1_1 : w2.cell? ⟨w1.heap.size, 1, none⟩ = some (.int .u64 a) := (ha _).trans (by first | with_reducible assumption | (simp (maxDischargeDepth := 7) [go_sem]; done) | (simp (maxDischargeDepth := 7) [go_sem, *]; done))
    have hf2_1_2 : w2.cell? ⟨w1.heap.size, 2, none⟩ = some (.int .i64 B) := (ha _).trans (by first | with_reducible assumption | (simp (maxDischargeDepth := 7) [go_sem]; done) | (simp (maxDischargeDepth := 7) [go_sem, *]; done))
    have hf2_1_3 : w2.cell? ⟨w1.heap.size, 3, none⟩ = some (.int .u64 g) := (ha _).trans (by first | with_reducible assumption | (simp (maxDischargeDepth := 7) [go_sem]; done) | (simp (maxDischargeDepth := 7) [go_sem, *]; done))
    have hf2_1_4 : w2.cell? ⟨w1.heap.size, 4, none⟩ = some (.int .i64 D) := (ha _).trans (by first | with_reducible assumption | (simp (maxDischargeDepth := 7) [go_sem]; done) | (simp (maxDischargeDepth := 7) [go_sem, *]; done))
    have hf2_1_5 : w2.cell? ⟨w1.heap.size, 5, none⟩ = some (.int .i64 0) := (ha _).trans (by first | with_reducible assumption | (simp (maxDischargeDepth := 7) [go_sem]; done) | (simp (maxDischargeDepth := 7) [go_sem, *]; done))
    have hf2_1_6 : w2.cell? ⟨w1.heap.size, 6, none⟩ = some (.int .i64 0) := (ha _).trans (by first | with_reducible assumption | (simp (maxDischargeDepth := 7) [go_sem]; done) | (simp (maxDischargeDepth := 7) [go_sem, *]; done))
    try have hg2_1 : ∀ o, w2.frozen? ⟨w1.heap.size, o, none⟩ = false := by intro o; rw [hb]; first | (simp (maxDischargeDepth := 7) [go_sem]; done) | (simp (maxDischargeDepth := 7) [go_sem, *]; done)
    clear ha hb
    try clear hf1_0_0
    try clear hf1_0_1
    try clear hf1_0_2
    try clear hf1_0_3
    try clear hf1_0_4
    try clear hf1_0_5
    try clear hf1_0_6
    try clear hg1_0
    go_wp2_with fail
    with_reducible refine (HY.out _).mono ?_
    rintro e w3 ⟨rfl, hk3⟩
    refine kuz (b := w.heap.size) hk3 (by first | (simp; done) | (simp; omega) | omega) ?_
    intro ha hb hz3_0 hn3_0 hm3_0
    have hf3_0_0 := (ha _).trans hf2_0_0
    have hf3_0_1 := (ha _).trans hf2_0_1
    have hf3_0_2 := (ha _).trans hf2_0_2
    have hf3_0_3 := (ha _).trans hf2_0_3
    have hf3_0_4 := (ha _).trans hf2_0_4
    have hf3_0_5 := (ha _).trans hf2_0_5
    have hf3_0_6 := (ha _).trans hf2_0_6
    have hg3_0 := fun o => (hb o).trans (hg2_0 o)
    clear ha hb
    refine kuz (b := w1.heap.size) hk3 (by first | (simp; done) | (simp; omega) | omega) ?_
    intro ha hb hz3_1 hn3_1 hm3_1
    have hf3_1_0 := (ha _).trans hf2_1_0
    have hf3_1_1 := (ha _).trans hf2_1_1
    have hf3_1_2 := (ha _).trans hf2_1_2
    have hf3_1_3 := (ha _).trans hf2_1_3
    have hf3_1_4 := (ha _).trans hf2_1_4
    have hf3_1_5 := (ha _).trans hf2_1_5
    have hf3_1_6 := (ha _).trans hf2_1_6
    have hg3_1 := fun o => (hb o).trans (hg2_1 o)
    clear ha hb
    try clear hf2_0_0
    try clear hf2_0_1
    try clear hf2_0_2
    try clear hf2_0_3
    try clear hf2_0_4
    try clear hf2_0_5
    try clear hf2_0_6
    try clear hf2_1_0
    try clear hf2_1_1
    try clear hf2_1_2
    try clear hf2_1_3
    try clear hf2_1_4
    try clear hf2_1_5
    try clear hf2_1_6
    try clear hg2_0
    try clear hg2_1
    try clear hz2_1
    have B0 : OwnB w3 (w.heap.size) [.int .i64 0, .int .u64 0, .int .i64 0, .int .u64 0, .int .i64 0, .int .i64 0, .int .i64 0] := show OwnB w3 (w.heap.size) [.int .i64 0, .int .u64 0, .int .i64 0, .int .u64 0, .int .i64 0, .int .i64 0, .int .i64 0] from ⟨hz3_0, hg3_0, hf3_0_0, hf3_0_1, hf3_0_2, hf3_0_3, hf3_0_4, hf3_0_5, hf3_0_6, trivial⟩
    have HC1_0 := Lib.hid B0
    clear B0
    go_upto_region 8 with (fail)
    go_cut [3] (fun p0 wx => p0 = .int .i64 2 ∧ OwnB wx (w.heap.size) [.int .i64 0, .int .u64 0, .int .i64 0, .int .u64 0, .int .i64 0, .int .i64 0, .int .i64 0] ∧ Kept w wx)
    case first =>
      skip
      all_goals (try go_wp2_with fail)
      all_goals (go_meet; case rel => exact ⟨rfl, (by repeat (first | with_reducible exact HC1_0.out | with_reducible refine own_s7 (u0 := .int .i64 0) (u1 := .int .u64 0) (u2 := .int .i64 0) (u3 := .int .u64 0) (u4 := .int .i64 0) (u5 := .int .i64 0) (u6 := .int .i64 0) ?_ | with_reducible refine OwnB.setOther ?_ (by first | with_reducible assumption | omega | (simp; done) | (simp; omega)) | with_reducible refine OwnB.drew ?_ | with_reducible refine OwnB.drewN ?_ _ | with_reducible refine OwnB.alloc ?_ _ | with_reducible refine OwnB.kept (by with_reducible assumption) ?_)), (by repeat (first | with_reducible exact Kept.refl _ | with_reducible assumption | with_reducible refine Kept.setCell ?_ (by first | (simp; done) | (simp; omega) | omega) _ | with_reducible refine Kept.alloc ?_ _ | with_reducible refine Kept.drewN ?_ _ | with_reducible refine Kept.drew ?_ | with_reducible refine Kept.trans ?_ (by with_reducible assumption) | with_reducible refine Kept.dr ?_ (by with_reducible assumption)))⟩)
    case rest =>
    obtain ⟨rfl, O1_0, hkc1⟩ := hcut
    obtain ⟨hz_c1_0, hg_c1_0, hf_c1_0_0, hf_c1_0_1, hf_c1_0_2, hf_c1_0_3, hf_c1_0_4, hf_c1_0_5, hf_c1_0_6, _⟩ := O1_0
    try clear hf3_0_0
    try clear hf3_0_1
    try clear hf3_0_2
    try clear hf3_0_3
    try clear hf3_0_4
    try clear hf3_0_5
    try clear hf3_0_6
    try clear hf3_1_0
    try clear hf3_1_1
    try clear hf3_1_2
    try clear hf3_1_3
    try clear hf3_1_4
    try clear hf3_1_5
    try clear hf3_1_6
    try clear hg3_0
    try clear hg3_1
    try clear hz3_1
    repeat (first | go_values | go_skip | go_guarded | go_step | go_upon)
    all_goals exact bodyPost_ret (v := .tuple #[.agg #[.int .i64 0, .int .u64 0, .int .i64 0, .int .u64 0, .int .i64 0, .int .i64 0, .int .i64 0], .int .i64 2]) (by simp (maxDischargeDepth := 3) [results, Try.results19, go_sem, *]; done) rfl ⟨rfl, (by repeat (first | with_reducible exact Kept.refl _ | with_reducible assumption | with_reducible refine Kept.setCell ?_ (by first | (simp; done) | (simp; omega) | omega) _ | with_reducible refine Kept.alloc ?_ _ | with_reducible refine Kept.drewN ?_ _ | with_reducible refine Kept.drew ?_ | with_reducible refine Kept.trans ?_ (by with_reducible assumption) | with_reducible refine Kept.dr ?_ (by with_reducible assumption)))⟩
  · cases hby : nb (M.py n)
    · have rbz : ∀ w, (Instr.build 38 #[]).run Try.prog w = .ok (.agg #[.int .i64 0, .int .u64 0, .int .i64 0, .int .u64 0, .int .i64 0, .int .i64 0, .int .i64 0]) w := fun w => run_build w 38 #[] _ (by kernel_rfl)
      obtain ⟨n16, hall⟩ := Ms.chk_0 hx
      have mx := mx_of (mb_of n16 hall)
      have dn := det_nn n16 hall
      have dp : 0 < M.det n := by omega
      have d1 := mx.d1.2
      have HX0 := ref_near_w (M.X n) (M.det n) dp (by omega) (by have := mx.X.1; omega) (by have := mx.X.2; omega)
      have HY0 := ref_near_w (M.Y n) (M.det n) dp (by omega) (by have := mx.Y.1; omega) (by have := mx.Y.2; omega)
      have e1 : nq (M.X n) (M.det n) = M.px n := rfl
      have e2 : nq (M.Y n) (M.det n) = M.py n := rfl
      rw [e1] at HX0
      rw [e2] at HY0
      have HC := Lib.hid (exact_ok p n c b o M hn hx hd)
      rw [bx, nv_t bx] at HX0
      rw [hby] at HY0
      have HX := Lib.hid HX0
      have HY := Lib.hid HY0
      have HS := Lib.hid hS
      clear HX0 HY0 hS hd mx hall n16 hx hn hp dn d1 dp e1 e2 bx hby
      generalize nv (M.py n) = qy at *
      generalize M.px n = px at *; generalize M.py n = py at *
      generalize wh (M.X n) = A at *; generalize wl (M.X n) = a at *; generalize wh (M.Y n) = B at *; generalize wl (M.Y n) = g at *
      generalize M.det n = D at *
      go_enter Try.func19, Try.ntmps19
      go_wp2_with fail
      refine (HC.out _ (HS.out.kept (by repeat (first | with_reducible exact Kept.refl _ | with_reducible assumption | with_reducible refine Kept.setCell ?_ (by first | (simp; done) | (simp; omega) | omega) _ | with_reducible refine Kept.alloc ?_ _ | with_reducible refine Kept.drewN ?_ _ | with_reducible refine Kept.drew ?_ | with_reducible refine Kept.trans ?_ (by with_reducible assumption) | with_reducible refine Kept.dr ?_ (by with_reducible assumption))))).mono ?_
      rintro e w1 ⟨rfl, hk1⟩
      refine kuz (b := w.heap.size) hk1 (by first | (simp; done) | (simp; omega) | omega) ?_
      intro ha hb hz1_0 hn1_0 hm1_0
      have hf1_0_0 : w1.cell? ⟨w.heap.size, 0, none⟩ = some (.int .i64 0) := (ha _).trans (by first | with_reducible assumption | (simp (maxDischargeDepth := 7) [go_sem]; done) | (simp (maxDischargeDepth := 7) [go_sem, *]; done))
      have hf1_0_1 : w1.cell? ⟨w.heap.size, 1, none⟩ = some (.int .u64 0) := (ha _).trans (by first | with_reducible assumption | (simp (maxDischargeDepth := 7) [go_sem]; done) | (simp (maxDischargeDepth := 7) [go_sem, *]; done))
      have hf1_0_2 : w1.cell? ⟨w.heap.size, 2, none⟩ = some (.int .i64 0) := (ha _).trans (by first | with_reducible assumption | (simp (maxDischargeDepth := 7) [go_sem]; done) | (simp (maxDischargeDepth := 7) [go_sem, *]; done))
      have hf1_0_3 : w1.cell? ⟨w.heap.size, 3, none⟩ = some (.int .u64 0) := (ha _).trans (by first | with_reducible assumption | (simp (maxDischargeDepth := 7) [go_sem]; done) | (simp (maxDischargeDepth := 7) [go_sem, *]; done))
      have hf1_0_4 : w1.cell? ⟨w.heap.size, 4, none⟩ = some (.int .i64 0) := (ha _).trans (by first | with_reducible assumption | (simp (maxDischargeDepth := 7) [go_sem]; done) | (simp (maxDischargeDepth := 7) [go_sem, *]; done))
      have hf1_0_5 : w1.cell? ⟨w.heap.size, 5, none⟩ = some (.int .i64 0) := (ha _).trans (by first | with_reducible assumption | (simp (maxDischargeDepth := 7) [go_sem]; done) | (simp (maxDischargeDepth := 7) [go_sem, *]; done))
      have hf1_0_6 : w1.cell? ⟨w.heap.size, 6, none⟩ = some (.int .i64 0) := (ha _).trans (by first | with_reducible assumption | (simp (maxDischargeDepth := 7) [go_sem]; done) | (simp (maxDischargeDepth := 7) [go_sem, *]; done))
      try have hg1_0 : ∀ o, w1.frozen? ⟨w.heap.size, o, none⟩ = false := by intro o; rw [hb]; first | (simp (maxDischargeDepth := 7) [go_sem]; done) | (simp (maxDischargeDepth := 7) [go_sem, *]; done)
      clear ha hb
      go_wp2_with fail
      with_reducible refine (HX.out _).mono ?_
      rintro e w2 ⟨rfl, hk2⟩
      refine kuz (b := w.heap.size) hk2 (by first | (simp; done) | (simp; omega) | omega) ?_
      intro ha hb hz2_0 hn2_0 hm2_0
      have hf2_0_0 : w2.cell? ⟨w.heap.size, 0, none⟩ = some (.int .i64 0) := (ha _).trans (by first | with_reducible assumption | (simp (maxDischargeDepth := 7) [go_sem]; done) | (simp (maxDischargeDepth := 7) [go_sem, *]; done))
      have hf2_0_1 : w2.cell? ⟨w.heap.size, 1, none⟩ = some (.int .u64 0) := (ha _).trans (by first | with_reducible assumption | (simp (maxDischargeDepth := 7) [go_sem]; done) | (simp (maxDischargeDepth := 7) [go_sem, *]; done))
      have hf2_0_2 : w2.cell? ⟨w.heap.size, 2, none⟩ = some (.int .i64 0) := (ha _).trans (by first | with_reducible assumption | (simp (maxDischargeDepth := 7) [go_sem]; done) | (simp (maxDischargeDepth := 7) [go_sem, *]; done))
      have hf2_0_3 : w2.cell? ⟨w.heap.size, 3, none⟩ = some (.int .u64 0) := (ha _).trans (by first | with_reducible assumption | (simp (maxDischargeDepth := 7) [go_sem]; done) | (simp (maxDischargeDepth := 7) [go_sem, *]; done))
      have hf2_0_4 : w2.cell? ⟨w.heap.size, 4, none⟩ = some (.int .i64 0) := (ha _).trans (by first | with_reducible assumption | (simp (maxDischargeDepth := 7) [go_sem]; done) | (simp (maxDischargeDepth := 7) [go_sem, *]; done))
      have hf2_0_5 : w2.cell? ⟨w.heap.size, 5, none⟩ = some (.int .i64 0) := (ha _).trans (by first | with_reducible assumption | (simp (maxDischargeDepth := 7) [go_sem]; done) | (simp (maxDischargeDepth := 7) [go_sem, *]; done))
      have hf2_0_6 : w2.cell? ⟨w.heap.size, 6, none⟩ = some (.int .i64 0) := (ha _).trans (by first | with_reducible assumption | (simp (maxDischargeDepth := 7) [go_sem]; done) | (simp (maxDischargeDepth := 7) [go_sem, *]; done))
      try have hg2_0 : ∀ o, w2.frozen? ⟨w.heap.size, o, none⟩ = false := by intro o; rw [hb]; first | (simp (maxDischargeDepth := 7) [go_sem]; done) | (simp (maxDischargeDepth := 7) [go_sem, *]; done)
      clear ha hb
      refine kuz (b := w1.heap.size) hk2 (by first | (simp; done) | (simp; omega) | omega) ?_
      intro ha hb hz2_1 hn2_1 hm2_1
      have hf2_1_0 : w2.cell? ⟨w1.heap.size, 0, none⟩ = some (.int .i64 A) := (ha _).trans (by first | with_reducible assumption | (simp (maxDischargeDepth := 7) [go_sem]; done) | (simp (maxDischargeDepth := 7) [go_sem, *]; done))
      have hf2_1_1 : w2.cell? ⟨w1.heap.size, 1, none⟩ = some (.int .u64 a) := (ha _).trans (by first | with_reducible assumption | (simp (maxDischargeDepth := 7) [go_sem]; done) | (simp (maxDischargeDepth := 7) [go_sem, *]; done))
      have hf2_1_2 : w2.cell? ⟨w1.heap.size, 2, none⟩ = some (.int .i64 B) := (ha _).trans (by first | with_reducible assumption | (simp (maxDischargeDepth := 7) [go_sem]; done) | (simp (maxDischargeDepth := 7) [go_sem, *]; done))
      have hf2_1_3 : w2.cell? ⟨w1.heap.size, 3, none⟩ = some (.int .u64 g) := (ha _).trans (by first | with_reducible assumption | (simp (maxDischargeDepth := 7) [go_sem]; done) | (simp (maxDischargeDepth := 7) [go_sem, *]; done))
      have hf2_1_4 : w2.cell? ⟨w1.heap.size, 4, none⟩ = some (.int .i64 D) := (ha _).trans (by first | with_reducible assumption | (simp (maxDischargeDepth := 7) [go_sem]; done) | (simp (maxDischargeDepth := 7) [go_sem, *]; done))
      have hf2_1_5 : w2.cell? ⟨w1.heap.size, 5, none⟩ = some (.int .i64 0) := (ha _).trans (by first | with_reducible assumption | (simp (maxDischargeDepth := 7) [go_sem]; done) | (simp (maxDischargeDepth := 7) [go_sem, *]; done))
      have hf2_1_6 : w2.cell? ⟨w1.heap.size, 6, none⟩ = some (.int .i64 0) := (ha _).trans (by first | with_reducible assumption | (simp (maxDischargeDepth := 7) [go_sem]; done) | (simp (maxDischargeDepth := 7) [go_sem, *]; done))
      try have hg2_1 : ∀ o, w2.frozen? ⟨w1.heap.size, o, none⟩ = false := by intro o; rw [hb]; first | (simp (maxDischargeDepth := 7) [go_sem]; done) | (simp (maxDischargeDepth := 7) [go_sem, *]; done)
      clear ha hb
      try clear hf1_0_0
      try clear hf1_0_1
      try clear hf1_0_2
      try clear hf1_0_3
      try clear hf1_0_4
      try clear hf1_0_5
      try clear hf1_0_6
      try clear hg1_0
      go_wp2_with fail
      with_reducible refine (HY.out _).mono ?_
      rintro e w3 ⟨rfl, hk3⟩
      refine kuz (b := w.heap.size) hk3 (by first | (simp; done) | (simp; omega) | omega) ?_
      intro ha hb hz3_0 hn3_0 hm3_0
      have hf3_0_0 := (ha _).trans hf2_0_0
      have hf3_0_1 := (ha _).trans hf2_0_1
      have hf3_0_2 := (ha _).trans hf2_0_2
      have hf3_0_3 := (ha _).trans hf2_0_3
      have hf3_0_4 := (ha _).trans hf2_0_4
      have hf3_0_5 := (ha _).trans hf2_0_5
      have hf3_0_6 := (ha _).trans hf2_0_6
      have hg3_0 := fun o => (hb o).trans (hg2_0 o)
      clear ha hb
      refine kuz (b := w1.heap.size) hk3 (by first | (simp; done) | (simp; omega) | omega) ?_
      intro ha hb hz3_1 hn3_1 hm3_1
      have hf3_1_0 := (ha _).trans hf2_1_0
      have hf3_1_1 := (ha _).trans hf2_1_1
      have hf3_1_2 := (ha _).trans hf2_1_2
      have hf3_1_3 := (ha _).trans hf2_1_3
      have hf3_1_4 := (ha _).trans hf2_1_4
      have hf3_1_5 := (ha _).trans hf2_1_5
      have hf3_1_6 := (ha _).trans hf2_1_6
      have hg3_1 := fun o => (hb o).trans (hg2_1 o)
      clear ha hb
      try clear hf2_0_0
      try clear hf2_0_1
      try clear hf2_0_2
      try clear hf2_0_3
      try clear hf2_0_4
      try clear hf2_0_5
      try clear hf2_0_6
      try clear hf2_1_0
      try clear hf2_1_1
      try clear hf2_1_2
      try clear hf2_1_3
      try clear hf2_1_4
      try clear hf2_1_5
      try clear hf2_1_6
      try clear hg2_0
      try clear hg2_1
      try clear hz2_1
      have B0 : OwnB w3 (w.heap.size) [.int .i64 0, .int .u64 0, .int .i64 0, .int .u64 0, .int .i64 0, .int .i64 0, .int .i64 0] := show OwnB w3 (w.heap.size) [.int .i64 0, .int .u64 0, .int .i64 0, .int .u64 0, .int .i64 0, .int .i64 0, .int .i64 0] from ⟨hz3_0, hg3_0, hf3_0_0, hf3_0_1, hf3_0_2, hf3_0_3, hf3_0_4, hf3_0_5, hf3_0_6, trivial⟩
      have HC1_0 := Lib.hid B0
      clear B0
      go_upto_region 8 with (fail)
      go_cut [3] (fun p0 wx => p0 = .int .i64 2 ∧ OwnB wx (w.heap.size) [.int .i64 0, .int .u64 0, .int .i64 0, .int .u64 0, .int .i64 0, .int .i64 0, .int .i64 0] ∧ Kept w wx)
      case first =>
        skip
        all_goals (try go_wp2_with fail)
        all_goals (go_meet; case rel => exact ⟨rfl, (by repeat (first | with_reducible exact HC1_0.out | with_reducible refine own_s7 (u0 := .int .i64 0) (u1 := .int .u64 0) (u2 := .int .i64 0) (u3 := .int .u64 0) (u4 := .int .i64 0) (u5 := .int .i64 0) (u6 := .int .i64 0) ?_ | with_reducible refine OwnB.setOther ?_ (by first | with_reducible assumption | omega | (simp; done) | (simp; omega)) | with_reducible refine OwnB.drew ?_ | with_reducible refine OwnB.drewN ?_ _ | with_reducible refine OwnB.alloc ?_ _ | with_reducible refine OwnB.kept (by with_reducible assumption) ?_)), (by repeat (first | with_reducible exact Kept.refl _ | with_reducible assumption | with_reducible refine Kept.setCell ?_ (by first | (simp; done) | (simp; omega) | omega) _ | with_reducible refine Kept.alloc ?_ _ | with_reducible refine Kept.drewN ?_ _ | with_reducible refine Kept.drew ?_ | with_reducible refine Kept.trans ?_ (by with_reducible assumption) | with_reducible refine Kept.dr ?_ (by with_reducible assumption)))⟩)
      case rest =>
      obtain ⟨rfl, O1_0, hkc1⟩ := hcut
      obtain ⟨hz_c1_0, hg_c1_0, hf_c1_0_0, hf_c1_0_1, hf_c1_0_2, hf_c1_0_3, hf_c1_0_4, hf_c1_0_5, hf_c1_0_6, _⟩ := O1_0
      try clear hf3_0_0
      try clear hf3_0_1
      try clear hf3_0_2
      try clear hf3_0_3
      try clear hf3_0_4
      try clear hf3_0_5
      try clear hf3_0_6
      try clear hf3_1_0
      try clear hf3_1_1
      try clear hf3_1_2
      try clear hf3_1_3
      try clear hf3_1_4
      try clear hf3_1_5
      try clear hf3_1_6
      try clear hg3_0
      try clear hg3_1
      try clear hz3_1
      repeat (first | go_values | go_skip | go_guarded | go_step | go_upon)
      all_goals exact bodyPost_ret (v := .tuple #[.agg #[.int .i64 0, .int .u64 0, .int .i64 0, .int .u64 0, .int .i64 0, .int .i64 0, .int .i64 0], .int .i64 2]) (by simp (maxDischargeDepth := 3) [results, Try.results19, go_sem, *]; done) rfl ⟨rfl, (by repeat (first | with_reducible exact Kept.refl _ | with_reducible assumption | with_reducible refine Kept.setCell ?_ (by first | (simp; done) | (simp; omega) | omega) _ | with_reducible refine Kept.alloc ?_ _ | with_reducible refine Kept.drewN ?_ _ | with_reducible refine Kept.drew ?_ | with_reducible refine Kept.trans ?_ (by with_reducible assumption) | with_reducible refine Kept.dr ?_ (by with_reducible assumption)))⟩
    · have rbz : ∀ w, (Instr.build 38 #[]).run Try.prog w = .ok (.agg #[.int .i64 0, .int .u64 0, .int .i64 0, .int .u64 0, .int .i64 0, .int .i64 0, .int .i64 0]) w := fun w => run_build w 38 #[] _ (by kernel_rfl)
      obtain ⟨n16, hall⟩ := Ms.chk_0 hx
      have mx := mx_of (mb_of n16 hall)
      have dn := det_nn n16 hall
      have dp : 0 < M.det n := by omega
      have d1 := mx.d1.2
      have HX0 := ref_near_w (M.X n) (M.det n) dp (by omega) (by have := mx.X.1; omega) (by have := mx.X.2; omega)
      have HY0 := ref_near_w (M.Y n) (M.det n) dp (by omega) (by have := mx.Y.1; omega) (by have := mx.Y.2; omega)
      have e1 : nq (M.X n) (M.det n) = M.px n := rfl
      have e2 : nq (M.Y n) (M.det n) = M.py n := rfl
      rw [e1] at HX0
      rw [e2] at HY0
      have HC := Lib.hid (exact_ok p n c b o M hn hx hd)
      rw [bx, nv_t bx] at HX0
      rw [hby, nv_t hby] at HY0
      have HV0 := ref_pval_w (M.px n) (M.py n)
      rw [hp] at HV0
      have HV := Lib.hid HV0
      clear HV0
      have HX := Lib.hid HX0
      have HY := Lib.hid HY0
      have HS := Lib.hid hS
      clear HX0 HY0 hS hd mx hall n16 hx hn hp dn d1 dp e1 e2 bx hby
      generalize M.px n = px at *; generalize M.py n = py at *
      generalize wh (M.X n) = A at *; generalize wl (M.X n) = a at *; generalize wh (M.Y n) = B at *; generalize wl (M.Y n) = g at *
      generalize M.det n = D at *
      go_enter Try.func19, Try.ntmps19
      go_wp2_with fail
      refine (HC.out _ (HS.out.kept (by repeat (first | with_reducible exact Kept.refl _ | with_reducible assumption | with_reducible refine Kept.setCell ?_ (by first | (simp; done) | (simp; omega) | omega) _ | with_reducible refine Kept.alloc ?_ _ | with_reducible refine Kept.drewN ?_ _ | with_reducible refine Kept.drew ?_ | with_reducible refine Kept.trans ?_ (by with_reducible assumption) | with_reducible refine Kept.dr ?_ (by with_reducible assumption))))).mono ?_
      rintro e w1 ⟨rfl, hk1⟩
      refine kuz (b := w.heap.size) hk1 (by first | (simp; done) | (simp; omega) | omega) ?_
      intro ha hb hz1_0 hn1_0 hm1_0
      have hf1_0_0 : w1.cell? ⟨w.heap.size, 0, none⟩ = some (.int .i64 0) := (ha _).trans (by first | with_reducible assumption | (simp (maxDischargeDepth := 7) [go_sem]; done) | (simp (maxDischargeDepth := 7) [go_sem, *]; done))
      have hf1_0_1 : w1.cell? ⟨w.heap.size, 1, none⟩ = some (.int .u64 0) := (ha _).trans (by first | with_reducible assumption | (simp (maxDischargeDepth := 7) [go_sem]; done) | (simp (maxDischargeDepth := 7) [go_sem, *]; done))
      have hf1_0_2 : w1.cell? ⟨w.heap.size, 2, none⟩ = some (.int .i64 0) := (ha _).trans (by first | with_reducible assumption | (simp (maxDischargeDepth := 7) [go_sem]; done) | (simp (maxDischargeDepth := 7) [go_sem, *]; done))
      have hf1_0_3 : w1.cell? ⟨w.heap.size, 3, none⟩ = some (.int .u64 0) := (ha _).trans (by first | with_reducible assumption | (simp (maxDischargeDepth := 7) [go_sem]; done) | (simp (maxDischargeDepth := 7) [go_sem, *]; done))
      have hf1_0_4 : w1.cell? ⟨w.heap.size, 4, none⟩ = some (.int .i64 0) := (ha _).trans (by first | with_reducible assumption | (simp (maxDischargeDepth := 7) [go_sem]; done) | (simp (maxDischargeDepth := 7) [go_sem, *]; done))
      have hf1_0_5 : w1.cell? ⟨w.heap.size, 5, none⟩ = some (.int .i64 0) := (ha _).trans (by first | with_reducible assumption | (simp (maxDischargeDepth := 7) [go_sem]; done) | (simp (maxDischargeDepth := 7) [go_sem, *]; done))
      have hf1_0_6 : w1.cell? ⟨w.heap.size, 6, none⟩ = some (.int .i64 0) := (ha _).trans (by first | with_reducible assumption | (simp (maxDischargeDepth := 7) [go_sem]; done) | (simp (maxDischargeDepth := 7) [go_sem, *]; done))
      try have hg1_0 : ∀ o, w1.frozen? ⟨w.heap.size, o, none⟩ = false := by intro o; rw [hb]; first | (simp (maxDischargeDepth := 7) [go_sem]; done) | (simp (maxDischargeDepth := 7) [go_sem, *]; done)
      clear ha hb
      go_wp2_with fail
      with_reducible refine (HX.out _).mono ?_
      rintro e w2 ⟨rfl, hk2⟩
      refine kuz (b := w.heap.size) hk2 (by first | (simp; done) | (simp; omega) | omega) ?_
      intro ha hb hz2_0 hn2_0 hm2_0
      have hf2_0_0 : w2.cell? ⟨w.heap.size, 0, none⟩ = some (.int .i64 0) := (ha _).trans (by first | with_reducible assumption | (simp (maxDischargeDepth := 7) [go_sem]; done) | (simp (maxDischargeDepth := 7) [go_sem, *]; done))
      have hf2_0_1 : w2.cell? ⟨w.heap.size, 1, none⟩ = some (.int .u64 0) := (ha _).trans (by first | with_reducible assumption | (simp (maxDischargeDepth := 7) [go_sem]; done) | (simp (maxDischargeDepth := 7) [go_sem, *]; done))
      have hf2_0_2 : w2.cell? ⟨w.heap.size, 2, none⟩ = some (.int .i64 0) := (ha _).trans (by first | with_reducible assumption | (simp (maxDischargeDepth := 7) [go_sem]; done) | (simp (maxDischargeDepth := 7) [go_sem, *]; done))
      have hf2_0_3 : w2.cell? ⟨w.heap.size, 3, none⟩ = some (.int .u64 0) := (ha _).trans (by first | with_reducible assumption | (simp (maxDischargeDepth := 7) [go_sem]; done) | (simp (maxDischargeDepth := 7) [go_sem, *]; done))
      have hf2_0_4 : w2.cell? ⟨w.heap.size, 4, none⟩ = some (.int .i64 0) := (ha _).trans (by first | with_reducible assumption | (simp (maxDischargeDepth := 7) [go_sem]; done) | (simp (maxDischargeDepth := 7) [go_sem, *]; done))
      have hf2_0_5 : w2.cell? ⟨w.heap.size, 5, none⟩ = some (.int .i64 0) := (ha _).trans (by first | with_reducible assumption | (simp (maxDischargeDepth := 7) [go_sem]; done) | (simp (maxDischargeDepth := 7) [go_sem, *]; done))
      have hf2_0_6 : w2.cell? ⟨w.heap.size, 6, none⟩ = some (.int .i64 0) := (ha _).trans (by first | with_reducible assumption | (simp (maxDischargeDepth := 7) [go_sem]; done) | (simp (maxDischargeDepth := 7) [go_sem, *]; done))
      try have hg2_0 : ∀ o, w2.frozen? ⟨w.heap.size, o, none⟩ = false := by intro o; rw [hb]; first | (simp (maxDischargeDepth := 7) [go_sem]; done) | (simp (maxDischargeDepth := 7) [go_sem, *]; done)
      clear ha hb
      refine kuz (b := w1.heap.size) hk2 (by first | (simp; done) | (simp; omega) | omega) ?_
      intro ha hb hz2_1 hn2_1 hm2_1
      have hf2_1_0 : w2.cell? ⟨w1.heap.size, 0, none⟩ = some (.int .i64 A) := (ha _).trans (by first | with_reducible assumption | (simp (maxDischargeDepth := 7) [go_sem]; done) | (simp (maxDischargeDepth := 7) [go_sem, *]; done))
      have hf2_1_1 : w2.cell? ⟨w1.heap.size, 1, none⟩ = some (.int .u64 a) := (ha _).trans (by first | with_reducible assumption | (simp (maxDischargeDepth := 7) [go_sem]; done) | (simp (maxDischargeDepth := 7) [go_sem, *]; done))
      have hf2_1_2 : w2.cell? ⟨w1.heap.size, 2, none⟩ = some (.int .i64 B) := (ha _).trans (by first | with_reducible assumption | (simp (maxDischargeDepth := 7) [go_sem]; done) | (simp (maxDischargeDepth := 7) [go_sem, *]; done))
      have hf2_1_3 : w2.cell? ⟨w1.heap.size, 3, none⟩ = some (.int .u64 g) := (ha _).trans (by first | with_reducible assumption | (simp (maxDischargeDepth := 7) [go_sem]; done) | (simp (maxDischargeDepth := 7) [go_sem, *]; done))
      have hf2_1_4 : w2.cell? ⟨w1.heap.size, 4, none⟩ = some (.int .i64 D) := (ha _).trans (by first | with_reducible assumption | (simp (maxDischargeDepth := 7) [go_sem]; done) | (simp (maxDischargeDepth := 7) [go_sem, *]; done))
      have hf2_1_5 : w2.cell? ⟨w1.heap.size, 5, none⟩ = some (.int .i64 0) := (ha _).trans (by first | with_reducible assumption | (simp (maxDischargeDepth := 7) [go_sem]; done) | (simp (maxDischargeDepth := 7) [go_sem, *]; done))
      have hf2_1_6 : w2.cell? ⟨w1.heap.size, 6, none⟩ = some (.int .i64 0) := (ha _).trans (by first | with_reducible assumption | (simp (maxDischargeDepth := 7) [go_sem]; done) | (simp (maxDischargeDepth := 7) [go_sem, *]; done))
      try have hg2_1 : ∀ o, w2.frozen? ⟨w1.heap.size, o, none⟩ = false := by intro o; rw [hb]; first | (simp (maxDischargeDepth := 7) [go_sem]; done) | (simp (maxDischargeDepth := 7) [go_sem, *]; done)
      clear ha hb
      try clear hf1_0_0
      try clear hf1_0_1
      try clear hf1_0_2
      try clear hf1_0_3
      try clear hf1_0_4
      try clear hf1_0_5
      try clear hf1_0_6
      try clear hg1_0
      go_wp2_with fail
      with_reducible refine (HY.out _).mono ?_
      rintro e w3 ⟨rfl, hk3⟩
      refine kuz (b := w.heap.size) hk3 (by first | (simp; done) | (simp; omega) | omega) ?_
      intro ha hb hz3_0 hn3_0 hm3_0
      have hf3_0_0 := (ha _).trans hf2_0_0
      have hf3_0_1 := (ha _).trans hf2_0_1
      have hf3_0_2 := (ha _).trans hf2_0_2
      have hf3_0_3 := (ha _).trans hf2_0_3
      have hf3_0_4 := (ha _).trans hf2_0_4
      have hf3_0_5 := (ha _).trans hf2_0_5
      have hf3_0_6 := (ha _).trans hf2_0_6
      have hg3_0 := fun o => (hb o).trans (hg2_0 o)
      clear ha hb
      refine kuz (b := w1.heap.size) hk3 (by first | (simp; done) | (simp; omega) | omega) ?_
      intro ha hb hz3_1 hn3_1 hm3_1
      have hf3_1_0 := (ha _).trans hf2_1_0
      have hf3_1_1 := (ha _).trans hf2_1_1
      have hf3_1_2 := (ha _).trans hf2_1_2
      have hf3_1_3 := (ha _).trans hf2_1_3
      have hf3_1_4 := (ha _).trans hf2_1_4
      have hf3_1_5 := (ha _).trans hf2_1_5
      have hf3_1_6 := (ha _).trans hf2_1_6
      have hg3_1 := fun o => (hb o).trans (hg2_1 o)
      clear ha hb
      try clear hf2_0_0
      try clear hf2_0_1
      try clear hf2_0_2
      try clear hf2_0_3
      try clear hf2_0_4
      try clear hf2_0_5
      try clear hf2_0_6
      try clear hf2_1_0
      try clear hf2_1_1
      try clear hf2_1_2
      try clear hf2_1_3
      try clear hf2_1_4
      try clear hf2_1_5
      try clear hf2_1_6
      try clear hg2_0
      try clear hg2_1
      try clear hz2_1
      go_wp2_with fail
      with_reducible refine (HV.out _).mono ?_
      rintro e w4 ⟨rfl, hk4⟩
      refine kuz (b := w.heap.size) hk4 (by first | (simp; done) | (simp; omega) | omega) ?_
      intro ha hb hz4_0 hn4_0 hm4_0
      have hf4_0_0 : w4.cell? ⟨w.heap.size, 0, none⟩ = some (.int .i64 0) := (ha _).trans (by first | with_reducible assumption | (simp (maxDischargeDepth := 7) [go_sem]; done) | (simp (maxDischargeDepth := 7) [go_sem, *]; done))
      have hf4_0_1 : w4.cell? ⟨w.heap.size, 1, none⟩ = some (.int .u64 0) := (ha _).trans (by first | with_reducible assumption | (simp (maxDischargeDepth := 7) [go_sem]; done) | (simp (maxDischargeDepth := 7) [go_sem, *]; done))
      have hf4_0_2 : w4.cell? ⟨w.heap.size, 2, none⟩ = some (.int .i64 0) := (ha _).trans (by first | with_reducible assumption | (simp (maxDischargeDepth := 7) [go_sem]; done) | (simp (maxDischargeDepth := 7) [go_sem, *]; done))
      have hf4_0_3 : w4.cell? ⟨w.heap.size, 3, none⟩ = some (.int .u64 0) := (ha _).trans (by first | with_reducible assumption | (simp (maxDischargeDepth := 7) [go_sem]; done) | (simp (maxDischargeDepth := 7) [go_sem, *]; done))
      have hf4_0_4 : w4.cell? ⟨w.heap.size, 4, none⟩ = some (.int .i64 0) := (ha _).trans (by first | with_reducible assumption | (simp (maxDischargeDepth := 7) [go_sem]; done) | (simp (maxDischargeDepth := 7) [go_sem, *]; done))
      have hf4_0_5 : w4.cell? ⟨w.heap.size, 5, none⟩ = some (.int .i64 0) := (ha _).trans (by first | with_reducible assumption | (simp (maxDischargeDepth := 7) [go_sem]; done) | (simp (maxDischargeDepth := 7) [go_sem, *]; done))
      have hf4_0_6 : w4.cell? ⟨w.heap.size, 6, none⟩ = some (.int .i64 0) := (ha _).trans (by first | with_reducible assumption | (simp (maxDischargeDepth := 7) [go_sem]; done) | (simp (maxDischargeDepth := 7) [go_sem, *]; done))
      try have hg4_0 : ∀ o, w4.frozen? ⟨w.heap.size, o, none⟩ = false := by intro o; rw [hb]; first | (simp (maxDischargeDepth := 7) [go_sem]; done) | (simp (maxDischargeDepth := 7) [go_sem, *]; done)
      clear ha hb
      refine kuz (b := w1.heap.size) hk4 (by first | (simp; done) | (simp; omega) | omega) ?_
      intro ha hb hz4_1 hn4_1 hm4_1
      have hf4_1_0 : w4.cell? ⟨w1.heap.size, 0, none⟩ = some (.int .i64 A) := (ha _).trans (by first | with_reducible assumption | (simp (maxDischargeDepth := 7) [go_sem]; done) | (simp (maxDischargeDepth := 7) [go_sem, *]; done))
      have hf4_1_1 : w4.cell? ⟨w1.heap.size, 1, none⟩ = some (.int .u64 a) := (ha _).trans (by first | with_reducible assumption | (simp (maxDischargeDepth := 7) [go_sem]; done) | (simp (maxDischargeDepth := 7) [go_sem, *]; done))
      have hf4_1_2 : w4.cell? ⟨w1.heap.size, 2, none⟩ = some (.int .i64 B) := (ha _).trans (by first | with_reducible assumption | (simp (maxDischargeDepth := 7) [go_sem]; done) | (simp (maxDischargeDepth := 7) [go_sem, *]; done))
      have hf4_1_3 : w4.cell? ⟨w1.heap.size, 3, none⟩ = some (.int .u64 g) := (ha _).trans (by first | with_reducible assumption | (simp (maxDischargeDepth := 7) [go_sem]; done) | (simp (maxDischargeDepth := 7) [go_sem, *]; done))
      have hf4_1_4 : w4.cell? ⟨w1.heap.size, 4, none⟩ = some (.int .i64 D) := (ha _).trans (by first | with_reducible assumption | (simp (maxDischargeDepth := 7) [go_sem]; done) | (simp (maxDischargeDepth := 7) [go_sem, *]; done))
      have hf4_1_5 : w4.cell? ⟨w1.heap.size, 5, none⟩ = some (.int .i64 px) := (ha _).trans (by first | with_reducible assumption | (simp (maxDischargeDepth := 7) [go_sem]; done) | (simp (maxDischargeDepth := 7) [go_sem, *]; done))
      have hf4_1_6 : w4.cell? ⟨w1.heap.size, 6, none⟩ = some (.int .i64 py) := (ha _).trans (by first | with_reducible assumption | (simp (maxDischargeDepth := 7) [go_sem]; done) | (simp (maxDischargeDepth := 7) [go_sem, *]; done))
      try have hg4_1 : ∀ o, w4.frozen? ⟨w1.heap.size, o, none⟩ = false := by intro o; rw [hb]; first | (simp (maxDischargeDepth := 7) [go_sem]; done) | (simp (maxDischargeDepth := 7) [go_sem, *]; done)
      clear ha hb
      try clear hf3_0_0
      try clear hf3_0_1
      try clear hf3_0_2
      try clear hf3_0_3
      try clear hf3_0_4
      try clear hf3_0_5
      try clear hf3_0_6
      try clear hf3_1_0
      try clear hf3_1_1
      try clear hf3_1_2
      try clear hf3_1_3
      try clear hf3_1_4
      try clear hf3_1_5
      try clear hf3_1_6
      try clear hg3_0
      try clear hg3_1
      try clear hz3_1
      have B0 : OwnB w4 (w.heap.size) [.int .i64 0, .int .u64 0, .int .i64 0, .int .u64 0, .int .i64 0, .int .i64 0, .int .i64 0] := show OwnB w4 (w.heap.size) [.int .i64 0, .int .u64 0, .int .i64 0, .int .u64 0, .int .i64 0, .int .i64 0, .int .i64 0] from ⟨hz4_0, hg4_0, hf4_0_0, hf4_0_1, hf4_0_2, hf4_0_3, hf4_0_4, hf4_0_5, hf4_0_6, trivial⟩
      have HC1_0 := Lib.hid B0
      clear B0
      have B1 : OwnB w4 (w1.heap.size) [.int .i64 A, .int .u64 a, .int .i64 B, .int .u64 g, .int .i64 D, .int .i64 px, .int .i64 py] := show OwnB w4 (w1.heap.size) [.int .i64 A, .int .u64 a, .int .i64 B, .int .u64 g, .int .i64 D, .int .i64 px, .int .i64 py] from ⟨hz4_1, hg4_1, hf4_1_0, hf4_1_1, hf4_1_2, hf4_1_3, hf4_1_4, hf4_1_5, hf4_1_6, trivial⟩
      have HC1_1 := Lib.hid B1
      clear B1
      go_upto_region 8 with (fail)
      go_cut [3] (fun p0 wx => p0 = .int .i64 2 ∧ OwnB wx (w.heap.size) [.int .i64 0, .int .u64 0, .int .i64 0, .int .u64 0, .int .i64 0, .int .i64 0, .int .i64 0] ∧ OwnB wx (w1.heap.size) [.int .i64 A, .int .u64 a, .int .i64 B, .int .u64 g, .int .i64 D, .int .i64 px, .int .i64 py] ∧ Kept w wx)
      case first =>
        skip
        all_goals (try go_wp2_with fail)
        all_goals (go_meet; case rel => exact ⟨rfl, (by repeat (first | with_reducible exact HC1_0.out | with_reducible refine own_s7 (u0 := .int .i64 0) (u1 := .int .u64 0) (u2 := .int .i64 0) (u3 := .int .u64 0) (u4 := .int .i64 0) (u5 := .int .i64 0) (u6 := .int .i64 0) ?_ | with_reducible refine OwnB.setOther ?_ (by first | with_reducible assumption | omega | (simp; done) | (simp; omega)) | with_reducible refine OwnB.drew ?_ | with_reducible refine OwnB.drewN ?_ _ | with_reducible refine OwnB.alloc ?_ _ | with_reducible refine OwnB.kept (by with_reducible assumption) ?_)), (by repeat (first | with_reducible exact HC1_1.out | with_reducible refine OwnB.setOther ?_ (by first | with_reducible assumption | omega | (simp; done) | (simp; omega)) | with_reducible refine OwnB.drew ?_ | with_reducible refine OwnB.drewN ?_ _ | with_reducible refine OwnB.alloc ?_ _ | with_reducible refine OwnB.kept (by with_reducible assumption) ?_)), (by repeat (first | with_reducible exact Kept.refl _ | with_reducible assumption | with_reducible refine Kept.setCell ?_ (by first | (simp; done) | (simp; omega) | omega) _ | with_reducible refine Kept.alloc ?_ _ | with_reducible refine Kept.drewN ?_ _ | with_reducible refine Kept.drew ?_ | with_reducible refine Kept.trans ?_ (by with_reducible assumption) | with_reducible refine Kept.dr ?_ (by with_reducible assumption)))⟩)
      case rest =>
      obtain ⟨rfl, O1_0, O1_1, hkc1⟩ := hcut
      obtain ⟨hz_c1_0, hg_c1_0, hf_c1_0_0, hf_c1_0_1, hf_c1_0_2, hf_c1_0_3, hf_c1_0_4, hf_c1_0_5, hf_c1_0_6, _⟩ := O1_0
      obtain ⟨hz_c1_1, hg_c1_1, hf_c1_1_0, hf_c1_1_1, hf_c1_1_2, hf_c1_1_3, hf_c1_1_4, hf_c1_1_5, hf_c1_1_6, _⟩ := O1_1
      try clear hf4_0_0
      try clear hf4_0_1
      try clear hf4_0_2
      try clear hf4_0_3
      try clear hf4_0_4
      try clear hf4_0_5
      try clear hf4_0_6
      try clear hf4_1_0
      try clear hf4_1_1
      try clear hf4_1_2
      try clear hf4_1_3
      try clear hf4_1_4
      try clear hf4_1_5
      try clear hf4_1_6
      try clear hg4_0
      try clear hg4_1
      try clear hz4_1
      repeat (first | go_values | go_skip | go_guarded | go_step | go_upon)
      all_goals exact bodyPost_ret (v := .tuple #[.agg #[.int .i64 0, .int .u64 0, .int .i64 0, .int .u64 0, .int .i64 0, .int .i64 0, .int .i64 0], .int .i64 2]) (by simp (maxDischargeDepth := 3) [results, Try.results19, go_sem, *]; done) rfl ⟨rfl, (by repeat (first | with_reducible exact Kept.refl _ | with_reducible assumption | with_reducible refine Kept.setCell ?_ (by first | (simp; done) | (simp; omega) | omega) _ | with_reducible refine Kept.alloc ?_ _ | with_reducible refine Kept.drewN ?_ _ | with_reducible refine Kept.drew ?_ | with_reducible refine Kept.trans ?_ (by with_reducible assumption) | with_reducible refine Kept.dr ?_ (by with_reducible assumption)))⟩
end Go.Proofs.Ytoegcfdlecbcjaa
