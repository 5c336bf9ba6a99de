/-
  Own contracts: the document of layer 42: the exact solution.
-/
import Derived.Test.YtoegcfdlecbcjaaLsqn2
import Derived.WalkKit
import Derived.ProofKit
import Derived.OpenShut
import Derived.WalkLawsBesides
import Derived.WalkSpells
import Derived.Lib.Hide
import Derived.Deep.DeepCutAuto
import Derived.Deep.CutBlock
import Derived.Deep.QuietTactic
import Derived.BigQuiet
import Derived.Handy
import Derived.StillTailTactics
import Derived.IntWalk
import Derived.LoopN
import Derived.Deep.RegionHeld3
namespace Go.Proofs.Ytoegcfdlecbcjaa
open Go.ChangeShapes Go.WideShapes Go.ChangeAt Go.RowKit
set_option linter.unusedVariables false
set_option linter.unusedSimpArgs false
set_option maxHeartbeats 2000000 in
set_option maxRecDepth 100000 in
theorem exact_no (p : Option Addr) (n c b o : Nat) (M : Ms) (hn : n ≤ maxLen) (hx : M.chk n ≠ 0) (w : World) (hS : SlM w p n b o M) : Calls Try.prog 36 #[.slice p n c] w fun e w' => e = .returned (.tuple #[.agg #[.int .i64 0, .int .u64 0, .int .i64 0, .int .u64 0, .int .i64 0, .int .i64 0, .int .i64 0], .int .i64 (M.chk n)]) ∧ Kept w w' := by
  have rbz : ∀ w, (Instr.build 38 #[]).run Try.prog w = .ok (.agg #[.int .i64 0, .int .u64 0, .int .i64 0, .int .u64 0, .int .i64 0, .int .i64 0, .int .i64 0]) w := fun w => run_build w 38 #[] _ (by kernel_rfl)
  have HC := Lib.hid (ref_normal_no p n c b o M hn hx)
  have HS := Lib.hid hS
  clear hS
  obtain ⟨E, hE⟩ : ∃ E, M.chk n = E := ⟨_, rfl⟩
  rw [hE] at HC hx
  rw [hE]
  clear hE
  go_enter Try.func36, Try.ntmps36
  go_wp2_with fail
  refine (HC.out _ (HS.out.kept (by repeat (first | with_reducible exact Kept.refl _ | with_reducible assumption | with_reducible refine Kept.setCell ?_ (by first | (simp; done) | (simp; omega) | omega) _ | with_reducible refine Kept.alloc ?_ _ | with_reducible refine Kept.drewN ?_ _ | with_reducible refine Kept.drew ?_ | with_reducible refine Kept.trans ?_ (by with_reducible assumption) | with_reducible refine Kept.dr ?_ (by with_reducible assumption))))).mono ?_
  rintro e w1 ⟨rfl, hk1⟩
  refine kuz (b := w.heap.size) hk1 (by first | (simp; done) | (simp; omega) | omega) ?_
  intro ha hb hz1_0 hn1_0 hm1_0
  have hf1_0_0 : w1.cell? ⟨w.heap.size, 0, none⟩ = some (.int .i64 0) := (ha _).trans (by first | with_reducible assumption | (simp (maxDischargeDepth := 7) [go_sem]; done) | (simp (maxDischargeDepth := 7) [go_sem, *]; done))
  have hf1_0_1 : w1.cell? ⟨w.heap.size, 1, none⟩ = some (.int .u64 0) := (ha _).trans (by first | with_reducible assumption | (simp (maxDischargeDepth := 7) [go_sem]; done) | (simp (maxDischargeDepth := 7) [go_sem, *]; done))
  have hf1_0_2 : w1.cell? ⟨w.heap.size, 2, none⟩ = some (.int .i64 0) := (ha _).trans (by first | with_reducible assumption | (simp (maxDischargeDepth := 7) [go_sem]; done) | (simp (maxDischargeDepth := 7) [go_sem, *]; done))
  have hf1_0_3 : w1.cell? ⟨w.heap.size, 3, none⟩ = some (.int .u64 0) := (ha _).trans (by first | with_reducible assumption | (simp (maxDischargeDepth := 7) [go_sem]; done) | (simp (maxDischargeDepth := 7) [go_sem, *]; done))
  have hf1_0_4 : w1.cell? ⟨w.heap.size, 4, none⟩ = some (.int .i64 0) := (ha _).trans (by first | with_reducible assumption | (simp (maxDischargeDepth := 7) [go_sem]; done) | (simp (maxDischargeDepth := 7) [go_sem, *]; done))
  have hf1_0_5 : w1.cell? ⟨w.heap.size, 5, none⟩ = some (.int .i64 0) := (ha _).trans (by first | with_reducible assumption | (simp (maxDischargeDepth := 7) [go_sem]; done) | (simp (maxDischargeDepth := 7) [go_sem, *]; done))
  have hf1_0_6 : w1.cell? ⟨w.heap.size, 6, none⟩ = some (.int .i64 0) := (ha _).trans (by first | with_reducible assumption | (simp (maxDischargeDepth := 7) [go_sem]; done) | (simp (maxDischargeDepth := 7) [go_sem, *]; done))
  try have hg1_0 : ∀ o, w1.frozen? ⟨w.heap.size, o, none⟩ = false := by intro o; rw [hb]; first | (simp (maxDischargeDepth := 7) [go_sem]; done) | (simp (maxDischargeDepth := 7) [go_sem, *]; done)
  clear ha hb
  have B0 : OwnB w1 (w.heap.size) [.int .i64 0, .int .u64 0, .int .i64 0, .int .u64 0, .int .i64 0, .int .i64 0, .int .i64 0] := show OwnB w1 (w.heap.size) [.int .i64 0, .int .u64 0, .int .i64 0, .int .u64 0, .int .i64 0, .int .i64 0, .int .i64 0] from ⟨hz1_0, hg1_0, hf1_0_0, hf1_0_1, hf1_0_2, hf1_0_3, hf1_0_4, hf1_0_5, hf1_0_6, trivial⟩
  have HC1_0 := Lib.hid B0
  clear B0
  go_upto_region 3 with (fail)
  go_cut [3] (fun p0 wx => p0 = .int .i64 E ∧ OwnB wx (w.heap.size) [.int .i64 0, .int .u64 0, .int .i64 0, .int .u64 0, .int .i64 0, .int .i64 0, .int .i64 0] ∧ Kept w wx)
  case first =>
    skip
    all_goals (try go_wp2_with fail)
    all_goals (go_meet; case rel => exact ⟨rfl, (by repeat (first | with_reducible exact HC1_0.out | with_reducible refine own_s7 (u0 := .int .i64 0) (u1 := .int .u64 0) (u2 := .int .i64 0) (u3 := .int .u64 0) (u4 := .int .i64 0) (u5 := .int .i64 0) (u6 := .int .i64 0) ?_ | with_reducible refine OwnB.setOther ?_ (by first | with_reducible assumption | omega | (simp; done) | (simp; omega)) | with_reducible refine OwnB.drew ?_ | with_reducible refine OwnB.drewN ?_ _ | with_reducible refine OwnB.alloc ?_ _ | with_reducible refine OwnB.kept (by with_reducible assumption) ?_)), (by repeat (first | with_reducible exact Kept.refl _ | with_reducible assumption | with_reducible refine Kept.setCell ?_ (by first | (simp; done) | (simp; omega) | omega) _ | with_reducible refine Kept.alloc ?_ _ | with_reducible refine Kept.drewN ?_ _ | with_reducible refine Kept.drew ?_ | with_reducible refine Kept.trans ?_ (by with_reducible assumption) | with_reducible refine Kept.dr ?_ (by with_reducible assumption)))⟩)
  case rest =>
  obtain ⟨rfl, O1_0, hkc1⟩ := hcut
  obtain ⟨hz_c1_0, hg_c1_0, hf_c1_0_0, hf_c1_0_1, hf_c1_0_2, hf_c1_0_3, hf_c1_0_4, hf_c1_0_5, hf_c1_0_6, _⟩ := O1_0
  try clear hf1_0_0
  try clear hf1_0_1
  try clear hf1_0_2
  try clear hf1_0_3
  try clear hf1_0_4
  try clear hf1_0_5
  try clear hf1_0_6
  try clear hg1_0
  repeat (first | go_values | go_skip | go_guarded | go_step | go_upon)
  all_goals exact bodyPost_ret (v := .tuple #[.agg #[.int .i64 0, .int .u64 0, .int .i64 0, .int .u64 0, .int .i64 0, .int .i64 0, .int .i64 0], .int .i64 E]) (by simp (maxDischargeDepth := 3) [results, Try.results36, go_sem, *]; done) rfl ⟨rfl, (by repeat (first | with_reducible exact Kept.refl _ | with_reducible assumption | with_reducible refine Kept.setCell ?_ (by first | (simp; done) | (simp; omega) | omega) _ | with_reducible refine Kept.alloc ?_ _ | with_reducible refine Kept.drewN ?_ _ | with_reducible refine Kept.drew ?_ | with_reducible refine Kept.trans ?_ (by with_reducible assumption) | with_reducible refine Kept.dr ?_ (by with_reducible assumption)))⟩
set_option maxHeartbeats 4000000 in
set_option maxRecDepth 100000 in
theorem exact_ok (p : Option Addr) (n c b o : Nat) (M : Ms) (hn : n ≤ maxLen) (hx : M.chk n = 0) (hd : M.det n ≠ 0) (w : World) (hS : SlM w p n b o M) : Calls Try.prog 36 #[.slice p n c] w fun e w' => e = .returned (.tuple #[.agg #[.int .i64 (wh (M.X n)), .int .u64 (wl (M.X n)), .int .i64 (wh (M.Y n)), .int .u64 (wl (M.Y n)), .int .i64 (M.det n), .int .i64 0, .int .i64 0], .int .i64 0]) ∧ Kept w w' := by
  have rbz : ∀ w, (Instr.build 38 #[]).run Try.prog w = .ok (.agg #[.int .i64 0, .int .u64 0, .int .i64 0, .int .u64 0, .int .i64 0, .int .i64 0, .int .i64 0]) w := fun w => run_build w 38 #[] _ (by kernel_rfl)
  obtain ⟨n16, hall⟩ := Ms.chk_0 hx
  have mb := mb_of n16 hall
  have mx := mx_of mb
  have HN := Lib.hid (ref_normal_ok p n c b o M hn hx)
  obtain ⟨a0, a1⟩ := mb.xx
  obtain ⟨a2, a3⟩ := mb.xy
  obtain ⟨a4, a5⟩ := mb.yy
  obtain ⟨a6, a7⟩ := mb.xz
  obtain ⟨a8, a9⟩ := mb.yz
  obtain ⟨x0, x1⟩ := mx.X
  obtain ⟨y0, y1⟩ := mx.Y
  obtain ⟨d0, d1⟩ := mx.d1
  obtain ⟨p0, p1⟩ := mx.p1
  obtain ⟨p2, p3⟩ := mx.p2
  obtain ⟨r0, r1⟩ := mx.q1
  obtain ⟨r2, r3⟩ := mx.q2
  obtain ⟨r4, r5⟩ := mx.q3
  obtain ⟨r6, r7⟩ := mx.q4
  have x0' : -9444732965739290427392 ≤ M.yy n * M.xz n - M.xy n * M.yz n := x0
  have x1' : M.yy n * M.xz n - M.xy n * M.yz n ≤ 9444732965739290427392 := x1
  have y0' : -9444732965739290427392 ≤ M.xx n * M.yz n - M.xy n * M.xz n := y0
  have y1' : M.xx n * M.yz n - M.xy n * M.xz n ≤ 9444732965739290427392 := y1
  have HX := Lib.hid (minor_w (M.yy n) (M.xz n) (M.xy n) (M.yz n) (by omega) (by omega) (by omega) (by omega) (by omega) (by omega) (by omega) (by omega) (by omega) (by omega) (by omega) (by omega) (by omega) (by omega))
  have HY := Lib.hid (minor_w (M.xx n) (M.yz n) (M.xy n) (M.xz n) (by omega) (by omega) (by omega) (by omega) (by omega) (by omega) (by omega) (by omega) (by omega) (by omega) (by omega) (by omega) (by omega) (by omega))
  have eX : M.yy n * M.xz n - M.xy n * M.yz n = M.X n := rfl
  have eY : M.xx n * M.yz n - M.xy n * M.xz n = M.Y n := rfl
  rw [eX] at HX
  rw [eY] at HY
  have eD : M.xx n * M.yy n - M.xy n * M.xy n = M.det n := rfl
  have k0 : IntKind.i64.wrap (M.xx n * M.yy n) = M.xx n * M.yy n := IntWalk.i64_in _ (by omega)
  have k1 : IntKind.i64.wrap (M.xy n * M.xy n) = M.xy n * M.xy n := IntWalk.i64_in _ (by omega)
  have k2 : IntKind.i64.wrap (M.xx n * M.yy n - M.xy n * M.xy n) = M.det n := by rw [eD]; exact IntWalk.i64_in _ (by omega)
  have dz : (M.det n == 0) = false := by rw [beq_eq_false_iff_ne]; exact hd
  have HS := Lib.hid hS
  clear hS hd mb mx hall n16 hx hn a0 a1 a2 a3 a4 a5 a6 a7 a8 a9 x0 x1 y0 y1 d0 d1 p0 p1 p2 p3 r0 r1 r2 r3 r4 r5 r6 r7 x0' x1' y0' y1' eX eY eD
  generalize wh (M.X n) = A at *; generalize wl (M.X n) = a at *; generalize wh (M.Y n) = B at *; generalize wl (M.Y n) = g at *
  generalize M.det n = D at *
  generalize M.xx n = N0 at *; generalize M.xy n = N1 at *; generalize M.yy n = N2 at *; generalize M.xz n = N3 at *; generalize M.yz n = N4 at *
  go_enter Try.func36, Try.ntmps36
  go_wp2_with fail
  refine (HN.out _ (HS.out.kept (by repeat (first | with_reducible exact Kept.refl _ | with_reducible assumption | with_reducible refine Kept.setCell ?_ (by first | (simp; done) | (simp; omega) | omega) _ | with_reducible refine Kept.alloc ?_ _ | with_reducible refine Kept.drewN ?_ _ | with_reducible refine Kept.drew ?_ | with_reducible refine Kept.trans ?_ (by with_reducible assumption) | with_reducible refine Kept.dr ?_ (by with_reducible assumption))))).mono ?_
  rintro e w1 ⟨rfl, hk1⟩
  refine kuz (b := w.heap.size) hk1 (by first | (simp; done) | (simp; omega) | omega) ?_
  intro ha hb hz1_0 hn1_0 hm1_0
  have hf1_0_0 : w1.cell? ⟨w.heap.size, 0, none⟩ = some (.int .i64 0) := (ha _).trans (by first | with_reducible assumption | (simp (maxDischargeDepth := 7) [go_sem]; done) | (simp (maxDischargeDepth := 7) [go_sem, *]; done))
  have hf1_0_1 : w1.cell? ⟨w.heap.size, 1, none⟩ = some (.int .u64 0) := (ha _).trans (by first | with_reducible assumption | (simp (maxDischargeDepth := 7) [go_sem]; done) | (simp (maxDischargeDepth := 7) [go_sem, *]; done))
  have hf1_0_2 : w1.cell? ⟨w.heap.size, 2, none⟩ = some (.int .i64 0) := (ha _).trans (by first | with_reducible assumption | (simp (maxDischargeDepth := 7) [go_sem]; done) | (simp (maxDischargeDepth := 7) [go_sem, *]; done))
  have hf1_0_3 : w1.cell? ⟨w.heap.size, 3, none⟩ = some (.int .u64 0) := (ha _).trans (by first | with_reducible assumption | (simp (maxDischargeDepth := 7) [go_sem]; done) | (simp (maxDischargeDepth := 7) [go_sem, *]; done))
  have hf1_0_4 : w1.cell? ⟨w.heap.size, 4, none⟩ = some (.int .i64 0) := (ha _).trans (by first | with_reducible assumption | (simp (maxDischargeDepth := 7) [go_sem]; done) | (simp (maxDischargeDepth := 7) [go_sem, *]; done))
  have hf1_0_5 : w1.cell? ⟨w.heap.size, 5, none⟩ = some (.int .i64 0) := (ha _).trans (by first | with_reducible assumption | (simp (maxDischargeDepth := 7) [go_sem]; done) | (simp (maxDischargeDepth := 7) [go_sem, *]; done))
  have hf1_0_6 : w1.cell? ⟨w.heap.size, 6, none⟩ = some (.int .i64 0) := (ha _).trans (by first | with_reducible assumption | (simp (maxDischargeDepth := 7) [go_sem]; done) | (simp (maxDischargeDepth := 7) [go_sem, *]; done))
  try have hg1_0 : ∀ o, w1.frozen? ⟨w.heap.size, o, none⟩ = false := by intro o; rw [hb]; first | (simp (maxDischargeDepth := 7) [go_sem]; done) | (simp (maxDischargeDepth := 7) [go_sem, *]; done)
  clear ha hb
  go_wp2_with fail
  have B0 : OwnB (w1.alloc (.cells #[.int .i64 N0, .int .i64 N1, .int .i64 N2, .int .i64 N3, .int .i64 N4] 26)) (w.heap.size) [.int .i64 0, .int .u64 0, .int .i64 0, .int .u64 0, .int .i64 0, .int .i64 0, .int .i64 0] := OwnB.alloc (show OwnB w1 (w.heap.size) [.int .i64 0, .int .u64 0, .int .i64 0, .int .u64 0, .int .i64 0, .int .i64 0, .int .i64 0] from ⟨hz1_0, hg1_0, hf1_0_0, hf1_0_1, hf1_0_2, hf1_0_3, hf1_0_4, hf1_0_5, hf1_0_6, trivial⟩) _
  have HB0_0 := Lib.hid B0
  clear B0
  have B1 : OwnB (w1.alloc (.cells #[.int .i64 N0, .int .i64 N1, .int .i64 N2, .int .i64 N3, .int .i64 N4] 26)) (w1.heap.size) [.int .i64 N0, .int .i64 N1, .int .i64 N2, .int .i64 N3, .int .i64 N4] := own_alloc _ [.int .i64 N0, .int .i64 N1, .int .i64 N2, .int .i64 N3, .int .i64 N4] 26
  have HB0_1 := Lib.hid B1
  clear B1
  go_upto_region 4 with (fail)
  go_cut [6] (fun p0 wx => ∃ b0 : Nat, p0 = .pointer (some ⟨b0, 0, none⟩) ∧ w.heap.size < b0 ∧ OwnB wx (b0) [.int .i64 A, .int .u64 a, .int .i64 B, .int .u64 g, .int .i64 D, .int .i64 0, .int .i64 0] ∧ OwnB wx (w.heap.size) [.int .i64 0, .int .u64 0, .int .i64 0, .int .u64 0, .int .i64 0, .int .i64 0, .int .i64 0] ∧ OwnB wx (w1.heap.size) [.int .i64 N0, .int .i64 N1, .int .i64 N2, .int .i64 N3, .int .i64 N4] ∧ Kept (w1.alloc (.cells #[.int .i64 N0, .int .i64 N1, .int .i64 N2, .int .i64 N3, .int .i64 N4] 26)) wx)
  case first =>
    go_region_held3 (fun W => W.cell? ⟨w1.heap.size, 0, none⟩ = some (.int .i64 N0) ∧ W.cell? ⟨w1.heap.size, 1, none⟩ = some (.int .i64 N1) ∧ W.cell? ⟨w1.heap.size, 2, none⟩ = some (.int .i64 N2) ∧ W.cell? ⟨w1.heap.size, 3, none⟩ = some (.int .i64 N3) ∧ W.cell? ⟨w1.heap.size, 4, none⟩ = some (.int .i64 N4)) (first | (go_keep; done) | (simp (maxDischargeDepth := 9) [*, World.cell?_alloc_some, World.cell?_setCell_far]; done) | (simp (maxDischargeDepth := 9) [go_sem, *]; done)) (first | (go_at_call 57; (with_reducible refine (HX.out _).mono ?_); rintro e n0 ⟨rfl, hk⟩; have hz := hk.size; (try (refine kuse (b := w.heap.size) hk (by first | (simp; done) | (simp; omega) | omega) ?_; intro hq hg; have hy : w.heap.size < n0.heap.size := (by (try simp at hz); omega); have hn : ¬ w.heap.size = n0.heap.size := (by omega); have hm : ¬ w.heap.size = n0.heap.size + 1 := (by omega); have hn' : ¬ n0.heap.size = w.heap.size := (by omega); have hm' : ¬ n0.heap.size + 1 = w.heap.size := (by omega))); (try (refine kuse (b := w1.heap.size) hk (by first | (simp; done) | (simp; omega) | omega) ?_; intro hq hg; have hy : w1.heap.size < n0.heap.size := (by (try simp at hz); omega); have hn : ¬ w1.heap.size = n0.heap.size := (by omega); have hm : ¬ w1.heap.size = n0.heap.size + 1 := (by omega); have hn' : ¬ n0.heap.size = w1.heap.size := (by omega); have hm' : ¬ n0.heap.size + 1 = w1.heap.size := (by omega))); (try (have hle : w1.heap.size ≤ n0.heap.size := (by (try simp at hz); omega))); (try (refine kuse (b := w1.heap.size + 1) hk (by first | (simp; done) | (simp; omega) | omega) ?_; intro hq hg; have hy : w1.heap.size + 1 < n0.heap.size := (by (try simp at hz); omega))); (try (refine withF (p := n0.cell? ⟨w1.heap.size, 0, none⟩ = some (.int .i64 N0)) (by first | (simp (maxDischargeDepth := 7) [go_sem, *]; done) | fail) ?_; intro ff)); (try (refine withF (p := n0.cell? ⟨w1.heap.size, 1, none⟩ = some (.int .i64 N1)) (by first | (simp (maxDischargeDepth := 7) [go_sem, *]; done) | fail) ?_; intro ff)); (try (refine withF (p := n0.cell? ⟨w1.heap.size, 2, none⟩ = some (.int .i64 N2)) (by first | (simp (maxDischargeDepth := 7) [go_sem, *]; done) | fail) ?_; intro ff)); (try (refine withF (p := n0.cell? ⟨w1.heap.size, 3, none⟩ = some (.int .i64 N3)) (by first | (simp (maxDischargeDepth := 7) [go_sem, *]; done) | fail) ?_; intro ff)); (try (refine withF (p := n0.cell? ⟨w1.heap.size, 4, none⟩ = some (.int .i64 N4)) (by first | (simp (maxDischargeDepth := 7) [go_sem, *]; done) | fail) ?_; intro ff))) | (go_at_call 57; (with_reducible refine (HY.out _).mono ?_); rintro e n1 ⟨rfl, hk⟩; have hz := hk.size; (try (refine kuse (b := w.heap.size) hk (by first | (simp; done) | (simp; omega) | omega) ?_; intro hq hg; have hy : w.heap.size < n1.heap.size := (by (try simp at hz); omega); have hn : ¬ w.heap.size = n1.heap.size := (by omega); have hm : ¬ w.heap.size = n1.heap.size + 1 := (by omega); have hn' : ¬ n1.heap.size = w.heap.size := (by omega); have hm' : ¬ n1.heap.size + 1 = w.heap.size := (by omega))); (try (refine kuse (b := w1.heap.size) hk (by first | (simp; done) | (simp; omega) | omega) ?_; intro hq hg; have hy : w1.heap.size < n1.heap.size := (by (try simp at hz); omega); have hn : ¬ w1.heap.size = n1.heap.size := (by omega); have hm : ¬ w1.heap.size = n1.heap.size + 1 := (by omega); have hn' : ¬ n1.heap.size = w1.heap.size := (by omega); have hm' : ¬ n1.heap.size + 1 = w1.heap.size := (by omega))); (try (have hle : w1.heap.size ≤ n1.heap.size := (by (try simp at hz); omega))); (try (have hle : n0.heap.size ≤ n1.heap.size := (by (try simp at hz); omega))); (try (refine kuse (b := n0.heap.size) hk (by first | (simp; done) | (simp; omega) | omega) ?_; intro hq hg; have hy : n0.heap.size < n1.heap.size := (by (try simp at hz); omega))); (try (refine kuse (b := w1.heap.size + 1) hk (by first | (simp; done) | (simp; omega) | omega) ?_; intro hq hg; have hy : w1.heap.size + 1 < n1.heap.size := (by (try simp at hz); omega))); (try (refine withF (p := n1.cell? ⟨w1.heap.size, 0, none⟩ = some (.int .i64 N0)) (by first | (simp (maxDischargeDepth := 7) [go_sem, *]; done) | fail) ?_; intro ff)); (try (refine withF (p := n1.cell? ⟨w1.heap.size, 1, none⟩ = some (.int .i64 N1)) (by first | (simp (maxDischargeDepth := 7) [go_sem, *]; done) | fail) ?_; intro ff)); (try (refine withF (p := n1.cell? ⟨w1.heap.size, 2, none⟩ = some (.int .i64 N2)) (by first | (simp (maxDischargeDepth := 7) [go_sem, *]; done) | fail) ?_; intro ff)); (try (refine withF (p := n1.cell? ⟨w1.heap.size, 3, none⟩ = some (.int .i64 N3)) (by first | (simp (maxDischargeDepth := 7) [go_sem, *]; done) | fail) ?_; intro ff)); (try (refine withF (p := n1.cell? ⟨w1.heap.size, 4, none⟩ = some (.int .i64 N4)) (by first | (simp (maxDischargeDepth := 7) [go_sem, *]; done) | fail) ?_; intro ff))))
    all_goals (try go_wp2_with fail)
    all_goals (go_meet; case rel => refine (fun (hkx : Kept (w1.alloc (.cells #[.int .i64 N0, .int .i64 N1, .int .i64 N2, .int .i64 N3, .int .i64 N4] 26)) _) => ⟨_, rfl, (by first | with_reducible assumption | omega | (simp; omega)), (by repeat (first | with_reducible exact own_alloc _ [.int .i64 A, .int .u64 a, .int .i64 B, .int .u64 g, .int .i64 D, .int .i64 0, .int .i64 0] 38 | with_reducible exact own_alloc _ [.int .i64 0, .int .u64 0, .int .i64 0, .int .u64 0, .int .i64 0, .int .i64 0, .int .i64 0] 38 | ((with_reducible refine own_allocE _ [.int .i64 A, .int .u64 a, .int .i64 B, .int .u64 g, .int .i64 D, .int .i64 0, .int .i64 0] 38 _ ?_); (simp; done)) | ((with_reducible refine own_allocE _ [.int .i64 0, .int .u64 0, .int .i64 0, .int .u64 0, .int .i64 0, .int .i64 0, .int .i64 0] 38 _ ?_); (simp; done)) | with_reducible refine own_set7 (us := [.int .i64 0, .int .u64 0, .int .i64 0, .int .u64 0, .int .i64 0, .int .i64 0, .int .i64 0]) ?_ rfl | with_reducible refine OwnB.other7 ?_ (by first | with_reducible assumption | omega | (simp; done) | (simp; omega)) | with_reducible refine OwnB.alloc ?_ _ | with_reducible refine OwnB.drew ?_ | with_reducible refine OwnB.drewN ?_ _ | with_reducible refine OwnB.kept (by with_reducible assumption) ?_)), OwnB.kept hkx HB0_0.out, OwnB.kept hkx HB0_1.out, hkx⟩) ?_; exact (by repeat (first | with_reducible exact Kept.refl _ | with_reducible assumption | with_reducible refine Kept.set12 ?_ (by first | with_reducible assumption | omega | (simp; done) | (simp; omega)) | with_reducible refine Kept.set11 ?_ (by first | with_reducible assumption | omega | (simp; done) | (simp; omega)) | with_reducible refine Kept.set10 ?_ (by first | with_reducible assumption | omega | (simp; done) | (simp; omega)) | with_reducible refine Kept.set9 ?_ (by first | with_reducible assumption | omega | (simp; done) | (simp; omega)) | with_reducible refine Kept.set8 ?_ (by first | with_reducible assumption | omega | (simp; done) | (simp; omega)) | with_reducible refine Kept.set7 ?_ (by first | with_reducible assumption | omega | (simp; done) | (simp; omega)) | with_reducible refine Kept.set6 ?_ (by first | with_reducible assumption | omega | (simp; done) | (simp; omega)) | with_reducible refine Kept.set5 ?_ (by first | with_reducible assumption | omega | (simp; done) | (simp; omega)) | with_reducible refine Kept.set4 ?_ (by first | with_reducible assumption | omega | (simp; done) | (simp; omega)) | with_reducible refine Kept.set3 ?_ (by first | with_reducible assumption | omega | (simp; done) | (simp; omega)) | with_reducible refine Kept.set2 ?_ (by first | with_reducible assumption | omega | (simp; done) | (simp; omega)) | with_reducible refine Kept.setCell ?_ (by first | with_reducible assumption | omega | (simp; done) | (simp; omega)) _ | with_reducible refine Kept.alloc ?_ _ | with_reducible refine Kept.drewN ?_ _ | with_reducible refine Kept.drew ?_ | with_reducible refine Kept.trans ?_ (by with_reducible assumption) | with_reducible refine Kept.dr ?_ (by with_reducible assumption))))
  case rest =>
  obtain ⟨b1_0, rfl, lt1_0, O1_0, O1_1, O1_2, hkc1⟩ := hcut
  obtain ⟨hz_c1_0, hg_c1_0, hf_c1_0_0, hf_c1_0_1, hf_c1_0_2, hf_c1_0_3, hf_c1_0_4, hf_c1_0_5, hf_c1_0_6, _⟩ := O1_0
  obtain ⟨hz_c1_1, hg_c1_1, hf_c1_1_0, hf_c1_1_1, hf_c1_1_2, hf_c1_1_3, hf_c1_1_4, hf_c1_1_5, hf_c1_1_6, _⟩ := O1_1
  obtain ⟨hz_c1_2, hg_c1_2, hf_c1_2_0, hf_c1_2_1, hf_c1_2_2, hf_c1_2_3, hf_c1_2_4, _⟩ := O1_2
  try clear hf1_0_0
  try clear hf1_0_1
  try clear hf1_0_2
  try clear hf1_0_3
  try clear hf1_0_4
  try clear hf1_0_5
  try clear hf1_0_6
  try clear hg1_0
  have B0 : OwnB wc (b1_0) [.int .i64 A, .int .u64 a, .int .i64 B, .int .u64 g, .int .i64 D, .int .i64 0, .int .i64 0] := show OwnB wc (b1_0) [.int .i64 A, .int .u64 a, .int .i64 B, .int .u64 g, .int .i64 D, .int .i64 0, .int .i64 0] from ⟨hz_c1_0, hg_c1_0, hf_c1_0_0, hf_c1_0_1, hf_c1_0_2, hf_c1_0_3, hf_c1_0_4, hf_c1_0_5, hf_c1_0_6, trivial⟩
  have HC2_0 := Lib.hid B0
  clear B0
  have B1 : OwnB wc (w.heap.size) [.int .i64 0, .int .u64 0, .int .i64 0, .int .u64 0, .int .i64 0, .int .i64 0, .int .i64 0] := show OwnB wc (w.heap.size) [.int .i64 0, .int .u64 0, .int .i64 0, .int .u64 0, .int .i64 0, .int .i64 0, .int .i64 0] from ⟨hz_c1_1, hg_c1_1, hf_c1_1_0, hf_c1_1_1, hf_c1_1_2, hf_c1_1_3, hf_c1_1_4, hf_c1_1_5, hf_c1_1_6, trivial⟩
  have HC2_1 := Lib.hid B1
  clear B1
  have B2 : OwnB wc (w1.heap.size) [.int .i64 N0, .int .i64 N1, .int .i64 N2, .int .i64 N3, .int .i64 N4] := show OwnB wc (w1.heap.size) [.int .i64 N0, .int .i64 N1, .int .i64 N2, .int .i64 N3, .int .i64 N4] from ⟨hz_c1_2, hg_c1_2, hf_c1_2_0, hf_c1_2_1, hf_c1_2_2, hf_c1_2_3, hf_c1_2_4, trivial⟩
  have HC2_2 := Lib.hid B2
  clear B2
  go_upto_region 7 with (fail)
  go_cut [3] (fun p0 wx => p0 = .int .i64 0 ∧ OwnB wx (b1_0) [.int .i64 A, .int .u64 a, .int .i64 B, .int .u64 g, .int .i64 D, .int .i64 0, .int .i64 0] ∧ OwnB wx (w.heap.size) [.int .i64 A, .int .u64 a, .int .i64 B, .int .u64 g, .int .i64 D, .int .i64 0, .int .i64 0] ∧ OwnB wx (w1.heap.size) [.int .i64 N0, .int .i64 N1, .int .i64 N2, .int .i64 N3, .int .i64 N4] ∧ Kept w wx)
  case first =>
    skip
    all_goals (try go_wp2_with fail)
    all_goals (go_meet; case rel => exact ⟨rfl, (by repeat (first | with_reducible exact HC2_0.out | with_reducible refine OwnB.setOther ?_ (by first | with_reducible assumption | omega | (simp; done) | (simp; omega)) | with_reducible refine OwnB.drew ?_ | with_reducible refine OwnB.drewN ?_ _ | with_reducible refine OwnB.alloc ?_ _ | with_reducible refine OwnB.kept (by with_reducible assumption) ?_)), (by repeat (first | with_reducible exact HC2_1.out | with_reducible refine own_s7 (u0 := .int .i64 0) (u1 := .int .u64 0) (u2 := .int .i64 0) (u3 := .int .u64 0) (u4 := .int .i64 0) (u5 := .int .i64 0) (u6 := .int .i64 0) ?_ | with_reducible refine OwnB.setOther ?_ (by first | with_reducible assumption | omega | (simp; done) | (simp; omega)) | with_reducible refine OwnB.drew ?_ | with_reducible refine OwnB.drewN ?_ _ | with_reducible refine OwnB.alloc ?_ _ | with_reducible refine OwnB.kept (by with_reducible assumption) ?_)), (by repeat (first | with_reducible exact HC2_2.out | with_reducible refine OwnB.setOther ?_ (by first | with_reducible assumption | omega | (simp; done) | (simp; omega)) | with_reducible refine OwnB.drew ?_ | with_reducible refine OwnB.drewN ?_ _ | with_reducible refine OwnB.alloc ?_ _ | with_reducible refine OwnB.kept (by with_reducible assumption) ?_)), (by repeat (first | with_reducible exact Kept.refl _ | with_reducible assumption | with_reducible refine Kept.setCell ?_ (by first | (simp; done) | (simp; omega) | omega) _ | with_reducible refine Kept.alloc ?_ _ | with_reducible refine Kept.drewN ?_ _ | with_reducible refine Kept.drew ?_ | with_reducible refine Kept.trans ?_ (by with_reducible assumption) | with_reducible refine Kept.dr ?_ (by with_reducible assumption)))⟩)
  case rest =>
  obtain ⟨rfl, O2_0, O2_1, O2_2, hkc2⟩ := hcut
  obtain ⟨hz_c2_0, hg_c2_0, hf_c2_0_0, hf_c2_0_1, hf_c2_0_2, hf_c2_0_3, hf_c2_0_4, hf_c2_0_5, hf_c2_0_6, _⟩ := O2_0
  obtain ⟨hz_c2_1, hg_c2_1, hf_c2_1_0, hf_c2_1_1, hf_c2_1_2, hf_c2_1_3, hf_c2_1_4, hf_c2_1_5, hf_c2_1_6, _⟩ := O2_1
  obtain ⟨hz_c2_2, hg_c2_2, hf_c2_2_0, hf_c2_2_1, hf_c2_2_2, hf_c2_2_3, hf_c2_2_4, _⟩ := O2_2
  try clear hf_c1_0_0
  try clear hf_c1_0_1
  try clear hf_c1_0_2
  try clear hf_c1_0_3
  try clear hf_c1_0_4
  try clear hf_c1_0_5
  try clear hf_c1_0_6
  try clear hf_c1_1_0
  try clear hf_c1_1_1
  try clear hf_c1_1_2
  try clear hf_c1_1_3
  try clear hf_c1_1_4
  try clear hf_c1_1_5
  try clear hf_c1_1_6
  try clear hf_c1_2_0
  try clear hf_c1_2_1
  try clear hf_c1_2_2
  try clear hf_c1_2_3
  try clear hf_c1_2_4
  try clear hg_c1_0
  try clear hg_c1_1
  try clear hg_c1_2
  repeat (first | go_values | go_skip | go_guarded | go_step | go_upon)
  all_goals exact bodyPost_ret (v := .tuple #[.agg #[.int .i64 A, .int .u64 a, .int .i64 B, .int .u64 g, .int .i64 D, .int .i64 0, .int .i64 0], .int .i64 0]) (by simp (maxDischargeDepth := 3) [results, Try.results36, go_sem, *]; done) rfl ⟨rfl, (by repeat (first | with_reducible exact Kept.refl _ | with_reducible assumption | with_reducible refine Kept.setCell ?_ (by first | (simp; done) | (simp; omega) | omega) _ | with_reducible refine Kept.alloc ?_ _ | with_reducible refine Kept.drewN ?_ _ | with_reducible refine Kept.drew ?_ | with_reducible refine Kept.trans ?_ (by with_reducible assumption) | with_reducible refine Kept.dr ?_ (by with_reducible assumption)))⟩
set_option maxHeartbeats 4000000 in
set_option maxRecDepth 100000 in
theorem exact_rank (p : Option Addr) (n c b o : Nat) (M : Ms) (hn : n ≤ maxLen) (hx : M.chk n = 0) (hd : M.det n = 0) (w : World) (hS : SlM w p n b o M) : Calls Try.prog 36 #[.slice p n c] w fun e w' => e = .returned (.tuple #[.agg #[.int .i64 0, .int .u64 0, .int .i64 0, .int .u64 0, .int .i64 0, .int .i64 0, .int .i64 0], .int .i64 14]) ∧ Kept w w' := by
  have rbz : ∀ w, (Instr.build 38 #[]).run Try.prog w = .ok (.agg #[.int .i64 0, .int .u64 0, .int .i64 0, .int .u64 0, .int .i64 0, .int .i64 0, .int .i64 0]) w := fun w => run_build w 38 #[] _ (by kernel_rfl)
  obtain ⟨n16, hall⟩ := Ms.chk_0 hx
  have mb := mb_of n16 hall
  have mx := mx_of mb
  have HN := Lib.hid (ref_normal_ok p n c b o M hn hx)
  obtain ⟨a0, a1⟩ := mb.xx
  obtain ⟨a2, a3⟩ := mb.xy
  obtain ⟨a4, a5⟩ := mb.yy
  obtain ⟨a6, a7⟩ := mb.xz
  obtain ⟨a8, a9⟩ := mb.yz
  obtain ⟨x0, x1⟩ := mx.X
  obtain ⟨y0, y1⟩ := mx.Y
  obtain ⟨d0, d1⟩ := mx.d1
  obtain ⟨p0, p1⟩ := mx.p1
  obtain ⟨p2, p3⟩ := mx.p2
  obtain ⟨r0, r1⟩ := mx.q1
  obtain ⟨r2, r3⟩ := mx.q2
  obtain ⟨r4, r5⟩ := mx.q3
  obtain ⟨r6, r7⟩ := mx.q4
  have x0' : -9444732965739290427392 ≤ M.yy n * M.xz n - M.xy n * M.yz n := x0
  have x1' : M.yy n * M.xz n - M.xy n * M.yz n ≤ 9444732965739290427392 := x1
  have y0' : -9444732965739290427392 ≤ M.xx n * M.yz n - M.xy n * M.xz n := y0
  have y1' : M.xx n * M.yz n - M.xy n * M.xz n ≤ 9444732965739290427392 := y1
  have HX := Lib.hid (minor_w (M.yy n) (M.xz n) (M.xy n) (M.yz n) (by omega) (by omega) (by omega) (by omega) (by omega) (by omega) (by omega) (by omega) (by omega) (by omega) (by omega) (by omega) (by omega) (by omega))
  have HY := Lib.hid (minor_w (M.xx n) (M.yz n) (M.xy n) (M.xz n) (by omega) (by omega) (by omega) (by omega) (by omega) (by omega) (by omega) (by omega) (by omega) (by omega) (by omega) (by omega) (by omega) (by omega))
  have eX : M.yy n * M.xz n - M.xy n * M.yz n = M.X n := rfl
  have eY : M.xx n * M.yz n - M.xy n * M.xz n = M.Y n := rfl
  rw [eX] at HX
  rw [eY] at HY
  have eD : M.xx n * M.yy n - M.xy n * M.xy n = M.det n := rfl
  have k0 : IntKind.i64.wrap (M.xx n * M.yy n) = M.xx n * M.yy n := IntWalk.i64_in _ (by omega)
  have k1 : IntKind.i64.wrap (M.xy n * M.xy n) = M.xy n * M.xy n := IntWalk.i64_in _ (by omega)
  have k2 : IntKind.i64.wrap (M.xx n * M.yy n - M.xy n * M.xy n) = M.det n := by rw [eD]; exact IntWalk.i64_in _ (by omega)
  rw [hd] at k2
  have HS := Lib.hid hS
  clear hS hd mb mx hall n16 hx hn a0 a1 a2 a3 a4 a5 a6 a7 a8 a9 x0 x1 y0 y1 d0 d1 p0 p1 p2 p3 r0 r1 r2 r3 r4 r5 r6 r7 x0' x1' y0' y1' eX eY eD
  generalize wh (M.X n) = A at *; generalize wl (M.X n) = a at *; generalize wh (M.Y n) = B at *; generalize wl (M.Y n) = g at *
  generalize M.xx n = N0 at *; generalize M.xy n = N1 at *; generalize M.yy n = N2 at *; generalize M.xz n = N3 at *; generalize M.yz n = N4 at *
  go_enter Try.func36, Try.ntmps36
  go_wp2_with fail
  refine (HN.out _ (HS.out.kept (by repeat (first | with_reducible exact Kept.refl _ | with_reducible assumption | with_reducible refine Kept.setCell ?_ (by first | (simp; done) | (simp; omega) | omega) _ | with_reducible refine Kept.alloc ?_ _ | with_reducible refine Kept.drewN ?_ _ | with_reducible refine Kept.drew ?_ | with_reducible refine Kept.trans ?_ (by with_reducible assumption) | with_reducible refine Kept.dr ?_ (by with_reducible assumption))))).mono ?_
  rintro e w1 ⟨rfl, hk1⟩
  refine kuz (b := w.heap.size) hk1 (by first | (simp; done) | (simp; omega) | omega) ?_
  intro ha hb hz1_0 hn1_0 hm1_0
  have hf1_0_0 : w1.cell? ⟨w.heap.size, 0, none⟩ = some (.int .i64 0) := (ha _).trans (by first | with_reducible assumption | (simp (maxDischargeDepth := 7) [go_sem]; done) | (simp (maxDischargeDepth := 7) [go_sem, *]; done))
  have hf1_0_1 : w1.cell? ⟨w.heap.size, 1, none⟩ = some (.int .u64 0) := (ha _).trans (by first | with_reducible assumption | (simp (maxDischargeDepth := 7) [go_sem]; done) | (simp (maxDischargeDepth := 7) [go_sem, *]; done))
  have hf1_0_2 : w1.cell? ⟨w.heap.size, 2, none⟩ = some (.int .i64 0) := (ha _).trans (by first | with_reducible assumption | (simp (maxDischargeDepth := 7) [go_sem]; done) | (simp (maxDischargeDepth := 7) [go_sem, *]; done))
  have hf1_0_3 : w1.cell? ⟨w.heap.size, 3, none⟩ = some (.int .u64 0) := (ha _).trans (by first | with_reducible assumption | (simp (maxDischargeDepth := 7) [go_sem]; done) | (simp (maxDischargeDepth := 7) [go_sem, *]; done))
  have hf1_0_4 : w1.cell? ⟨w.heap.size, 4, none⟩ = some (.int .i64 0) := (ha _).trans (by first | with_reducible assumption | (simp (maxDischargeDepth := 7) [go_sem]; done) | (simp (maxDischargeDepth := 7) [go_sem, *]; done))
  have hf1_0_5 : w1.cell? ⟨w.heap.size, 5, none⟩ = some (.int .i64 0) := (ha _).trans (by first | with_reducible assumption | (simp (maxDischargeDepth := 7) [go_sem]; done) | (simp (maxDischargeDepth := 7) [go_sem, *]; done))
  have hf1_0_6 : w1.cell? ⟨w.heap.size, 6, none⟩ = some (.int .i64 0) := (ha _).trans (by first | with_reducible assumption | (simp (maxDischargeDepth := 7) [go_sem]; done) | (simp (maxDischargeDepth := 7) [go_sem, *]; done))
  try have hg1_0 : ∀ o, w1.frozen? ⟨w.heap.size, o, none⟩ = false := by intro o; rw [hb]; first | (simp (maxDischargeDepth := 7) [go_sem]; done) | (simp (maxDischargeDepth := 7) [go_sem, *]; done)
  clear ha hb
  go_wp2_with fail
  have B0 : OwnB (w1.alloc (.cells #[.int .i64 N0, .int .i64 N1, .int .i64 N2, .int .i64 N3, .int .i64 N4] 26)) (w.heap.size) [.int .i64 0, .int .u64 0, .int .i64 0, .int .u64 0, .int .i64 0, .int .i64 0, .int .i64 0] := OwnB.alloc (show OwnB w1 (w.heap.size) [.int .i64 0, .int .u64 0, .int .i64 0, .int .u64 0, .int .i64 0, .int .i64 0, .int .i64 0] from ⟨hz1_0, hg1_0, hf1_0_0, hf1_0_1, hf1_0_2, hf1_0_3, hf1_0_4, hf1_0_5, hf1_0_6, trivial⟩) _
  have HB0_0 := Lib.hid B0
  clear B0
  have B1 : OwnB (w1.alloc (.cells #[.int .i64 N0, .int .i64 N1, .int .i64 N2, .int .i64 N3, .int .i64 N4] 26)) (w1.heap.size) [.int .i64 N0, .int .i64 N1, .int .i64 N2, .int .i64 N3, .int .i64 N4] := own_alloc _ [.int .i64 N0, .int .i64 N1, .int .i64 N2, .int .i64 N3, .int .i64 N4] 26
  have HB0_1 := Lib.hid B1
  clear B1
  go_upto_region 4 with (fail)
  go_cut [6] (fun p0 wx => ∃ b0 : Nat, p0 = .pointer (some ⟨b0, 0, none⟩) ∧ w.heap.size < b0 ∧ OwnB wx (b0) [.int .i64 A, .int .u64 a, .int .i64 B, .int .u64 g, .int .i64 0, .int .i64 0, .int .i64 0] ∧ OwnB wx (w.heap.size) [.int .i64 0, .int .u64 0, .int .i64 0, .int .u64 0, .int .i64 0, .int .i64 0, .int .i64 0] ∧ OwnB wx (w1.heap.size) [.int .i64 N0, .int .i64 N1, .int .i64 N2, .int .i64 N3, .int .i64 N4] ∧ Kept (w1.alloc (.cells #[.int .i64 N0, .int .i64 N1, .int .i64 N2, .int .i64 N3, .int .i64 N4] 26)) wx)
  case first =>
    go_region_held3 (fun W => W.cell? ⟨w1.heap.size, 0, none⟩ = some (.int .i64 N0) ∧ W.cell? ⟨w1.heap.size, 1, none⟩ = some (.int .i64 N1) ∧ W.cell? ⟨w1.heap.size, 2, none⟩ = some (.int .i64 N2) ∧ W.cell? ⟨w1.heap.size, 3, none⟩ = some (.int .i64 N3) ∧ W.cell? ⟨w1.heap.size, 4, none⟩ = some (.int .i64 N4)) (first | (go_keep; done) | (simp (maxDischargeDepth := 9) [*, World.cell?_alloc_some, World.cell?_setCell_far]; done) | (simp (maxDischargeDepth := 9) [go_sem, *]; done)) (first | (go_at_call 57; (with_reducible refine (HX.out _).mono ?_); rintro e n0 ⟨rfl, hk⟩; have hz := hk.size; (try (refine kuse (b := w.heap.size) hk (by first | (simp; done) | (simp; omega) | omega) ?_; intro hq hg; have hy : w.heap.size < n0.heap.size := (by (try simp at hz); omega); have hn : ¬ w.heap.size = n0.heap.size := (by omega); have hm : ¬ w.heap.size = n0.heap.size + 1 := (by omega); have hn' : ¬ n0.heap.size = w.heap.size := (by omega); have hm' : ¬ n0.heap.size + 1 = w.heap.size := (by omega))); (try (refine kuse (b := w1.heap.size) hk (by first | (simp; done) | (simp; omega) | omega) ?_; intro hq hg; have hy : w1.heap.size < n0.heap.size := (by (try simp at hz); omega); have hn : ¬ w1.heap.size = n0.heap.size := (by omega); have hm : ¬ w1.heap.size = n0.heap.size + 1 := (by omega); have hn' : ¬ n0.heap.size = w1.heap.size := (by omega); have hm' : ¬ n0.heap.size + 1 = w1.heap.size := (by omega))); (try (have hle : w1.heap.size ≤ n0.heap.size := (by (try simp at hz); omega))); (try (refine kuse (b := w1.heap.size + 1) hk (by first | (simp; done) | (simp; omega) | omega) ?_; intro hq hg; have hy : w1.heap.size + 1 < n0.heap.size := (by (try simp at hz); omega))); (try (refine withF (p := n0.cell? ⟨w1.heap.size, 0, none⟩ = some (.int .i64 N0)) (by first | (simp (maxDischargeDepth := 7) [go_sem, *]; done) | fail) ?_; intro ff)); (try (refine withF (p := n0.cell? ⟨w1.heap.size, 1, none⟩ = some (.int .i64 N1)) (by first | (simp (maxDischargeDepth := 7) [go_sem, *]; done) | fail) ?_; intro ff)); (try (refine withF (p := n0.cell? ⟨w1.heap.size, 2, none⟩ = some (.int .i64 N2)) (by first | (simp (maxDischargeDepth := 7) [go_sem, *]; done) | fail) ?_; intro ff)); (try (refine withF (p := n0.cell? ⟨w1.heap.size, 3, none⟩ = some (.int .i64 N3)) (by first | (simp (maxDischargeDepth := 7) [go_sem, *]; done) | fail) ?_; intro ff)); (try (refine withF (p := n0.cell? ⟨w1.heap.size, 4, none⟩ = some (.int .i64 N4)) (by first | (simp (maxDischargeDepth := 7) [go_sem, *]; done) | fail) ?_; intro ff))) | (go_at_call 57; (with_reducible refine (HY.out _).mono ?_); rintro e n1 ⟨rfl, hk⟩; have hz := hk.size; (try (refine kuse (b := w.heap.size) hk (by first | (simp; done) | (simp; omega) | omega) ?_; intro hq hg; have hy : w.heap.size < n1.heap.size := (by (try simp at hz); omega); have hn : ¬ w.heap.size = n1.heap.size := (by omega); have hm : ¬ w.heap.size = n1.heap.size + 1 := (by omega); have hn' : ¬ n1.heap.size = w.heap.size := (by omega); have hm' : ¬ n1.heap.size + 1 = w.heap.size := (by omega))); (try (refine kuse (b := w1.heap.size) hk (by first | (simp; done) | (simp; omega) | omega) ?_; intro hq hg; have hy : w1.heap.size < n1.heap.size := (by (try simp at hz); omega); have hn : ¬ w1.heap.size = n1.heap.size := (by omega); have hm : ¬ w1.heap.size = n1.heap.size + 1 := (by omega); have hn' : ¬ n1.heap.size = w1.heap.size := (by omega); have hm' : ¬ n1.heap.size + 1 = w1.heap.size := (by omega))); (try (have hle : w1.heap.size ≤ n1.heap.size := (by (try simp at hz); omega))); (try (have hle : n0.heap.size ≤ n1.heap.size := (by (try simp at hz); omega))); (try (refine kuse (b := n0.heap.size) hk (by first | (simp; done) | (simp; omega) | omega) ?_; intro hq hg; have hy : n0.heap.size < n1.heap.size := (by (try simp at hz); omega))); (try (refine kuse (b := w1.heap.size + 1) hk (by first | (simp; done) | (simp; omega) | omega) ?_; intro hq hg; have hy : w1.heap.size + 1 < n1.heap.size := (by (try simp at hz); omega))); (try (refine withF (p := n1.cell? ⟨w1.heap.size, 0, none⟩ = some (.int .i64 N0)) (by first | (simp (maxDischargeDepth := 7) [go_sem, *]; done) | fail) ?_; intro ff)); (try (refine withF (p := n1.cell? ⟨w1.heap.size, 1, none⟩ = some (.int .i64 N1)) (by first | (simp (maxDischargeDepth := 7) [go_sem, *]; done) | fail) ?_; intro ff)); (try (refine withF (p := n1.cell? ⟨w1.heap.size, 2, none⟩ = some (.int .i64 N2)) (by first | (simp (maxDischargeDepth := 7) [go_sem, *]; done) | fail) ?_; intro ff)); (try (refine withF (p := n1.cell? ⟨w1.heap.size, 3, none⟩ = some (.int .i64 N3)) (by first | (simp (maxDischargeDepth := 7) [go_sem, *]; done) | fail) ?_; intro ff)); (try (refine withF (p := n1.cell? ⟨w1.heap.size, 4, none⟩ = some (.int .i64 N4)) (by first | (simp (maxDischargeDepth := 7) [go_sem, *]; done) | fail) ?_; intro ff))))
    all_goals (try go_wp2_with fail)
    all_goals (go_meet; case rel => refine (fun (hkx : Kept (w1.alloc (.cells #[.int .i64 N0, .int .i64 N1, .int .i64 N2, .int .i64 N3, .int .i64 N4] 26)) _) => ⟨_, rfl, (by first | with_reducible assumption | omega | (simp; omega)), (by repeat (first | with_reducible exact own_alloc _ [.int .i64 A, .int .u64 a, .int .i64 B, .int .u64 g, .int .i64 0, .int .i64 0, .int .i64 0] 38 | with_reducible exact own_alloc _ [.int .i64 0, .int .u64 0, .int .i64 0, .int .u64 0, .int .i64 0, .int .i64 0, .int .i64 0] 38 | ((with_reducible refine own_allocE _ [.int .i64 A, .int .u64 a, .int .i64 B, .int .u64 g, .int .i64 0, .int .i64 0, .int .i64 0] 38 _ ?_); (simp; done)) | ((with_reducible refine own_allocE _ [.int .i64 0, .int .u64 0, .int .i64 0, .int .u64 0, .int .i64 0, .int .i64 0, .int .i64 0] 38 _ ?_); (simp; done)) | with_reducible refine own_set7 (us := [.int .i64 0, .int .u64 0, .int .i64 0, .int .u64 0, .int .i64 0, .int .i64 0, .int .i64 0]) ?_ rfl | with_reducible refine OwnB.other7 ?_ (by first | with_reducible assumption | omega | (simp; done) | (simp; omega)) | with_reducible refine OwnB.alloc ?_ _ | with_reducible refine OwnB.drew ?_ | with_reducible refine OwnB.drewN ?_ _ | with_reducible refine OwnB.kept (by with_reducible assumption) ?_)), OwnB.kept hkx HB0_0.out, OwnB.kept hkx HB0_1.out, hkx⟩) ?_; exact (by repeat (first | with_reducible exact Kept.refl _ | with_reducible assumption | with_reducible refine Kept.set12 ?_ (by first | with_reducible assumption | omega | (simp; done) | (simp; omega)) | with_reducible refine Kept.set11 ?_ (by first | with_reducible assumption | omega | (simp; done) | (simp; omega)) | with_reducible refine Kept.set10 ?_ (by first | with_reducible assumption | omega | (simp; done) | (simp; omega)) | with_reducible refine Kept.set9 ?_ (by first | with_reducible assumption | omega | (simp; done) | (simp; omega)) | with_reducible refine Kept.set8 ?_ (by first | with_reducible assumption | omega | (simp; done) | (simp; omega)) | with_reducible refine Kept.set7 ?_ (by first | with_reducible assumption | omega | (simp; done) | (simp; omega)) | with_reducible refine Kept.set6 ?_ (by first | with_reducible assumption | omega | (simp; done) | (simp; omega)) | with_reducible refine Kept.set5 ?_ (by first | with_reducible assumption | omega | (simp; done) | (simp; omega)) | with_reducible refine Kept.set4 ?_ (by first | with_reducible assumption | omega | (simp; done) | (simp; omega)) | with_reducible refine Kept.set3 ?_ (by first | with_reducible assumption | omega | (simp; done) | (simp; omega)) | with_reducible refine Kept.set2 ?_ (by first | with_reducible assumption | omega | (simp; done) | (simp; omega)) | with_reducible refine Kept.setCell ?_ (by first | with_reducible assumption | omega | (simp; done) | (simp; omega)) _ | with_reducible refine Kept.alloc ?_ _ | with_reducible refine Kept.drewN ?_ _ | with_reducible refine Kept.drew ?_ | with_reducible refine Kept.trans ?_ (by with_reducible assumption) | with_reducible refine Kept.dr ?_ (by with_reducible assumption))))
  case rest =>
  obtain ⟨b1_0, rfl, lt1_0, O1_0, O1_1, O1_2, hkc1⟩ := hcut
  obtain ⟨hz_c1_0, hg_c1_0, hf_c1_0_0, hf_c1_0_1, hf_c1_0_2, hf_c1_0_3, hf_c1_0_4, hf_c1_0_5, hf_c1_0_6, _⟩ := O1_0
  obtain ⟨hz_c1_1, hg_c1_1, hf_c1_1_0, hf_c1_1_1, hf_c1_1_2, hf_c1_1_3, hf_c1_1_4, hf_c1_1_5, hf_c1_1_6, _⟩ := O1_1
  obtain ⟨hz_c1_2, hg_c1_2, hf_c1_2_0, hf_c1_2_1, hf_c1_2_2, hf_c1_2_3, hf_c1_2_4, _⟩ := O1_2
  try clear hf1_0_0
  try clear hf1_0_1
  try clear hf1_0_2
  try clear hf1_0_3
  try clear hf1_0_4
  try clear hf1_0_5
  try clear hf1_0_6
  try clear hg1_0
  have B0 : OwnB wc (b1_0) [.int .i64 A, .int .u64 a, .int .i64 B, .int .u64 g, .int .i64 0, .int .i64 0, .int .i64 0] := show OwnB wc (b1_0) [.int .i64 A, .int .u64 a, .int .i64 B, .int .u64 g, .int .i64 0, .int .i64 0, .int .i64 0] from ⟨hz_c1_0, hg_c1_0, hf_c1_0_0, hf_c1_0_1, hf_c1_0_2, hf_c1_0_3, hf_c1_0_4, hf_c1_0_5, hf_c1_0_6, trivial⟩
  have HC2_0 := Lib.hid B0
  clear B0
  have B1 : OwnB wc (w.heap.size) [.int .i64 0, .int .u64 0, .int .i64 0, .int .u64 0, .int .i64 0, .int .i64 0, .int .i64 0] := show OwnB wc (w.heap.size) [.int .i64 0, .int .u64 0, .int .i64 0, .int .u64 0, .int .i64 0, .int .i64 0, .int .i64 0] from ⟨hz_c1_1, hg_c1_1, hf_c1_1_0, hf_c1_1_1, hf_c1_1_2, hf_c1_1_3, hf_c1_1_4, hf_c1_1_5, hf_c1_1_6, trivial⟩
  have HC2_1 := Lib.hid B1
  clear B1
  have B2 : OwnB wc (w1.heap.size) [.int .i64 N0, .int .i64 N1, .int .i64 N2, .int .i64 N3, .int .i64 N4] := show OwnB wc (w1.heap.size) [.int .i64 N0, .int .i64 N1, .int .i64 N2, .int .i64 N3, .int .i64 N4] from ⟨hz_c1_2, hg_c1_2, hf_c1_2_0, hf_c1_2_1, hf_c1_2_2, hf_c1_2_3, hf_c1_2_4, trivial⟩
  have HC2_2 := Lib.hid B2
  clear B2
  go_upto_region 6 with (fail)
  go_cut [3] (fun p0 wx => p0 = .int .i64 14 ∧ OwnB wx (b1_0) [.int .i64 A, .int .u64 a, .int .i64 B, .int .u64 g, .int .i64 0, .int .i64 0, .int .i64 0] ∧ OwnB wx (w.heap.size) [.int .i64 0, .int .u64 0, .int .i64 0, .int .u64 0, .int .i64 0, .int .i64 0, .int .i64 0] ∧ OwnB wx (w1.heap.size) [.int .i64 N0, .int .i64 N1, .int .i64 N2, .int .i64 N3, .int .i64 N4] ∧ Kept w wx)
  case first =>
    skip
    all_goals (try go_wp2_with fail)
    all_goals (go_meet; case rel => exact ⟨rfl, (by repeat (first | with_reducible exact HC2_0.out | with_reducible refine OwnB.setOther ?_ (by first | with_reducible assumption | omega | (simp; done) | (simp; omega)) | with_reducible refine OwnB.drew ?_ | with_reducible refine OwnB.drewN ?_ _ | with_reducible refine OwnB.alloc ?_ _ | with_reducible refine OwnB.kept (by with_reducible assumption) ?_)), (by repeat (first | with_reducible exact HC2_1.out | with_reducible refine own_s7 (u0 := .int .i64 0) (u1 := .int .u64 0) (u2 := .int .i64 0) (u3 := .int .u64 0) (u4 := .int .i64 0) (u5 := .int .i64 0) (u6 := .int .i64 0) ?_ | with_reducible refine OwnB.setOther ?_ (by first | with_reducible assumption | omega | (simp; done) | (simp; omega)) | with_reducible refine OwnB.drew ?_ | with_reducible refine OwnB.drewN ?_ _ | with_reducible refine OwnB.alloc ?_ _ | with_reducible refine OwnB.kept (by with_reducible assumption) ?_)), (by repeat (first | with_reducible exact HC2_2.out | with_reducible refine OwnB.setOther ?_ (by first | with_reducible assumption | omega | (simp; done) | (simp; omega)) | with_reducible refine OwnB.drew ?_ | with_reducible refine OwnB.drewN ?_ _ | with_reducible refine OwnB.alloc ?_ _ | with_reducible refine OwnB.kept (by with_reducible assumption) ?_)), (by repeat (first | with_reducible exact Kept.refl _ | with_reducible assumption | with_reducible refine Kept.setCell ?_ (by first | (simp; done) | (simp; omega) | omega) _ | with_reducible refine Kept.alloc ?_ _ | with_reducible refine Kept.drewN ?_ _ | with_reducible refine Kept.drew ?_ | with_reducible refine Kept.trans ?_ (by with_reducible assumption) | with_reducible refine Kept.dr ?_ (by with_reducible assumption)))⟩)
  case rest =>
  obtain ⟨rfl, O2_0, O2_1, O2_2, hkc2⟩ := hcut
  obtain ⟨hz_c2_0, hg_c2_0, hf_c2_0_0, hf_c2_0_1, hf_c2_0_2, hf_c2_0_3, hf_c2_0_4, hf_c2_0_5, hf_c2_0_6, _⟩ := O2_0
  obtain ⟨hz_c2_1, hg_c2_1, hf_c2_1_0, hf_c2_1_1, hf_c2_1_2, hf_c2_1_3, hf_c2_1_4, hf_c2_1_5, hf_c2_1_6, _⟩ := O2_1
  obtain ⟨hz_c2_2, hg_c2_2, hf_c2_2_0, hf_c2_2_1, hf_c2_2_2, hf_c2_2_3, hf_c2_2_4, _⟩ := O2_2
  try clear hf_c1_0_0
  try clear hf_c1_0_1
  try clear hf_c1_0_2
  try clear hf_c1_0_3
  try clear hf_c1_0_4
  try clear hf_c1_0_5
  try clear hf_c1_0_6
  try clear hf_c1_1_0
  try clear hf_c1_1_1
  try clear hf_c1_1_2
  try clear hf_c1_1_3
  try clear hf_c1_1_4
  try clear hf_c1_1_5
  try clear hf_c1_1_6
  try clear hf_c1_2_0
  try clear hf_c1_2_1
  try clear hf_c1_2_2
  try clear hf_c1_2_3
  try clear hf_c1_2_4
  try clear hg_c1_0
  try clear hg_c1_1
  try clear hg_c1_2
  repeat (first | go_values | go_skip | go_guarded | go_step | go_upon)
  all_goals exact bodyPost_ret (v := .tuple #[.agg #[.int .i64 0, .int .u64 0, .int .i64 0, .int .u64 0, .int .i64 0, .int .i64 0, .int .i64 0], .int .i64 14]) (by simp (maxDischargeDepth := 3) [results, Try.results36, go_sem, *]; done) rfl ⟨rfl, (by repeat (first | with_reducible exact Kept.refl _ | with_reducible assumption | with_reducible refine Kept.setCell ?_ (by first | (simp; done) | (simp; omega) | omega) _ | with_reducible refine Kept.alloc ?_ _ | with_reducible refine Kept.drewN ?_ _ | with_reducible refine Kept.drew ?_ | with_reducible refine Kept.trans ?_ (by with_reducible assumption) | with_reducible refine Kept.dr ?_ (by with_reducible assumption)))⟩
end Go.Proofs.Ytoegcfdlecbcjaa
