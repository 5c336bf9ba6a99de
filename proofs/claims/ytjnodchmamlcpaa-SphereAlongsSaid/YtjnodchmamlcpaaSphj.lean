/-
  Own contracts: the document's answers of layer 9: positions along a great circle; the law.
-/
import Derived.Test.YtjnodchmamlcpaaSphh
import Derived.WalkKit
import Derived.ProofKit
import Derived.OpenShut
import Derived.WalkLawsBesides
import Derived.WalkSpells
import Derived.Lib.Hide
import Derived.Deep.DeepCutAuto
import Derived.Deep.CutBlock
import Derived.Deep.QuietTactic
import Derived.BigQuiet
import Derived.Handy
import Derived.StillTailTactics
import Derived.IntWalk
import Derived.LoopN
import Derived.Deep.RegionHeld3
namespace Go.Proofs.Ytjnodchmamlcpaa
open Go.ChangeShapes Go.WideShapes Go.ChangeAt Go.RowKit
set_option linter.unusedVariables false
set_option linter.unusedSimpArgs false
set_option maxHeartbeats 2000000 in
set_option maxRecDepth 100000 in
theorem ref_along_ok (la lo : Int) (la0 : -32400000 ≤ la) (la1 : la ≤ 32400000) (lo0 : -64800000 < lo) (lo1 : lo ≤ 64800000) (c d : Int) (c_0 : -9223372036854775808 ≤ c) (c_1 : c ≤ 9223372036854775807) (d0 : 0 ≤ d) (d1 : d ≤ 64800000) (w : World) : Calls Try.prog 29 #[.agg #[.int .i64 la, .int .i64 lo], .int .i64 c, .int .i64 d] w fun e w' => e = .returned (.tuple #[.agg #[.int .i64 (psLa (al0 la lo c d) (al1 la lo c d) (al2 la lo c d)), .int .i64 (psLo (al0 la lo c d) (al1 la lo c d) (al2 la lo c d))], .int .i64 (psE (al0 la lo c d) (al1 la lo c d) (al2 la lo c d))]) ∧ Kept w w' := by
  have bd0 := sinV_bd lo
  obtain ⟨bd00, bd01⟩ := bd0
  have bd1 := cosV_bd lo
  obtain ⟨bd10, bd11⟩ := bd1
  have bd2 := cosV_bd la
  obtain ⟨bd20, bd21⟩ := bd2
  have bd3 := fA_bd la lo
  obtain ⟨bd30, bd31⟩ := bd3
  have bd4 := fB_bd la lo
  obtain ⟨bd40, bd41⟩ := bd4
  have bd5 := uX_bd la lo
  obtain ⟨bd50, bd51⟩ := bd5
  have bd6 := uY_bd la lo
  obtain ⟨bd60, bd61⟩ := bd6
  have bd7 := uZ_bd la lo
  obtain ⟨bd70, bd71⟩ := bd7
  have bd8 := sinV_bd c
  obtain ⟨bd80, bd81⟩ := bd8
  have bd9 := cosV_bd c
  obtain ⟨bd90, bd91⟩ := bd9
  have bd10 := sinV_bd d
  obtain ⟨bd100, bd101⟩ := bd10
  have bd11 := cosV_bd d
  obtain ⟨bd110, bd111⟩ := bd11
  obtain ⟨m00, m01⟩ := mul_sb (-sinV lo) (sinV c) (by omega) (by omega) (by omega) (by omega)
  obtain ⟨m10, m11⟩ := mul_sb (fA la lo) (cosV c) (by omega) (by omega) (by omega) (by omega)
  obtain ⟨m20, m21⟩ := mul_sb (cosV lo) (sinV c) (by omega) (by omega) (by omega) (by omega)
  obtain ⟨m30, m31⟩ := mul_sb (fB la lo) (cosV c) (by omega) (by omega) (by omega) (by omega)
  obtain ⟨m40, m41⟩ := mul_sb (cosV la) (cosV c) (by omega) (by omega) (by omega) (by omega)
  obtain ⟨m50, m51⟩ := mul_sb (uX la lo) (cosV d) (by omega) (by omega) (by omega) (by omega)
  obtain ⟨m60, m61⟩ := mul_sb (uY la lo) (cosV d) (by omega) (by omega) (by omega) (by omega)
  obtain ⟨m70, m71⟩ := mul_sb (uZ la lo) (cosV d) (by omega) (by omega) (by omega) (by omega)
  have g0_ : -2147483648 ≤ r30 (-sinV lo * sinV c - fA la lo * cosV c) ∧ r30 (-sinV lo * sinV c - fA la lo * cosV c) ≤ 2147483648 := by unfold r30; omega
  obtain ⟨A0, e0⟩ : ∃ A, r30 (-sinV lo * sinV c - fA la lo * cosV c) = A := ⟨_, rfl⟩
  rw [e0] at g0_
  obtain ⟨g00, g01⟩ := g0_
  have g1_ : -2147483648 ≤ r30 (cosV lo * sinV c - fB la lo * cosV c) ∧ r30 (cosV lo * sinV c - fB la lo * cosV c) ≤ 2147483648 := by unfold r30; omega
  obtain ⟨A1, e1⟩ : ∃ A, r30 (cosV lo * sinV c - fB la lo * cosV c) = A := ⟨_, rfl⟩
  rw [e1] at g1_
  obtain ⟨g10, g11⟩ := g1_
  have g2_ : -2147483648 ≤ r30 (cosV la * cosV c) ∧ r30 (cosV la * cosV c) ≤ 2147483648 := by unfold r30; omega
  obtain ⟨A2, e2⟩ : ∃ A, r30 (cosV la * cosV c) = A := ⟨_, rfl⟩
  rw [e2] at g2_
  obtain ⟨g20, g21⟩ := g2_
  obtain ⟨k00, k01⟩ := mul_sb' A0 (sinV d) 2147483648 1073741824 (by omega) (by omega) (by omega) (by omega)
  obtain ⟨k10, k11⟩ := mul_sb' A1 (sinV d) 2147483648 1073741824 (by omega) (by omega) (by omega) (by omega)
  obtain ⟨k20, k21⟩ := mul_sb' A2 (sinV d) 2147483648 1073741824 (by omega) (by omega) (by omega) (by omega)
  have f0_ : -4294967296 ≤ r30 (uX la lo * cosV d + A0 * sinV d) ∧ r30 (uX la lo * cosV d + A0 * sinV d) ≤ 4294967296 := by unfold r30; omega
  obtain ⟨V0, v0_⟩ : ∃ A, r30 (uX la lo * cosV d + A0 * sinV d) = A := ⟨_, rfl⟩
  rw [v0_] at f0_
  obtain ⟨f00, f01⟩ := f0_
  have G0 : al0 la lo c d = V0 := by unfold al0 ah0; rw [e0, v0_]
  rw [G0]
  clear G0
  have f1_ : -4294967296 ≤ r30 (uY la lo * cosV d + A1 * sinV d) ∧ r30 (uY la lo * cosV d + A1 * sinV d) ≤ 4294967296 := by unfold r30; omega
  obtain ⟨V1, v1_⟩ : ∃ A, r30 (uY la lo * cosV d + A1 * sinV d) = A := ⟨_, rfl⟩
  rw [v1_] at f1_
  obtain ⟨f10, f11⟩ := f1_
  have G1 : al1 la lo c d = V1 := by unfold al1 ah1; rw [e1, v1_]
  rw [G1]
  clear G1
  have f2_ : -4294967296 ≤ r30 (uZ la lo * cosV d + A2 * sinV d) ∧ r30 (uZ la lo * cosV d + A2 * sinV d) ≤ 4294967296 := by unfold r30; omega
  obtain ⟨V2, v2_⟩ : ∃ A, r30 (uZ la lo * cosV d + A2 * sinV d) = A := ⟨_, rfl⟩
  rw [v2_] at f2_
  obtain ⟨f20, f21⟩ := f2_
  have G2 : al2 la lo c d = V2 := by unfold al2 ah2; rw [e2, v2_]
  rw [G2]
  clear G2
  have wr0 : IntKind.i64.wrap (-sinV lo) = -sinV lo := IntWalk.i64_in _ (by omega)
  have wr1 : IntKind.i64.wrap (-sinV lo * sinV c) = -sinV lo * sinV c := IntWalk.i64_in _ (by omega)
  have wr2 : IntKind.i64.wrap (fA la lo * cosV c) = fA la lo * cosV c := IntWalk.i64_in _ (by omega)
  have wr3 : IntKind.i64.wrap (cosV lo * sinV c) = cosV lo * sinV c := IntWalk.i64_in _ (by omega)
  have wr4 : IntKind.i64.wrap (fB la lo * cosV c) = fB la lo * cosV c := IntWalk.i64_in _ (by omega)
  have wr5 : IntKind.i64.wrap (cosV la * cosV c) = cosV la * cosV c := IntWalk.i64_in _ (by omega)
  have wr6 : IntKind.i64.wrap (-sinV lo * sinV c - fA la lo * cosV c) = -sinV lo * sinV c - fA la lo * cosV c := IntWalk.i64_in _ (by omega)
  have wr7 : IntKind.i64.wrap (cosV lo * sinV c - fB la lo * cosV c) = cosV lo * sinV c - fB la lo * cosV c := IntWalk.i64_in _ (by omega)
  have wr8 : IntKind.i64.wrap (uX la lo * cosV d) = uX la lo * cosV d := IntWalk.i64_in _ (by omega)
  have wr9 : IntKind.i64.wrap (uY la lo * cosV d) = uY la lo * cosV d := IntWalk.i64_in _ (by omega)
  have wr10 : IntKind.i64.wrap (uZ la lo * cosV d) = uZ la lo * cosV d := IntWalk.i64_in _ (by omega)
  have wr11 : IntKind.i64.wrap (A0 * sinV d) = A0 * sinV d := IntWalk.i64_in _ (by omega)
  have wr12 : IntKind.i64.wrap (A1 * sinV d) = A1 * sinV d := IntWalk.i64_in _ (by omega)
  have wr13 : IntKind.i64.wrap (A2 * sinV d) = A2 * sinV d := IntWalk.i64_in _ (by omega)
  have wr14 : IntKind.i64.wrap (uX la lo * cosV d + A0 * sinV d) = uX la lo * cosV d + A0 * sinV d := IntWalk.i64_in _ (by omega)
  have wr15 : IntKind.i64.wrap (uY la lo * cosV d + A1 * sinV d) = uY la lo * cosV d + A1 * sinV d := IntWalk.i64_in _ (by omega)
  have wr16 : IntKind.i64.wrap (uZ la lo * cosV d + A2 * sinV d) = uZ la lo * cosV d + A2 * sinV d := IntWalk.i64_in _ (by omega)
  go_enter Try.func29, Try.ntmps29
  go_wp2_with fail
  with_reducible refine (ref_of_ok la lo la0 la1 lo0 lo1 _).mono ?_
  rintro e w1 ⟨rfl, hk1⟩
  refine kuse (b := w.heap.size) hk1 (by first | (simp; done) | (simp; omega) | omega) ?_
  intro ha hb
  have hz1_0 : w.heap.size < w1.heap.size := by have := hk1.size; (try simp at this); omega
  have hn1_0 : ¬ w.heap.size = w1.heap.size := by omega
  have hm1_0 : ¬ w1.heap.size = w.heap.size := by omega
  have hf1_0_0 : w1.cell? ⟨w.heap.size, 0, none⟩ = some (.int .i64 la) := by first | (rw [ha]; with_reducible assumption) | (simp (maxDischargeDepth := 7) [go_sem, ha]; done) | (rw [ha]; assumption) | (simp (maxDischargeDepth := 7) [go_sem, ha, *]; done)
  have hf1_0_1 : w1.cell? ⟨w.heap.size, 1, none⟩ = some (.int .i64 lo) := by first | (rw [ha]; with_reducible assumption) | (simp (maxDischargeDepth := 7) [go_sem, ha]; done) | (rw [ha]; assumption) | (simp (maxDischargeDepth := 7) [go_sem, ha, *]; done)
  try have hg1_0 : ∀ o, w1.frozen? ⟨w.heap.size, o, none⟩ = false := by intro o; first | (simp (maxDischargeDepth := 7) [go_sem, hb]; done) | (rw [hb]; simp (maxDischargeDepth := 7) [go_sem, *]; done)
  clear ha hb
  refine kuse (b := w.heap.size + 1) hk1 (by first | (simp; done) | (simp; omega) | omega) ?_
  intro ha hb
  have hz1_1 : w.heap.size + 1 < w1.heap.size := by have := hk1.size; (try simp at this); omega
  have hn1_1 : ¬ w.heap.size + 1 = w1.heap.size := by omega
  have hm1_1 : ¬ w1.heap.size = w.heap.size + 1 := by omega
  have hf1_1_0 : w1.cell? ⟨w.heap.size + 1, 0, none⟩ = some (.int .i64 (0)) := by first | (rw [ha]; with_reducible assumption) | (simp (maxDischargeDepth := 7) [go_sem, ha]; done) | (rw [ha]; assumption) | (simp (maxDischargeDepth := 7) [go_sem, ha, *]; done)
  have hf1_1_1 : w1.cell? ⟨w.heap.size + 1, 1, none⟩ = some (.int .i64 (0)) := by first | (rw [ha]; with_reducible assumption) | (simp (maxDischargeDepth := 7) [go_sem, ha]; done) | (rw [ha]; assumption) | (simp (maxDischargeDepth := 7) [go_sem, ha, *]; done)
  try have hg1_1 : ∀ o, w1.frozen? ⟨w.heap.size + 1, o, none⟩ = false := by intro o; first | (simp (maxDischargeDepth := 7) [go_sem, hb]; done) | (rw [hb]; simp (maxDischargeDepth := 7) [go_sem, *]; done)
  clear ha hb
  go_wp2_with fail
  with_reducible refine (ref_slopes_w la lo la0 la1 lo0 lo1 _).mono ?_
  rintro e w2 ⟨rfl, hk2⟩
  refine kuse (b := w.heap.size) hk2 (by first | (simp; done) | (simp; omega) | omega) ?_
  intro ha hb
  have hz2_0 : w.heap.size < w2.heap.size := by have := hk2.size; (try simp at this); omega
  have hn2_0 : ¬ w.heap.size = w2.heap.size := by omega
  have hm2_0 : ¬ w2.heap.size = w.heap.size := by omega
  have hf2_0_0 : w2.cell? ⟨w.heap.size, 0, none⟩ = some (.int .i64 la) := by first | (rw [ha]; with_reducible assumption) | (simp (maxDischargeDepth := 7) [go_sem, ha]; done) | (rw [ha]; assumption) | (simp (maxDischargeDepth := 7) [go_sem, ha, *]; done)
  have hf2_0_1 : w2.cell? ⟨w.heap.size, 1, none⟩ = some (.int .i64 lo) := by first | (rw [ha]; with_reducible assumption) | (simp (maxDischargeDepth := 7) [go_sem, ha]; done) | (rw [ha]; assumption) | (simp (maxDischargeDepth := 7) [go_sem, ha, *]; done)
  try have hg2_0 : ∀ o, w2.frozen? ⟨w.heap.size, o, none⟩ = false := by intro o; first | (simp (maxDischargeDepth := 7) [go_sem, hb]; done) | (rw [hb]; simp (maxDischargeDepth := 7) [go_sem, *]; done)
  clear ha hb
  refine kuse (b := w.heap.size + 1) hk2 (by first | (simp; done) | (simp; omega) | omega) ?_
  intro ha hb
  have hz2_1 : w.heap.size + 1 < w2.heap.size := by have := hk2.size; (try simp at this); omega
  have hn2_1 : ¬ w.heap.size + 1 = w2.heap.size := by omega
  have hm2_1 : ¬ w2.heap.size = w.heap.size + 1 := by omega
  have hf2_1_0 : w2.cell? ⟨w.heap.size + 1, 0, none⟩ = some (.int .i64 (0)) := by first | (rw [ha]; with_reducible assumption) | (simp (maxDischargeDepth := 7) [go_sem, ha]; done) | (rw [ha]; assumption) | (simp (maxDischargeDepth := 7) [go_sem, ha, *]; done)
  have hf2_1_1 : w2.cell? ⟨w.heap.size + 1, 1, none⟩ = some (.int .i64 (0)) := by first | (rw [ha]; with_reducible assumption) | (simp (maxDischargeDepth := 7) [go_sem, ha]; done) | (rw [ha]; assumption) | (simp (maxDischargeDepth := 7) [go_sem, ha, *]; done)
  try have hg2_1 : ∀ o, w2.frozen? ⟨w.heap.size + 1, o, none⟩ = false := by intro o; first | (simp (maxDischargeDepth := 7) [go_sem, hb]; done) | (rw [hb]; simp (maxDischargeDepth := 7) [go_sem, *]; done)
  clear ha hb
  refine kuse (b := w1.heap.size) hk2 (by first | (simp; done) | (simp; omega) | omega) ?_
  intro ha hb
  have hz2_2 : w1.heap.size < w2.heap.size := by have := hk2.size; (try simp at this); omega
  have hn2_2 : ¬ w1.heap.size = w2.heap.size := by omega
  have hm2_2 : ¬ w2.heap.size = w1.heap.size := by omega
  have hf2_2_0 : w2.cell? ⟨w1.heap.size, 0, none⟩ = some (.int .i64 (uX la lo)) := by first | (rw [ha]; with_reducible assumption) | (simp (maxDischargeDepth := 7) [go_sem, ha]; done) | (rw [ha]; assumption) | (simp (maxDischargeDepth := 7) [go_sem, ha, *]; done)
  have hf2_2_1 : w2.cell? ⟨w1.heap.size, 1, none⟩ = some (.int .i64 (uY la lo)) := by first | (rw [ha]; with_reducible assumption) | (simp (maxDischargeDepth := 7) [go_sem, ha]; done) | (rw [ha]; assumption) | (simp (maxDischargeDepth := 7) [go_sem, ha, *]; done)
  have hf2_2_2 : w2.cell? ⟨w1.heap.size, 2, none⟩ = some (.int .i64 (uZ la lo)) := by first | (rw [ha]; with_reducible assumption) | (simp (maxDischargeDepth := 7) [go_sem, ha]; done) | (rw [ha]; assumption) | (simp (maxDischargeDepth := 7) [go_sem, ha, *]; done)
  try have hg2_2 : ∀ o, w2.frozen? ⟨w1.heap.size, o, none⟩ = false := by intro o; first | (simp (maxDischargeDepth := 7) [go_sem, hb]; done) | (rw [hb]; simp (maxDischargeDepth := 7) [go_sem, *]; done)
  clear ha hb
  try clear hf1_0_0
  try clear hf1_0_1
  try clear hf1_1_0
  try clear hf1_1_1
  try clear hg1_0
  try clear hg1_1
  try clear hz1_1
  go_wp2_with fail
  with_reducible refine (ref_sin_w c (by omega) (by omega) _).mono ?_
  rintro e w' ⟨rfl, rfl⟩
  go_wp2_with fail
  with_reducible refine (ref_cos_w c (by omega) (by omega) _).mono ?_
  rintro e w' ⟨rfl, rfl⟩
  go_wp2_with fail
  have B0 : OwnB w2 (w.heap.size) [.int .i64 la, .int .i64 lo] := ⟨hz2_0, hg2_0, hf2_0_0, hf2_0_1, trivial⟩
  have HB0_0 := Lib.hid B0
  clear B0
  have B1 : OwnB w2 (w.heap.size + 1) [.int .i64 (0), .int .i64 (0)] := ⟨hz2_1, hg2_1, hf2_1_0, hf2_1_1, trivial⟩
  have HB0_1 := Lib.hid B1
  clear B1
  have B2 : OwnB w2 (w1.heap.size) [.int .i64 (uX la lo), .int .i64 (uY la lo), .int .i64 (uZ la lo)] := ⟨hz2_2, hg2_2, hf2_2_0, hf2_2_1, hf2_2_2, trivial⟩
  have HB0_2 := Lib.hid B2
  clear B2
  go_upto_region 8 with (fail)
  go_cut [14] (fun p0 wx => ∃ b0 : Nat, p0 = .pointer (some ⟨b0, 0, none⟩) ∧ w.heap.size + 1 < b0 ∧ OwnB wx (b0) [.int .i64 (A0), .int .i64 (A1), .int .i64 (A2)] ∧ OwnB wx (w.heap.size) [.int .i64 la, .int .i64 lo] ∧ OwnB wx (w.heap.size + 1) [.int .i64 (0), .int .i64 (0)] ∧ OwnB wx (w1.heap.size) [.int .i64 (uX la lo), .int .i64 (uY la lo), .int .i64 (uZ la lo)] ∧ Kept w2 wx)
  case first =>
    go_region_held3 (fun W => W.cell? ⟨w.heap.size, 0, none⟩ = some (.int .i64 la) ∧ W.cell? ⟨w.heap.size, 1, none⟩ = some (.int .i64 lo)) (first | (go_keep; done) | (simp (maxDischargeDepth := 9) [*, World.cell?_alloc_some, World.cell?_setCell_far]; done) | (simp (maxDischargeDepth := 9) [go_sem, *]; done)) (first | (go_at_call 36; with_reducible refine (ref_cos_w _ (by omega) (by omega) _).mono ?_; rintro e w' ⟨rfl, rfl⟩) | (go_at_call 38; with_reducible refine (ref_sin_w _ (by omega) (by omega) _).mono ?_; rintro e w' ⟨rfl, rfl⟩) | (go_at_call 37; with_reducible refine (ref_round_w _ (by omega) (by omega) _).mono ?_; rintro e w' ⟨rfl, rfl⟩))
    all_goals (try go_wp2_with fail)
    all_goals (go_meet; case rel => refine (fun (hkx : Kept w2 _) => ⟨_, rfl, (by first | with_reducible assumption | omega | (simp; omega)), (by repeat (first | with_reducible exact own_alloc _ [.int .i64 (A0), .int .i64 (A1), .int .i64 (A2)] 26 | with_reducible exact own_alloc _ [.int .i64 0, .int .i64 0, .int .i64 0] 26 | ((with_reducible refine own_allocE _ [.int .i64 (A0), .int .i64 (A1), .int .i64 (A2)] 26 _ ?_); (simp; done)) | ((with_reducible refine own_allocE _ [.int .i64 0, .int .i64 0, .int .i64 0] 26 _ ?_); (simp; done)) | with_reducible refine own_set3 (us := [.int .i64 0, .int .i64 0, .int .i64 0]) ?_ rfl | with_reducible refine OwnB.other3 ?_ (by first | with_reducible assumption | omega | (simp; done) | (simp; omega)) | with_reducible refine OwnB.alloc ?_ _ | with_reducible refine OwnB.drew ?_ | with_reducible refine OwnB.drewN ?_ _ | with_reducible refine OwnB.kept (by with_reducible assumption) ?_)), OwnB.kept hkx HB0_0.out, OwnB.kept hkx HB0_1.out, OwnB.kept hkx HB0_2.out, hkx⟩) ?_; exact (by repeat (first | with_reducible exact Kept.refl _ | with_reducible assumption | with_reducible refine Kept.set12 ?_ (by first | with_reducible assumption | omega | (simp; done) | (simp; omega)) | with_reducible refine Kept.set11 ?_ (by first | with_reducible assumption | omega | (simp; done) | (simp; omega)) | with_reducible refine Kept.set10 ?_ (by first | with_reducible assumption | omega | (simp; done) | (simp; omega)) | with_reducible refine Kept.set9 ?_ (by first | with_reducible assumption | omega | (simp; done) | (simp; omega)) | with_reducible refine Kept.set8 ?_ (by first | with_reducible assumption | omega | (simp; done) | (simp; omega)) | with_reducible refine Kept.set7 ?_ (by first | with_reducible assumption | omega | (simp; done) | (simp; omega)) | with_reducible refine Kept.set6 ?_ (by first | with_reducible assumption | omega | (simp; done) | (simp; omega)) | with_reducible refine Kept.set5 ?_ (by first | with_reducible assumption | omega | (simp; done) | (simp; omega)) | with_reducible refine Kept.set4 ?_ (by first | with_reducible assumption | omega | (simp; done) | (simp; omega)) | with_reducible refine Kept.set3 ?_ (by first | with_reducible assumption | omega | (simp; done) | (simp; omega)) | with_reducible refine Kept.set2 ?_ (by first | with_reducible assumption | omega | (simp; done) | (simp; omega)) | with_reducible refine Kept.setCell ?_ (by first | with_reducible assumption | omega | (simp; done) | (simp; omega)) _ | with_reducible refine Kept.alloc ?_ _ | with_reducible refine Kept.drewN ?_ _ | with_reducible refine Kept.drew ?_ | with_reducible refine Kept.trans ?_ (by with_reducible assumption) | with_reducible refine Kept.dr ?_ (by with_reducible assumption))))
  case rest =>
  obtain ⟨b1_0, rfl, lt1_0, O1_0, O1_1, O1_2, O1_3, hkc1⟩ := hcut
  obtain ⟨hz_c1_0, hg_c1_0, hf_c1_0_0, hf_c1_0_1, hf_c1_0_2, _⟩ := O1_0
  obtain ⟨hz_c1_1, hg_c1_1, hf_c1_1_0, hf_c1_1_1, _⟩ := O1_1
  obtain ⟨hz_c1_2, hg_c1_2, hf_c1_2_0, hf_c1_2_1, _⟩ := O1_2
  obtain ⟨hz_c1_3, hg_c1_3, hf_c1_3_0, hf_c1_3_1, hf_c1_3_2, _⟩ := O1_3
  try clear hf2_0_0
  try clear hf2_0_1
  try clear hf2_1_0
  try clear hf2_1_1
  try clear hf2_2_0
  try clear hf2_2_1
  try clear hf2_2_2
  try clear hg2_0
  try clear hg2_1
  try clear hg2_2
  try clear hz2_1
  try clear hz2_2
  go_wp2_with fail
  with_reducible refine (ref_sin_w d (by omega) (by omega) _).mono ?_
  rintro e w' ⟨rfl, rfl⟩
  go_wp2_with fail
  with_reducible refine (ref_cos_w d (by omega) (by omega) _).mono ?_
  rintro e w' ⟨rfl, rfl⟩
  go_wp2_with fail
  go_region_held3 (fun W => W.cell? ⟨b1_0, 0, none⟩ = some (.int .i64 (A0)) ∧ W.cell? ⟨b1_0, 1, none⟩ = some (.int .i64 (A1)) ∧ W.cell? ⟨b1_0, 2, none⟩ = some (.int .i64 (A2)) ∧ W.cell? ⟨w1.heap.size, 0, none⟩ = some (.int .i64 (uX la lo)) ∧ W.cell? ⟨w1.heap.size, 1, none⟩ = some (.int .i64 (uY la lo)) ∧ W.cell? ⟨w1.heap.size, 2, none⟩ = some (.int .i64 (uZ la lo))) (first | (go_keep; done) | (simp (maxDischargeDepth := 9) [*, World.cell?_alloc_some, World.cell?_setCell_far]; done) | (simp (maxDischargeDepth := 9) [go_sem, *]; done)) (first | (go_at_call 22; (first | with_reducible refine (ref_position_w V0 V1 V2 (by omega) (by omega) (by omega) (by omega) (by omega) (by omega) _).mono ?_); rintro e w' ⟨rfl, hk⟩; have hz := hk.size; (try (refine kuse (b := b1_0) hk (by first | (simp; done) | (simp; omega) | omega) ?_; intro hq0 hg0; have hy0 : b1_0 < w'.heap.size := (by (try simp at hz); omega); have hn0 : ¬ b1_0 = w'.heap.size := (by omega); have hm0 : ¬ b1_0 = w'.heap.size + 1 := (by omega); refine withF (p := w'.cell? ⟨b1_0, 0, none⟩ = some (.int .i64 (A0))) (by first | (rw [hq0]; with_reducible assumption) | (simp (maxDischargeDepth := 7) [go_sem, hq0]; done) | (simp (maxDischargeDepth := 7) [go_sem, hq0, *]; done) | fail) ?_; intro ff00; refine withF (p := w'.cell? ⟨b1_0, 1, none⟩ = some (.int .i64 (A1))) (by first | (rw [hq0]; with_reducible assumption) | (simp (maxDischargeDepth := 7) [go_sem, hq0]; done) | (simp (maxDischargeDepth := 7) [go_sem, hq0, *]; done) | fail) ?_; intro ff01; refine withF (p := w'.cell? ⟨b1_0, 2, none⟩ = some (.int .i64 (A2))) (by first | (rw [hq0]; with_reducible assumption) | (simp (maxDischargeDepth := 7) [go_sem, hq0]; done) | (simp (maxDischargeDepth := 7) [go_sem, hq0, *]; done) | fail) ?_; intro ff02)); (try (refine kuse (b := w1.heap.size) hk (by first | (simp; done) | (simp; omega) | omega) ?_; intro hq1 hg1; have hy1 : w1.heap.size < w'.heap.size := (by (try simp at hz); omega); have hn1 : ¬ w1.heap.size = w'.heap.size := (by omega); have hm1 : ¬ w1.heap.size = w'.heap.size + 1 := (by omega); refine withF (p := w'.cell? ⟨w1.heap.size, 0, none⟩ = some (.int .i64 (uX la lo))) (by first | (rw [hq1]; with_reducible assumption) | (simp (maxDischargeDepth := 7) [go_sem, hq1]; done) | (simp (maxDischargeDepth := 7) [go_sem, hq1, *]; done) | fail) ?_; intro ff10; refine withF (p := w'.cell? ⟨w1.heap.size, 1, none⟩ = some (.int .i64 (uY la lo))) (by first | (rw [hq1]; with_reducible assumption) | (simp (maxDischargeDepth := 7) [go_sem, hq1]; done) | (simp (maxDischargeDepth := 7) [go_sem, hq1, *]; done) | fail) ?_; intro ff11; refine withF (p := w'.cell? ⟨w1.heap.size, 2, none⟩ = some (.int .i64 (uZ la lo))) (by first | (rw [hq1]; with_reducible assumption) | (simp (maxDischargeDepth := 7) [go_sem, hq1]; done) | (simp (maxDischargeDepth := 7) [go_sem, hq1, *]; done) | fail) ?_; intro ff12)); (try (refine kuse (b := w.heap.size) hk (by first | (simp; done) | (simp; omega) | omega) ?_; intro hq2 hg2; have hy2 : w.heap.size < w'.heap.size := (by (try simp at hz); omega); have hn2 : ¬ w.heap.size = w'.heap.size := (by omega); have hm2 : ¬ w.heap.size = w'.heap.size + 1 := (by omega); refine withF (p := w'.cell? ⟨w.heap.size, 0, none⟩ = some (.int .i64 la)) (by first | (rw [hq2]; with_reducible assumption) | (simp (maxDischargeDepth := 7) [go_sem, hq2]; done) | (simp (maxDischargeDepth := 7) [go_sem, hq2, *]; done) | fail) ?_; intro ff20; refine withF (p := w'.cell? ⟨w.heap.size, 1, none⟩ = some (.int .i64 lo)) (by first | (rw [hq2]; with_reducible assumption) | (simp (maxDischargeDepth := 7) [go_sem, hq2]; done) | (simp (maxDischargeDepth := 7) [go_sem, hq2, *]; done) | fail) ?_; intro ff21)); (try (refine kuse (b := w.heap.size + 1) hk (by first | (simp; done) | (simp; omega) | omega) ?_; intro hq3 hg3; have hy3 : w.heap.size + 1 < w'.heap.size := (by (try simp at hz); omega); have hn3 : ¬ w.heap.size + 1 = w'.heap.size := (by omega); have hm3 : ¬ w.heap.size + 1 = w'.heap.size + 1 := (by omega); refine withF (p := w'.cell? ⟨w.heap.size + 1, 0, none⟩ = some (.int .i64 (0))) (by first | (rw [hq3]; with_reducible assumption) | (simp (maxDischargeDepth := 7) [go_sem, hq3]; done) | (simp (maxDischargeDepth := 7) [go_sem, hq3, *]; done) | fail) ?_; intro ff30; refine withF (p := w'.cell? ⟨w.heap.size + 1, 1, none⟩ = some (.int .i64 (0))) (by first | (rw [hq3]; with_reducible assumption) | (simp (maxDischargeDepth := 7) [go_sem, hq3]; done) | (simp (maxDischargeDepth := 7) [go_sem, hq3, *]; done) | fail) ?_; intro ff31))) | (go_at_call 37; with_reducible refine (ref_round_w _ (by omega) (by omega) _).mono ?_; rintro e w' ⟨rfl, rfl⟩))
  all_goals go_wp2_with fail
  all_goals exact bodyPost_ret (v := .tuple #[.agg #[.int .i64 (psLa V0 V1 V2), .int .i64 (psLo V0 V1 V2)], .int .i64 (psE V0 V1 V2)]) (by first | (simp [results, Try.results29, go_sem]; done) | (simp (maxDischargeDepth := 7) [results, Try.results29, go_sem, *]; done)) rfl ⟨rfl, (by repeat (first | with_reducible exact Kept.refl _ | with_reducible assumption | with_reducible refine Kept.setCell ?_ (by first | (simp; done) | (simp; omega) | omega) _ | with_reducible refine Kept.alloc ?_ _ | with_reducible refine Kept.drewN ?_ _ | with_reducible refine Kept.drew ?_ | with_reducible refine Kept.trans ?_ (by with_reducible assumption) | with_reducible refine Kept.dr ?_ (by with_reducible assumption)))⟩
set_option maxHeartbeats 2000000 in
set_option maxRecDepth 100000 in
theorem ref_along_badp (la lo : Int) (h : la < -32400000 ∨ 32400000 < la ∨ lo ≤ -64800000 ∨ 64800000 < lo) (c d : Int) (w : World) : Calls Try.prog 29 #[.agg #[.int .i64 la, .int .i64 lo], .int .i64 c, .int .i64 d] w fun e w' => e = .returned (.tuple #[.agg #[.int .i64 0, .int .i64 0], .int .i64 1]) ∧ Kept w w' := by
  go_enter Try.func29, Try.ntmps29
  go_wp2_with fail
  with_reducible refine (ref_of_bad la lo h _).mono ?_
  rintro e w1 ⟨rfl, hk1⟩
  refine kuse (b := w.heap.size) hk1 (by first | (simp; done) | (simp; omega) | omega) ?_
  intro ha hb
  have hz1_0 : w.heap.size < w1.heap.size := by have := hk1.size; (try simp at this); omega
  have hn1_0 : ¬ w.heap.size = w1.heap.size := by omega
  have hm1_0 : ¬ w1.heap.size = w.heap.size := by omega
  have hf1_0_0 : w1.cell? ⟨w.heap.size, 0, none⟩ = some (.int .i64 la) := by first | (rw [ha]; with_reducible assumption) | (simp (maxDischargeDepth := 7) [go_sem, ha]; done) | (rw [ha]; assumption) | (simp (maxDischargeDepth := 7) [go_sem, ha, *]; done)
  have hf1_0_1 : w1.cell? ⟨w.heap.size, 1, none⟩ = some (.int .i64 lo) := by first | (rw [ha]; with_reducible assumption) | (simp (maxDischargeDepth := 7) [go_sem, ha]; done) | (rw [ha]; assumption) | (simp (maxDischargeDepth := 7) [go_sem, ha, *]; done)
  try have hg1_0 : ∀ o, w1.frozen? ⟨w.heap.size, o, none⟩ = false := by intro o; first | (simp (maxDischargeDepth := 7) [go_sem, hb]; done) | (rw [hb]; simp (maxDischargeDepth := 7) [go_sem, *]; done)
  clear ha hb
  refine kuse (b := w.heap.size + 1) hk1 (by first | (simp; done) | (simp; omega) | omega) ?_
  intro ha hb
  have hz1_1 : w.heap.size + 1 < w1.heap.size := by have := hk1.size; (try simp at this); omega
  have hn1_1 : ¬ w.heap.size + 1 = w1.heap.size := by omega
  have hm1_1 : ¬ w1.heap.size = w.heap.size + 1 := by omega
  have hf1_1_0 : w1.cell? ⟨w.heap.size + 1, 0, none⟩ = some (.int .i64 (0)) := by first | (rw [ha]; with_reducible assumption) | (simp (maxDischargeDepth := 7) [go_sem, ha]; done) | (rw [ha]; assumption) | (simp (maxDischargeDepth := 7) [go_sem, ha, *]; done)
  have hf1_1_1 : w1.cell? ⟨w.heap.size + 1, 1, none⟩ = some (.int .i64 (0)) := by first | (rw [ha]; with_reducible assumption) | (simp (maxDischargeDepth := 7) [go_sem, ha]; done) | (rw [ha]; assumption) | (simp (maxDischargeDepth := 7) [go_sem, ha, *]; done)
  try have hg1_1 : ∀ o, w1.frozen? ⟨w.heap.size + 1, o, none⟩ = false := by intro o; first | (simp (maxDischargeDepth := 7) [go_sem, hb]; done) | (rw [hb]; simp (maxDischargeDepth := 7) [go_sem, *]; done)
  clear ha hb
  go_wp2_with fail
  all_goals exact bodyPost_ret (v := .tuple #[.agg #[.int .i64 0, .int .i64 0], .int .i64 1]) (by first | (simp [results, Try.results29, go_sem]; done) | (simp (maxDischargeDepth := 7) [results, Try.results29, go_sem, *]; done)) rfl ⟨rfl, (by repeat (first | with_reducible exact Kept.refl _ | with_reducible assumption | with_reducible refine Kept.setCell ?_ (by first | (simp; done) | (simp; omega) | omega) _ | with_reducible refine Kept.alloc ?_ _ | with_reducible refine Kept.drewN ?_ _ | with_reducible refine Kept.drew ?_ | with_reducible refine Kept.trans ?_ (by with_reducible assumption) | with_reducible refine Kept.dr ?_ (by with_reducible assumption)))⟩
set_option maxHeartbeats 2000000 in
set_option maxRecDepth 100000 in
theorem ref_along_lo (la lo : Int) (la0 : -32400000 ≤ la) (la1 : la ≤ 32400000) (lo0 : -64800000 < lo) (lo1 : lo ≤ 64800000) (c d : Int) (h : d < 0) (w : World) : Calls Try.prog 29 #[.agg #[.int .i64 la, .int .i64 lo], .int .i64 c, .int .i64 d] w fun e w' => e = .returned (.tuple #[.agg #[.int .i64 0, .int .i64 0], .int .i64 2]) ∧ Kept w w' := by
  go_enter Try.func29, Try.ntmps29
  go_wp2_with fail
  with_reducible refine (ref_of_ok la lo la0 la1 lo0 lo1 _).mono ?_
  rintro e w1 ⟨rfl, hk1⟩
  refine kuse (b := w.heap.size) hk1 (by first | (simp; done) | (simp; omega) | omega) ?_
  intro ha hb
  have hz1_0 : w.heap.size < w1.heap.size := by have := hk1.size; (try simp at this); omega
  have hn1_0 : ¬ w.heap.size = w1.heap.size := by omega
  have hm1_0 : ¬ w1.heap.size = w.heap.size := by omega
  have hf1_0_0 : w1.cell? ⟨w.heap.size, 0, none⟩ = some (.int .i64 la) := by first | (rw [ha]; with_reducible assumption) | (simp (maxDischargeDepth := 7) [go_sem, ha]; done) | (rw [ha]; assumption) | (simp (maxDischargeDepth := 7) [go_sem, ha, *]; done)
  have hf1_0_1 : w1.cell? ⟨w.heap.size, 1, none⟩ = some (.int .i64 lo) := by first | (rw [ha]; with_reducible assumption) | (simp (maxDischargeDepth := 7) [go_sem, ha]; done) | (rw [ha]; assumption) | (simp (maxDischargeDepth := 7) [go_sem, ha, *]; done)
  try have hg1_0 : ∀ o, w1.frozen? ⟨w.heap.size, o, none⟩ = false := by intro o; first | (simp (maxDischargeDepth := 7) [go_sem, hb]; done) | (rw [hb]; simp (maxDischargeDepth := 7) [go_sem, *]; done)
  clear ha hb
  refine kuse (b := w.heap.size + 1) hk1 (by first | (simp; done) | (simp; omega) | omega) ?_
  intro ha hb
  have hz1_1 : w.heap.size + 1 < w1.heap.size := by have := hk1.size; (try simp at this); omega
  have hn1_1 : ¬ w.heap.size + 1 = w1.heap.size := by omega
  have hm1_1 : ¬ w1.heap.size = w.heap.size + 1 := by omega
  have hf1_1_0 : w1.cell? ⟨w.heap.size + 1, 0, none⟩ = some (.int .i64 (0)) := by first | (rw [ha]; with_reducible assumption) | (simp (maxDischargeDepth := 7) [go_sem, ha]; done) | (rw [ha]; assumption) | (simp (maxDischargeDepth := 7) [go_sem, ha, *]; done)
  have hf1_1_1 : w1.cell? ⟨w.heap.size + 1, 1, none⟩ = some (.int .i64 (0)) := by first | (rw [ha]; with_reducible assumption) | (simp (maxDischargeDepth := 7) [go_sem, ha]; done) | (rw [ha]; assumption) | (simp (maxDischargeDepth := 7) [go_sem, ha, *]; done)
  try have hg1_1 : ∀ o, w1.frozen? ⟨w.heap.size + 1, o, none⟩ = false := by intro o; first | (simp (maxDischargeDepth := 7) [go_sem, hb]; done) | (rw [hb]; simp (maxDischargeDepth := 7) [go_sem, *]; done)
  clear ha hb
  go_wp2_with fail
  all_goals exact bodyPost_ret (v := .tuple #[.agg #[.int .i64 0, .int .i64 0], .int .i64 2]) (by first | (simp [results, Try.results29, go_sem]; done) | (simp (maxDischargeDepth := 7) [results, Try.results29, go_sem, *]; done)) rfl ⟨rfl, (by repeat (first | with_reducible exact Kept.refl _ | with_reducible assumption | with_reducible refine Kept.setCell ?_ (by first | (simp; done) | (simp; omega) | omega) _ | with_reducible refine Kept.alloc ?_ _ | with_reducible refine Kept.drewN ?_ _ | with_reducible refine Kept.drew ?_ | with_reducible refine Kept.trans ?_ (by with_reducible assumption) | with_reducible refine Kept.dr ?_ (by with_reducible assumption)))⟩
set_option maxHeartbeats 2000000 in
set_option maxRecDepth 100000 in
theorem ref_along_hi (la lo : Int) (la0 : -32400000 ≤ la) (la1 : la ≤ 32400000) (lo0 : -64800000 < lo) (lo1 : lo ≤ 64800000) (c d : Int) (h : 64800000 < d) (w : World) : Calls Try.prog 29 #[.agg #[.int .i64 la, .int .i64 lo], .int .i64 c, .int .i64 d] w fun e w' => e = .returned (.tuple #[.agg #[.int .i64 0, .int .i64 0], .int .i64 2]) ∧ Kept w w' := by
  go_enter Try.func29, Try.ntmps29
  go_wp2_with fail
  with_reducible refine (ref_of_ok la lo la0 la1 lo0 lo1 _).mono ?_
  rintro e w1 ⟨rfl, hk1⟩
  refine kuse (b := w.heap.size) hk1 (by first | (simp; done) | (simp; omega) | omega) ?_
  intro ha hb
  have hz1_0 : w.heap.size < w1.heap.size := by have := hk1.size; (try simp at this); omega
  have hn1_0 : ¬ w.heap.size = w1.heap.size := by omega
  have hm1_0 : ¬ w1.heap.size = w.heap.size := by omega
  have hf1_0_0 : w1.cell? ⟨w.heap.size, 0, none⟩ = some (.int .i64 la) := by first | (rw [ha]; with_reducible assumption) | (simp (maxDischargeDepth := 7) [go_sem, ha]; done) | (rw [ha]; assumption) | (simp (maxDischargeDepth := 7) [go_sem, ha, *]; done)
  have hf1_0_1 : w1.cell? ⟨w.heap.size, 1, none⟩ = some (.int .i64 lo) := by first | (rw [ha]; with_reducible assumption) | (simp (maxDischargeDepth := 7) [go_sem, ha]; done) | (rw [ha]; assumption) | (simp (maxDischargeDepth := 7) [go_sem, ha, *]; done)
  try have hg1_0 : ∀ o, w1.frozen? ⟨w.heap.size, o, none⟩ = false := by intro o; first | (simp (maxDischargeDepth := 7) [go_sem, hb]; done) | (rw [hb]; simp (maxDischargeDepth := 7) [go_sem, *]; done)
  clear ha hb
  refine kuse (b := w.heap.size + 1) hk1 (by first | (simp; done) | (simp; omega) | omega) ?_
  intro ha hb
  have hz1_1 : w.heap.size + 1 < w1.heap.size := by have := hk1.size; (try simp at this); omega
  have hn1_1 : ¬ w.heap.size + 1 = w1.heap.size := by omega
  have hm1_1 : ¬ w1.heap.size = w.heap.size + 1 := by omega
  have hf1_1_0 : w1.cell? ⟨w.heap.size + 1, 0, none⟩ = some (.int .i64 (0)) := by first | (rw [ha]; with_reducible assumption) | (simp (maxDischargeDepth := 7) [go_sem, ha]; done) | (rw [ha]; assumption) | (simp (maxDischargeDepth := 7) [go_sem, ha, *]; done)
  have hf1_1_1 : w1.cell? ⟨w.heap.size + 1, 1, none⟩ = some (.int .i64 (0)) := by first | (rw [ha]; with_reducible assumption) | (simp (maxDischargeDepth := 7) [go_sem, ha]; done) | (rw [ha]; assumption) | (simp (maxDischargeDepth := 7) [go_sem, ha, *]; done)
  try have hg1_1 : ∀ o, w1.frozen? ⟨w.heap.size + 1, o, none⟩ = false := by intro o; first | (simp (maxDischargeDepth := 7) [go_sem, hb]; done) | (rw [hb]; simp (maxDischargeDepth := 7) [go_sem, *]; done)
  clear ha hb
  go_wp2_with fail
  all_goals exact bodyPost_ret (v := .tuple #[.agg #[.int .i64 0, .int .i64 0], .int .i64 2]) (by first | (simp [results, Try.results29, go_sem]; done) | (simp (maxDischargeDepth := 7) [results, Try.results29, go_sem, *]; done)) rfl ⟨rfl, (by repeat (first | with_reducible exact Kept.refl _ | with_reducible assumption | with_reducible refine Kept.setCell ?_ (by first | (simp; done) | (simp; omega) | omega) _ | with_reducible refine Kept.alloc ?_ _ | with_reducible refine Kept.drewN ?_ _ | with_reducible refine Kept.drew ?_ | with_reducible refine Kept.trans ?_ (by with_reducible assumption) | with_reducible refine Kept.dr ?_ (by with_reducible assumption)))⟩

end Go.Proofs.Ytjnodchmamlcpaa
