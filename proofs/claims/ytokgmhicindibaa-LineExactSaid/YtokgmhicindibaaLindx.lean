/-
  Own contracts: package line and the document's answers of layer 11: squares.
-/
import Derived.Test.YtokgmhicindibaaLind
import Derived.Test.YtokgmhicindibaaWidc
import Derived.WalkKit
import Derived.ProofKit
import Derived.OpenShut
import Derived.WalkLawsBesides
import Derived.WalkSpells
import Derived.Lib.Hide
import Derived.Deep.DeepCutAuto
import Derived.Deep.CutBlock
import Derived.Deep.QuietTactic
import Derived.BigQuiet
import Derived.Handy
import Derived.StillTailTactics
import Derived.IntWalk
import Derived.LoopN
import Derived.Deep.RegionHeld3
namespace Go.Proofs.Ytokgmhicindibaa
open Go.ChangeShapes Go.WideShapes Go.ChangeAt Go.RowKit
set_option linter.unusedVariables false
set_option linter.unusedSimpArgs false
set_option maxHeartbeats 4000000 in
set_option maxRecDepth 100000 in
theorem square_w (n s k : Int) (n0 : -32000000000000 ≤ n) (n1 : n ≤ 32000000000000) (s0 : 0 < s) (s1 : s ≤ 32000000000000) (k0 : -8388608 ≤ k) (k1 : k ≤ 8388608) (hlo : k * k * s ≤ n * n) (hhi : (k < 0 → n * n < (-k + 1) * (-k + 1) * s) ∧ (0 ≤ k → n * n < (k + 1) * (k + 1) * s)) (w : World) : Calls Try.prog 26 #[.int .i64 n, .int .i64 s, .int .i64 k] w fun e w' => e = .returned (.bool true) ∧ Kept w w' := by
  have ns := sq_lim n n0 n1
  have kb := mul_sb2 k k 8388608 8388608 (by omega) (by omega) (by omega) (by omega)
  have kk := sq_nneg k
  by_cases hk : k < 0
  · obtain ⟨K, hK⟩ : ∃ A, (-k) = A := ⟨_, rfl⟩
    have e0 : K * K = k * k := by rw [← hK, Int.neg_mul_neg]
    have K0 : 0 ≤ K := by omega
    have K1 : K ≤ 8388608 := by omega
    have hlo' : K * K * s ≤ n * n := by rw [e0]; exact hlo
    have hhi' : n * n < (K + 1) * (K + 1) * s := by rw [← hK]; exact hhi.1 hk
    have ab := mul_sb2 (K * K) s 70368744177664 32000000000000 (by have := sq_nneg K; omega) (by have := mul_sb2 K K 8388608 8388608 (by omega) (by omega) (by omega) (by omega); omega) (by omega) (by omega)
    have ab2 := mul_sb2 ((K + 1) * (K + 1)) s 70368760954881 32000000000000 (by have := sq_nneg (K + 1); omega) (by have := mul_sb2 (K + 1) (K + 1) 8388609 8388609 (by omega) (by omega) (by omega) (by omega); omega) (by omega) (by omega)
    have m1 := fun w => wmul_w n n (by omega) (by omega) (by omega) (by omega) w
    have m2 := fun w => wmul_w K K (by omega) (by omega) (by omega) (by omega) w
    have m3 := fun w => wmul_w (K + 1) (K + 1) (by omega) (by omega) (by omega) (by omega) w
    have t2 := fun w => wtimes_w (K * K) s (by have := sq_nneg K; omega) (by have := mul_sb2 K K 8388608 8388608 (by omega) (by omega) (by omega) (by omega); omega) (by omega) (by omega) w
    have t3 := fun w => wtimes_w ((K + 1) * (K + 1)) s (by have := sq_nneg (K + 1); omega) (by have := mul_sb2 (K + 1) (K + 1) 8388609 8388609 (by omega) (by omega) (by omega) (by omega); omega) (by omega) (by omega) w
    rw [(wfit_yes (u := K * K * s) (by omega) (by omega)).1, (wfit_yes (u := K * K * s) (by omega) (by omega)).2] at t2
    rw [(wfit_yes (u := (K + 1) * (K + 1) * s) (by omega) (by omega)).1, (wfit_yes (u := (K + 1) * (K + 1) * s) (by omega) (by omega)).2] at t3
    have c1 := fun w => cmp_w (K * K * s) (n * n) w
    have c2 := fun w => cmp_w (n * n) ((K + 1) * (K + 1) * s) w
    have w1 : wcm (K * K * s) (n * n) ≤ 0 := by unfold wcm; (repeat' split) <;> omega
    have w2 : wcm (n * n) ((K + 1) * (K + 1) * s) < 0 := by unfold wcm; (repeat' split) <;> omega
    generalize wcm (K * K * s) (n * n) = C1 at *
    generalize wcm (n * n) ((K + 1) * (K + 1) * s) = C2 at *
    clear hlo hhi hlo' hhi' ab ab2 ns kb kk e0
    generalize (K + 1) * (K + 1) * s = HS at *
    generalize (K + 1) * (K + 1) = HI at *
    generalize K * K * s = LS at *
    generalize K * K = LO at *
    generalize n * n = NN at *
    generalize wh HS = h1 at *; generalize wl HS = l1 at *; generalize wh HI = h2 at *; generalize wl HI = l2 at *; generalize wh LS = h3 at *; generalize wl LS = l3 at *; generalize wh LO = h4 at *; generalize wl LO = l4 at *; generalize wh NN = h5 at *; generalize wl NN = l5 at *
    have M1 := Lib.hid m1; have M2 := Lib.hid m2; have M3 := Lib.hid m3; have T2 := Lib.hid t2; have T3 := Lib.hid t3; have G1 := Lib.hid c1; have G2 := Lib.hid c2
    clear m1 m2 m3 t2 t3 c1 c2
    go_enter Try.func26, Try.ntmps26
    go_wp2_with fail
    with_reducible refine (M1.out _).mono ?_
    rintro e w1 ⟨rfl, hk1⟩
    go_wp2_with fail
    with_reducible refine (M2.out _).mono ?_
    rintro e w2 ⟨rfl, hk2⟩
    refine kuz (b := w1.heap.size) hk2 (by first | (simp; done) | (simp; omega) | omega) ?_
    intro ha hb hz2_0 hn2_0 hm2_0
    have hf2_0_0 : w2.cell? ⟨w1.heap.size, 0, none⟩ = some (.int .i64 h5) := (ha _).trans (by first | with_reducible assumption | (simp (maxDischargeDepth := 7) [go_sem]; done) | (simp (maxDischargeDepth := 7) [go_sem, *]; done))
    have hf2_0_1 : w2.cell? ⟨w1.heap.size, 1, none⟩ = some (.int .u64 l5) := (ha _).trans (by first | with_reducible assumption | (simp (maxDischargeDepth := 7) [go_sem]; done) | (simp (maxDischargeDepth := 7) [go_sem, *]; done))
    try have hg2_0 : ∀ o, w2.frozen? ⟨w1.heap.size, o, none⟩ = false := by intro o; rw [hb]; first | (simp (maxDischargeDepth := 7) [go_sem]; done) | (simp (maxDischargeDepth := 7) [go_sem, *]; done)
    clear ha hb
    go_wp2_with fail
    with_reducible refine (T2.out _).mono ?_
    rintro e w3 ⟨rfl, hk3⟩
    refine kuz (b := w1.heap.size) hk3 (by first | (simp; done) | (simp; omega) | omega) ?_
    intro ha hb hz3_0 hn3_0 hm3_0
    have hf3_0_0 : w3.cell? ⟨w1.heap.size, 0, none⟩ = some (.int .i64 h5) := (ha _).trans (by first | with_reducible assumption | (simp (maxDischargeDepth := 7) [go_sem]; done) | (simp (maxDischargeDepth := 7) [go_sem, *]; done))
    have hf3_0_1 : w3.cell? ⟨w1.heap.size, 1, none⟩ = some (.int .u64 l5) := (ha _).trans (by first | with_reducible assumption | (simp (maxDischargeDepth := 7) [go_sem]; done) | (simp (maxDischargeDepth := 7) [go_sem, *]; done))
    try have hg3_0 : ∀ o, w3.frozen? ⟨w1.heap.size, o, none⟩ = false := by intro o; rw [hb]; first | (simp (maxDischargeDepth := 7) [go_sem]; done) | (simp (maxDischargeDepth := 7) [go_sem, *]; done)
    clear ha hb
    (try clear hf2_0_0); (try clear hf2_0_1); (try clear hg2_0)
    go_wp2_with fail
    with_reducible refine (M3.out _).mono ?_
    rintro e w4 ⟨rfl, hk4⟩
    refine kuz (b := w1.heap.size) hk4 (by first | (simp; done) | (simp; omega) | omega) ?_
    intro ha hb hz4_0 hn4_0 hm4_0
    have hf4_0_0 : w4.cell? ⟨w1.heap.size, 0, none⟩ = some (.int .i64 h5) := (ha _).trans (by first | with_reducible assumption | (simp (maxDischargeDepth := 7) [go_sem]; done) | (simp (maxDischargeDepth := 7) [go_sem, *]; done))
    have hf4_0_1 : w4.cell? ⟨w1.heap.size, 1, none⟩ = some (.int .u64 l5) := (ha _).trans (by first | with_reducible assumption | (simp (maxDischargeDepth := 7) [go_sem]; done) | (simp (maxDischargeDepth := 7) [go_sem, *]; done))
    try have hg4_0 : ∀ o, w4.frozen? ⟨w1.heap.size, o, none⟩ = false := by intro o; rw [hb]; first | (simp (maxDischargeDepth := 7) [go_sem]; done) | (simp (maxDischargeDepth := 7) [go_sem, *]; done)
    clear ha hb
    refine kuz (b := w3.heap.size) hk4 (by first | (simp; done) | (simp; omega) | omega) ?_
    intro ha hb hz4_1 hn4_1 hm4_1
    have hf4_1_0 : w4.cell? ⟨w3.heap.size, 0, none⟩ = some (.int .i64 h3) := (ha _).trans (by first | with_reducible assumption | (simp (maxDischargeDepth := 7) [go_sem]; done) | (simp (maxDischargeDepth := 7) [go_sem, *]; done))
    have hf4_1_1 : w4.cell? ⟨w3.heap.size, 1, none⟩ = some (.int .u64 l3) := (ha _).trans (by first | with_reducible assumption | (simp (maxDischargeDepth := 7) [go_sem]; done) | (simp (maxDischargeDepth := 7) [go_sem, *]; done))
    try have hg4_1 : ∀ o, w4.frozen? ⟨w3.heap.size, o, none⟩ = false := by intro o; rw [hb]; first | (simp (maxDischargeDepth := 7) [go_sem]; done) | (simp (maxDischargeDepth := 7) [go_sem, *]; done)
    clear ha hb
    (try clear hf3_0_0); (try clear hf3_0_1); (try clear hg3_0)
    go_wp2_with fail
    with_reducible refine (T3.out _).mono ?_
    rintro e w5 ⟨rfl, hk5⟩
    refine kuz (b := w1.heap.size) hk5 (by first | (simp; done) | (simp; omega) | omega) ?_
    intro ha hb hz5_0 hn5_0 hm5_0
    have hf5_0_0 : w5.cell? ⟨w1.heap.size, 0, none⟩ = some (.int .i64 h5) := (ha _).trans (by first | with_reducible assumption | (simp (maxDischargeDepth := 7) [go_sem]; done) | (simp (maxDischargeDepth := 7) [go_sem, *]; done))
    have hf5_0_1 : w5.cell? ⟨w1.heap.size, 1, none⟩ = some (.int .u64 l5) := (ha _).trans (by first | with_reducible assumption | (simp (maxDischargeDepth := 7) [go_sem]; done) | (simp (maxDischargeDepth := 7) [go_sem, *]; done))
    try have hg5_0 : ∀ o, w5.frozen? ⟨w1.heap.size, o, none⟩ = false := by intro o; rw [hb]; first | (simp (maxDischargeDepth := 7) [go_sem]; done) | (simp (maxDischargeDepth := 7) [go_sem, *]; done)
    clear ha hb
    refine kuz (b := w3.heap.size) hk5 (by first | (simp; done) | (simp; omega) | omega) ?_
    intro ha hb hz5_1 hn5_1 hm5_1
    have hf5_1_0 : w5.cell? ⟨w3.heap.size, 0, none⟩ = some (.int .i64 h3) := (ha _).trans (by first | with_reducible assumption | (simp (maxDischargeDepth := 7) [go_sem]; done) | (simp (maxDischargeDepth := 7) [go_sem, *]; done))
    have hf5_1_1 : w5.cell? ⟨w3.heap.size, 1, none⟩ = some (.int .u64 l3) := (ha _).trans (by first | with_reducible assumption | (simp (maxDischargeDepth := 7) [go_sem]; done) | (simp (maxDischargeDepth := 7) [go_sem, *]; done))
    try have hg5_1 : ∀ o, w5.frozen? ⟨w3.heap.size, o, none⟩ = false := by intro o; rw [hb]; first | (simp (maxDischargeDepth := 7) [go_sem]; done) | (simp (maxDischargeDepth := 7) [go_sem, *]; done)
    clear ha hb
    (try clear hf4_0_0); (try clear hf4_0_1); (try clear hf4_1_0); (try clear hf4_1_1); (try clear hg4_0); (try clear hg4_1); (try clear hz4_1)
    go_wp2_with fail
    with_reducible refine (G1.out _).mono ?_
    rintro e w6 ⟨rfl, hk6⟩
    refine kuz (b := w1.heap.size) hk6 (by first | (simp; done) | (simp; omega) | omega) ?_
    intro ha hb hz6_0 hn6_0 hm6_0
    have hf6_0_0 : w6.cell? ⟨w1.heap.size, 0, none⟩ = some (.int .i64 h5) := (ha _).trans (by first | with_reducible assumption | (simp (maxDischargeDepth := 7) [go_sem]; done) | (simp (maxDischargeDepth := 7) [go_sem, *]; done))
    have hf6_0_1 : w6.cell? ⟨w1.heap.size, 1, none⟩ = some (.int .u64 l5) := (ha _).trans (by first | with_reducible assumption | (simp (maxDischargeDepth := 7) [go_sem]; done) | (simp (maxDischargeDepth := 7) [go_sem, *]; done))
    try have hg6_0 : ∀ o, w6.frozen? ⟨w1.heap.size, o, none⟩ = false := by intro o; rw [hb]; first | (simp (maxDischargeDepth := 7) [go_sem]; done) | (simp (maxDischargeDepth := 7) [go_sem, *]; done)
    clear ha hb
    refine kuz (b := w3.heap.size) hk6 (by first | (simp; done) | (simp; omega) | omega) ?_
    intro ha hb hz6_1 hn6_1 hm6_1
    have hf6_1_0 : w6.cell? ⟨w3.heap.size, 0, none⟩ = some (.int .i64 h3) := (ha _).trans (by first | with_reducible assumption | (simp (maxDischargeDepth := 7) [go_sem]; done) | (simp (maxDischargeDepth := 7) [go_sem, *]; done))
    have hf6_1_1 : w6.cell? ⟨w3.heap.size, 1, none⟩ = some (.int .u64 l3) := (ha _).trans (by first | with_reducible assumption | (simp (maxDischargeDepth := 7) [go_sem]; done) | (simp (maxDischargeDepth := 7) [go_sem, *]; done))
    try have hg6_1 : ∀ o, w6.frozen? ⟨w3.heap.size, o, none⟩ = false := by intro o; rw [hb]; first | (simp (maxDischargeDepth := 7) [go_sem]; done) | (simp (maxDischargeDepth := 7) [go_sem, *]; done)
    clear ha hb
    refine kuz (b := w5.heap.size) hk6 (by first | (simp; done) | (simp; omega) | omega) ?_
    intro ha hb hz6_2 hn6_2 hm6_2
    have hf6_2_0 : w6.cell? ⟨w5.heap.size, 0, none⟩ = some (.int .i64 h1) := (ha _).trans (by first | with_reducible assumption | (simp (maxDischargeDepth := 7) [go_sem]; done) | (simp (maxDischargeDepth := 7) [go_sem, *]; done))
    have hf6_2_1 : w6.cell? ⟨w5.heap.size, 1, none⟩ = some (.int .u64 l1) := (ha _).trans (by first | with_reducible assumption | (simp (maxDischargeDepth := 7) [go_sem]; done) | (simp (maxDischargeDepth := 7) [go_sem, *]; done))
    try have hg6_2 : ∀ o, w6.frozen? ⟨w5.heap.size, o, none⟩ = false := by intro o; rw [hb]; first | (simp (maxDischargeDepth := 7) [go_sem]; done) | (simp (maxDischargeDepth := 7) [go_sem, *]; done)
    clear ha hb
    (try clear hf5_0_0); (try clear hf5_0_1); (try clear hf5_1_0); (try clear hf5_1_1); (try clear hg5_0); (try clear hg5_1); (try clear hz5_1)
    go_wp2_with fail
    with_reducible refine (G2.out _).mono ?_
    rintro e w7 ⟨rfl, hk7⟩
    refine kuz (b := w1.heap.size) hk7 (by first | (simp; done) | (simp; omega) | omega) ?_
    intro ha hb hz7_0 hn7_0 hm7_0
    have hf7_0_0 : w7.cell? ⟨w1.heap.size, 0, none⟩ = some (.int .i64 h5) := (ha _).trans (by first | with_reducible assumption | (simp (maxDischargeDepth := 7) [go_sem]; done) | (simp (maxDischargeDepth := 7) [go_sem, *]; done))
    have hf7_0_1 : w7.cell? ⟨w1.heap.size, 1, none⟩ = some (.int .u64 l5) := (ha _).trans (by first | with_reducible assumption | (simp (maxDischargeDepth := 7) [go_sem]; done) | (simp (maxDischargeDepth := 7) [go_sem, *]; done))
    try have hg7_0 : ∀ o, w7.frozen? ⟨w1.heap.size, o, none⟩ = false := by intro o; rw [hb]; first | (simp (maxDischargeDepth := 7) [go_sem]; done) | (simp (maxDischargeDepth := 7) [go_sem, *]; done)
    clear ha hb
    refine kuz (b := w3.heap.size) hk7 (by first | (simp; done) | (simp; omega) | omega) ?_
    intro ha hb hz7_1 hn7_1 hm7_1
    have hf7_1_0 : w7.cell? ⟨w3.heap.size, 0, none⟩ = some (.int .i64 h3) := (ha _).trans (by first | with_reducible assumption | (simp (maxDischargeDepth := 7) [go_sem]; done) | (simp (maxDischargeDepth := 7) [go_sem, *]; done))
    have hf7_1_1 : w7.cell? ⟨w3.heap.size, 1, none⟩ = some (.int .u64 l3) := (ha _).trans (by first | with_reducible assumption | (simp (maxDischargeDepth := 7) [go_sem]; done) | (simp (maxDischargeDepth := 7) [go_sem, *]; done))
    try have hg7_1 : ∀ o, w7.frozen? ⟨w3.heap.size, o, none⟩ = false := by intro o; rw [hb]; first | (simp (maxDischargeDepth := 7) [go_sem]; done) | (simp (maxDischargeDepth := 7) [go_sem, *]; done)
    clear ha hb
    refine kuz (b := w5.heap.size) hk7 (by first | (simp; done) | (simp; omega) | omega) ?_
    intro ha hb hz7_2 hn7_2 hm7_2
    have hf7_2_0 : w7.cell? ⟨w5.heap.size, 0, none⟩ = some (.int .i64 h1) := (ha _).trans (by first | with_reducible assumption | (simp (maxDischargeDepth := 7) [go_sem]; done) | (simp (maxDischargeDepth := 7) [go_sem, *]; done))
    have hf7_2_1 : w7.cell? ⟨w5.heap.size, 1, none⟩ = some (.int .u64 l1) := (ha _).trans (by first | with_reducible assumption | (simp (maxDischargeDepth := 7) [go_sem]; done) | (simp (maxDischargeDepth := 7) [go_sem, *]; done))
    try have hg7_2 : ∀ o, w7.frozen? ⟨w5.heap.size, o, none⟩ = false := by intro o; rw [hb]; first | (simp (maxDischargeDepth := 7) [go_sem]; done) | (simp (maxDischargeDepth := 7) [go_sem, *]; done)
    clear ha hb
    (try clear hf6_0_0); (try clear hf6_0_1); (try clear hf6_1_0); (try clear hf6_1_1); (try clear hf6_2_0); (try clear hf6_2_1); (try clear hg6_0); (try clear hg6_1); (try clear hg6_2); (try clear hz6_1); (try clear hz6_2)
    go_wp2_with fail
    all_goals go_ret
    all_goals exact ⟨rfl, (by repeat (first | with_reducible exact Kept.refl _ | with_reducible assumption | with_reducible refine Kept.setCell ?_ (by first | (simp; done) | (simp; omega) | omega) _ | with_reducible refine Kept.alloc ?_ _ | with_reducible refine Kept.drewN ?_ _ | with_reducible refine Kept.drew ?_ | with_reducible refine Kept.trans ?_ (by with_reducible assumption) | with_reducible refine Kept.dr ?_ (by with_reducible assumption)))⟩
  · obtain ⟨K, hK⟩ : ∃ A, k = A := ⟨_, rfl⟩
    have e0 : K * K = k * k := by rw [← hK]
    have K0 : 0 ≤ K := by omega
    have K1 : K ≤ 8388608 := by omega
    have hlo' : K * K * s ≤ n * n := by rw [e0]; exact hlo
    have hhi' : n * n < (K + 1) * (K + 1) * s := by rw [← hK]; exact hhi.2 (by omega)
    have ab := mul_sb2 (K * K) s 70368744177664 32000000000000 (by have := sq_nneg K; omega) (by have := mul_sb2 K K 8388608 8388608 (by omega) (by omega) (by omega) (by omega); omega) (by omega) (by omega)
    have ab2 := mul_sb2 ((K + 1) * (K + 1)) s 70368760954881 32000000000000 (by have := sq_nneg (K + 1); omega) (by have := mul_sb2 (K + 1) (K + 1) 8388609 8388609 (by omega) (by omega) (by omega) (by omega); omega) (by omega) (by omega)
    have m1 := fun w => wmul_w n n (by omega) (by omega) (by omega) (by omega) w
    have m2 := fun w => wmul_w K K (by omega) (by omega) (by omega) (by omega) w
    have m3 := fun w => wmul_w (K + 1) (K + 1) (by omega) (by omega) (by omega) (by omega) w
    have t2 := fun w => wtimes_w (K * K) s (by have := sq_nneg K; omega) (by have := mul_sb2 K K 8388608 8388608 (by omega) (by omega) (by omega) (by omega); omega) (by omega) (by omega) w
    have t3 := fun w => wtimes_w ((K + 1) * (K + 1)) s (by have := sq_nneg (K + 1); omega) (by have := mul_sb2 (K + 1) (K + 1) 8388609 8388609 (by omega) (by omega) (by omega) (by omega); omega) (by omega) (by omega) w
    rw [(wfit_yes (u := K * K * s) (by omega) (by omega)).1, (wfit_yes (u := K * K * s) (by omega) (by omega)).2] at t2
    rw [(wfit_yes (u := (K + 1) * (K + 1) * s) (by omega) (by omega)).1, (wfit_yes (u := (K + 1) * (K + 1) * s) (by omega) (by omega)).2] at t3
    have c1 := fun w => cmp_w (K * K * s) (n * n) w
    have c2 := fun w => cmp_w (n * n) ((K + 1) * (K + 1) * s) w
    have w1 : wcm (K * K * s) (n * n) ≤ 0 := by unfold wcm; (repeat' split) <;> omega
    have w2 : wcm (n * n) ((K + 1) * (K + 1) * s) < 0 := by unfold wcm; (repeat' split) <;> omega
    generalize wcm (K * K * s) (n * n) = C1 at *
    generalize wcm (n * n) ((K + 1) * (K + 1) * s) = C2 at *
    clear hlo hhi hlo' hhi' ab ab2 ns kb kk e0
    generalize (K + 1) * (K + 1) * s = HS at *
    generalize (K + 1) * (K + 1) = HI at *
    generalize K * K * s = LS at *
    generalize K * K = LO at *
    generalize n * n = NN at *
    generalize wh HS = h1 at *; generalize wl HS = l1 at *; generalize wh HI = h2 at *; generalize wl HI = l2 at *; generalize wh LS = h3 at *; generalize wl LS = l3 at *; generalize wh LO = h4 at *; generalize wl LO = l4 at *; generalize wh NN = h5 at *; generalize wl NN = l5 at *
    have M1 := Lib.hid m1; have M2 := Lib.hid m2; have M3 := Lib.hid m3; have T2 := Lib.hid t2; have T3 := Lib.hid t3; have G1 := Lib.hid c1; have G2 := Lib.hid c2
    clear m1 m2 m3 t2 t3 c1 c2
    go_enter Try.func26, Try.ntmps26
    go_wp2_with fail
    with_reducible refine (M1.out _).mono ?_
    rintro e w1 ⟨rfl, hk1⟩
    go_wp2_with fail
    with_reducible refine (M2.out _).mono ?_
    rintro e w2 ⟨rfl, hk2⟩
    refine kuz (b := w1.heap.size) hk2 (by first | (simp; done) | (simp; omega) | omega) ?_
    intro ha hb hz2_0 hn2_0 hm2_0
    have hf2_0_0 : w2.cell? ⟨w1.heap.size, 0, none⟩ = some (.int .i64 h5) := (ha _).trans (by first | with_reducible assumption | (simp (maxDischargeDepth := 7) [go_sem]; done) | (simp (maxDischargeDepth := 7) [go_sem, *]; done))
    have hf2_0_1 : w2.cell? ⟨w1.heap.size, 1, none⟩ = some (.int .u64 l5) := (ha _).trans (by first | with_reducible assumption | (simp (maxDischargeDepth := 7) [go_sem]; done) | (simp (maxDischargeDepth := 7) [go_sem, *]; done))
    try have hg2_0 : ∀ o, w2.frozen? ⟨w1.heap.size, o, none⟩ = false := by intro o; rw [hb]; first | (simp (maxDischargeDepth := 7) [go_sem]; done) | (simp (maxDischargeDepth := 7) [go_sem, *]; done)
    clear ha hb
    go_wp2_with fail
    with_reducible refine (T2.out _).mono ?_
    rintro e w3 ⟨rfl, hk3⟩
    refine kuz (b := w1.heap.size) hk3 (by first | (simp; done) | (simp; omega) | omega) ?_
    intro ha hb hz3_0 hn3_0 hm3_0
    have hf3_0_0 : w3.cell? ⟨w1.heap.size, 0, none⟩ = some (.int .i64 h5) := (ha _).trans (by first | with_reducible assumption | (simp (maxDischargeDepth := 7) [go_sem]; done) | (simp (maxDischargeDepth := 7) [go_sem, *]; done))
    have hf3_0_1 : w3.cell? ⟨w1.heap.size, 1, none⟩ = some (.int .u64 l5) := (ha _).trans (by first | with_reducible assumption | (simp (maxDischargeDepth := 7) [go_sem]; done) | (simp (maxDischargeDepth := 7) [go_sem, *]; done))
    try have hg3_0 : ∀ o, w3.frozen? ⟨w1.heap.size, o, none⟩ = false := by intro o; rw [hb]; first | (simp (maxDischargeDepth := 7) [go_sem]; done) | (simp (maxDischargeDepth := 7) [go_sem, *]; done)
    clear ha hb
    (try clear hf2_0_0); (try clear hf2_0_1); (try clear hg2_0)
    go_wp2_with fail
    with_reducible refine (M3.out _).mono ?_
    rintro e w4 ⟨rfl, hk4⟩
    refine kuz (b := w1.heap.size) hk4 (by first | (simp; done) | (simp; omega) | omega) ?_
    intro ha hb hz4_0 hn4_0 hm4_0
    have hf4_0_0 : w4.cell? ⟨w1.heap.size, 0, none⟩ = some (.int .i64 h5) := (ha _).trans (by first | with_reducible assumption | (simp (maxDischargeDepth := 7) [go_sem]; done) | (simp (maxDischargeDepth := 7) [go_sem, *]; done))
    have hf4_0_1 : w4.cell? ⟨w1.heap.size, 1, none⟩ = some (.int .u64 l5) := (ha _).trans (by first | with_reducible assumption | (simp (maxDischargeDepth := 7) [go_sem]; done) | (simp (maxDischargeDepth := 7) [go_sem, *]; done))
    try have hg4_0 : ∀ o, w4.frozen? ⟨w1.heap.size, o, none⟩ = false := by intro o; rw [hb]; first | (simp (maxDischargeDepth := 7) [go_sem]; done) | (simp (maxDischargeDepth := 7) [go_sem, *]; done)
    clear ha hb
    refine kuz (b := w3.heap.size) hk4 (by first | (simp; done) | (simp; omega) | omega) ?_
    intro ha hb hz4_1 hn4_1 hm4_1
    have hf4_1_0 : w4.cell? ⟨w3.heap.size, 0, none⟩ = some (.int .i64 h3) := (ha _).trans (by first | with_reducible assumption | (simp (maxDischargeDepth := 7) [go_sem]; done) | (simp (maxDischargeDepth := 7) [go_sem, *]; done))
    have hf4_1_1 : w4.cell? ⟨w3.heap.size, 1, none⟩ = some (.int .u64 l3) := (ha _).trans (by first | with_reducible assumption | (simp (maxDischargeDepth := 7) [go_sem]; done) | (simp (maxDischargeDepth := 7) [go_sem, *]; done))
    try have hg4_1 : ∀ o, w4.frozen? ⟨w3.heap.size, o, none⟩ = false := by intro o; rw [hb]; first | (simp (maxDischargeDepth := 7) [go_sem]; done) | (simp (maxDischargeDepth := 7) [go_sem, *]; done)
    clear ha hb
    (try clear hf3_0_0); (try clear hf3_0_1); (try clear hg3_0)
    go_wp2_with fail
    with_reducible refine (T3.out _).mono ?_
    rintro e w5 ⟨rfl, hk5⟩
    refine kuz (b := w1.heap.size) hk5 (by first | (simp; done) | (simp; omega) | omega) ?_
    intro ha hb hz5_0 hn5_0 hm5_0
    have hf5_0_0 : w5.cell? ⟨w1.heap.size, 0, none⟩ = some (.int .i64 h5) := (ha _).trans (by first | with_reducible assumption | (simp (maxDischargeDepth := 7) [go_sem]; done) | (simp (maxDischargeDepth := 7) [go_sem, *]; done))
    have hf5_0_1 : w5.cell? ⟨w1.heap.size, 1, none⟩ = some (.int .u64 l5) := (ha _).trans (by first | with_reducible assumption | (simp (maxDischargeDepth := 7) [go_sem]; done) | (simp (maxDischargeDepth := 7) [go_sem, *]; done))
    try have hg5_0 : ∀ o, w5.frozen? ⟨w1.heap.size, o, none⟩ = false := by intro o; rw [hb]; first | (simp (maxDischargeDepth := 7) [go_sem]; done) | (simp (maxDischargeDepth := 7) [go_sem, *]; done)
    clear ha hb
    refine kuz (b := w3.heap.size) hk5 (by first | (simp; done) | (simp; omega) | omega) ?_
    intro ha hb hz5_1 hn5_1 hm5_1
    have hf5_1_0 : w5.cell? ⟨w3.heap.size, 0, none⟩ = some (.int .i64 h3) := (ha _).trans (by first | with_reducible assumption | (simp (maxDischargeDepth := 7) [go_sem]; done) | (simp (maxDischargeDepth := 7) [go_sem, *]; done))
    have hf5_1_1 : w5.cell? ⟨w3.heap.size, 1, none⟩ = some (.int .u64 l3) := (ha _).trans (by first | with_reducible assumption | (simp (maxDischargeDepth := 7) [go_sem]; done) | (simp (maxDischargeDepth := 7) [go_sem, *]; done))
    try have hg5_1 : ∀ o, w5.frozen? ⟨w3.heap.size, o, none⟩ = false := by intro o; rw [hb]; first | (simp (maxDischargeDepth := 7) [go_sem]; done) | (simp (maxDischargeDepth := 7) [go_sem, *]; done)
    clear ha hb
    (try clear hf4_0_0); (try clear hf4_0_1); (try clear hf4_1_0); (try clear hf4_1_1); (try clear hg4_0); (try clear hg4_1); (try clear hz4_1)
    go_wp2_with fail
    with_reducible refine (G1.out _).mono ?_
    rintro e w6 ⟨rfl, hk6⟩
    refine kuz (b := w1.heap.size) hk6 (by first | (simp; done) | (simp; omega) | omega) ?_
    intro ha hb hz6_0 hn6_0 hm6_0
    have hf6_0_0 : w6.cell? ⟨w1.heap.size, 0, none⟩ = some (.int .i64 h5) := (ha _).trans (by first | with_reducible assumption | (simp (maxDischargeDepth := 7) [go_sem]; done) | (simp (maxDischargeDepth := 7) [go_sem, *]; done))
    have hf6_0_1 : w6.cell? ⟨w1.heap.size, 1, none⟩ = some (.int .u64 l5) := (ha _).trans (by first | with_reducible assumption | (simp (maxDischargeDepth := 7) [go_sem]; done) | (simp (maxDischargeDepth := 7) [go_sem, *]; done))
    try have hg6_0 : ∀ o, w6.frozen? ⟨w1.heap.size, o, none⟩ = false := by intro o; rw [hb]; first | (simp (maxDischargeDepth := 7) [go_sem]; done) | (simp (maxDischargeDepth := 7) [go_sem, *]; done)
    clear ha hb
    refine kuz (b := w3.heap.size) hk6 (by first | (simp; done) | (simp; omega) | omega) ?_
    intro ha hb hz6_1 hn6_1 hm6_1
    have hf6_1_0 : w6.cell? ⟨w3.heap.size, 0, none⟩ = some (.int .i64 h3) := (ha _).trans (by first | with_reducible assumption | (simp (maxDischargeDepth := 7) [go_sem]; done) | (simp (maxDischargeDepth := 7) [go_sem, *]; done))
    have hf6_1_1 : w6.cell? ⟨w3.heap.size, 1, none⟩ = some (.int .u64 l3) := (ha _).trans (by first | with_reducible assumption | (simp (maxDischargeDepth := 7) [go_sem]; done) | (simp (maxDischargeDepth := 7) [go_sem, *]; done))
    try have hg6_1 : ∀ o, w6.frozen? ⟨w3.heap.size, o, none⟩ = false := by intro o; rw [hb]; first | (simp (maxDischargeDepth := 7) [go_sem]; done) | (simp (maxDischargeDepth := 7) [go_sem, *]; done)
    clear ha hb
    refine kuz (b := w5.heap.size) hk6 (by first | (simp; done) | (simp; omega) | omega) ?_
    intro ha hb hz6_2 hn6_2 hm6_2
    have hf6_2_0 : w6.cell? ⟨w5.heap.size, 0, none⟩ = some (.int .i64 h1) := (ha _).trans (by first | with_reducible assumption | (simp (maxDischargeDepth := 7) [go_sem]; done) | (simp (maxDischargeDepth := 7) [go_sem, *]; done))
    have hf6_2_1 : w6.cell? ⟨w5.heap.size, 1, none⟩ = some (.int .u64 l1) := (ha _).trans (by first | with_reducible assumption | (simp (maxDischargeDepth := 7) [go_sem]; done) | (simp (maxDischargeDepth := 7) [go_sem, *]; done))
    try have hg6_2 : ∀ o, w6.frozen? ⟨w5.heap.size, o, none⟩ = false := by intro o; rw [hb]; first | (simp (maxDischargeDepth := 7) [go_sem]; done) | (simp (maxDischargeDepth := 7) [go_sem, *]; done)
    clear ha hb
    (try clear hf5_0_0); (try clear hf5_0_1); (try clear hf5_1_0); (try clear hf5_1_1); (try clear hg5_0); (try clear hg5_1); (try clear hz5_1)
    go_wp2_with fail
    with_reducible refine (G2.out _).mono ?_
    rintro e w7 ⟨rfl, hk7⟩
    refine kuz (b := w1.heap.size) hk7 (by first | (simp; done) | (simp; omega) | omega) ?_
    intro ha hb hz7_0 hn7_0 hm7_0
    have hf7_0_0 : w7.cell? ⟨w1.heap.size, 0, none⟩ = some (.int .i64 h5) := (ha _).trans (by first | with_reducible assumption | (simp (maxDischargeDepth := 7) [go_sem]; done) | (simp (maxDischargeDepth := 7) [go_sem, *]; done))
    have hf7_0_1 : w7.cell? ⟨w1.heap.size, 1, none⟩ = some (.int .u64 l5) := (ha _).trans (by first | with_reducible assumption | (simp (maxDischargeDepth := 7) [go_sem]; done) | (simp (maxDischargeDepth := 7) [go_sem, *]; done))
    try have hg7_0 : ∀ o, w7.frozen? ⟨w1.heap.size, o, none⟩ = false := by intro o; rw [hb]; first | (simp (maxDischargeDepth := 7) [go_sem]; done) | (simp (maxDischargeDepth := 7) [go_sem, *]; done)
    clear ha hb
    refine kuz (b := w3.heap.size) hk7 (by first | (simp; done) | (simp; omega) | omega) ?_
    intro ha hb hz7_1 hn7_1 hm7_1
    have hf7_1_0 : w7.cell? ⟨w3.heap.size, 0, none⟩ = some (.int .i64 h3) := (ha _).trans (by first | with_reducible assumption | (simp (maxDischargeDepth := 7) [go_sem]; done) | (simp (maxDischargeDepth := 7) [go_sem, *]; done))
    have hf7_1_1 : w7.cell? ⟨w3.heap.size, 1, none⟩ = some (.int .u64 l3) := (ha _).trans (by first | with_reducible assumption | (simp (maxDischargeDepth := 7) [go_sem]; done) | (simp (maxDischargeDepth := 7) [go_sem, *]; done))
    try have hg7_1 : ∀ o, w7.frozen? ⟨w3.heap.size, o, none⟩ = false := by intro o; rw [hb]; first | (simp (maxDischargeDepth := 7) [go_sem]; done) | (simp (maxDischargeDepth := 7) [go_sem, *]; done)
    clear ha hb
    refine kuz (b := w5.heap.size) hk7 (by first | (simp; done) | (simp; omega) | omega) ?_
    intro ha hb hz7_2 hn7_2 hm7_2
    have hf7_2_0 : w7.cell? ⟨w5.heap.size, 0, none⟩ = some (.int .i64 h1) := (ha _).trans (by first | with_reducible assumption | (simp (maxDischargeDepth := 7) [go_sem]; done) | (simp (maxDischargeDepth := 7) [go_sem, *]; done))
    have hf7_2_1 : w7.cell? ⟨w5.heap.size, 1, none⟩ = some (.int .u64 l1) := (ha _).trans (by first | with_reducible assumption | (simp (maxDischargeDepth := 7) [go_sem]; done) | (simp (maxDischargeDepth := 7) [go_sem, *]; done))
    try have hg7_2 : ∀ o, w7.frozen? ⟨w5.heap.size, o, none⟩ = false := by intro o; rw [hb]; first | (simp (maxDischargeDepth := 7) [go_sem]; done) | (simp (maxDischargeDepth := 7) [go_sem, *]; done)
    clear ha hb
    (try clear hf6_0_0); (try clear hf6_0_1); (try clear hf6_1_0); (try clear hf6_1_1); (try clear hf6_2_0); (try clear hf6_2_1); (try clear hg6_0); (try clear hg6_1); (try clear hg6_2); (try clear hz6_1); (try clear hz6_2)
    go_wp2_with fail
    all_goals go_ret
    all_goals exact ⟨rfl, (by repeat (first | with_reducible exact Kept.refl _ | with_reducible assumption | with_reducible refine Kept.setCell ?_ (by first | (simp; done) | (simp; omega) | omega) _ | with_reducible refine Kept.alloc ?_ _ | with_reducible refine Kept.drewN ?_ _ | with_reducible refine Kept.drew ?_ | with_reducible refine Kept.trans ?_ (by with_reducible assumption) | with_reducible refine Kept.dr ?_ (by with_reducible assumption)))⟩

end Go.Proofs.Ytokgmhicindibaa
