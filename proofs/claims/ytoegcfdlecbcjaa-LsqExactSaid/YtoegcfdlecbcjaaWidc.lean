/-
  Own contracts: package wide: products of wides, divisions.
-/
import Derived.Test.YtoegcfdlecbcjaaWidb
import Derived.WalkKit
import Derived.ProofKit
import Derived.OpenShut
import Derived.WalkLawsBesides
import Derived.WalkSpells
import Derived.Lib.Hide
import Derived.Deep.DeepCutAuto
import Derived.Deep.CutBlock
import Derived.Deep.QuietTactic
import Derived.BigQuiet
import Derived.Handy
import Derived.StillTailTactics
import Derived.IntWalk
import Derived.LoopN
import Derived.Deep.RegionHeld3
namespace Go.Proofs.Ytoegcfdlecbcjaa
open Go.ChangeShapes Go.WideShapes Go.ChangeAt Go.RowKit
set_option linter.unusedVariables false
set_option linter.unusedSimpArgs false

theorem sgd_mul (u a : Int) : sgd (decide (u < 0) != decide (a < 0)) (wmag u * wmag a) = u * a := by
  unfold sgd wmag
  by_cases h : u < 0 <;> by_cases k : a < 0 <;> simp [h, k, Int.neg_mul, Int.mul_neg]
theorem mag_mul (m n mh ml N : Int) (hm : m = mh * 18446744073709551616 + ml) (hN : n = N) : m * n = (mh * N) * 18446744073709551616 + ml * N := by
  subst hN; rw [hm, Int.add_mul, Int.mul_right_comm]
theorem mul_far (u a : Int) (h : 340282366920938463463374607431768211456 ≤ wmag u * wmag a) : u * a < -170141183460469231731687303715884105728 ∨ 170141183460469231731687303715884105728 ≤ u * a := by
  have := sgd_mul u a
  rw [← this]
  unfold sgd
  split <;> omega
set_option maxHeartbeats 2000000 in
set_option maxRecDepth 100000 in
theorem times_w (u a : Int) (u0 : -170141183460469231731687303715884105728 ≤ u) (u1 : u < 170141183460469231731687303715884105728) (a_0 : -9223372036854775808 ≤ a) (a_1 : a ≤ 9223372036854775807) (w : World) : Calls Try.prog 28 #[.agg #[.int .i64 (wh (u)), .int .u64 (wl (u))], .int .i64 a] w fun e w' => e = .returned (.tuple #[.agg #[.int .i64 (wh (wval (u * a))), .int .u64 (wl (wval (u * a)))], .bool (wfit (u * a))]) ∧ Kept w w' := by
  by_cases cx : u < 0 <;> by_cases ca : a < 0
  · have SG : sgd false (wmag u * wmag a) = u * a := by have := sgd_mul u a; rw [decide_eq_true cx, decide_eq_true ca] at this; exact this
    have A2 : wh u < 0 := (by unfold wh; omega)
    have HS := Lib.hid (size_w u u0 u1)
    have HO := Lib.hid (of_w a a_0 a_1)
    have HN := Lib.hid (size_w a (by omega) (by omega))
    obtain ⟨m0, m1⟩ := wmag_bd u u0 u1
    have n01 : 0 ≤ wmag a ∧ wmag a ≤ 9223372036854775808 := by unfold wmag; split <;> omega
    obtain ⟨n0, n1⟩ := n01
    have ea : wh (wmag a) = 0 ∧ wl (wmag a) = wmag a := by unfold wh wl; omega
    obtain ⟨ea1, ea2⟩ := ea
    rw [ea1, ea2] at HN
    obtain ⟨em, b0, b1⟩ := wv (wmag u)
    have B0 : 0 ≤ wh (wmag u) := (by unfold wh; omega)
    have B1 : wh (wmag u) ≤ 18446744073709551615 := (by unfold wh; omega)
    have PM := mag_mul (wmag u) (wmag a) (wh (wmag u)) (wl (wmag u)) (wmag a) em rfl
    have p1 := le_mul (wl (wmag u)) (wmag a) 18446744073709551615 9223372036854775808 b0 b1 n0 n1
    have p2 := le_mul (wh (wmag u)) (wmag a) 18446744073709551615 9223372036854775808 B0 B1 n0 n1
    have far := mul_far u a
    have hM1 := mul64_w (wl (wmag u)) (wmag a) b0 b1 n0 (by omega)
    have hM2 := mul64_w (wh (wmag u)) (wmag a) B0 B1 n0 (by omega)
    generalize hP1 : wl (wmag u) * wmag a = P1 at *
    generalize hP2 : wh (wmag u) * wmag a = P2 at *
    clear hP1 hP2
    obtain ⟨H1, hH1⟩ : ∃ x, P1 / 18446744073709551616 = x := ⟨_, rfl⟩
    obtain ⟨L1, hL1⟩ : ∃ x, P1 % 18446744073709551616 = x := ⟨_, rfl⟩
    obtain ⟨H2, hH2⟩ : ∃ x, P2 / 18446744073709551616 = x := ⟨_, rfl⟩
    obtain ⟨L2, hL2⟩ : ∃ x, P2 % 18446744073709551616 = x := ⟨_, rfl⟩
    obtain ⟨SS, hSS⟩ : ∃ x, (H1 + L2 + 0) % 18446744073709551616 = x := ⟨_, rfl⟩
    obtain ⟨CC, hCC⟩ : ∃ x, (H1 + L2 + 0) / 18446744073709551616 = x := ⟨_, rfl⟩
    simp only [hH1, hL1] at hM1
    simp only [hH2, hL2] at hM2
    have HM1 := Lib.hid hM1
    have HM2 := Lib.hid hM2
    have r1 := add64_r H1 L2 0 SS CC (by omega) (by omega) (by omega) (by omega) (Or.inl rfl) hSS hCC
    clear hM1 hM2
    generalize hQ : wmag u * wmag a = Q at *
    clear ea1 ea2 em
    by_cases c1 : H2 = 0
    · by_cases c2 : CC = 0
      · have HG := Lib.hid (signed_0 Q (by omega) (by omega))
        have q1 : wh Q = SS := by unfold wh; omega
        have q2 : wl Q = L1 := by unfold wl; omega
        rw [q1, q2, SG] at HG
        clear PM SG hQ q1 q2 far
        generalize hV : wval (u * a) = V at *
        generalize hW : wfit (u * a) = O at *
        clear hV hW
        rw [c1] at HM2
        rw [c2] at r1
        clear c1 c2 hH1 hH2 hL1 hL2 hSS hCC
        generalize wh (wmag u) = BB at *; generalize wl (wmag u) = bb at *; generalize hna : wmag a = NN at *; generalize hma : wmag u = MM at *
        clear hna hma
        generalize hwu : wh u = A at *; generalize hwl : wl u = al at *
        clear hwu hwl cx
        have dA : decide (A < 0) = true := decide_eq_true (by omega)
        have da : decide (a < 0) = true := decide_eq_true ca
        clear ca
        go_enter Try.func28, Try.ntmps28
        go_wp2_with fail
        with_reducible refine (HS.out _).mono ?_
        rintro e w1 ⟨rfl, hk1⟩
        refine kuse (b := w.heap.size) hk1 (by first | (simp; done) | (simp; omega) | omega) ?_
        intro ha hb
        have hz1_0 : w.heap.size < w1.heap.size := by have := hk1.size; (try simp at this); omega
        have hn1_0 : ¬ w.heap.size = w1.heap.size := by omega
        have hm1_0 : ¬ w1.heap.size = w.heap.size := by omega
        have hf1_0_0 : w1.cell? ⟨w.heap.size, 0, none⟩ = some (.int .i64 A) := by first | (rw [ha]; with_reducible assumption) | (simp (maxDischargeDepth := 7) [go_sem, ha]; done) | (rw [ha]; assumption) | (simp (maxDischargeDepth := 7) [go_sem, ha, *]; done)
        have hf1_0_1 : w1.cell? ⟨w.heap.size, 1, none⟩ = some (.int .u64 al) := by first | (rw [ha]; with_reducible assumption) | (simp (maxDischargeDepth := 7) [go_sem, ha]; done) | (rw [ha]; assumption) | (simp (maxDischargeDepth := 7) [go_sem, ha, *]; done)
        try have hg1_0 : ∀ o, w1.frozen? ⟨w.heap.size, o, none⟩ = false := by intro o; first | (simp (maxDischargeDepth := 7) [go_sem, hb]; done) | (rw [hb]; simp (maxDischargeDepth := 7) [go_sem, *]; done)
        clear ha hb
        refine kuse (b := w.heap.size + 1) hk1 (by first | (simp; done) | (simp; omega) | omega) ?_
        intro ha hb
        have hz1_1 : w.heap.size + 1 < w1.heap.size := by have := hk1.size; (try simp at this); omega
        have hn1_1 : ¬ w.heap.size + 1 = w1.heap.size := by omega
        have hm1_1 : ¬ w1.heap.size = w.heap.size + 1 := by omega
        have hf1_1_0 : w1.cell? ⟨w.heap.size + 1, 0, none⟩ = some (.int .i64 0) := by first | (rw [ha]; with_reducible assumption) | (simp (maxDischargeDepth := 7) [go_sem, ha]; done) | (rw [ha]; assumption) | (simp (maxDischargeDepth := 7) [go_sem, ha, *]; done)
        have hf1_1_1 : w1.cell? ⟨w.heap.size + 1, 1, none⟩ = some (.int .u64 0) := by first | (rw [ha]; with_reducible assumption) | (simp (maxDischargeDepth := 7) [go_sem, ha]; done) | (rw [ha]; assumption) | (simp (maxDischargeDepth := 7) [go_sem, ha, *]; done)
        try have hg1_1 : ∀ o, w1.frozen? ⟨w.heap.size + 1, o, none⟩ = false := by intro o; first | (simp (maxDischargeDepth := 7) [go_sem, hb]; done) | (rw [hb]; simp (maxDischargeDepth := 7) [go_sem, *]; done)
        clear ha hb
        go_wp2_with fail
        with_reducible refine (HO.out _).mono ?_
        rintro e w2 ⟨rfl, hk2⟩
        refine kuse (b := w.heap.size) hk2 (by first | (simp; done) | (simp; omega) | omega) ?_
        intro ha hb
        have hz2_0 : w.heap.size < w2.heap.size := by have := hk2.size; (try simp at this); omega
        have hn2_0 : ¬ w.heap.size = w2.heap.size := by omega
        have hm2_0 : ¬ w2.heap.size = w.heap.size := by omega
        have hf2_0_0 : w2.cell? ⟨w.heap.size, 0, none⟩ = some (.int .i64 A) := by first | (rw [ha]; with_reducible assumption) | (simp (maxDischargeDepth := 7) [go_sem, ha]; done) | (rw [ha]; assumption) | (simp (maxDischargeDepth := 7) [go_sem, ha, *]; done)
        have hf2_0_1 : w2.cell? ⟨w.heap.size, 1, none⟩ = some (.int .u64 al) := by first | (rw [ha]; with_reducible assumption) | (simp (maxDischargeDepth := 7) [go_sem, ha]; done) | (rw [ha]; assumption) | (simp (maxDischargeDepth := 7) [go_sem, ha, *]; done)
        try have hg2_0 : ∀ o, w2.frozen? ⟨w.heap.size, o, none⟩ = false := by intro o; first | (simp (maxDischargeDepth := 7) [go_sem, hb]; done) | (rw [hb]; simp (maxDischargeDepth := 7) [go_sem, *]; done)
        clear ha hb
        refine kuse (b := w.heap.size + 1) hk2 (by first | (simp; done) | (simp; omega) | omega) ?_
        intro ha hb
        have hz2_1 : w.heap.size + 1 < w2.heap.size := by have := hk2.size; (try simp at this); omega
        have hn2_1 : ¬ w.heap.size + 1 = w2.heap.size := by omega
        have hm2_1 : ¬ w2.heap.size = w.heap.size + 1 := by omega
        have hf2_1_0 : w2.cell? ⟨w.heap.size + 1, 0, none⟩ = some (.int .i64 0) := by first | (rw [ha]; with_reducible assumption) | (simp (maxDischargeDepth := 7) [go_sem, ha]; done) | (rw [ha]; assumption) | (simp (maxDischargeDepth := 7) [go_sem, ha, *]; done)
        have hf2_1_1 : w2.cell? ⟨w.heap.size + 1, 1, none⟩ = some (.int .u64 0) := by first | (rw [ha]; with_reducible assumption) | (simp (maxDischargeDepth := 7) [go_sem, ha]; done) | (rw [ha]; assumption) | (simp (maxDischargeDepth := 7) [go_sem, ha, *]; done)
        try have hg2_1 : ∀ o, w2.frozen? ⟨w.heap.size + 1, o, none⟩ = false := by intro o; first | (simp (maxDischargeDepth := 7) [go_sem, hb]; done) | (rw [hb]; simp (maxDischargeDepth := 7) [go_sem, *]; done)
        clear ha hb
        try clear hf1_0_0
        try clear hf1_0_1
        try clear hf1_1_0
        try clear hf1_1_1
        try clear hg1_0
        try clear hg1_1
        try clear hz1_1
        go_wp2_with fail
        with_reducible refine (HN.out _).mono ?_
        rintro e w3 ⟨rfl, hk3⟩
        refine kuse (b := w.heap.size) hk3 (by first | (simp; done) | (simp; omega) | omega) ?_
        intro ha hb
        have hz3_0 : w.heap.size < w3.heap.size := by have := hk3.size; (try simp at this); omega
        have hn3_0 : ¬ w.heap.size = w3.heap.size := by omega
        have hm3_0 : ¬ w3.heap.size = w.heap.size := by omega
        have hf3_0_0 : w3.cell? ⟨w.heap.size, 0, none⟩ = some (.int .i64 A) := by first | (rw [ha]; with_reducible assumption) | (simp (maxDischargeDepth := 7) [go_sem, ha]; done) | (rw [ha]; assumption) | (simp (maxDischargeDepth := 7) [go_sem, ha, *]; done)
        have hf3_0_1 : w3.cell? ⟨w.heap.size, 1, none⟩ = some (.int .u64 al) := by first | (rw [ha]; with_reducible assumption) | (simp (maxDischargeDepth := 7) [go_sem, ha]; done) | (rw [ha]; assumption) | (simp (maxDischargeDepth := 7) [go_sem, ha, *]; done)
        try have hg3_0 : ∀ o, w3.frozen? ⟨w.heap.size, o, none⟩ = false := by intro o; first | (simp (maxDischargeDepth := 7) [go_sem, hb]; done) | (rw [hb]; simp (maxDischargeDepth := 7) [go_sem, *]; done)
        clear ha hb
        refine kuse (b := w.heap.size + 1) hk3 (by first | (simp; done) | (simp; omega) | omega) ?_
        intro ha hb
        have hz3_1 : w.heap.size + 1 < w3.heap.size := by have := hk3.size; (try simp at this); omega
        have hn3_1 : ¬ w.heap.size + 1 = w3.heap.size := by omega
        have hm3_1 : ¬ w3.heap.size = w.heap.size + 1 := by omega
        have hf3_1_0 : w3.cell? ⟨w.heap.size + 1, 0, none⟩ = some (.int .i64 0) := by first | (rw [ha]; with_reducible assumption) | (simp (maxDischargeDepth := 7) [go_sem, ha]; done) | (rw [ha]; assumption) | (simp (maxDischargeDepth := 7) [go_sem, ha, *]; done)
        have hf3_1_1 : w3.cell? ⟨w.heap.size + 1, 1, none⟩ = some (.int .u64 0) := by first | (rw [ha]; with_reducible assumption) | (simp (maxDischargeDepth := 7) [go_sem, ha]; done) | (rw [ha]; assumption) | (simp (maxDischargeDepth := 7) [go_sem, ha, *]; done)
        try have hg3_1 : ∀ o, w3.frozen? ⟨w.heap.size + 1, o, none⟩ = false := by intro o; first | (simp (maxDischargeDepth := 7) [go_sem, hb]; done) | (rw [hb]; simp (maxDischargeDepth := 7) [go_sem, *]; done)
        clear ha hb
        try clear hf2_0_0
        try clear hf2_0_1
        try clear hf2_1_0
        try clear hf2_1_1
        try clear hg2_0
        try clear hg2_1
        try clear hz2_1
        go_wp2_with fail
        with_reducible refine (HM1.out _).mono ?_
        rintro e w' ⟨rfl, rfl⟩
        go_wp2_with fail
        with_reducible refine (HM2.out _).mono ?_
        rintro e w' ⟨rfl, rfl⟩
        go_wp2_with fail
        with_reducible refine (HG.out _).mono ?_
        rintro e w4 ⟨rfl, hk4⟩
        refine kuse (b := w.heap.size) hk4 (by first | (simp; done) | (simp; omega) | omega) ?_
        intro ha hb
        have hz4_0 : w.heap.size < w4.heap.size := by have := hk4.size; (try simp at this); omega
        have hn4_0 : ¬ w.heap.size = w4.heap.size := by omega
        have hm4_0 : ¬ w4.heap.size = w.heap.size := by omega
        have hf4_0_0 : w4.cell? ⟨w.heap.size, 0, none⟩ = some (.int .i64 A) := by first | (rw [ha]; with_reducible assumption) | (simp (maxDischargeDepth := 7) [go_sem, ha]; done) | (rw [ha]; assumption) | (simp (maxDischargeDepth := 7) [go_sem, ha, *]; done)
        have hf4_0_1 : w4.cell? ⟨w.heap.size, 1, none⟩ = some (.int .u64 al) := by first | (rw [ha]; with_reducible assumption) | (simp (maxDischargeDepth := 7) [go_sem, ha]; done) | (rw [ha]; assumption) | (simp (maxDischargeDepth := 7) [go_sem, ha, *]; done)
        try have hg4_0 : ∀ o, w4.frozen? ⟨w.heap.size, o, none⟩ = false := by intro o; first | (simp (maxDischargeDepth := 7) [go_sem, hb]; done) | (rw [hb]; simp (maxDischargeDepth := 7) [go_sem, *]; done)
        clear ha hb
        refine kuse (b := w.heap.size + 1) hk4 (by first | (simp; done) | (simp; omega) | omega) ?_
        intro ha hb
        have hz4_1 : w.heap.size + 1 < w4.heap.size := by have := hk4.size; (try simp at this); omega
        have hn4_1 : ¬ w.heap.size + 1 = w4.heap.size := by omega
        have hm4_1 : ¬ w4.heap.size = w.heap.size + 1 := by omega
        have hf4_1_0 : w4.cell? ⟨w.heap.size + 1, 0, none⟩ = some (.int .i64 0) := by first | (rw [ha]; with_reducible assumption) | (simp (maxDischargeDepth := 7) [go_sem, ha]; done) | (rw [ha]; assumption) | (simp (maxDischargeDepth := 7) [go_sem, ha, *]; done)
        have hf4_1_1 : w4.cell? ⟨w.heap.size + 1, 1, none⟩ = some (.int .u64 0) := by first | (rw [ha]; with_reducible assumption) | (simp (maxDischargeDepth := 7) [go_sem, ha]; done) | (rw [ha]; assumption) | (simp (maxDischargeDepth := 7) [go_sem, ha, *]; done)
        try have hg4_1 : ∀ o, w4.frozen? ⟨w.heap.size + 1, o, none⟩ = false := by intro o; first | (simp (maxDischargeDepth := 7) [go_sem, hb]; done) | (rw [hb]; simp (maxDischargeDepth := 7) [go_sem, *]; done)
        clear ha hb
        refine kuse (b := w3.heap.size) hk4 (by first | (simp; done) | (simp; omega) | omega) ?_
        intro ha hb
        have hz4_2 : w3.heap.size < w4.heap.size := by have := hk4.size; (try simp at this); omega
        have hn4_2 : ¬ w3.heap.size = w4.heap.size := by omega
        have hm4_2 : ¬ w4.heap.size = w3.heap.size := by omega
        have hf4_2_0 : w4.cell? ⟨w3.heap.size, 0, none⟩ = some (.int .u64 BB) := by first | (rw [ha]; with_reducible assumption) | (simp (maxDischargeDepth := 7) [go_sem, ha]; done) | (rw [ha]; assumption) | (simp (maxDischargeDepth := 7) [go_sem, ha, *]; done)
        have hf4_2_1 : w4.cell? ⟨w3.heap.size, 1, none⟩ = some (.int .u64 bb) := by first | (rw [ha]; with_reducible assumption) | (simp (maxDischargeDepth := 7) [go_sem, ha]; done) | (rw [ha]; assumption) | (simp (maxDischargeDepth := 7) [go_sem, ha, *]; done)
        try have hg4_2 : ∀ o, w4.frozen? ⟨w3.heap.size, o, none⟩ = false := by intro o; first | (simp (maxDischargeDepth := 7) [go_sem, hb]; done) | (rw [hb]; simp (maxDischargeDepth := 7) [go_sem, *]; done)
        clear ha hb
        refine kuse (b := w3.heap.size + 1) hk4 (by first | (simp; done) | (simp; omega) | omega) ?_
        intro ha hb
        have hz4_3 : w3.heap.size + 1 < w4.heap.size := by have := hk4.size; (try simp at this); omega
        have hn4_3 : ¬ w3.heap.size + 1 = w4.heap.size := by omega
        have hm4_3 : ¬ w4.heap.size = w3.heap.size + 1 := by omega
        have hf4_3_0 : w4.cell? ⟨w3.heap.size + 1, 0, none⟩ = some (.int .u64 0) := by first | (rw [ha]; with_reducible assumption) | (simp (maxDischargeDepth := 7) [go_sem, ha]; done) | (rw [ha]; assumption) | (simp (maxDischargeDepth := 7) [go_sem, ha, *]; done)
        have hf4_3_1 : w4.cell? ⟨w3.heap.size + 1, 1, none⟩ = some (.int .u64 NN) := by first | (rw [ha]; with_reducible assumption) | (simp (maxDischargeDepth := 7) [go_sem, ha]; done) | (rw [ha]; assumption) | (simp (maxDischargeDepth := 7) [go_sem, ha, *]; done)
        try have hg4_3 : ∀ o, w4.frozen? ⟨w3.heap.size + 1, o, none⟩ = false := by intro o; first | (simp (maxDischargeDepth := 7) [go_sem, hb]; done) | (rw [hb]; simp (maxDischargeDepth := 7) [go_sem, *]; done)
        clear ha hb
        try clear hf3_0_0
        try clear hf3_0_1
        try clear hf3_1_0
        try clear hf3_1_1
        try clear hg3_0
        try clear hg3_1
        try clear hz3_1
        go_wp2_with fail
        all_goals exact bodyPost_ret (v := .tuple #[.agg #[.int .i64 (wh (V)), .int .u64 (wl (V))], .bool O]) (by first | (simp [results, Try.results28, go_sem]; done) | (simp (maxDischargeDepth := 7) [results, Try.results28, go_sem, *]; done)) rfl ⟨rfl, (by repeat (first | with_reducible exact Kept.refl _ | with_reducible assumption | with_reducible refine Kept.setCell ?_ (by first | (simp; done) | (simp; omega) | omega) _ | with_reducible refine Kept.alloc ?_ _ | with_reducible refine Kept.drewN ?_ _ | with_reducible refine Kept.drew ?_ | with_reducible refine Kept.trans ?_ (by with_reducible assumption) | with_reducible refine Kept.dr ?_ (by with_reducible assumption)))⟩
      · have e3 := wfit_no (far (by omega))
        rw [e3.2, e3.1]
        clear e3 far
        clear PM SG hQ
        rw [c1] at HM2
        have c3 : (CC == 0) = false := by rw [beq_eq_false_iff_ne]; exact c2
        clear c1 c2 hH1 hH2 hL1 hL2 hSS hCC
        generalize wh (wmag u) = BB at *; generalize wl (wmag u) = bb at *; generalize hna : wmag a = NN at *; generalize hma : wmag u = MM at *
        clear hna hma
        generalize hwu : wh u = A at *; generalize hwl : wl u = al at *
        clear hwu hwl cx
        have dA : decide (A < 0) = true := decide_eq_true (by omega)
        have da : decide (a < 0) = true := decide_eq_true ca
        clear ca
        go_enter Try.func28, Try.ntmps28
        go_wp2_with fail
        with_reducible refine (HS.out _).mono ?_
        rintro e w1 ⟨rfl, hk1⟩
        refine kuse (b := w.heap.size) hk1 (by first | (simp; done) | (simp; omega) | omega) ?_
        intro ha hb
        have hz1_0 : w.heap.size < w1.heap.size := by have := hk1.size; (try simp at this); omega
        have hn1_0 : ¬ w.heap.size = w1.heap.size := by omega
        have hm1_0 : ¬ w1.heap.size = w.heap.size := by omega
        have hf1_0_0 : w1.cell? ⟨w.heap.size, 0, none⟩ = some (.int .i64 A) := by first | (rw [ha]; with_reducible assumption) | (simp (maxDischargeDepth := 7) [go_sem, ha]; done) | (rw [ha]; assumption) | (simp (maxDischargeDepth := 7) [go_sem, ha, *]; done)
        have hf1_0_1 : w1.cell? ⟨w.heap.size, 1, none⟩ = some (.int .u64 al) := by first | (rw [ha]; with_reducible assumption) | (simp (maxDischargeDepth := 7) [go_sem, ha]; done) | (rw [ha]; assumption) | (simp (maxDischargeDepth := 7) [go_sem, ha, *]; done)
        try have hg1_0 : ∀ o, w1.frozen? ⟨w.heap.size, o, none⟩ = false := by intro o; first | (simp (maxDischargeDepth := 7) [go_sem, hb]; done) | (rw [hb]; simp (maxDischargeDepth := 7) [go_sem, *]; done)
        clear ha hb
        refine kuse (b := w.heap.size + 1) hk1 (by first | (simp; done) | (simp; omega) | omega) ?_
        intro ha hb
        have hz1_1 : w.heap.size + 1 < w1.heap.size := by have := hk1.size; (try simp at this); omega
        have hn1_1 : ¬ w.heap.size + 1 = w1.heap.size := by omega
        have hm1_1 : ¬ w1.heap.size = w.heap.size + 1 := by omega
        have hf1_1_0 : w1.cell? ⟨w.heap.size + 1, 0, none⟩ = some (.int .i64 0) := by first | (rw [ha]; with_reducible assumption) | (simp (maxDischargeDepth := 7) [go_sem, ha]; done) | (rw [ha]; assumption) | (simp (maxDischargeDepth := 7) [go_sem, ha, *]; done)
        have hf1_1_1 : w1.cell? ⟨w.heap.size + 1, 1, none⟩ = some (.int .u64 0) := by first | (rw [ha]; with_reducible assumption) | (simp (maxDischargeDepth := 7) [go_sem, ha]; done) | (rw [ha]; assumption) | (simp (maxDischargeDepth := 7) [go_sem, ha, *]; done)
        try have hg1_1 : ∀ o, w1.frozen? ⟨w.heap.size + 1, o, none⟩ = false := by intro o; first | (simp (maxDischargeDepth := 7) [go_sem, hb]; done) | (rw [hb]; simp (maxDischargeDepth := 7) [go_sem, *]; done)
        clear ha hb
        go_wp2_with fail
        with_reducible refine (HO.out _).mono ?_
        rintro e w2 ⟨rfl, hk2⟩
        refine kuse (b := w.heap.size) hk2 (by first | (simp; done) | (simp; omega) | omega) ?_
        intro ha hb
        have hz2_0 : w.heap.size < w2.heap.size := by have := hk2.size; (try simp at this); omega
        have hn2_0 : ¬ w.heap.size = w2.heap.size := by omega
        have hm2_0 : ¬ w2.heap.size = w.heap.size := by omega
        have hf2_0_0 : w2.cell? ⟨w.heap.size, 0, none⟩ = some (.int .i64 A) := by first | (rw [ha]; with_reducible assumption) | (simp (maxDischargeDepth := 7) [go_sem, ha]; done) | (rw [ha]; assumption) | (simp (maxDischargeDepth := 7) [go_sem, ha, *]; done)
        have hf2_0_1 : w2.cell? ⟨w.heap.size, 1, none⟩ = some (.int .u64 al) := by first | (rw [ha]; with_reducible assumption) | (simp (maxDischargeDepth := 7) [go_sem, ha]; done) | (rw [ha]; assumption) | (simp (maxDischargeDepth := 7) [go_sem, ha, *]; done)
        try have hg2_0 : ∀ o, w2.frozen? ⟨w.heap.size, o, none⟩ = false := by intro o; first | (simp (maxDischargeDepth := 7) [go_sem, hb]; done) | (rw [hb]; simp (maxDischargeDepth := 7) [go_sem, *]; done)
        clear ha hb
        refine kuse (b := w.heap.size + 1) hk2 (by first | (simp; done) | (simp; omega) | omega) ?_
        intro ha hb
        have hz2_1 : w.heap.size + 1 < w2.heap.size := by have := hk2.size; (try simp at this); omega
        have hn2_1 : ¬ w.heap.size + 1 = w2.heap.size := by omega
        have hm2_1 : ¬ w2.heap.size = w.heap.size + 1 := by omega
        have hf2_1_0 : w2.cell? ⟨w.heap.size + 1, 0, none⟩ = some (.int .i64 0) := by first | (rw [ha]; with_reducible assumption) | (simp (maxDischargeDepth := 7) [go_sem, ha]; done) | (rw [ha]; assumption) | (simp (maxDischargeDepth := 7) [go_sem, ha, *]; done)
        have hf2_1_1 : w2.cell? ⟨w.heap.size + 1, 1, none⟩ = some (.int .u64 0) := by first | (rw [ha]; with_reducible assumption) | (simp (maxDischargeDepth := 7) [go_sem, ha]; done) | (rw [ha]; assumption) | (simp (maxDischargeDepth := 7) [go_sem, ha, *]; done)
        try have hg2_1 : ∀ o, w2.frozen? ⟨w.heap.size + 1, o, none⟩ = false := by intro o; first | (simp (maxDischargeDepth := 7) [go_sem, hb]; done) | (rw [hb]; simp (maxDischargeDepth := 7) [go_sem, *]; done)
        clear ha hb
        try clear hf1_0_0
        try clear hf1_0_1
        try clear hf1_1_0
        try clear hf1_1_1
        try clear hg1_0
        try clear hg1_1
        try clear hz1_1
        go_wp2_with fail
        with_reducible refine (HN.out _).mono ?_
        rintro e w3 ⟨rfl, hk3⟩
        refine kuse (b := w.heap.size) hk3 (by first | (simp; done) | (simp; omega) | omega) ?_
        intro ha hb
        have hz3_0 : w.heap.size < w3.heap.size := by have := hk3.size; (try simp at this); omega
        have hn3_0 : ¬ w.heap.size = w3.heap.size := by omega
        have hm3_0 : ¬ w3.heap.size = w.heap.size := by omega
        have hf3_0_0 : w3.cell? ⟨w.heap.size, 0, none⟩ = some (.int .i64 A) := by first | (rw [ha]; with_reducible assumption) | (simp (maxDischargeDepth := 7) [go_sem, ha]; done) | (rw [ha]; assumption) | (simp (maxDischargeDepth := 7) [go_sem, ha, *]; done)
        have hf3_0_1 : w3.cell? ⟨w.heap.size, 1, none⟩ = some (.int .u64 al) := by first | (rw [ha]; with_reducible assumption) | (simp (maxDischargeDepth := 7) [go_sem, ha]; done) | (rw [ha]; assumption) | (simp (maxDischargeDepth := 7) [go_sem, ha, *]; done)
        try have hg3_0 : ∀ o, w3.frozen? ⟨w.heap.size, o, none⟩ = false := by intro o; first | (simp (maxDischargeDepth := 7) [go_sem, hb]; done) | (rw [hb]; simp (maxDischargeDepth := 7) [go_sem, *]; done)
        clear ha hb
        refine kuse (b := w.heap.size + 1) hk3 (by first | (simp; done) | (simp; omega) | omega) ?_
        intro ha hb
        have hz3_1 : w.heap.size + 1 < w3.heap.size := by have := hk3.size; (try simp at this); omega
        have hn3_1 : ¬ w.heap.size + 1 = w3.heap.size := by omega
        have hm3_1 : ¬ w3.heap.size = w.heap.size + 1 := by omega
        have hf3_1_0 : w3.cell? ⟨w.heap.size + 1, 0, none⟩ = some (.int .i64 0) := by first | (rw [ha]; with_reducible assumption) | (simp (maxDischargeDepth := 7) [go_sem, ha]; done) | (rw [ha]; assumption) | (simp (maxDischargeDepth := 7) [go_sem, ha, *]; done)
        have hf3_1_1 : w3.cell? ⟨w.heap.size + 1, 1, none⟩ = some (.int .u64 0) := by first | (rw [ha]; with_reducible assumption) | (simp (maxDischargeDepth := 7) [go_sem, ha]; done) | (rw [ha]; assumption) | (simp (maxDischargeDepth := 7) [go_sem, ha, *]; done)
        try have hg3_1 : ∀ o, w3.frozen? ⟨w.heap.size + 1, o, none⟩ = false := by intro o; first | (simp (maxDischargeDepth := 7) [go_sem, hb]; done) | (rw [hb]; simp (maxDischargeDepth := 7) [go_sem, *]; done)
        clear ha hb
        try clear hf2_0_0
        try clear hf2_0_1
        try clear hf2_1_0
        try clear hf2_1_1
        try clear hg2_0
        try clear hg2_1
        try clear hz2_1
        go_wp2_with fail
        with_reducible refine (HM1.out _).mono ?_
        rintro e w' ⟨rfl, rfl⟩
        go_wp2_with fail
        with_reducible refine (HM2.out _).mono ?_
        rintro e w' ⟨rfl, rfl⟩
        go_wp2_with fail
        all_goals exact bodyPost_ret (v := .tuple #[.agg #[.int .i64 0, .int .u64 0], .bool false]) (by first | (simp [results, Try.results28, go_sem]; done) | (simp (maxDischargeDepth := 7) [results, Try.results28, go_sem, *]; done)) rfl ⟨rfl, (by repeat (first | with_reducible exact Kept.refl _ | with_reducible assumption | with_reducible refine Kept.setCell ?_ (by first | (simp; done) | (simp; omega) | omega) _ | with_reducible refine Kept.alloc ?_ _ | with_reducible refine Kept.drewN ?_ _ | with_reducible refine Kept.drew ?_ | with_reducible refine Kept.trans ?_ (by with_reducible assumption) | with_reducible refine Kept.dr ?_ (by with_reducible assumption)))⟩
    · have e3 := wfit_no (far (by omega))
      rw [e3.2, e3.1]
      clear e3 far
      clear PM SG hQ
      have c3 : (H2 == 0) = false := by rw [beq_eq_false_iff_ne]; exact c1
      clear c1 hH1 hH2 hL1 hL2 hSS hCC
      generalize wh (wmag u) = BB at *; generalize wl (wmag u) = bb at *; generalize hna : wmag a = NN at *; generalize hma : wmag u = MM at *
      clear hna hma
      generalize hwu : wh u = A at *; generalize hwl : wl u = al at *
      clear hwu hwl cx
      have dA : decide (A < 0) = true := decide_eq_true (by omega)
      have da : decide (a < 0) = true := decide_eq_true ca
      clear ca
      go_enter Try.func28, Try.ntmps28
      go_wp2_with fail
      with_reducible refine (HS.out _).mono ?_
      rintro e w1 ⟨rfl, hk1⟩
      refine kuse (b := w.heap.size) hk1 (by first | (simp; done) | (simp; omega) | omega) ?_
      intro ha hb
      have hz1_0 : w.heap.size < w1.heap.size := by have := hk1.size; (try simp at this); omega
      have hn1_0 : ¬ w.heap.size = w1.heap.size := by omega
      have hm1_0 : ¬ w1.heap.size = w.heap.size := by omega
      have hf1_0_0 : w1.cell? ⟨w.heap.size, 0, none⟩ = some (.int .i64 A) := by first | (rw [ha]; with_reducible assumption) | (simp (maxDischargeDepth := 7) [go_sem, ha]; done) | (rw [ha]; assumption) | (simp (maxDischargeDepth := 7) [go_sem, ha, *]; done)
      have hf1_0_1 : w1.cell? ⟨w.heap.size, 1, none⟩ = some (.int .u64 al) := by first | (rw [ha]; with_reducible assumption) | (simp (maxDischargeDepth := 7) [go_sem, ha]; done) | (rw [ha]; assumption) | (simp (maxDischargeDepth := 7) [go_sem, ha, *]; done)
      try have hg1_0 : ∀ o, w1.frozen? ⟨w.heap.size, o, none⟩ = false := by intro o; first | (simp (maxDischargeDepth := 7) [go_sem, hb]; done) | (rw [hb]; simp (maxDischargeDepth := 7) [go_sem, *]; done)
      clear ha hb
      refine kuse (b := w.heap.size + 1) hk1 (by first | (simp; done) | (simp; omega) | omega) ?_
      intro ha hb
      have hz1_1 : w.heap.size + 1 < w1.heap.size := by have := hk1.size; (try simp at this); omega
      have hn1_1 : ¬ w.heap.size + 1 = w1.heap.size := by omega
      have hm1_1 : ¬ w1.heap.size = w.heap.size + 1 := by omega
      have hf1_1_0 : w1.cell? ⟨w.heap.size + 1, 0, none⟩ = some (.int .i64 0) := by first | (rw [ha]; with_reducible assumption) | (simp (maxDischargeDepth := 7) [go_sem, ha]; done) | (rw [ha]; assumption) | (simp (maxDischargeDepth := 7) [go_sem, ha, *]; done)
      have hf1_1_1 : w1.cell? ⟨w.heap.size + 1, 1, none⟩ = some (.int .u64 0) := by first | (rw [ha]; with_reducible assumption) | (simp (maxDischargeDepth := 7) [go_sem, ha]; done) | (rw [ha]; assumption) | (simp (maxDischargeDepth := 7) [go_sem, ha, *]; done)
      try have hg1_1 : ∀ o, w1.frozen? ⟨w.heap.size + 1, o, none⟩ = false := by intro o; first | (simp (maxDischargeDepth := 7) [go_sem, hb]; done) | (rw [hb]; simp (maxDischargeDepth := 7) [go_sem, *]; done)
      clear ha hb
      go_wp2_with fail
      with_reducible refine (HO.out _).mono ?_
      rintro e w2 ⟨rfl, hk2⟩
      refine kuse (b := w.heap.size) hk2 (by first | (simp; done) | (simp; omega) | omega) ?_
      intro ha hb
      have hz2_0 : w.heap.size < w2.heap.size := by have := hk2.size; (try simp at this); omega
      have hn2_0 : ¬ w.heap.size = w2.heap.size := by omega
      have hm2_0 : ¬ w2.heap.size = w.heap.size := by omega
      have hf2_0_0 : w2.cell? ⟨w.heap.size, 0, none⟩ = some (.int .i64 A) := by first | (rw [ha]; with_reducible assumption) | (simp (maxDischargeDepth := 7) [go_sem, ha]; done) | (rw [ha]; assumption) | (simp (maxDischargeDepth := 7) [go_sem, ha, *]; done)
      have hf2_0_1 : w2.cell? ⟨w.heap.size, 1, none⟩ = some (.int .u64 al) := by first | (rw [ha]; with_reducible assumption) | (simp (maxDischargeDepth := 7) [go_sem, ha]; done) | (rw [ha]; assumption) | (simp (maxDischargeDepth := 7) [go_sem, ha, *]; done)
      try have hg2_0 : ∀ o, w2.frozen? ⟨w.heap.size, o, none⟩ = false := by intro o; first | (simp (maxDischargeDepth := 7) [go_sem, hb]; done) | (rw [hb]; simp (maxDischargeDepth := 7) [go_sem, *]; done)
      clear ha hb
      refine kuse (b := w.heap.size + 1) hk2 (by first | (simp; done) | (simp; omega) | omega) ?_
      intro ha hb
      have hz2_1 : w.heap.size + 1 < w2.heap.size := by have := hk2.size; (try simp at this); omega
      have hn2_1 : ¬ w.heap.size + 1 = w2.heap.size := by omega
      have hm2_1 : ¬ w2.heap.size = w.heap.size + 1 := by omega
      have hf2_1_0 : w2.cell? ⟨w.heap.size + 1, 0, none⟩ = some (.int .i64 0) := by first | (rw [ha]; with_reducible assumption) | (simp (maxDischargeDepth := 7) [go_sem, ha]; done) | (rw [ha]; assumption) | (simp (maxDischargeDepth := 7) [go_sem, ha, *]; done)
      have hf2_1_1 : w2.cell? ⟨w.heap.size + 1, 1, none⟩ = some (.int .u64 0) := by first | (rw [ha]; with_reducible assumption) | (simp (maxDischargeDepth := 7) [go_sem, ha]; done) | (rw [ha]; assumption) | (simp (maxDischargeDepth := 7) [go_sem, ha, *]; done)
      try have hg2_1 : ∀ o, w2.frozen? ⟨w.heap.size + 1, o, none⟩ = false := by intro o; first | (simp (maxDischargeDepth := 7) [go_sem, hb]; done) | (rw [hb]; simp (maxDischargeDepth := 7) [go_sem, *]; done)
      clear ha hb
      try clear hf1_0_0
      try clear hf1_0_1
      try clear hf1_1_0
      try clear hf1_1_1
      try clear hg1_0
      try clear hg1_1
      try clear hz1_1
      go_wp2_with fail
      with_reducible refine (HN.out _).mono ?_
      rintro e w3 ⟨rfl, hk3⟩
      refine kuse (b := w.heap.size) hk3 (by first | (simp; done) | (simp; omega) | omega) ?_
      intro ha hb
      have hz3_0 : w.heap.size < w3.heap.size := by have := hk3.size; (try simp at this); omega
      have hn3_0 : ¬ w.heap.size = w3.heap.size := by omega
      have hm3_0 : ¬ w3.heap.size = w.heap.size := by omega
      have hf3_0_0 : w3.cell? ⟨w.heap.size, 0, none⟩ = some (.int .i64 A) := by first | (rw [ha]; with_reducible assumption) | (simp (maxDischargeDepth := 7) [go_sem, ha]; done) | (rw [ha]; assumption) | (simp (maxDischargeDepth := 7) [go_sem, ha, *]; done)
      have hf3_0_1 : w3.cell? ⟨w.heap.size, 1, none⟩ = some (.int .u64 al) := by first | (rw [ha]; with_reducible assumption) | (simp (maxDischargeDepth := 7) [go_sem, ha]; done) | (rw [ha]; assumption) | (simp (maxDischargeDepth := 7) [go_sem, ha, *]; done)
      try have hg3_0 : ∀ o, w3.frozen? ⟨w.heap.size, o, none⟩ = false := by intro o; first | (simp (maxDischargeDepth := 7) [go_sem, hb]; done) | (rw [hb]; simp (maxDischargeDepth := 7) [go_sem, *]; done)
      clear ha hb
      refine kuse (b := w.heap.size + 1) hk3 (by first | (simp; done) | (simp; omega) | omega) ?_
      intro ha hb
      have hz3_1 : w.heap.size + 1 < w3.heap.size := by have := hk3.size; (try simp at this); omega
      have hn3_1 : ¬ w.heap.size + 1 = w3.heap.size := by omega
      have hm3_1 : ¬ w3.heap.size = w.heap.size + 1 := by omega
      have hf3_1_0 : w3.cell? ⟨w.heap.size + 1, 0, none⟩ = some (.int .i64 0) := by first | (rw [ha]; with_reducible assumption) | (simp (maxDischargeDepth := 7) [go_sem, ha]; done) | (rw [ha]; assumption) | (simp (maxDischargeDepth := 7) [go_sem, ha, *]; done)
      have hf3_1_1 : w3.cell? ⟨w.heap.size + 1, 1, none⟩ = some (.int .u64 0) := by first | (rw [ha]; with_reducible assumption) | (simp (maxDischargeDepth := 7) [go_sem, ha]; done) | (rw [ha]; assumption) | (simp (maxDischargeDepth := 7) [go_sem, ha, *]; done)
      try have hg3_1 : ∀ o, w3.frozen? ⟨w.heap.size + 1, o, none⟩ = false := by intro o; first | (simp (maxDischargeDepth := 7) [go_sem, hb]; done) | (rw [hb]; simp (maxDischargeDepth := 7) [go_sem, *]; done)
      clear ha hb
      try clear hf2_0_0
      try clear hf2_0_1
      try clear hf2_1_0
      try clear hf2_1_1
      try clear hg2_0
      try clear hg2_1
      try clear hz2_1
      go_wp2_with fail
      with_reducible refine (HM1.out _).mono ?_
      rintro e w' ⟨rfl, rfl⟩
      go_wp2_with fail
      with_reducible refine (HM2.out _).mono ?_
      rintro e w' ⟨rfl, rfl⟩
      go_wp2_with fail
      all_goals exact bodyPost_ret (v := .tuple #[.agg #[.int .i64 0, .int .u64 0], .bool false]) (by first | (simp [results, Try.results28, go_sem]; done) | (simp (maxDischargeDepth := 7) [results, Try.results28, go_sem, *]; done)) rfl ⟨rfl, (by repeat (first | with_reducible exact Kept.refl _ | with_reducible assumption | with_reducible refine Kept.setCell ?_ (by first | (simp; done) | (simp; omega) | omega) _ | with_reducible refine Kept.alloc ?_ _ | with_reducible refine Kept.drewN ?_ _ | with_reducible refine Kept.drew ?_ | with_reducible refine Kept.trans ?_ (by with_reducible assumption) | with_reducible refine Kept.dr ?_ (by with_reducible assumption)))⟩
  · have SG : sgd true (wmag u * wmag a) = u * a := by have := sgd_mul u a; rw [decide_eq_true cx, decide_eq_false ca] at this; exact this
    have A2 : wh u < 0 := (by unfold wh; omega)
    have HS := Lib.hid (size_w u u0 u1)
    have HO := Lib.hid (of_w a a_0 a_1)
    have HN := Lib.hid (size_w a (by omega) (by omega))
    obtain ⟨m0, m1⟩ := wmag_bd u u0 u1
    have n01 : 0 ≤ wmag a ∧ wmag a ≤ 9223372036854775808 := by unfold wmag; split <;> omega
    obtain ⟨n0, n1⟩ := n01
    have ea : wh (wmag a) = 0 ∧ wl (wmag a) = wmag a := by unfold wh wl; omega
    obtain ⟨ea1, ea2⟩ := ea
    rw [ea1, ea2] at HN
    obtain ⟨em, b0, b1⟩ := wv (wmag u)
    have B0 : 0 ≤ wh (wmag u) := (by unfold wh; omega)
    have B1 : wh (wmag u) ≤ 18446744073709551615 := (by unfold wh; omega)
    have PM := mag_mul (wmag u) (wmag a) (wh (wmag u)) (wl (wmag u)) (wmag a) em rfl
    have p1 := le_mul (wl (wmag u)) (wmag a) 18446744073709551615 9223372036854775808 b0 b1 n0 n1
    have p2 := le_mul (wh (wmag u)) (wmag a) 18446744073709551615 9223372036854775808 B0 B1 n0 n1
    have far := mul_far u a
    have hM1 := mul64_w (wl (wmag u)) (wmag a) b0 b1 n0 (by omega)
    have hM2 := mul64_w (wh (wmag u)) (wmag a) B0 B1 n0 (by omega)
    generalize hP1 : wl (wmag u) * wmag a = P1 at *
    generalize hP2 : wh (wmag u) * wmag a = P2 at *
    clear hP1 hP2
    obtain ⟨H1, hH1⟩ : ∃ x, P1 / 18446744073709551616 = x := ⟨_, rfl⟩
    obtain ⟨L1, hL1⟩ : ∃ x, P1 % 18446744073709551616 = x := ⟨_, rfl⟩
    obtain ⟨H2, hH2⟩ : ∃ x, P2 / 18446744073709551616 = x := ⟨_, rfl⟩
    obtain ⟨L2, hL2⟩ : ∃ x, P2 % 18446744073709551616 = x := ⟨_, rfl⟩
    obtain ⟨SS, hSS⟩ : ∃ x, (H1 + L2 + 0) % 18446744073709551616 = x := ⟨_, rfl⟩
    obtain ⟨CC, hCC⟩ : ∃ x, (H1 + L2 + 0) / 18446744073709551616 = x := ⟨_, rfl⟩
    simp only [hH1, hL1] at hM1
    simp only [hH2, hL2] at hM2
    have HM1 := Lib.hid hM1
    have HM2 := Lib.hid hM2
    have r1 := add64_r H1 L2 0 SS CC (by omega) (by omega) (by omega) (by omega) (Or.inl rfl) hSS hCC
    clear hM1 hM2
    generalize hQ : wmag u * wmag a = Q at *
    clear ea1 ea2 em
    by_cases c1 : H2 = 0
    · by_cases c2 : CC = 0
      · have HG := Lib.hid (signed_1 Q (by omega) (by omega))
        have q1 : wh Q = SS := by unfold wh; omega
        have q2 : wl Q = L1 := by unfold wl; omega
        rw [q1, q2, SG] at HG
        clear PM SG hQ q1 q2 far
        generalize hV : wval (u * a) = V at *
        generalize hW : wfit (u * a) = O at *
        clear hV hW
        rw [c1] at HM2
        rw [c2] at r1
        clear c1 c2 hH1 hH2 hL1 hL2 hSS hCC
        generalize wh (wmag u) = BB at *; generalize wl (wmag u) = bb at *; generalize hna : wmag a = NN at *; generalize hma : wmag u = MM at *
        clear hna hma
        generalize hwu : wh u = A at *; generalize hwl : wl u = al at *
        clear hwu hwl cx
        have dA : decide (A < 0) = true := decide_eq_true (by omega)
        have da : decide (a < 0) = false := decide_eq_false ca
        clear ca
        go_enter Try.func28, Try.ntmps28
        go_wp2_with fail
        with_reducible refine (HS.out _).mono ?_
        rintro e w1 ⟨rfl, hk1⟩
        refine kuse (b := w.heap.size) hk1 (by first | (simp; done) | (simp; omega) | omega) ?_
        intro ha hb
        have hz1_0 : w.heap.size < w1.heap.size := by have := hk1.size; (try simp at this); omega
        have hn1_0 : ¬ w.heap.size = w1.heap.size := by omega
        have hm1_0 : ¬ w1.heap.size = w.heap.size := by omega
        have hf1_0_0 : w1.cell? ⟨w.heap.size, 0, none⟩ = some (.int .i64 A) := by first | (rw [ha]; with_reducible assumption) | (simp (maxDischargeDepth := 7) [go_sem, ha]; done) | (rw [ha]; assumption) | (simp (maxDischargeDepth := 7) [go_sem, ha, *]; done)
        have hf1_0_1 : w1.cell? ⟨w.heap.size, 1, none⟩ = some (.int .u64 al) := by first | (rw [ha]; with_reducible assumption) | (simp (maxDischargeDepth := 7) [go_sem, ha]; done) | (rw [ha]; assumption) | (simp (maxDischargeDepth := 7) [go_sem, ha, *]; done)
        try have hg1_0 : ∀ o, w1.frozen? ⟨w.heap.size, o, none⟩ = false := by intro o; first | (simp (maxDischargeDepth := 7) [go_sem, hb]; done) | (rw [hb]; simp (maxDischargeDepth := 7) [go_sem, *]; done)
        clear ha hb
        refine kuse (b := w.heap.size + 1) hk1 (by first | (simp; done) | (simp; omega) | omega) ?_
        intro ha hb
        have hz1_1 : w.heap.size + 1 < w1.heap.size := by have := hk1.size; (try simp at this); omega
        have hn1_1 : ¬ w.heap.size + 1 = w1.heap.size := by omega
        have hm1_1 : ¬ w1.heap.size = w.heap.size + 1 := by omega
        have hf1_1_0 : w1.cell? ⟨w.heap.size + 1, 0, none⟩ = some (.int .i64 0) := by first | (rw [ha]; with_reducible assumption) | (simp (maxDischargeDepth := 7) [go_sem, ha]; done) | (rw [ha]; assumption) | (simp (maxDischargeDepth := 7) [go_sem, ha, *]; done)
        have hf1_1_1 : w1.cell? ⟨w.heap.size + 1, 1, none⟩ = some (.int .u64 0) := by first | (rw [ha]; with_reducible assumption) | (simp (maxDischargeDepth := 7) [go_sem, ha]; done) | (rw [ha]; assumption) | (simp (maxDischargeDepth := 7) [go_sem, ha, *]; done)
        try have hg1_1 : ∀ o, w1.frozen? ⟨w.heap.size + 1, o, none⟩ = false := by intro o; first | (simp (maxDischargeDepth := 7) [go_sem, hb]; done) | (rw [hb]; simp (maxDischargeDepth := 7) [go_sem, *]; done)
        clear ha hb
        go_wp2_with fail
        with_reducible refine (HO.out _).mono ?_
        rintro e w2 ⟨rfl, hk2⟩
        refine kuse (b := w.heap.size) hk2 (by first | (simp; done) | (simp; omega) | omega) ?_
        intro ha hb
        have hz2_0 : w.heap.size < w2.heap.size := by have := hk2.size; (try simp at this); omega
        have hn2_0 : ¬ w.heap.size = w2.heap.size := by omega
        have hm2_0 : ¬ w2.heap.size = w.heap.size := by omega
        have hf2_0_0 : w2.cell? ⟨w.heap.size, 0, none⟩ = some (.int .i64 A) := by first | (rw [ha]; with_reducible assumption) | (simp (maxDischargeDepth := 7) [go_sem, ha]; done) | (rw [ha]; assumption) | (simp (maxDischargeDepth := 7) [go_sem, ha, *]; done)
        have hf2_0_1 : w2.cell? ⟨w.heap.size, 1, none⟩ = some (.int .u64 al) := by first | (rw [ha]; with_reducible assumption) | (simp (maxDischargeDepth := 7) [go_sem, ha]; done) | (rw [ha]; assumption) | (simp (maxDischargeDepth := 7) [go_sem, ha, *]; done)
        try have hg2_0 : ∀ o, w2.frozen? ⟨w.heap.size, o, none⟩ = false := by intro o; first | (simp (maxDischargeDepth := 7) [go_sem, hb]; done) | (rw [hb]; simp (maxDischargeDepth := 7) [go_sem, *]; done)
        clear ha hb
        refine kuse (b := w.heap.size + 1) hk2 (by first | (simp; done) | (simp; omega) | omega) ?_
        intro ha hb
        have hz2_1 : w.heap.size + 1 < w2.heap.size := by have := hk2.size; (try simp at this); omega
        have hn2_1 : ¬ w.heap.size + 1 = w2.heap.size := by omega
        have hm2_1 : ¬ w2.heap.size = w.heap.size + 1 := by omega
        have hf2_1_0 : w2.cell? ⟨w.heap.size + 1, 0, none⟩ = some (.int .i64 0) := by first | (rw [ha]; with_reducible assumption) | (simp (maxDischargeDepth := 7) [go_sem, ha]; done) | (rw [ha]; assumption) | (simp (maxDischargeDepth := 7) [go_sem, ha, *]; done)
        have hf2_1_1 : w2.cell? ⟨w.heap.size + 1, 1, none⟩ = some (.int .u64 0) := by first | (rw [ha]; with_reducible assumption) | (simp (maxDischargeDepth := 7) [go_sem, ha]; done) | (rw [ha]; assumption) | (simp (maxDischargeDepth := 7) [go_sem, ha, *]; done)
        try have hg2_1 : ∀ o, w2.frozen? ⟨w.heap.size + 1, o, none⟩ = false := by intro o; first | (simp (maxDischargeDepth := 7) [go_sem, hb]; done) | (rw [hb]; simp (maxDischargeDepth := 7) [go_sem, *]; done)
        clear ha hb
        try clear hf1_0_0
        try clear hf1_0_1
        try clear hf1_1_0
        try clear hf1_1_1
        try clear hg1_0
        try clear hg1_1
        try clear hz1_1
        go_wp2_with fail
        with_reducible refine (HN.out _).mono ?_
        rintro e w3 ⟨rfl, hk3⟩
        refine kuse (b := w.heap.size) hk3 (by first | (simp; done) | (simp; omega) | omega) ?_
        intro ha hb
        have hz3_0 : w.heap.size < w3.heap.size := by have := hk3.size; (try simp at this); omega
        have hn3_0 : ¬ w.heap.size = w3.heap.size := by omega
        have hm3_0 : ¬ w3.heap.size = w.heap.size := by omega
        have hf3_0_0 : w3.cell? ⟨w.heap.size, 0, none⟩ = some (.int .i64 A) := by first | (rw [ha]; with_reducible assumption) | (simp (maxDischargeDepth := 7) [go_sem, ha]; done) | (rw [ha]; assumption) | (simp (maxDischargeDepth := 7) [go_sem, ha, *]; done)
        have hf3_0_1 : w3.cell? ⟨w.heap.size, 1, none⟩ = some (.int .u64 al) := by first | (rw [ha]; with_reducible assumption) | (simp (maxDischargeDepth := 7) [go_sem, ha]; done) | (rw [ha]; assumption) | (simp (maxDischargeDepth := 7) [go_sem, ha, *]; done)
        try have hg3_0 : ∀ o, w3.frozen? ⟨w.heap.size, o, none⟩ = false := by intro o; first | (simp (maxDischargeDepth := 7) [go_sem, hb]; done) | (rw [hb]; simp (maxDischargeDepth := 7) [go_sem, *]; done)
        clear ha hb
        refine kuse (b := w.heap.size + 1) hk3 (by first | (simp; done) | (simp; omega) | omega) ?_
        intro ha hb
        have hz3_1 : w.heap.size + 1 < w3.heap.size := by have := hk3.size; (try simp at this); omega
        have hn3_1 : ¬ w.heap.size + 1 = w3.heap.size := by omega
        have hm3_1 : ¬ w3.heap.size = w.heap.size + 1 := by omega
        have hf3_1_0 : w3.cell? ⟨w.heap.size + 1, 0, none⟩ = some (.int .i64 0) := by first | (rw [ha]; with_reducible assumption) | (simp (maxDischargeDepth := 7) [go_sem, ha]; done) | (rw [ha]; assumption) | (simp (maxDischargeDepth := 7) [go_sem, ha, *]; done)
        have hf3_1_1 : w3.cell? ⟨w.heap.size + 1, 1, none⟩ = some (.int .u64 0) := by first | (rw [ha]; with_reducible assumption) | (simp (maxDischargeDepth := 7) [go_sem, ha]; done) | (rw [ha]; assumption) | (simp (maxDischargeDepth := 7) [go_sem, ha, *]; done)
        try have hg3_1 : ∀ o, w3.frozen? ⟨w.heap.size + 1, o, none⟩ = false := by intro o; first | (simp (maxDischargeDepth := 7) [go_sem, hb]; done) | (rw [hb]; simp (maxDischargeDepth := 7) [go_sem, *]; done)
        clear ha hb
        try clear hf2_0_0
        try clear hf2_0_1
        try clear hf2_1_0
        try clear hf2_1_1
        try clear hg2_0
        try clear hg2_1
        try clear hz2_1
        go_wp2_with fail
        with_reducible refine (HM1.out _).mono ?_
        rintro e w' ⟨rfl, rfl⟩
        go_wp2_with fail
        with_reducible refine (HM2.out _).mono ?_
        rintro e w' ⟨rfl, rfl⟩
        go_wp2_with fail
        with_reducible refine (HG.out _).mono ?_
        rintro e w4 ⟨rfl, hk4⟩
        refine kuse (b := w.heap.size) hk4 (by first | (simp; done) | (simp; omega) | omega) ?_
        intro ha hb
        have hz4_0 : w.heap.size < w4.heap.size := by have := hk4.size; (try simp at this); omega
        have hn4_0 : ¬ w.heap.size = w4.heap.size := by omega
        have hm4_0 : ¬ w4.heap.size = w.heap.size := by omega
        have hf4_0_0 : w4.cell? ⟨w.heap.size, 0, none⟩ = some (.int .i64 A) := by first | (rw [ha]; with_reducible assumption) | (simp (maxDischargeDepth := 7) [go_sem, ha]; done) | (rw [ha]; assumption) | (simp (maxDischargeDepth := 7) [go_sem, ha, *]; done)
        have hf4_0_1 : w4.cell? ⟨w.heap.size, 1, none⟩ = some (.int .u64 al) := by first | (rw [ha]; with_reducible assumption) | (simp (maxDischargeDepth := 7) [go_sem, ha]; done) | (rw [ha]; assumption) | (simp (maxDischargeDepth := 7) [go_sem, ha, *]; done)
        try have hg4_0 : ∀ o, w4.frozen? ⟨w.heap.size, o, none⟩ = false := by intro o; first | (simp (maxDischargeDepth := 7) [go_sem, hb]; done) | (rw [hb]; simp (maxDischargeDepth := 7) [go_sem, *]; done)
        clear ha hb
        refine kuse (b := w.heap.size + 1) hk4 (by first | (simp; done) | (simp; omega) | omega) ?_
        intro ha hb
        have hz4_1 : w.heap.size + 1 < w4.heap.size := by have := hk4.size; (try simp at this); omega
        have hn4_1 : ¬ w.heap.size + 1 = w4.heap.size := by omega
        have hm4_1 : ¬ w4.heap.size = w.heap.size + 1 := by omega
        have hf4_1_0 : w4.cell? ⟨w.heap.size + 1, 0, none⟩ = some (.int .i64 0) := by first | (rw [ha]; with_reducible assumption) | (simp (maxDischargeDepth := 7) [go_sem, ha]; done) | (rw [ha]; assumption) | (simp (maxDischargeDepth := 7) [go_sem, ha, *]; done)
        have hf4_1_1 : w4.cell? ⟨w.heap.size + 1, 1, none⟩ = some (.int .u64 0) := by first | (rw [ha]; with_reducible assumption) | (simp (maxDischargeDepth := 7) [go_sem, ha]; done) | (rw [ha]; assumption) | (simp (maxDischargeDepth := 7) [go_sem, ha, *]; done)
        try have hg4_1 : ∀ o, w4.frozen? ⟨w.heap.size + 1, o, none⟩ = false := by intro o; first | (simp (maxDischargeDepth := 7) [go_sem, hb]; done) | (rw [hb]; simp (maxDischargeDepth := 7) [go_sem, *]; done)
        clear ha hb
        refine kuse (b := w3.heap.size) hk4 (by first | (simp; done) | (simp; omega) | omega) ?_
        intro ha hb
        have hz4_2 : w3.heap.size < w4.heap.size := by have := hk4.size; (try simp at this); omega
        have hn4_2 : ¬ w3.heap.size = w4.heap.size := by omega
        have hm4_2 : ¬ w4.heap.size = w3.heap.size := by omega
        have hf4_2_0 : w4.cell? ⟨w3.heap.size, 0, none⟩ = some (.int .u64 BB) := by first | (rw [ha]; with_reducible assumption) | (simp (maxDischargeDepth := 7) [go_sem, ha]; done) | (rw [ha]; assumption) | (simp (maxDischargeDepth := 7) [go_sem, ha, *]; done)
        have hf4_2_1 : w4.cell? ⟨w3.heap.size, 1, none⟩ = some (.int .u64 bb) := by first | (rw [ha]; with_reducible assumption) | (simp (maxDischargeDepth := 7) [go_sem, ha]; done) | (rw [ha]; assumption) | (simp (maxDischargeDepth := 7) [go_sem, ha, *]; done)
        try have hg4_2 : ∀ o, w4.frozen? ⟨w3.heap.size, o, none⟩ = false := by intro o; first | (simp (maxDischargeDepth := 7) [go_sem, hb]; done) | (rw [hb]; simp (maxDischargeDepth := 7) [go_sem, *]; done)
        clear ha hb
        refine kuse (b := w3.heap.size + 1) hk4 (by first | (simp; done) | (simp; omega) | omega) ?_
        intro ha hb
        have hz4_3 : w3.heap.size + 1 < w4.heap.size := by have := hk4.size; (try simp at this); omega
        have hn4_3 : ¬ w3.heap.size + 1 = w4.heap.size := by omega
        have hm4_3 : ¬ w4.heap.size = w3.heap.size + 1 := by omega
        have hf4_3_0 : w4.cell? ⟨w3.heap.size + 1, 0, none⟩ = some (.int .u64 0) := by first | (rw [ha]; with_reducible assumption) | (simp (maxDischargeDepth := 7) [go_sem, ha]; done) | (rw [ha]; assumption) | (simp (maxDischargeDepth := 7) [go_sem, ha, *]; done)
        have hf4_3_1 : w4.cell? ⟨w3.heap.size + 1, 1, none⟩ = some (.int .u64 NN) := by first | (rw [ha]; with_reducible assumption) | (simp (maxDischargeDepth := 7) [go_sem, ha]; done) | (rw [ha]; assumption) | (simp (maxDischargeDepth := 7) [go_sem, ha, *]; done)
        try have hg4_3 : ∀ o, w4.frozen? ⟨w3.heap.size + 1, o, none⟩ = false := by intro o; first | (simp (maxDischargeDepth := 7) [go_sem, hb]; done) | (rw [hb]; simp (maxDischargeDepth := 7) [go_sem, *]; done)
        clear ha hb
        try clear hf3_0_0
        try clear hf3_0_1
        try clear hf3_1_0
        try clear hf3_1_1
        try clear hg3_0
        try clear hg3_1
        try clear hz3_1
        go_wp2_with fail
        all_goals exact bodyPost_ret (v := .tuple #[.agg #[.int .i64 (wh (V)), .int .u64 (wl (V))], .bool O]) (by first | (simp [results, Try.results28, go_sem]; done) | (simp (maxDischargeDepth := 7) [results, Try.results28, go_sem, *]; done)) rfl ⟨rfl, (by repeat (first | with_reducible exact Kept.refl _ | with_reducible assumption | with_reducible refine Kept.setCell ?_ (by first | (simp; done) | (simp; omega) | omega) _ | with_reducible refine Kept.alloc ?_ _ | with_reducible refine Kept.drewN ?_ _ | with_reducible refine Kept.drew ?_ | with_reducible refine Kept.trans ?_ (by with_reducible assumption) | with_reducible refine Kept.dr ?_ (by with_reducible assumption)))⟩
      · have e3 := wfit_no (far (by omega))
        rw [e3.2, e3.1]
        clear e3 far
        clear PM SG hQ
        rw [c1] at HM2
        have c3 : (CC == 0) = false := by rw [beq_eq_false_iff_ne]; exact c2
        clear c1 c2 hH1 hH2 hL1 hL2 hSS hCC
        generalize wh (wmag u) = BB at *; generalize wl (wmag u) = bb at *; generalize hna : wmag a = NN at *; generalize hma : wmag u = MM at *
        clear hna hma
        generalize hwu : wh u = A at *; generalize hwl : wl u = al at *
        clear hwu hwl cx
        have dA : decide (A < 0) = true := decide_eq_true (by omega)
        have da : decide (a < 0) = false := decide_eq_false ca
        clear ca
        go_enter Try.func28, Try.ntmps28
        go_wp2_with fail
        with_reducible refine (HS.out _).mono ?_
        rintro e w1 ⟨rfl, hk1⟩
        refine kuse (b := w.heap.size) hk1 (by first | (simp; done) | (simp; omega) | omega) ?_
        intro ha hb
        have hz1_0 : w.heap.size < w1.heap.size := by have := hk1.size; (try simp at this); omega
        have hn1_0 : ¬ w.heap.size = w1.heap.size := by omega
        have hm1_0 : ¬ w1.heap.size = w.heap.size := by omega
        have hf1_0_0 : w1.cell? ⟨w.heap.size, 0, none⟩ = some (.int .i64 A) := by first | (rw [ha]; with_reducible assumption) | (simp (maxDischargeDepth := 7) [go_sem, ha]; done) | (rw [ha]; assumption) | (simp (maxDischargeDepth := 7) [go_sem, ha, *]; done)
        have hf1_0_1 : w1.cell? ⟨w.heap.size, 1, none⟩ = some (.int .u64 al) := by first | (rw [ha]; with_reducible assumption) | (simp (maxDischargeDepth := 7) [go_sem, ha]; done) | (rw [ha]; assumption) | (simp (maxDischargeDepth := 7) [go_sem, ha, *]; done)
        try have hg1_0 : ∀ o, w1.frozen? ⟨w.heap.size, o, none⟩ = false := by intro o; first | (simp (maxDischargeDepth := 7) [go_sem, hb]; done) | (rw [hb]; simp (maxDischargeDepth := 7) [go_sem, *]; done)
        clear ha hb
        refine kuse (b := w.heap.size + 1) hk1 (by first | (simp; done) | (simp; omega) | omega) ?_
        intro ha hb
        have hz1_1 : w.heap.size + 1 < w1.heap.size := by have := hk1.size; (try simp at this); omega
        have hn1_1 : ¬ w.heap.size + 1 = w1.heap.size := by omega
        have hm1_1 : ¬ w1.heap.size = w.heap.size + 1 := by omega
        have hf1_1_0 : w1.cell? ⟨w.heap.size + 1, 0, none⟩ = some (.int .i64 0) := by first | (rw [ha]; with_reducible assumption) | (simp (maxDischargeDepth := 7) [go_sem, ha]; done) | (rw [ha]; assumption) | (simp (maxDischargeDepth := 7) [go_sem, ha, *]; done)
        have hf1_1_1 : w1.cell? ⟨w.heap.size + 1, 1, none⟩ = some (.int .u64 0) := by first | (rw [ha]; with_reducible assumption) | (simp (maxDischargeDepth := 7) [go_sem, ha]; done) | (rw [ha]; assumption) | (simp (maxDischargeDepth := 7) [go_sem, ha, *]; done)
        try have hg1_1 : ∀ o, w1.frozen? ⟨w.heap.size + 1, o, none⟩ = false := by intro o; first | (simp (maxDischargeDepth := 7) [go_sem, hb]; done) | (rw [hb]; simp (maxDischargeDepth := 7) [go_sem, *]; done)
        clear ha hb
        go_wp2_with fail
        with_reducible refine (HO.out _).mono ?_
        rintro e w2 ⟨rfl, hk2⟩
        refine kuse (b := w.heap.size) hk2 (by first | (simp; done) | (simp; omega) | omega) ?_
        intro ha hb
        have hz2_0 : w.heap.size < w2.heap.size := by have := hk2.size; (try simp at this); omega
        have hn2_0 : ¬ w.heap.size = w2.heap.size := by omega
        have hm2_0 : ¬ w2.heap.size = w.heap.size := by omega
        have hf2_0_0 : w2.cell? ⟨w.heap.size, 0, none⟩ = some (.int .i64 A) := by first | (rw [ha]; with_reducible assumption) | (simp (maxDischargeDepth := 7) [go_sem, ha]; done) | (rw [ha]; assumption) | (simp (maxDischargeDepth := 7) [go_sem, ha, *]; done)
        have hf2_0_1 : w2.cell? ⟨w.heap.size, 1, none⟩ = some (.int .u64 al) := by first | (rw [ha]; with_reducible assumption) | (simp (maxDischargeDepth := 7) [go_sem, ha]; done) | (rw [ha]; assumption) | (simp (maxDischargeDepth := 7) [go_sem, ha, *]; done)
        try have hg2_0 : ∀ o, w2.frozen? ⟨w.heap.size, o, none⟩ = false := by intro o; first | (simp (maxDischargeDepth := 7) [go_sem, hb]; done) | (rw [hb]; simp (maxDischargeDepth := 7) [go_sem, *]; done)
        clear ha hb
        refine kuse (b := w.heap.size + 1) hk2 (by first | (simp; done) | (simp; omega) | omega) ?_
        intro ha hb
        have hz2_1 : w.heap.size + 1 < w2.heap.size := by have := hk2.size; (try simp at this); omega
        have hn2_1 : ¬ w.heap.size + 1 = w2.heap.size := by omega
        have hm2_1 : ¬ w2.heap.size = w.heap.size + 1 := by omega
        have hf2_1_0 : w2.cell? ⟨w.heap.size + 1, 0, none⟩ = some (.int .i64 0) := by first | (rw [ha]; with_reducible assumption) | (simp (maxDischargeDepth := 7) [go_sem, ha]; done) | (rw [ha]; assumption) | (simp (maxDischargeDepth := 7) [go_sem, ha, *]; done)
        have hf2_1_1 : w2.cell? ⟨w.heap.size + 1, 1, none⟩ = some (.int .u64 0) := by first | (rw [ha]; with_reducible assumption) | (simp (maxDischargeDepth := 7) [go_sem, ha]; done) | (rw [ha]; assumption) | (simp (maxDischargeDepth := 7) [go_sem, ha, *]; done)
        try have hg2_1 : ∀ o, w2.frozen? ⟨w.heap.size + 1, o, none⟩ = false := by intro o; first | (simp (maxDischargeDepth := 7) [go_sem, hb]; done) | (rw [hb]; simp (maxDischargeDepth := 7) [go_sem, *]; done)
        clear ha hb
        try clear hf1_0_0
        try clear hf1_0_1
        try clear hf1_1_0
        try clear hf1_1_1
        try clear hg1_0
        try clear hg1_1
        try clear hz1_1
        go_wp2_with fail
        with_reducible refine (HN.out _).mono ?_
        rintro e w3 ⟨rfl, hk3⟩
        refine kuse (b := w.heap.size) hk3 (by first | (simp; done) | (simp; omega) | omega) ?_
        intro ha hb
        have hz3_0 : w.heap.size < w3.heap.size := by have := hk3.size; (try simp at this); omega
        have hn3_0 : ¬ w.heap.size = w3.heap.size := by omega
        have hm3_0 : ¬ w3.heap.size = w.heap.size := by omega
        have hf3_0_0 : w3.cell? ⟨w.heap.size, 0, none⟩ = some (.int .i64 A) := by first | (rw [ha]; with_reducible assumption) | (simp (maxDischargeDepth := 7) [go_sem, ha]; done) | (rw [ha]; assumption) | (simp (maxDischargeDepth := 7) [go_sem, ha, *]; done)
        have hf3_0_1 : w3.cell? ⟨w.heap.size, 1, none⟩ = some (.int .u64 al) := by first | (rw [ha]; with_reducible assumption) | (simp (maxDischargeDepth := 7) [go_sem, ha]; done) | (rw [ha]; assumption) | (simp (maxDischargeDepth := 7) [go_sem, ha, *]; done)
        try have hg3_0 : ∀ o, w3.frozen? ⟨w.heap.size, o, none⟩ = false := by intro o; first | (simp (maxDischargeDepth := 7) [go_sem, hb]; done) | (rw [hb]; simp (maxDischargeDepth := 7) [go_sem, *]; done)
        clear ha hb
        refine kuse (b := w.heap.size + 1) hk3 (by first | (simp; done) | (simp; omega) | omega) ?_
        intro ha hb
        have hz3_1 : w.heap.size + 1 < w3.heap.size := by have := hk3.size; (try simp at this); omega
        have hn3_1 : ¬ w.heap.size + 1 = w3.heap.size := by omega
        have hm3_1 : ¬ w3.heap.size = w.heap.size + 1 := by omega
        have hf3_1_0 : w3.cell? ⟨w.heap.size + 1, 0, none⟩ = some (.int .i64 0) := by first | (rw [ha]; with_reducible assumption) | (simp (maxDischargeDepth := 7) [go_sem, ha]; done) | (rw [ha]; assumption) | (simp (maxDischargeDepth := 7) [go_sem, ha, *]; done)
        have hf3_1_1 : w3.cell? ⟨w.heap.size + 1, 1, none⟩ = some (.int .u64 0) := by first | (rw [ha]; with_reducible assumption) | (simp (maxDischargeDepth := 7) [go_sem, ha]; done) | (rw [ha]; assumption) | (simp (maxDischargeDepth := 7) [go_sem, ha, *]; done)
        try have hg3_1 : ∀ o, w3.frozen? ⟨w.heap.size + 1, o, none⟩ = false := by intro o; first | (simp (maxDischargeDepth := 7) [go_sem, hb]; done) | (rw [hb]; simp (maxDischargeDepth := 7) [go_sem, *]; done)
        clear ha hb
        try clear hf2_0_0
        try clear hf2_0_1
        try clear hf2_1_0
        try clear hf2_1_1
        try clear hg2_0
        try clear hg2_1
        try clear hz2_1
        go_wp2_with fail
        with_reducible refine (HM1.out _).mono ?_
        rintro e w' ⟨rfl, rfl⟩
        go_wp2_with fail
        with_reducible refine (HM2.out _).mono ?_
        rintro e w' ⟨rfl, rfl⟩
        go_wp2_with fail
        all_goals exact bodyPost_ret (v := .tuple #[.agg #[.int .i64 0, .int .u64 0], .bool false]) (by first | (simp [results, Try.results28, go_sem]; done) | (simp (maxDischargeDepth := 7) [results, Try.results28, go_sem, *]; done)) rfl ⟨rfl, (by repeat (first | with_reducible exact Kept.refl _ | with_reducible assumption | with_reducible refine Kept.setCell ?_ (by first | (simp; done) | (simp; omega) | omega) _ | with_reducible refine Kept.alloc ?_ _ | with_reducible refine Kept.drewN ?_ _ | with_reducible refine Kept.drew ?_ | with_reducible refine Kept.trans ?_ (by with_reducible assumption) | with_reducible refine Kept.dr ?_ (by with_reducible assumption)))⟩
    · have e3 := wfit_no (far (by omega))
      rw [e3.2, e3.1]
      clear e3 far
      clear PM SG hQ
      have c3 : (H2 == 0) = false := by rw [beq_eq_false_iff_ne]; exact c1
      clear c1 hH1 hH2 hL1 hL2 hSS hCC
      generalize wh (wmag u) = BB at *; generalize wl (wmag u) = bb at *; generalize hna : wmag a = NN at *; generalize hma : wmag u = MM at *
      clear hna hma
      generalize hwu : wh u = A at *; generalize hwl : wl u = al at *
      clear hwu hwl cx
      have dA : decide (A < 0) = true := decide_eq_true (by omega)
      have da : decide (a < 0) = false := decide_eq_false ca
      clear ca
      go_enter Try.func28, Try.ntmps28
      go_wp2_with fail
      with_reducible refine (HS.out _).mono ?_
      rintro e w1 ⟨rfl, hk1⟩
      refine kuse (b := w.heap.size) hk1 (by first | (simp; done) | (simp; omega) | omega) ?_
      intro ha hb
      have hz1_0 : w.heap.size < w1.heap.size := by have := hk1.size; (try simp at this); omega
      have hn1_0 : ¬ w.heap.size = w1.heap.size := by omega
      have hm1_0 : ¬ w1.heap.size = w.heap.size := by omega
      have hf1_0_0 : w1.cell? ⟨w.heap.size, 0, none⟩ = some (.int .i64 A) := by first | (rw [ha]; with_reducible assumption) | (simp (maxDischargeDepth := 7) [go_sem, ha]; done) | (rw [ha]; assumption) | (simp (maxDischargeDepth := 7) [go_sem, ha, *]; done)
      have hf1_0_1 : w1.cell? ⟨w.heap.size, 1, none⟩ = some (.int .u64 al) := by first | (rw [ha]; with_reducible assumption) | (simp (maxDischargeDepth := 7) [go_sem, ha]; done) | (rw [ha]; assumption) | (simp (maxDischargeDepth := 7) [go_sem, ha, *]; done)
      try have hg1_0 : ∀ o, w1.frozen? ⟨w.heap.size, o, none⟩ = false := by intro o; first | (simp (maxDischargeDepth := 7) [go_sem, hb]; done) | (rw [hb]; simp (maxDischargeDepth := 7) [go_sem, *]; done)
      clear ha hb
      refine kuse (b := w.heap.size + 1) hk1 (by first | (simp; done) | (simp; omega) | omega) ?_
      intro ha hb
      have hz1_1 : w.heap.size + 1 < w1.heap.size := by have := hk1.size; (try simp at this); omega
      have hn1_1 : ¬ w.heap.size + 1 = w1.heap.size := by omega
      have hm1_1 : ¬ w1.heap.size = w.heap.size + 1 := by omega
      have hf1_1_0 : w1.cell? ⟨w.heap.size + 1, 0, none⟩ = some (.int .i64 0) := by first | (rw [ha]; with_reducible assumption) | (simp (maxDischargeDepth := 7) [go_sem, ha]; done) | (rw [ha]; assumption) | (simp (maxDischargeDepth := 7) [go_sem, ha, *]; done)
      have hf1_1_1 : w1.cell? ⟨w.heap.size + 1, 1, none⟩ = some (.int .u64 0) := by first | (rw [ha]; with_reducible assumption) | (simp (maxDischargeDepth := 7) [go_sem, ha]; done) | (rw [ha]; assumption) | (simp (maxDischargeDepth := 7) [go_sem, ha, *]; done)
      try have hg1_1 : ∀ o, w1.frozen? ⟨w.heap.size + 1, o, none⟩ = false := by intro o; first | (simp (maxDischargeDepth := 7) [go_sem, hb]; done) | (rw [hb]; simp (maxDischargeDepth := 7) [go_sem, *]; done)
      clear ha hb
      go_wp2_with fail
      with_reducible refine (HO.out _).mono ?_
      rintro e w2 ⟨rfl, hk2⟩
      refine kuse (b := w.heap.size) hk2 (by first | (simp; done) | (simp; omega) | omega) ?_
      intro ha hb
      have hz2_0 : w.heap.size < w2.heap.size := by have := hk2.size; (try simp at this); omega
      have hn2_0 : ¬ w.heap.size = w2.heap.size := by omega
      have hm2_0 : ¬ w2.heap.size = w.heap.size := by omega
      have hf2_0_0 : w2.cell? ⟨w.heap.size, 0, none⟩ = some (.int .i64 A) := by first | (rw [ha]; with_reducible assumption) | (simp (maxDischargeDepth := 7) [go_sem, ha]; done) | (rw [ha]; assumption) | (simp (maxDischargeDepth := 7) [go_sem, ha, *]; done)
      have hf2_0_1 : w2.cell? ⟨w.heap.size, 1, none⟩ = some (.int .u64 al) := by first | (rw [ha]; with_reducible assumption) | (simp (maxDischargeDepth := 7) [go_sem, ha]; done) | (rw [ha]; assumption) | (simp (maxDischargeDepth := 7) [go_sem, ha, *]; done)
      try have hg2_0 : ∀ o, w2.frozen? ⟨w.heap.size, o, none⟩ = false := by intro o; first | (simp (maxDischargeDepth := 7) [go_sem, hb]; done) | (rw [hb]; simp (maxDischargeDepth := 7) [go_sem, *]; done)
      clear ha hb
      refine kuse (b := w.heap.size + 1) hk2 (by first | (simp; done) | (simp; omega) | omega) ?_
      intro ha hb
      have hz2_1 : w.heap.size + 1 < w2.heap.size := by have := hk2.size; (try simp at this); omega
      have hn2_1 : ¬ w.heap.size + 1 = w2.heap.size := by omega
      have hm2_1 : ¬ w2.heap.size = w.heap.size + 1 := by omega
      have hf2_1_0 : w2.cell? ⟨w.heap.size + 1, 0, none⟩ = some (.int .i64 0) := by first | (rw [ha]; with_reducible assumption) | (simp (maxDischargeDepth := 7) [go_sem, ha]; done) | (rw [ha]; assumption) | (simp (maxDischargeDepth := 7) [go_sem, ha, *]; done)
      have hf2_1_1 : w2.cell? ⟨w.heap.size + 1, 1, none⟩ = some (.int .u64 0) := by first | (rw [ha]; with_reducible assumption) | (simp (maxDischargeDepth := 7) [go_sem, ha]; done) | (rw [ha]; assumption) | (simp (maxDischargeDepth := 7) [go_sem, ha, *]; done)
      try have hg2_1 : ∀ o, w2.frozen? ⟨w.heap.size + 1, o, none⟩ = false := by intro o; first | (simp (maxDischargeDepth := 7) [go_sem, hb]; done) | (rw [hb]; simp (maxDischargeDepth := 7) [go_sem, *]; done)
      clear ha hb
      try clear hf1_0_0
      try clear hf1_0_1
      try clear hf1_1_0
      try clear hf1_1_1
      try clear hg1_0
      try clear hg1_1
      try clear hz1_1
      go_wp2_with fail
      with_reducible refine (HN.out _).mono ?_
      rintro e w3 ⟨rfl, hk3⟩
      refine kuse (b := w.heap.size) hk3 (by first | (simp; done) | (simp; omega) | omega) ?_
      intro ha hb
      have hz3_0 : w.heap.size < w3.heap.size := by have := hk3.size; (try simp at this); omega
      have hn3_0 : ¬ w.heap.size = w3.heap.size := by omega
      have hm3_0 : ¬ w3.heap.size = w.heap.size := by omega
      have hf3_0_0 : w3.cell? ⟨w.heap.size, 0, none⟩ = some (.int .i64 A) := by first | (rw [ha]; with_reducible assumption) | (simp (maxDischargeDepth := 7) [go_sem, ha]; done) | (rw [ha]; assumption) | (simp (maxDischargeDepth := 7) [go_sem, ha, *]; done)
      have hf3_0_1 : w3.cell? ⟨w.heap.size, 1, none⟩ = some (.int .u64 al) := by first | (rw [ha]; with_reducible assumption) | (simp (maxDischargeDepth := 7) [go_sem, ha]; done) | (rw [ha]; assumption) | (simp (maxDischargeDepth := 7) [go_sem, ha, *]; done)
      try have hg3_0 : ∀ o, w3.frozen? ⟨w.heap.size, o, none⟩ = false := by intro o; first | (simp (maxDischargeDepth := 7) [go_sem, hb]; done) | (rw [hb]; simp (maxDischargeDepth := 7) [go_sem, *]; done)
      clear ha hb
      refine kuse (b := w.heap.size + 1) hk3 (by first | (simp; done) | (simp; omega) | omega) ?_
      intro ha hb
      have hz3_1 : w.heap.size + 1 < w3.heap.size := by have := hk3.size; (try simp at this); omega
      have hn3_1 : ¬ w.heap.size + 1 = w3.heap.size := by omega
      have hm3_1 : ¬ w3.heap.size = w.heap.size + 1 := by omega
      have hf3_1_0 : w3.cell? ⟨w.heap.size + 1, 0, none⟩ = some (.int .i64 0) := by first | (rw [ha]; with_reducible assumption) | (simp (maxDischargeDepth := 7) [go_sem, ha]; done) | (rw [ha]; assumption) | (simp (maxDischargeDepth := 7) [go_sem, ha, *]; done)
      have hf3_1_1 : w3.cell? ⟨w.heap.size + 1, 1, none⟩ = some (.int .u64 0) := by first | (rw [ha]; with_reducible assumption) | (simp (maxDischargeDepth := 7) [go_sem, ha]; done) | (rw [ha]; assumption) | (simp (maxDischargeDepth := 7) [go_sem, ha, *]; done)
      try have hg3_1 : ∀ o, w3.frozen? ⟨w.heap.size + 1, o, none⟩ = false := by intro o; first | (simp (maxDischargeDepth := 7) [go_sem, hb]; done) | (rw [hb]; simp (maxDischargeDepth := 7) [go_sem, *]; done)
      clear ha hb
      try clear hf2_0_0
      try clear hf2_0_1
      try clear hf2_1_0
      try clear hf2_1_1
      try clear hg2_0
      try clear hg2_1
      try clear hz2_1
      go_wp2_with fail
      with_reducible refine (HM1.out _).mono ?_
      rintro e w' ⟨rfl, rfl⟩
      go_wp2_with fail
      with_reducible refine (HM2.out _).mono ?_
      rintro e w' ⟨rfl, rfl⟩
      go_wp2_with fail
      all_goals exact bodyPost_ret (v := .tuple #[.agg #[.int .i64 0, .int .u64 0], .bool false]) (by first | (simp [results, Try.results28, go_sem]; done) | (simp (maxDischargeDepth := 7) [results, Try.results28, go_sem, *]; done)) rfl ⟨rfl, (by repeat (first | with_reducible exact Kept.refl _ | with_reducible assumption | with_reducible refine Kept.setCell ?_ (by first | (simp; done) | (simp; omega) | omega) _ | with_reducible refine Kept.alloc ?_ _ | with_reducible refine Kept.drewN ?_ _ | with_reducible refine Kept.drew ?_ | with_reducible refine Kept.trans ?_ (by with_reducible assumption) | with_reducible refine Kept.dr ?_ (by with_reducible assumption)))⟩
  · have SG : sgd true (wmag u * wmag a) = u * a := by have := sgd_mul u a; rw [decide_eq_false cx, decide_eq_true ca] at this; exact this
    have A2 : 0 ≤ wh u := (by unfold wh; omega)
    have HS := Lib.hid (size_w u u0 u1)
    have HO := Lib.hid (of_w a a_0 a_1)
    have HN := Lib.hid (size_w a (by omega) (by omega))
    obtain ⟨m0, m1⟩ := wmag_bd u u0 u1
    have n01 : 0 ≤ wmag a ∧ wmag a ≤ 9223372036854775808 := by unfold wmag; split <;> omega
    obtain ⟨n0, n1⟩ := n01
    have ea : wh (wmag a) = 0 ∧ wl (wmag a) = wmag a := by unfold wh wl; omega
    obtain ⟨ea1, ea2⟩ := ea
    rw [ea1, ea2] at HN
    obtain ⟨em, b0, b1⟩ := wv (wmag u)
    have B0 : 0 ≤ wh (wmag u) := (by unfold wh; omega)
    have B1 : wh (wmag u) ≤ 18446744073709551615 := (by unfold wh; omega)
    have PM := mag_mul (wmag u) (wmag a) (wh (wmag u)) (wl (wmag u)) (wmag a) em rfl
    have p1 := le_mul (wl (wmag u)) (wmag a) 18446744073709551615 9223372036854775808 b0 b1 n0 n1
    have p2 := le_mul (wh (wmag u)) (wmag a) 18446744073709551615 9223372036854775808 B0 B1 n0 n1
    have far := mul_far u a
    have hM1 := mul64_w (wl (wmag u)) (wmag a) b0 b1 n0 (by omega)
    have hM2 := mul64_w (wh (wmag u)) (wmag a) B0 B1 n0 (by omega)
    generalize hP1 : wl (wmag u) * wmag a = P1 at *
    generalize hP2 : wh (wmag u) * wmag a = P2 at *
    clear hP1 hP2
    obtain ⟨H1, hH1⟩ : ∃ x, P1 / 18446744073709551616 = x := ⟨_, rfl⟩
    obtain ⟨L1, hL1⟩ : ∃ x, P1 % 18446744073709551616 = x := ⟨_, rfl⟩
    obtain ⟨H2, hH2⟩ : ∃ x, P2 / 18446744073709551616 = x := ⟨_, rfl⟩
    obtain ⟨L2, hL2⟩ : ∃ x, P2 % 18446744073709551616 = x := ⟨_, rfl⟩
    obtain ⟨SS, hSS⟩ : ∃ x, (H1 + L2 + 0) % 18446744073709551616 = x := ⟨_, rfl⟩
    obtain ⟨CC, hCC⟩ : ∃ x, (H1 + L2 + 0) / 18446744073709551616 = x := ⟨_, rfl⟩
    simp only [hH1, hL1] at hM1
    simp only [hH2, hL2] at hM2
    have HM1 := Lib.hid hM1
    have HM2 := Lib.hid hM2
    have r1 := add64_r H1 L2 0 SS CC (by omega) (by omega) (by omega) (by omega) (Or.inl rfl) hSS hCC
    clear hM1 hM2
    generalize hQ : wmag u * wmag a = Q at *
    clear ea1 ea2 em
    by_cases c1 : H2 = 0
    · by_cases c2 : CC = 0
      · have HG := Lib.hid (signed_1 Q (by omega) (by omega))
        have q1 : wh Q = SS := by unfold wh; omega
        have q2 : wl Q = L1 := by unfold wl; omega
        rw [q1, q2, SG] at HG
        clear PM SG hQ q1 q2 far
        generalize hV : wval (u * a) = V at *
        generalize hW : wfit (u * a) = O at *
        clear hV hW
        rw [c1] at HM2
        rw [c2] at r1
        clear c1 c2 hH1 hH2 hL1 hL2 hSS hCC
        generalize wh (wmag u) = BB at *; generalize wl (wmag u) = bb at *; generalize hna : wmag a = NN at *; generalize hma : wmag u = MM at *
        clear hna hma
        generalize hwu : wh u = A at *; generalize hwl : wl u = al at *
        clear hwu hwl cx
        have dA : decide (A < 0) = false := decide_eq_false (by omega)
        have da : decide (a < 0) = true := decide_eq_true ca
        clear ca
        go_enter Try.func28, Try.ntmps28
        go_wp2_with fail
        with_reducible refine (HS.out _).mono ?_
        rintro e w1 ⟨rfl, hk1⟩
        refine kuse (b := w.heap.size) hk1 (by first | (simp; done) | (simp; omega) | omega) ?_
        intro ha hb
        have hz1_0 : w.heap.size < w1.heap.size := by have := hk1.size; (try simp at this); omega
        have hn1_0 : ¬ w.heap.size = w1.heap.size := by omega
        have hm1_0 : ¬ w1.heap.size = w.heap.size := by omega
        have hf1_0_0 : w1.cell? ⟨w.heap.size, 0, none⟩ = some (.int .i64 A) := by first | (rw [ha]; with_reducible assumption) | (simp (maxDischargeDepth := 7) [go_sem, ha]; done) | (rw [ha]; assumption) | (simp (maxDischargeDepth := 7) [go_sem, ha, *]; done)
        have hf1_0_1 : w1.cell? ⟨w.heap.size, 1, none⟩ = some (.int .u64 al) := by first | (rw [ha]; with_reducible assumption) | (simp (maxDischargeDepth := 7) [go_sem, ha]; done) | (rw [ha]; assumption) | (simp (maxDischargeDepth := 7) [go_sem, ha, *]; done)
        try have hg1_0 : ∀ o, w1.frozen? ⟨w.heap.size, o, none⟩ = false := by intro o; first | (simp (maxDischargeDepth := 7) [go_sem, hb]; done) | (rw [hb]; simp (maxDischargeDepth := 7) [go_sem, *]; done)
        clear ha hb
        refine kuse (b := w.heap.size + 1) hk1 (by first | (simp; done) | (simp; omega) | omega) ?_
        intro ha hb
        have hz1_1 : w.heap.size + 1 < w1.heap.size := by have := hk1.size; (try simp at this); omega
        have hn1_1 : ¬ w.heap.size + 1 = w1.heap.size := by omega
        have hm1_1 : ¬ w1.heap.size = w.heap.size + 1 := by omega
        have hf1_1_0 : w1.cell? ⟨w.heap.size + 1, 0, none⟩ = some (.int .i64 0) := by first | (rw [ha]; with_reducible assumption) | (simp (maxDischargeDepth := 7) [go_sem, ha]; done) | (rw [ha]; assumption) | (simp (maxDischargeDepth := 7) [go_sem, ha, *]; done)
        have hf1_1_1 : w1.cell? ⟨w.heap.size + 1, 1, none⟩ = some (.int .u64 0) := by first | (rw [ha]; with_reducible assumption) | (simp (maxDischargeDepth := 7) [go_sem, ha]; done) | (rw [ha]; assumption) | (simp (maxDischargeDepth := 7) [go_sem, ha, *]; done)
        try have hg1_1 : ∀ o, w1.frozen? ⟨w.heap.size + 1, o, none⟩ = false := by intro o; first | (simp (maxDischargeDepth := 7) [go_sem, hb]; done) | (rw [hb]; simp (maxDischargeDepth := 7) [go_sem, *]; done)
        clear ha hb
        go_wp2_with fail
        with_reducible refine (HO.out _).mono ?_
        rintro e w2 ⟨rfl, hk2⟩
        refine kuse (b := w.heap.size) hk2 (by first | (simp; done) | (simp; omega) | omega) ?_
        intro ha hb
        have hz2_0 : w.heap.size < w2.heap.size := by have := hk2.size; (try simp at this); omega
        have hn2_0 : ¬ w.heap.size = w2.heap.size := by omega
        have hm2_0 : ¬ w2.heap.size = w.heap.size := by omega
        have hf2_0_0 : w2.cell? ⟨w.heap.size, 0, none⟩ = some (.int .i64 A) := by first | (rw [ha]; with_reducible assumption) | (simp (maxDischargeDepth := 7) [go_sem, ha]; done) | (rw [ha]; assumption) | (simp (maxDischargeDepth := 7) [go_sem, ha, *]; done)
        have hf2_0_1 : w2.cell? ⟨w.heap.size, 1, none⟩ = some (.int .u64 al) := by first | (rw [ha]; with_reducible assumption) | (simp (maxDischargeDepth := 7) [go_sem, ha]; done) | (rw [ha]; assumption) | (simp (maxDischargeDepth := 7) [go_sem, ha, *]; done)
        try have hg2_0 : ∀ o, w2.frozen? ⟨w.heap.size, o, none⟩ = false := by intro o; first | (simp (maxDischargeDepth := 7) [go_sem, hb]; done) | (rw [hb]; simp (maxDischargeDepth := 7) [go_sem, *]; done)
        clear ha hb
        refine kuse (b := w.heap.size + 1) hk2 (by first | (simp; done) | (simp; omega) | omega) ?_
        intro ha hb
        have hz2_1 : w.heap.size + 1 < w2.heap.size := by have := hk2.size; (try simp at this); omega
        have hn2_1 : ¬ w.heap.size + 1 = w2.heap.size := by omega
        have hm2_1 : ¬ w2.heap.size = w.heap.size + 1 := by omega
        have hf2_1_0 : w2.cell? ⟨w.heap.size + 1, 0, none⟩ = some (.int .i64 0) := by first | (rw [ha]; with_reducible assumption) | (simp (maxDischargeDepth := 7) [go_sem, ha]; done) | (rw [ha]; assumption) | (simp (maxDischargeDepth := 7) [go_sem, ha, *]; done)
        have hf2_1_1 : w2.cell? ⟨w.heap.size + 1, 1, none⟩ = some (.int .u64 0) := by first | (rw [ha]; with_reducible assumption) | (simp (maxDischargeDepth := 7) [go_sem, ha]; done) | (rw [ha]; assumption) | (simp (maxDischargeDepth := 7) [go_sem, ha, *]; done)
        try have hg2_1 : ∀ o, w2.frozen? ⟨w.heap.size + 1, o, none⟩ = false := by intro o; first | (simp (maxDischargeDepth := 7) [go_sem, hb]; done) | (rw [hb]; simp (maxDischargeDepth := 7) [go_sem, *]; done)
        clear ha hb
        try clear hf1_0_0
        try clear hf1_0_1
        try clear hf1_1_0
        try clear hf1_1_1
        try clear hg1_0
        try clear hg1_1
        try clear hz1_1
        go_wp2_with fail
        with_reducible refine (HN.out _).mono ?_
        rintro e w3 ⟨rfl, hk3⟩
        refine kuse (b := w.heap.size) hk3 (by first | (simp; done) | (simp; omega) | omega) ?_
        intro ha hb
        have hz3_0 : w.heap.size < w3.heap.size := by have := hk3.size; (try simp at this); omega
        have hn3_0 : ¬ w.heap.size = w3.heap.size := by omega
        have hm3_0 : ¬ w3.heap.size = w.heap.size := by omega
        have hf3_0_0 : w3.cell? ⟨w.heap.size, 0, none⟩ = some (.int .i64 A) := by first | (rw [ha]; with_reducible assumption) | (simp (maxDischargeDepth := 7) [go_sem, ha]; done) | (rw [ha]; assumption) | (simp (maxDischargeDepth := 7) [go_sem, ha, *]; done)
        have hf3_0_1 : w3.cell? ⟨w.heap.size, 1, none⟩ = some (.int .u64 al) := by first | (rw [ha]; with_reducible assumption) | (simp (maxDischargeDepth := 7) [go_sem, ha]; done) | (rw [ha]; assumption) | (simp (maxDischargeDepth := 7) [go_sem, ha, *]; done)
        try have hg3_0 : ∀ o, w3.frozen? ⟨w.heap.size, o, none⟩ = false := by intro o; first | (simp (maxDischargeDepth := 7) [go_sem, hb]; done) | (rw [hb]; simp (maxDischargeDepth := 7) [go_sem, *]; done)
        clear ha hb
        refine kuse (b := w.heap.size + 1) hk3 (by first | (simp; done) | (simp; omega) | omega) ?_
        intro ha hb
        have hz3_1 : w.heap.size + 1 < w3.heap.size := by have := hk3.size; (try simp at this); omega
        have hn3_1 : ¬ w.heap.size + 1 = w3.heap.size := by omega
        have hm3_1 : ¬ w3.heap.size = w.heap.size + 1 := by omega
        have hf3_1_0 : w3.cell? ⟨w.heap.size + 1, 0, none⟩ = some (.int .i64 0) := by first | (rw [ha]; with_reducible assumption) | (simp (maxDischargeDepth := 7) [go_sem, ha]; done) | (rw [ha]; assumption) | (simp (maxDischargeDepth := 7) [go_sem, ha, *]; done)
        have hf3_1_1 : w3.cell? ⟨w.heap.size + 1, 1, none⟩ = some (.int .u64 0) := by first | (rw [ha]; with_reducible assumption) | (simp (maxDischargeDepth := 7) [go_sem, ha]; done) | (rw [ha]; assumption) | (simp (maxDischargeDepth := 7) [go_sem, ha, *]; done)
        try have hg3_1 : ∀ o, w3.frozen? ⟨w.heap.size + 1, o, none⟩ = false := by intro o; first | (simp (maxDischargeDepth := 7) [go_sem, hb]; done) | (rw [hb]; simp (maxDischargeDepth := 7) [go_sem, *]; done)
        clear ha hb
        try clear hf2_0_0
        try clear hf2_0_1
        try clear hf2_1_0
        try clear hf2_1_1
        try clear hg2_0
        try clear hg2_1
        try clear hz2_1
        go_wp2_with fail
        with_reducible refine (HM1.out _).mono ?_
        rintro e w' ⟨rfl, rfl⟩
        go_wp2_with fail
        with_reducible refine (HM2.out _).mono ?_
        rintro e w' ⟨rfl, rfl⟩
        go_wp2_with fail
        with_reducible refine (HG.out _).mono ?_
        rintro e w4 ⟨rfl, hk4⟩
        refine kuse (b := w.heap.size) hk4 (by first | (simp; done) | (simp; omega) | omega) ?_
        intro ha hb
        have hz4_0 : w.heap.size < w4.heap.size := by have := hk4.size; (try simp at this); omega
        have hn4_0 : ¬ w.heap.size = w4.heap.size := by omega
        have hm4_0 : ¬ w4.heap.size = w.heap.size := by omega
        have hf4_0_0 : w4.cell? ⟨w.heap.size, 0, none⟩ = some (.int .i64 A) := by first | (rw [ha]; with_reducible assumption) | (simp (maxDischargeDepth := 7) [go_sem, ha]; done) | (rw [ha]; assumption) | (simp (maxDischargeDepth := 7) [go_sem, ha, *]; done)
        have hf4_0_1 : w4.cell? ⟨w.heap.size, 1, none⟩ = some (.int .u64 al) := by first | (rw [ha]; with_reducible assumption) | (simp (maxDischargeDepth := 7) [go_sem, ha]; done) | (rw [ha]; assumption) | (simp (maxDischargeDepth := 7) [go_sem, ha, *]; done)
        try have hg4_0 : ∀ o, w4.frozen? ⟨w.heap.size, o, none⟩ = false := by intro o; first | (simp (maxDischargeDepth := 7) [go_sem, hb]; done) | (rw [hb]; simp (maxDischargeDepth := 7) [go_sem, *]; done)
        clear ha hb
        refine kuse (b := w.heap.size + 1) hk4 (by first | (simp; done) | (simp; omega) | omega) ?_
        intro ha hb
        have hz4_1 : w.heap.size + 1 < w4.heap.size := by have := hk4.size; (try simp at this); omega
        have hn4_1 : ¬ w.heap.size + 1 = w4.heap.size := by omega
        have hm4_1 : ¬ w4.heap.size = w.heap.size + 1 := by omega
        have hf4_1_0 : w4.cell? ⟨w.heap.size + 1, 0, none⟩ = some (.int .i64 0) := by first | (rw [ha]; with_reducible assumption) | (simp (maxDischargeDepth := 7) [go_sem, ha]; done) | (rw [ha]; assumption) | (simp (maxDischargeDepth := 7) [go_sem, ha, *]; done)
        have hf4_1_1 : w4.cell? ⟨w.heap.size + 1, 1, none⟩ = some (.int .u64 0) := by first | (rw [ha]; with_reducible assumption) | (simp (maxDischargeDepth := 7) [go_sem, ha]; done) | (rw [ha]; assumption) | (simp (maxDischargeDepth := 7) [go_sem, ha, *]; done)
        try have hg4_1 : ∀ o, w4.frozen? ⟨w.heap.size + 1, o, none⟩ = false := by intro o; first | (simp (maxDischargeDepth := 7) [go_sem, hb]; done) | (rw [hb]; simp (maxDischargeDepth := 7) [go_sem, *]; done)
        clear ha hb
        refine kuse (b := w3.heap.size) hk4 (by first | (simp; done) | (simp; omega) | omega) ?_
        intro ha hb
        have hz4_2 : w3.heap.size < w4.heap.size := by have := hk4.size; (try simp at this); omega
        have hn4_2 : ¬ w3.heap.size = w4.heap.size := by omega
        have hm4_2 : ¬ w4.heap.size = w3.heap.size := by omega
        have hf4_2_0 : w4.cell? ⟨w3.heap.size, 0, none⟩ = some (.int .u64 BB) := by first | (rw [ha]; with_reducible assumption) | (simp (maxDischargeDepth := 7) [go_sem, ha]; done) | (rw [ha]; assumption) | (simp (maxDischargeDepth := 7) [go_sem, ha, *]; done)
        have hf4_2_1 : w4.cell? ⟨w3.heap.size, 1, none⟩ = some (.int .u64 bb) := by first | (rw [ha]; with_reducible assumption) | (simp (maxDischargeDepth := 7) [go_sem, ha]; done) | (rw [ha]; assumption) | (simp (maxDischargeDepth := 7) [go_sem, ha, *]; done)
        try have hg4_2 : ∀ o, w4.frozen? ⟨w3.heap.size, o, none⟩ = false := by intro o; first | (simp (maxDischargeDepth := 7) [go_sem, hb]; done) | (rw [hb]; simp (maxDischargeDepth := 7) [go_sem, *]; done)
        clear ha hb
        refine kuse (b := w3.heap.size + 1) hk4 (by first | (simp; done) | (simp; omega) | omega) ?_
        intro ha hb
        have hz4_3 : w3.heap.size + 1 < w4.heap.size := by have := hk4.size; (try simp at this); omega
        have hn4_3 : ¬ w3.heap.size + 1 = w4.heap.size := by omega
        have hm4_3 : ¬ w4.heap.size = w3.heap.size + 1 := by omega
        have hf4_3_0 : w4.cell? ⟨w3.heap.size + 1, 0, none⟩ = some (.int .u64 0) := by first | (rw [ha]; with_reducible assumption) | (simp (maxDischargeDepth := 7) [go_sem, ha]; done) | (rw [ha]; assumption) | (simp (maxDischargeDepth := 7) [go_sem, ha, *]; done)
        have hf4_3_1 : w4.cell? ⟨w3.heap.size + 1, 1, none⟩ = some (.int .u64 NN) := by first | (rw [ha]; with_reducible assumption) | (simp (maxDischargeDepth := 7) [go_sem, ha]; done) | (rw [ha]; assumption) | (simp (maxDischargeDepth := 7) [go_sem, ha, *]; done)
        try have hg4_3 : ∀ o, w4.frozen? ⟨w3.heap.size + 1, o, none⟩ = false := by intro o; first | (simp (maxDischargeDepth := 7) [go_sem, hb]; done) | (rw [hb]; simp (maxDischargeDepth := 7) [go_sem, *]; done)
        clear ha hb
        try clear hf3_0_0
        try clear hf3_0_1
        try clear hf3_1_0
        try clear hf3_1_1
        try clear hg3_0
        try clear hg3_1
        try clear hz3_1
        go_wp2_with fail
        all_goals exact bodyPost_ret (v := .tuple #[.agg #[.int .i64 (wh (V)), .int .u64 (wl (V))], .bool O]) (by first | (simp [results, Try.results28, go_sem]; done) | (simp (maxDischargeDepth := 7) [results, Try.results28, go_sem, *]; done)) rfl ⟨rfl, (by repeat (first | with_reducible exact Kept.refl _ | with_reducible assumption | with_reducible refine Kept.setCell ?_ (by first | (simp; done) | (simp; omega) | omega) _ | with_reducible refine Kept.alloc ?_ _ | with_reducible refine Kept.drewN ?_ _ | with_reducible refine Kept.drew ?_ | with_reducible refine Kept.trans ?_ (by with_reducible assumption) | with_reducible refine Kept.dr ?_ (by with_reducible assumption)))⟩
      · have e3 := wfit_no (far (by omega))
        rw [e3.2, e3.1]
        clear e3 far
        clear PM SG hQ
        rw [c1] at HM2
        have c3 : (CC == 0) = false := by rw [beq_eq_false_iff_ne]; exact c2
        clear c1 c2 hH1 hH2 hL1 hL2 hSS hCC
        generalize wh (wmag u) = BB at *; generalize wl (wmag u) = bb at *; generalize hna : wmag a = NN at *; generalize hma : wmag u = MM at *
        clear hna hma
        generalize hwu : wh u = A at *; generalize hwl : wl u = al at *
        clear hwu hwl cx
        have dA : decide (A < 0) = false := decide_eq_false (by omega)
        have da : decide (a < 0) = true := decide_eq_true ca
        clear ca
        go_enter Try.func28, Try.ntmps28
        go_wp2_with fail
        with_reducible refine (HS.out _).mono ?_
        rintro e w1 ⟨rfl, hk1⟩
        refine kuse (b := w.heap.size) hk1 (by first | (simp; done) | (simp; omega) | omega) ?_
        intro ha hb
        have hz1_0 : w.heap.size < w1.heap.size := by have := hk1.size; (try simp at this); omega
        have hn1_0 : ¬ w.heap.size = w1.heap.size := by omega
        have hm1_0 : ¬ w1.heap.size = w.heap.size := by omega
        have hf1_0_0 : w1.cell? ⟨w.heap.size, 0, none⟩ = some (.int .i64 A) := by first | (rw [ha]; with_reducible assumption) | (simp (maxDischargeDepth := 7) [go_sem, ha]; done) | (rw [ha]; assumption) | (simp (maxDischargeDepth := 7) [go_sem, ha, *]; done)
        have hf1_0_1 : w1.cell? ⟨w.heap.size, 1, none⟩ = some (.int .u64 al) := by first | (rw [ha]; with_reducible assumption) | (simp (maxDischargeDepth := 7) [go_sem, ha]; done) | (rw [ha]; assumption) | (simp (maxDischargeDepth := 7) [go_sem, ha, *]; done)
        try have hg1_0 : ∀ o, w1.frozen? ⟨w.heap.size, o, none⟩ = false := by intro o; first | (simp (maxDischargeDepth := 7) [go_sem, hb]; done) | (rw [hb]; simp (maxDischargeDepth := 7) [go_sem, *]; done)
        clear ha hb
        refine kuse (b := w.heap.size + 1) hk1 (by first | (simp; done) | (simp; omega) | omega) ?_
        intro ha hb
        have hz1_1 : w.heap.size + 1 < w1.heap.size := by have := hk1.size; (try simp at this); omega
        have hn1_1 : ¬ w.heap.size + 1 = w1.heap.size := by omega
        have hm1_1 : ¬ w1.heap.size = w.heap.size + 1 := by omega
        have hf1_1_0 : w1.cell? ⟨w.heap.size + 1, 0, none⟩ = some (.int .i64 0) := by first | (rw [ha]; with_reducible assumption) | (simp (maxDischargeDepth := 7) [go_sem, ha]; done) | (rw [ha]; assumption) | (simp (maxDischargeDepth := 7) [go_sem, ha, *]; done)
        have hf1_1_1 : w1.cell? ⟨w.heap.size + 1, 1, none⟩ = some (.int .u64 0) := by first | (rw [ha]; with_reducible assumption) | (simp (maxDischargeDepth := 7) [go_sem, ha]; done) | (rw [ha]; assumption) | (simp (maxDischargeDepth := 7) [go_sem, ha, *]; done)
        try have hg1_1 : ∀ o, w1.frozen? ⟨w.heap.size + 1, o, none⟩ = false := by intro o; first | (simp (maxDischargeDepth := 7) [go_sem, hb]; done) | (rw [hb]; simp (maxDischargeDepth := 7) [go_sem, *]; done)
        clear ha hb
        go_wp2_with fail
        with_reducible refine (HO.out _).mono ?_
        rintro e w2 ⟨rfl, hk2⟩
        refine kuse (b := w.heap.size) hk2 (by first | (simp; done) | (simp; omega) | omega) ?_
        intro ha hb
        have hz2_0 : w.heap.size < w2.heap.size := by have := hk2.size; (try simp at this); omega
        have hn2_0 : ¬ w.heap.size = w2.heap.size := by omega
        have hm2_0 : ¬ w2.heap.size = w.heap.size := by omega
        have hf2_0_0 : w2.cell? ⟨w.heap.size, 0, none⟩ = some (.int .i64 A) := by first | (rw [ha]; with_reducible assumption) | (simp (maxDischargeDepth := 7) [go_sem, ha]; done) | (rw [ha]; assumption) | (simp (maxDischargeDepth := 7) [go_sem, ha, *]; done)
        have hf2_0_1 : w2.cell? ⟨w.heap.size, 1, none⟩ = some (.int .u64 al) := by first | (rw [ha]; with_reducible assumption) | (simp (maxDischargeDepth := 7) [go_sem, ha]; done) | (rw [ha]; assumption) | (simp (maxDischargeDepth := 7) [go_sem, ha, *]; done)
        try have hg2_0 : ∀ o, w2.frozen? ⟨w.heap.size, o, none⟩ = false := by intro o; first | (simp (maxDischargeDepth := 7) [go_sem, hb]; done) | (rw [hb]; simp (maxDischargeDepth := 7) [go_sem, *]; done)
        clear ha hb
        refine kuse (b := w.heap.size + 1) hk2 (by first | (simp; done) | (simp; omega) | omega) ?_
        intro ha hb
        have hz2_1 : w.heap.size + 1 < w2.heap.size := by have := hk2.size; (try simp at this); omega
        have hn2_1 : ¬ w.heap.size + 1 = w2.heap.size := by omega
        have hm2_1 : ¬ w2.heap.size = w.heap.size + 1 := by omega
        have hf2_1_0 : w2.cell? ⟨w.heap.size + 1, 0, none⟩ = some (.int .i64 0) := by first | (rw [ha]; with_reducible assumption) | (simp (maxDischargeDepth := 7) [go_sem, ha]; done) | (rw [ha]; assumption) | (simp (maxDischargeDepth := 7) [go_sem, ha, *]; done)
        have hf2_1_1 : w2.cell? ⟨w.heap.size + 1, 1, none⟩ = some (.int .u64 0) := by first | (rw [ha]; with_reducible assumption) | (simp (maxDischargeDepth := 7) [go_sem, ha]; done) | (rw [ha]; assumption) | (simp (maxDischargeDepth := 7) [go_sem, ha, *]; done)
        try have hg2_1 : ∀ o, w2.frozen? ⟨w.heap.size + 1, o, none⟩ = false := by intro o; first | (simp (maxDischargeDepth := 7) [go_sem, hb]; done) | (rw [hb]; simp (maxDischargeDepth := 7) [go_sem, *]; done)
        clear ha hb
        try clear hf1_0_0
        try clear hf1_0_1
        try clear hf1_1_0
        try clear hf1_1_1
        try clear hg1_0
        try clear hg1_1
        try clear hz1_1
        go_wp2_with fail
        with_reducible refine (HN.out _).mono ?_
        rintro e w3 ⟨rfl, hk3⟩
        refine kuse (b := w.heap.size) hk3 (by first | (simp; done) | (simp; omega) | omega) ?_
        intro ha hb
        have hz3_0 : w.heap.size < w3.heap.size := by have := hk3.size; (try simp at this); omega
        have hn3_0 : ¬ w.heap.size = w3.heap.size := by omega
        have hm3_0 : ¬ w3.heap.size = w.heap.size := by omega
        have hf3_0_0 : w3.cell? ⟨w.heap.size, 0, none⟩ = some (.int .i64 A) := by first | (rw [ha]; with_reducible assumption) | (simp (maxDischargeDepth := 7) [go_sem, ha]; done) | (rw [ha]; assumption) | (simp (maxDischargeDepth := 7) [go_sem, ha, *]; done)
        have hf3_0_1 : w3.cell? ⟨w.heap.size, 1, none⟩ = some (.int .u64 al) := by first | (rw [ha]; with_reducible assumption) | (simp (maxDischargeDepth := 7) [go_sem, ha]; done) | (rw [ha]; assumption) | (simp (maxDischargeDepth := 7) [go_sem, ha, *]; done)
        try have hg3_0 : ∀ o, w3.frozen? ⟨w.heap.size, o, none⟩ = false := by intro o; first | (simp (maxDischargeDepth := 7) [go_sem, hb]; done) | (rw [hb]; simp (maxDischargeDepth := 7) [go_sem, *]; done)
        clear ha hb
        refine kuse (b := w.heap.size + 1) hk3 (by first | (simp; done) | (simp; omega) | omega) ?_
        intro ha hb
        have hz3_1 : w.heap.size + 1 < w3.heap.size := by have := hk3.size; (try simp at this); omega
        have hn3_1 : ¬ w.heap.size + 1 = w3.heap.size := by omega
        have hm3_1 : ¬ w3.heap.size = w.heap.size + 1 := by omega
        have hf3_1_0 : w3.cell? ⟨w.heap.size + 1, 0, none⟩ = some (.int .i64 0) := by first | (rw [ha]; with_reducible assumption) | (simp (maxDischargeDepth := 7) [go_sem, ha]; done) | (rw [ha]; assumption) | (simp (maxDischargeDepth := 7) [go_sem, ha, *]; done)
        have hf3_1_1 : w3.cell? ⟨w.heap.size + 1, 1, none⟩ = some (.int .u64 0) := by first | (rw [ha]; with_reducible assumption) | (simp (maxDischargeDepth := 7) [go_sem, ha]; done) | (rw [ha]; assumption) | (simp (maxDischargeDepth := 7) [go_sem, ha, *]; done)
        try have hg3_1 : ∀ o, w3.frozen? ⟨w.heap.size + 1, o, none⟩ = false := by intro o; first | (simp (maxDischargeDepth := 7) [go_sem, hb]; done) | (rw [hb]; simp (maxDischargeDepth := 7) [go_sem, *]; done)
        clear ha hb
        try clear hf2_0_0
        try clear hf2_0_1
        try clear hf2_1_0
        try clear hf2_1_1
        try clear hg2_0
        try clear hg2_1
        try clear hz2_1
        go_wp2_with fail
        with_reducible refine (HM1.out _).mono ?_
        rintro e w' ⟨rfl, rfl⟩
        go_wp2_with fail
        with_reducible refine (HM2.out _).mono ?_
        rintro e w' ⟨rfl, rfl⟩
        go_wp2_with fail
        all_goals exact bodyPost_ret (v := .tuple #[.agg #[.int .i64 0, .int .u64 0], .bool false]) (by first | (simp [results, Try.results28, go_sem]; done) | (simp (maxDischargeDepth := 7) [results, Try.results28, go_sem, *]; done)) rfl ⟨rfl, (by repeat (first | with_reducible exact Kept.refl _ | with_reducible assumption | with_reducible refine Kept.setCell ?_ (by first | (simp; done) | (simp; omega) | omega) _ | with_reducible refine Kept.alloc ?_ _ | with_reducible refine Kept.drewN ?_ _ | with_reducible refine Kept.drew ?_ | with_reducible refine Kept.trans ?_ (by with_reducible assumption) | with_reducible refine Kept.dr ?_ (by with_reducible assumption)))⟩
    · have e3 := wfit_no (far (by omega))
      rw [e3.2, e3.1]
      clear e3 far
      clear PM SG hQ
      have c3 : (H2 == 0) = false := by rw [beq_eq_false_iff_ne]; exact c1
      clear c1 hH1 hH2 hL1 hL2 hSS hCC
      generalize wh (wmag u) = BB at *; generalize wl (wmag u) = bb at *; generalize hna : wmag a = NN at *; generalize hma : wmag u = MM at *
      clear hna hma
      generalize hwu : wh u = A at *; generalize hwl : wl u = al at *
      clear hwu hwl cx
      have dA : decide (A < 0) = false := decide_eq_false (by omega)
      have da : decide (a < 0) = true := decide_eq_true ca
      clear ca
      go_enter Try.func28, Try.ntmps28
      go_wp2_with fail
      with_reducible refine (HS.out _).mono ?_
      rintro e w1 ⟨rfl, hk1⟩
      refine kuse (b := w.heap.size) hk1 (by first | (simp; done) | (simp; omega) | omega) ?_
      intro ha hb
      have hz1_0 : w.heap.size < w1.heap.size := by have := hk1.size; (try simp at this); omega
      have hn1_0 : ¬ w.heap.size = w1.heap.size := by omega
      have hm1_0 : ¬ w1.heap.size = w.heap.size := by omega
      have hf1_0_0 : w1.cell? ⟨w.heap.size, 0, none⟩ = some (.int .i64 A) := by first | (rw [ha]; with_reducible assumption) | (simp (maxDischargeDepth := 7) [go_sem, ha]; done) | (rw [ha]; assumption) | (simp (maxDischargeDepth := 7) [go_sem, ha, *]; done)
      have hf1_0_1 : w1.cell? ⟨w.heap.size, 1, none⟩ = some (.int .u64 al) := by first | (rw [ha]; with_reducible assumption) | (simp (maxDischargeDepth := 7) [go_sem, ha]; done) | (rw [ha]; assumption) | (simp (maxDischargeDepth := 7) [go_sem, ha, *]; done)
      try have hg1_0 : ∀ o, w1.frozen? ⟨w.heap.size, o, none⟩ = false := by intro o; first | (simp (maxDischargeDepth := 7) [go_sem, hb]; done) | (rw [hb]; simp (maxDischargeDepth := 7) [go_sem, *]; done)
      clear ha hb
      refine kuse (b := w.heap.size + 1) hk1 (by first | (simp; done) | (simp; omega) | omega) ?_
      intro ha hb
      have hz1_1 : w.heap.size + 1 < w1.heap.size := by have := hk1.size; (try simp at this); omega
      have hn1_1 : ¬ w.heap.size + 1 = w1.heap.size := by omega
      have hm1_1 : ¬ w1.heap.size = w.heap.size + 1 := by omega
      have hf1_1_0 : w1.cell? ⟨w.heap.size + 1, 0, none⟩ = some (.int .i64 0) := by first | (rw [ha]; with_reducible assumption) | (simp (maxDischargeDepth := 7) [go_sem, ha]; done) | (rw [ha]; assumption) | (simp (maxDischargeDepth := 7) [go_sem, ha, *]; done)
      have hf1_1_1 : w1.cell? ⟨w.heap.size + 1, 1, none⟩ = some (.int .u64 0) := by first | (rw [ha]; with_reducible assumption) | (simp (maxDischargeDepth := 7) [go_sem, ha]; done) | (rw [ha]; assumption) | (simp (maxDischargeDepth := 7) [go_sem, ha, *]; done)
      try have hg1_1 : ∀ o, w1.frozen? ⟨w.heap.size + 1, o, none⟩ = false := by intro o; first | (simp (maxDischargeDepth := 7) [go_sem, hb]; done) | (rw [hb]; simp (maxDischargeDepth := 7) [go_sem, *]; done)
      clear ha hb
      go_wp2_with fail
      with_reducible refine (HO.out _).mono ?_
      rintro e w2 ⟨rfl, hk2⟩
      refine kuse (b := w.heap.size) hk2 (by first | (simp; done) | (simp; omega) | omega) ?_
      intro ha hb
      have hz2_0 : w.heap.size < w2.heap.size := by have := hk2.size; (try simp at this); omega
      have hn2_0 : ¬ w.heap.size = w2.heap.size := by omega
      have hm2_0 : ¬ w2.heap.size = w.heap.size := by omega
      have hf2_0_0 : w2.cell? ⟨w.heap.size, 0, none⟩ = some (.int .i64 A) := by first | (rw [ha]; with_reducible assumption) | (simp (maxDischargeDepth := 7) [go_sem, ha]; done) | (rw [ha]; assumption) | (simp (maxDischargeDepth := 7) [go_sem, ha, *]; done)
      have hf2_0_1 : w2.cell? ⟨w.heap.size, 1, none⟩ = some (.int .u64 al) := by first | (rw [ha]; with_reducible assumption) | (simp (maxDischargeDepth := 7) [go_sem, ha]; done) | (rw [ha]; assumption) | (simp (maxDischargeDepth := 7) [go_sem, ha, *]; done)
      try have hg2_0 : ∀ o, w2.frozen? ⟨w.heap.size, o, none⟩ = false := by intro o; first | (simp (maxDischargeDepth := 7) [go_sem, hb]; done) | (rw [hb]; simp (maxDischargeDepth := 7) [go_sem, *]; done)
      clear ha hb
      refine kuse (b := w.heap.size + 1) hk2 (by first | (simp; done) | (simp; omega) | omega) ?_
      intro ha hb
      have hz2_1 : w.heap.size + 1 < w2.heap.size := by have := hk2.size; (try simp at this); omega
      have hn2_1 : ¬ w.heap.size + 1 = w2.heap.size := by omega
      have hm2_1 : ¬ w2.heap.size = w.heap.size + 1 := by omega
      have hf2_1_0 : w2.cell? ⟨w.heap.size + 1, 0, none⟩ = some (.int .i64 0) := by first | (rw [ha]; with_reducible assumption) | (simp (maxDischargeDepth := 7) [go_sem, ha]; done) | (rw [ha]; assumption) | (simp (maxDischargeDepth := 7) [go_sem, ha, *]; done)
      have hf2_1_1 : w2.cell? ⟨w.heap.size + 1, 1, none⟩ = some (.int .u64 0) := by first | (rw [ha]; with_reducible assumption) | (simp (maxDischargeDepth := 7) [go_sem, ha]; done) | (rw [ha]; assumption) | (simp (maxDischargeDepth := 7) [go_sem, ha, *]; done)
      try have hg2_1 : ∀ o, w2.frozen? ⟨w.heap.size + 1, o, none⟩ = false := by intro o; first | (simp (maxDischargeDepth := 7) [go_sem, hb]; done) | (rw [hb]; simp (maxDischargeDepth := 7) [go_sem, *]; done)
      clear ha hb
      try clear hf1_0_0
      try clear hf1_0_1
      try clear hf1_1_0
      try clear hf1_1_1
      try clear hg1_0
      try clear hg1_1
      try clear hz1_1
      go_wp2_with fail
      with_reducible refine (HN.out _).mono ?_
      rintro e w3 ⟨rfl, hk3⟩
      refine kuse (b := w.heap.size) hk3 (by first | (simp; done) | (simp; omega) | omega) ?_
      intro ha hb
      have hz3_0 : w.heap.size < w3.heap.size := by have := hk3.size; (try simp at this); omega
      have hn3_0 : ¬ w.heap.size = w3.heap.size := by omega
      have hm3_0 : ¬ w3.heap.size = w.heap.size := by omega
      have hf3_0_0 : w3.cell? ⟨w.heap.size, 0, none⟩ = some (.int .i64 A) := by first | (rw [ha]; with_reducible assumption) | (simp (maxDischargeDepth := 7) [go_sem, ha]; done) | (rw [ha]; assumption) | (simp (maxDischargeDepth := 7) [go_sem, ha, *]; done)
      have hf3_0_1 : w3.cell? ⟨w.heap.size, 1, none⟩ = some (.int .u64 al) := by first | (rw [ha]; with_reducible assumption) | (simp (maxDischargeDepth := 7) [go_sem, ha]; done) | (rw [ha]; assumption) | (simp (maxDischargeDepth := 7) [go_sem, ha, *]; done)
      try have hg3_0 : ∀ o, w3.frozen? ⟨w.heap.size, o, none⟩ = false := by intro o; first | (simp (maxDischargeDepth := 7) [go_sem, hb]; done) | (rw [hb]; simp (maxDischargeDepth := 7) [go_sem, *]; done)
      clear ha hb
      refine kuse (b := w.heap.size + 1) hk3 (by first | (simp; done) | (simp; omega) | omega) ?_
      intro ha hb
      have hz3_1 : w.heap.size + 1 < w3.heap.size := by have := hk3.size; (try simp at this); omega
      have hn3_1 : ¬ w.heap.size + 1 = w3.heap.size := by omega
      have hm3_1 : ¬ w3.heap.size = w.heap.size + 1 := by omega
      have hf3_1_0 : w3.cell? ⟨w.heap.size + 1, 0, none⟩ = some (.int .i64 0) := by first | (rw [ha]; with_reducible assumption) | (simp (maxDischargeDepth := 7) [go_sem, ha]; done) | (rw [ha]; assumption) | (simp (maxDischargeDepth := 7) [go_sem, ha, *]; done)
      have hf3_1_1 : w3.cell? ⟨w.heap.size + 1, 1, none⟩ = some (.int .u64 0) := by first | (rw [ha]; with_reducible assumption) | (simp (maxDischargeDepth := 7) [go_sem, ha]; done) | (rw [ha]; assumption) | (simp (maxDischargeDepth := 7) [go_sem, ha, *]; done)
      try have hg3_1 : ∀ o, w3.frozen? ⟨w.heap.size + 1, o, none⟩ = false := by intro o; first | (simp (maxDischargeDepth := 7) [go_sem, hb]; done) | (rw [hb]; simp (maxDischargeDepth := 7) [go_sem, *]; done)
      clear ha hb
      try clear hf2_0_0
      try clear hf2_0_1
      try clear hf2_1_0
      try clear hf2_1_1
      try clear hg2_0
      try clear hg2_1
      try clear hz2_1
      go_wp2_with fail
      with_reducible refine (HM1.out _).mono ?_
      rintro e w' ⟨rfl, rfl⟩
      go_wp2_with fail
      with_reducible refine (HM2.out _).mono ?_
      rintro e w' ⟨rfl, rfl⟩
      go_wp2_with fail
      all_goals exact bodyPost_ret (v := .tuple #[.agg #[.int .i64 0, .int .u64 0], .bool false]) (by first | (simp [results, Try.results28, go_sem]; done) | (simp (maxDischargeDepth := 7) [results, Try.results28, go_sem, *]; done)) rfl ⟨rfl, (by repeat (first | with_reducible exact Kept.refl _ | with_reducible assumption | with_reducible refine Kept.setCell ?_ (by first | (simp; done) | (simp; omega) | omega) _ | with_reducible refine Kept.alloc ?_ _ | with_reducible refine Kept.drewN ?_ _ | with_reducible refine Kept.drew ?_ | with_reducible refine Kept.trans ?_ (by with_reducible assumption) | with_reducible refine Kept.dr ?_ (by with_reducible assumption)))⟩
  · have SG : sgd false (wmag u * wmag a) = u * a := by have := sgd_mul u a; rw [decide_eq_false cx, decide_eq_false ca] at this; exact this
    have A2 : 0 ≤ wh u := (by unfold wh; omega)
    have HS := Lib.hid (size_w u u0 u1)
    have HO := Lib.hid (of_w a a_0 a_1)
    have HN := Lib.hid (size_w a (by omega) (by omega))
    obtain ⟨m0, m1⟩ := wmag_bd u u0 u1
    have n01 : 0 ≤ wmag a ∧ wmag a ≤ 9223372036854775808 := by unfold wmag; split <;> omega
    obtain ⟨n0, n1⟩ := n01
    have ea : wh (wmag a) = 0 ∧ wl (wmag a) = wmag a := by unfold wh wl; omega
    obtain ⟨ea1, ea2⟩ := ea
    rw [ea1, ea2] at HN
    obtain ⟨em, b0, b1⟩ := wv (wmag u)
    have B0 : 0 ≤ wh (wmag u) := (by unfold wh; omega)
    have B1 : wh (wmag u) ≤ 18446744073709551615 := (by unfold wh; omega)
    have PM := mag_mul (wmag u) (wmag a) (wh (wmag u)) (wl (wmag u)) (wmag a) em rfl
    have p1 := le_mul (wl (wmag u)) (wmag a) 18446744073709551615 9223372036854775808 b0 b1 n0 n1
    have p2 := le_mul (wh (wmag u)) (wmag a) 18446744073709551615 9223372036854775808 B0 B1 n0 n1
    have far := mul_far u a
    have hM1 := mul64_w (wl (wmag u)) (wmag a) b0 b1 n0 (by omega)
    have hM2 := mul64_w (wh (wmag u)) (wmag a) B0 B1 n0 (by omega)
    generalize hP1 : wl (wmag u) * wmag a = P1 at *
    generalize hP2 : wh (wmag u) * wmag a = P2 at *
    clear hP1 hP2
    obtain ⟨H1, hH1⟩ : ∃ x, P1 / 18446744073709551616 = x := ⟨_, rfl⟩
    obtain ⟨L1, hL1⟩ : ∃ x, P1 % 18446744073709551616 = x := ⟨_, rfl⟩
    obtain ⟨H2, hH2⟩ : ∃ x, P2 / 18446744073709551616 = x := ⟨_, rfl⟩
    obtain ⟨L2, hL2⟩ : ∃ x, P2 % 18446744073709551616 = x := ⟨_, rfl⟩
    obtain ⟨SS, hSS⟩ : ∃ x, (H1 + L2 + 0) % 18446744073709551616 = x := ⟨_, rfl⟩
    obtain ⟨CC, hCC⟩ : ∃ x, (H1 + L2 + 0) / 18446744073709551616 = x := ⟨_, rfl⟩
    simp only [hH1, hL1] at hM1
    simp only [hH2, hL2] at hM2
    have HM1 := Lib.hid hM1
    have HM2 := Lib.hid hM2
    have r1 := add64_r H1 L2 0 SS CC (by omega) (by omega) (by omega) (by omega) (Or.inl rfl) hSS hCC
    clear hM1 hM2
    generalize hQ : wmag u * wmag a = Q at *
    clear ea1 ea2 em
    by_cases c1 : H2 = 0
    · by_cases c2 : CC = 0
      · have HG := Lib.hid (signed_0 Q (by omega) (by omega))
        have q1 : wh Q = SS := by unfold wh; omega
        have q2 : wl Q = L1 := by unfold wl; omega
        rw [q1, q2, SG] at HG
        clear PM SG hQ q1 q2 far
        generalize hV : wval (u * a) = V at *
        generalize hW : wfit (u * a) = O at *
        clear hV hW
        rw [c1] at HM2
        rw [c2] at r1
        clear c1 c2 hH1 hH2 hL1 hL2 hSS hCC
        generalize wh (wmag u) = BB at *; generalize wl (wmag u) = bb at *; generalize hna : wmag a = NN at *; generalize hma : wmag u = MM at *
        clear hna hma
        generalize hwu : wh u = A at *; generalize hwl : wl u = al at *
        clear hwu hwl cx
        have dA : decide (A < 0) = false := decide_eq_false (by omega)
        have da : decide (a < 0) = false := decide_eq_false ca
        clear ca
        go_enter Try.func28, Try.ntmps28
        go_wp2_with fail
        with_reducible refine (HS.out _).mono ?_
        rintro e w1 ⟨rfl, hk1⟩
        refine kuse (b := w.heap.size) hk1 (by first | (simp; done) | (simp; omega) | omega) ?_
        intro ha hb
        have hz1_0 : w.heap.size < w1.heap.size := by have := hk1.size; (try simp at this); omega
        have hn1_0 : ¬ w.heap.size = w1.heap.size := by omega
        have hm1_0 : ¬ w1.heap.size = w.heap.size := by omega
        have hf1_0_0 : w1.cell? ⟨w.heap.size, 0, none⟩ = some (.int .i64 A) := by first | (rw [ha]; with_reducible assumption) | (simp (maxDischargeDepth := 7) [go_sem, ha]; done) | (rw [ha]; assumption) | (simp (maxDischargeDepth := 7) [go_sem, ha, *]; done)
        have hf1_0_1 : w1.cell? ⟨w.heap.size, 1, none⟩ = some (.int .u64 al) := by first | (rw [ha]; with_reducible assumption) | (simp (maxDischargeDepth := 7) [go_sem, ha]; done) | (rw [ha]; assumption) | (simp (maxDischargeDepth := 7) [go_sem, ha, *]; done)
        try have hg1_0 : ∀ o, w1.frozen? ⟨w.heap.size, o, none⟩ = false := by intro o; first | (simp (maxDischargeDepth := 7) [go_sem, hb]; done) | (rw [hb]; simp (maxDischargeDepth := 7) [go_sem, *]; done)
        clear ha hb
        refine kuse (b := w.heap.size + 1) hk1 (by first | (simp; done) | (simp; omega) | omega) ?_
        intro ha hb
        have hz1_1 : w.heap.size + 1 < w1.heap.size := by have := hk1.size; (try simp at this); omega
        have hn1_1 : ¬ w.heap.size + 1 = w1.heap.size := by omega
        have hm1_1 : ¬ w1.heap.size = w.heap.size + 1 := by omega
        have hf1_1_0 : w1.cell? ⟨w.heap.size + 1, 0, none⟩ = some (.int .i64 0) := by first | (rw [ha]; with_reducible assumption) | (simp (maxDischargeDepth := 7) [go_sem, ha]; done) | (rw [ha]; assumption) | (simp (maxDischargeDepth := 7) [go_sem, ha, *]; done)
        have hf1_1_1 : w1.cell? ⟨w.heap.size + 1, 1, none⟩ = some (.int .u64 0) := by first | (rw [ha]; with_reducible assumption) | (simp (maxDischargeDepth := 7) [go_sem, ha]; done) | (rw [ha]; assumption) | (simp (maxDischargeDepth := 7) [go_sem, ha, *]; done)
        try have hg1_1 : ∀ o, w1.frozen? ⟨w.heap.size + 1, o, none⟩ = false := by intro o; first | (simp (maxDischargeDepth := 7) [go_sem, hb]; done) | (rw [hb]; simp (maxDischargeDepth := 7) [go_sem, *]; done)
        clear ha hb
        go_wp2_with fail
        with_reducible refine (HO.out _).mono ?_
        rintro e w2 ⟨rfl, hk2⟩
        refine kuse (b := w.heap.size) hk2 (by first | (simp; done) | (simp; omega) | omega) ?_
        intro ha hb
        have hz2_0 : w.heap.size < w2.heap.size := by have := hk2.size; (try simp at this); omega
        have hn2_0 : ¬ w.heap.size = w2.heap.size := by omega
        have hm2_0 : ¬ w2.heap.size = w.heap.size := by omega
        have hf2_0_0 : w2.cell? ⟨w.heap.size, 0, none⟩ = some (.int .i64 A) := by first | (rw [ha]; with_reducible assumption) | (simp (maxDischargeDepth := 7) [go_sem, ha]; done) | (rw [ha]; assumption) | (simp (maxDischargeDepth := 7) [go_sem, ha, *]; done)
        have hf2_0_1 : w2.cell? ⟨w.heap.size, 1, none⟩ = some (.int .u64 al) := by first | (rw [ha]; with_reducible assumption) | (simp (maxDischargeDepth := 7) [go_sem, ha]; done) | (rw [ha]; assumption) | (simp (maxDischargeDepth := 7) [go_sem, ha, *]; done)
        try have hg2_0 : ∀ o, w2.frozen? ⟨w.heap.size, o, none⟩ = false := by intro o; first | (simp (maxDischargeDepth := 7) [go_sem, hb]; done) | (rw [hb]; simp (maxDischargeDepth := 7) [go_sem, *]; done)
        clear ha hb
        refine kuse (b := w.heap.size + 1) hk2 (by first | (simp; done) | (simp; omega) | omega) ?_
        intro ha hb
        have hz2_1 : w.heap.size + 1 < w2.heap.size := by have := hk2.size; (try simp at this); omega
        have hn2_1 : ¬ w.heap.size + 1 = w2.heap.size := by omega
        have hm2_1 : ¬ w2.heap.size = w.heap.size + 1 := by omega
        have hf2_1_0 : w2.cell? ⟨w.heap.size + 1, 0, none⟩ = some (.int .i64 0) := by first | (rw [ha]; with_reducible assumption) | (simp (maxDischargeDepth := 7) [go_sem, ha]; done) | (rw [ha]; assumption) | (simp (maxDischargeDepth := 7) [go_sem, ha, *]; done)
        have hf2_1_1 : w2.cell? ⟨w.heap.size + 1, 1, none⟩ = some (.int .u64 0) := by first | (rw [ha]; with_reducible assumption) | (simp (maxDischargeDepth := 7) [go_sem, ha]; done) | (rw [ha]; assumption) | (simp (maxDischargeDepth := 7) [go_sem, ha, *]; done)
        try have hg2_1 : ∀ o, w2.frozen? ⟨w.heap.size + 1, o, none⟩ = false := by intro o; first | (simp (maxDischargeDepth := 7) [go_sem, hb]; done) | (rw [hb]; simp (maxDischargeDepth := 7) [go_sem, *]; done)
        clear ha hb
        try clear hf1_0_0
        try clear hf1_0_1
        try clear hf1_1_0
        try clear hf1_1_1
        try clear hg1_0
        try clear hg1_1
        try clear hz1_1
        go_wp2_with fail
        with_reducible refine (HN.out _).mono ?_
        rintro e w3 ⟨rfl, hk3⟩
        refine kuse (b := w.heap.size) hk3 (by first | (simp; done) | (simp; omega) | omega) ?_
        intro ha hb
        have hz3_0 : w.heap.size < w3.heap.size := by have := hk3.size; (try simp at this); omega
        have hn3_0 : ¬ w.heap.size = w3.heap.size := by omega
        have hm3_0 : ¬ w3.heap.size = w.heap.size := by omega
        have hf3_0_0 : w3.cell? ⟨w.heap.size, 0, none⟩ = some (.int .i64 A) := by first | (rw [ha]; with_reducible assumption) | (simp (maxDischargeDepth := 7) [go_sem, ha]; done) | (rw [ha]; assumption) | (simp (maxDischargeDepth := 7) [go_sem, ha, *]; done)
        have hf3_0_1 : w3.cell? ⟨w.heap.size, 1, none⟩ = some (.int .u64 al) := by first | (rw [ha]; with_reducible assumption) | (simp (maxDischargeDepth := 7) [go_sem, ha]; done) | (rw [ha]; assumption) | (simp (maxDischargeDepth := 7) [go_sem, ha, *]; done)
        try have hg3_0 : ∀ o, w3.frozen? ⟨w.heap.size, o, none⟩ = false := by intro o; first | (simp (maxDischargeDepth := 7) [go_sem, hb]; done) | (rw [hb]; simp (maxDischargeDepth := 7) [go_sem, *]; done)
        clear ha hb
        refine kuse (b := w.heap.size + 1) hk3 (by first | (simp; done) | (simp; omega) | omega) ?_
        intro ha hb
        have hz3_1 : w.heap.size + 1 < w3.heap.size := by have := hk3.size; (try simp at this); omega
        have hn3_1 : ¬ w.heap.size + 1 = w3.heap.size := by omega
        have hm3_1 : ¬ w3.heap.size = w.heap.size + 1 := by omega
        have hf3_1_0 : w3.cell? ⟨w.heap.size + 1, 0, none⟩ = some (.int .i64 0) := by first | (rw [ha]; with_reducible assumption) | (simp (maxDischargeDepth := 7) [go_sem, ha]; done) | (rw [ha]; assumption) | (simp (maxDischargeDepth := 7) [go_sem, ha, *]; done)
        have hf3_1_1 : w3.cell? ⟨w.heap.size + 1, 1, none⟩ = some (.int .u64 0) := by first | (rw [ha]; with_reducible assumption) | (simp (maxDischargeDepth := 7) [go_sem, ha]; done) | (rw [ha]; assumption) | (simp (maxDischargeDepth := 7) [go_sem, ha, *]; done)
        try have hg3_1 : ∀ o, w3.frozen? ⟨w.heap.size + 1, o, none⟩ = false := by intro o; first | (simp (maxDischargeDepth := 7) [go_sem, hb]; done) | (rw [hb]; simp (maxDischargeDepth := 7) [go_sem, *]; done)
        clear ha hb
        try clear hf2_0_0
        try clear hf2_0_1
        try clear hf2_1_0
        try clear hf2_1_1
        try clear hg2_0
        try clear hg2_1
        try clear hz2_1
        go_wp2_with fail
        with_reducible refine (HM1.out _).mono ?_
        rintro e w' ⟨rfl, rfl⟩
        go_wp2_with fail
        with_reducible refine (HM2.out _).mono ?_
        rintro e w' ⟨rfl, rfl⟩
        go_wp2_with fail
        with_reducible refine (HG.out _).mono ?_
        rintro e w4 ⟨rfl, hk4⟩
        refine kuse (b := w.heap.size) hk4 (by first | (simp; done) | (simp; omega) | omega) ?_
        intro ha hb
        have hz4_0 : w.heap.size < w4.heap.size := by have := hk4.size; (try simp at this); omega
        have hn4_0 : ¬ w.heap.size = w4.heap.size := by omega
        have hm4_0 : ¬ w4.heap.size = w.heap.size := by omega
        have hf4_0_0 : w4.cell? ⟨w.heap.size, 0, none⟩ = some (.int .i64 A) := by first | (rw [ha]; with_reducible assumption) | (simp (maxDischargeDepth := 7) [go_sem, ha]; done) | (rw [ha]; assumption) | (simp (maxDischargeDepth := 7) [go_sem, ha, *]; done)
        have hf4_0_1 : w4.cell? ⟨w.heap.size, 1, none⟩ = some (.int .u64 al) := by first | (rw [ha]; with_reducible assumption) | (simp (maxDischargeDepth := 7) [go_sem, ha]; done) | (rw [ha]; assumption) | (simp (maxDischargeDepth := 7) [go_sem, ha, *]; done)
        try have hg4_0 : ∀ o, w4.frozen? ⟨w.heap.size, o, none⟩ = false := by intro o; first | (simp (maxDischargeDepth := 7) [go_sem, hb]; done) | (rw [hb]; simp (maxDischargeDepth := 7) [go_sem, *]; done)
        clear ha hb
        refine kuse (b := w.heap.size + 1) hk4 (by first | (simp; done) | (simp; omega) | omega) ?_
        intro ha hb
        have hz4_1 : w.heap.size + 1 < w4.heap.size := by have := hk4.size; (try simp at this); omega
        have hn4_1 : ¬ w.heap.size + 1 = w4.heap.size := by omega
        have hm4_1 : ¬ w4.heap.size = w.heap.size + 1 := by omega
        have hf4_1_0 : w4.cell? ⟨w.heap.size + 1, 0, none⟩ = some (.int .i64 0) := by first | (rw [ha]; with_reducible assumption) | (simp (maxDischargeDepth := 7) [go_sem, ha]; done) | (rw [ha]; assumption) | (simp (maxDischargeDepth := 7) [go_sem, ha, *]; done)
        have hf4_1_1 : w4.cell? ⟨w.heap.size + 1, 1, none⟩ = some (.int .u64 0) := by first | (rw [ha]; with_reducible assumption) | (simp (maxDischargeDepth := 7) [go_sem, ha]; done) | (rw [ha]; assumption) | (simp (maxDischargeDepth := 7) [go_sem, ha, *]; done)
        try have hg4_1 : ∀ o, w4.frozen? ⟨w.heap.size + 1, o, none⟩ = false := by intro o; first | (simp (maxDischargeDepth := 7) [go_sem, hb]; done) | (rw [hb]; simp (maxDischargeDepth := 7) [go_sem, *]; done)
        clear ha hb
        refine kuse (b := w3.heap.size) hk4 (by first | (simp; done) | (simp; omega) | omega) ?_
        intro ha hb
        have hz4_2 : w3.heap.size < w4.heap.size := by have := hk4.size; (try simp at this); omega
        have hn4_2 : ¬ w3.heap.size = w4.heap.size := by omega
        have hm4_2 : ¬ w4.heap.size = w3.heap.size := by omega
        have hf4_2_0 : w4.cell? ⟨w3.heap.size, 0, none⟩ = some (.int .u64 BB) := by first | (rw [ha]; with_reducible assumption) | (simp (maxDischargeDepth := 7) [go_sem, ha]; done) | (rw [ha]; assumption) | (simp (maxDischargeDepth := 7) [go_sem, ha, *]; done)
        have hf4_2_1 : w4.cell? ⟨w3.heap.size, 1, none⟩ = some (.int .u64 bb) := by first | (rw [ha]; with_reducible assumption) | (simp (maxDischargeDepth := 7) [go_sem, ha]; done) | (rw [ha]; assumption) | (simp (maxDischargeDepth := 7) [go_sem, ha, *]; done)
        try have hg4_2 : ∀ o, w4.frozen? ⟨w3.heap.size, o, none⟩ = false := by intro o; first | (simp (maxDischargeDepth := 7) [go_sem, hb]; done) | (rw [hb]; simp (maxDischargeDepth := 7) [go_sem, *]; done)
        clear ha hb
        refine kuse (b := w3.heap.size + 1) hk4 (by first | (simp; done) | (simp; omega) | omega) ?_
        intro ha hb
        have hz4_3 : w3.heap.size + 1 < w4.heap.size := by have := hk4.size; (try simp at this); omega
        have hn4_3 : ¬ w3.heap.size + 1 = w4.heap.size := by omega
        have hm4_3 : ¬ w4.heap.size = w3.heap.size + 1 := by omega
        have hf4_3_0 : w4.cell? ⟨w3.heap.size + 1, 0, none⟩ = some (.int .u64 0) := by first | (rw [ha]; with_reducible assumption) | (simp (maxDischargeDepth := 7) [go_sem, ha]; done) | (rw [ha]; assumption) | (simp (maxDischargeDepth := 7) [go_sem, ha, *]; done)
        have hf4_3_1 : w4.cell? ⟨w3.heap.size + 1, 1, none⟩ = some (.int .u64 NN) := by first | (rw [ha]; with_reducible assumption) | (simp (maxDischargeDepth := 7) [go_sem, ha]; done) | (rw [ha]; assumption) | (simp (maxDischargeDepth := 7) [go_sem, ha, *]; done)
        try have hg4_3 : ∀ o, w4.frozen? ⟨w3.heap.size + 1, o, none⟩ = false := by intro o; first | (simp (maxDischargeDepth := 7) [go_sem, hb]; done) | (rw [hb]; simp (maxDischargeDepth := 7) [go_sem, *]; done)
        clear ha hb
        try clear hf3_0_0
        try clear hf3_0_1
        try clear hf3_1_0
        try clear hf3_1_1
        try clear hg3_0
        try clear hg3_1
        try clear hz3_1
        go_wp2_with fail
        all_goals exact bodyPost_ret (v := .tuple #[.agg #[.int .i64 (wh (V)), .int .u64 (wl (V))], .bool O]) (by first | (simp [results, Try.results28, go_sem]; done) | (simp (maxDischargeDepth := 7) [results, Try.results28, go_sem, *]; done)) rfl ⟨rfl, (by repeat (first | with_reducible exact Kept.refl _ | with_reducible assumption | with_reducible refine Kept.setCell ?_ (by first | (simp; done) | (simp; omega) | omega) _ | with_reducible refine Kept.alloc ?_ _ | with_reducible refine Kept.drewN ?_ _ | with_reducible refine Kept.drew ?_ | with_reducible refine Kept.trans ?_ (by with_reducible assumption) | with_reducible refine Kept.dr ?_ (by with_reducible assumption)))⟩
      · have e3 := wfit_no (far (by omega))
        rw [e3.2, e3.1]
        clear e3 far
        clear PM SG hQ
        rw [c1] at HM2
        have c3 : (CC == 0) = false := by rw [beq_eq_false_iff_ne]; exact c2
        clear c1 c2 hH1 hH2 hL1 hL2 hSS hCC
        generalize wh (wmag u) = BB at *; generalize wl (wmag u) = bb at *; generalize hna : wmag a = NN at *; generalize hma : wmag u = MM at *
        clear hna hma
        generalize hwu : wh u = A at *; generalize hwl : wl u = al at *
        clear hwu hwl cx
        have dA : decide (A < 0) = false := decide_eq_false (by omega)
        have da : decide (a < 0) = false := decide_eq_false ca
        clear ca
        go_enter Try.func28, Try.ntmps28
        go_wp2_with fail
        with_reducible refine (HS.out _).mono ?_
        rintro e w1 ⟨rfl, hk1⟩
        refine kuse (b := w.heap.size) hk1 (by first | (simp; done) | (simp; omega) | omega) ?_
        intro ha hb
        have hz1_0 : w.heap.size < w1.heap.size := by have := hk1.size; (try simp at this); omega
        have hn1_0 : ¬ w.heap.size = w1.heap.size := by omega
        have hm1_0 : ¬ w1.heap.size = w.heap.size := by omega
        have hf1_0_0 : w1.cell? ⟨w.heap.size, 0, none⟩ = some (.int .i64 A) := by first | (rw [ha]; with_reducible assumption) | (simp (maxDischargeDepth := 7) [go_sem, ha]; done) | (rw [ha]; assumption) | (simp (maxDischargeDepth := 7) [go_sem, ha, *]; done)
        have hf1_0_1 : w1.cell? ⟨w.heap.size, 1, none⟩ = some (.int .u64 al) := by first | (rw [ha]; with_reducible assumption) | (simp (maxDischargeDepth := 7) [go_sem, ha]; done) | (rw [ha]; assumption) | (simp (maxDischargeDepth := 7) [go_sem, ha, *]; done)
        try have hg1_0 : ∀ o, w1.frozen? ⟨w.heap.size, o, none⟩ = false := by intro o; first | (simp (maxDischargeDepth := 7) [go_sem, hb]; done) | (rw [hb]; simp (maxDischargeDepth := 7) [go_sem, *]; done)
        clear ha hb
        refine kuse (b := w.heap.size + 1) hk1 (by first | (simp; done) | (simp; omega) | omega) ?_
        intro ha hb
        have hz1_1 : w.heap.size + 1 < w1.heap.size := by have := hk1.size; (try simp at this); omega
        have hn1_1 : ¬ w.heap.size + 1 = w1.heap.size := by omega
        have hm1_1 : ¬ w1.heap.size = w.heap.size + 1 := by omega
        have hf1_1_0 : w1.cell? ⟨w.heap.size + 1, 0, none⟩ = some (.int .i64 0) := by first | (rw [ha]; with_reducible assumption) | (simp (maxDischargeDepth := 7) [go_sem, ha]; done) | (rw [ha]; assumption) | (simp (maxDischargeDepth := 7) [go_sem, ha, *]; done)
        have hf1_1_1 : w1.cell? ⟨w.heap.size + 1, 1, none⟩ = some (.int .u64 0) := by first | (rw [ha]; with_reducible assumption) | (simp (maxDischargeDepth := 7) [go_sem, ha]; done) | (rw [ha]; assumption) | (simp (maxDischargeDepth := 7) [go_sem, ha, *]; done)
        try have hg1_1 : ∀ o, w1.frozen? ⟨w.heap.size + 1, o, none⟩ = false := by intro o; first | (simp (maxDischargeDepth := 7) [go_sem, hb]; done) | (rw [hb]; simp (maxDischargeDepth := 7) [go_sem, *]; done)
        clear ha hb
        go_wp2_with fail
        with_reducible refine (HO.out _).mono ?_
        rintro e w2 ⟨rfl, hk2⟩
        refine kuse (b := w.heap.size) hk2 (by first | (simp; done) | (simp; omega) | omega) ?_
        intro ha hb
        have hz2_0 : w.heap.size < w2.heap.size := by have := hk2.size; (try simp at this); omega
        have hn2_0 : ¬ w.heap.size = w2.heap.size := by omega
        have hm2_0 : ¬ w2.heap.size = w.heap.size := by omega
        have hf2_0_0 : w2.cell? ⟨w.heap.size, 0, none⟩ = some (.int .i64 A) := by first | (rw [ha]; with_reducible assumption) | (simp (maxDischargeDepth := 7) [go_sem, ha]; done) | (rw [ha]; assumption) | (simp (maxDischargeDepth := 7) [go_sem, ha, *]; done)
        have hf2_0_1 : w2.cell? ⟨w.heap.size, 1, none⟩ = some (.int .u64 al) := by first | (rw [ha]; with_reducible assumption) | (simp (maxDischargeDepth := 7) [go_sem, ha]; done) | (rw [ha]; assumption) | (simp (maxDischargeDepth := 7) [go_sem, ha, *]; done)
        try have hg2_0 : ∀ o, w2.frozen? ⟨w.heap.size, o, none⟩ = false := by intro o; first | (simp (maxDischargeDepth := 7) [go_sem, hb]; done) | (rw [hb]; simp (maxDischargeDepth := 7) [go_sem, *]; done)
        clear ha hb
        refine kuse (b := w.heap.size + 1) hk2 (by first | (simp; done) | (simp; omega) | omega) ?_
        intro ha hb
        have hz2_1 : w.heap.size + 1 < w2.heap.size := by have := hk2.size; (try simp at this); omega
        have hn2_1 : ¬ w.heap.size + 1 = w2.heap.size := by omega
        have hm2_1 : ¬ w2.heap.size = w.heap.size + 1 := by omega
        have hf2_1_0 : w2.cell? ⟨w.heap.size + 1, 0, none⟩ = some (.int .i64 0) := by first | (rw [ha]; with_reducible assumption) | (simp (maxDischargeDepth := 7) [go_sem, ha]; done) | (rw [ha]; assumption) | (simp (maxDischargeDepth := 7) [go_sem, ha, *]; done)
        have hf2_1_1 : w2.cell? ⟨w.heap.size + 1, 1, none⟩ = some (.int .u64 0) := by first | (rw [ha]; with_reducible assumption) | (simp (maxDischargeDepth := 7) [go_sem, ha]; done) | (rw [ha]; assumption) | (simp (maxDischargeDepth := 7) [go_sem, ha, *]; done)
        try have hg2_1 : ∀ o, w2.frozen? ⟨w.heap.size + 1, o, none⟩ = false := by intro o; first | (simp (maxDischargeDepth := 7) [go_sem, hb]; done) | (rw [hb]; simp (maxDischargeDepth := 7) [go_sem, *]; done)
        clear ha hb
        try clear hf1_0_0
        try clear hf1_0_1
        try clear hf1_1_0
        try clear hf1_1_1
        try clear hg1_0
        try clear hg1_1
        try clear hz1_1
        go_wp2_with fail
        with_reducible refine (HN.out _).mono ?_
        rintro e w3 ⟨rfl, hk3⟩
        refine kuse (b := w.heap.size) hk3 (by first | (simp; done) | (simp; omega) | omega) ?_
        intro ha hb
        have hz3_0 : w.heap.size < w3.heap.size := by have := hk3.size; (try simp at this); omega
        have hn3_0 : ¬ w.heap.size = w3.heap.size := by omega
        have hm3_0 : ¬ w3.heap.size = w.heap.size := by omega
        have hf3_0_0 : w3.cell? ⟨w.heap.size, 0, none⟩ = some (.int .i64 A) := by first | (rw [ha]; with_reducible assumption) | (simp (maxDischargeDepth := 7) [go_sem, ha]; done) | (rw [ha]; assumption) | (simp (maxDischargeDepth := 7) [go_sem, ha, *]; done)
        have hf3_0_1 : w3.cell? ⟨w.heap.size, 1, none⟩ = some (.int .u64 al) := by first | (rw [ha]; with_reducible assumption) | (simp (maxDischargeDepth := 7) [go_sem, ha]; done) | (rw [ha]; assumption) | (simp (maxDischargeDepth := 7) [go_sem, ha, *]; done)
        try have hg3_0 : ∀ o, w3.frozen? ⟨w.heap.size, o, none⟩ = false := by intro o; first | (simp (maxDischargeDepth := 7) [go_sem, hb]; done) | (rw [hb]; simp (maxDischargeDepth := 7) [go_sem, *]; done)
        clear ha hb
        refine kuse (b := w.heap.size + 1) hk3 (by first | (simp; done) | (simp; omega) | omega) ?_
        intro ha hb
        have hz3_1 : w.heap.size + 1 < w3.heap.size := by have := hk3.size; (try simp at this); omega
        have hn3_1 : ¬ w.heap.size + 1 = w3.heap.size := by omega
        have hm3_1 : ¬ w3.heap.size = w.heap.size + 1 := by omega
        have hf3_1_0 : w3.cell? ⟨w.heap.size + 1, 0, none⟩ = some (.int .i64 0) := by first | (rw [ha]; with_reducible assumption) | (simp (maxDischargeDepth := 7) [go_sem, ha]; done) | (rw [ha]; assumption) | (simp (maxDischargeDepth := 7) [go_sem, ha, *]; done)
        have hf3_1_1 : w3.cell? ⟨w.heap.size + 1, 1, none⟩ = some (.int .u64 0) := by first | (rw [ha]; with_reducible assumption) | (simp (maxDischargeDepth := 7) [go_sem, ha]; done) | (rw [ha]; assumption) | (simp (maxDischargeDepth := 7) [go_sem, ha, *]; done)
        try have hg3_1 : ∀ o, w3.frozen? ⟨w.heap.size + 1, o, none⟩ = false := by intro o; first | (simp (maxDischargeDepth := 7) [go_sem, hb]; done) | (rw [hb]; simp (maxDischargeDepth := 7) [go_sem, *]; done)
        clear ha hb
        try clear hf2_0_0
        try clear hf2_0_1
        try clear hf2_1_0
        try clear hf2_1_1
        try clear hg2_0
        try clear hg2_1
        try clear hz2_1
        go_wp2_with fail
        with_reducible refine (HM1.out _).mono ?_
        rintro e w' ⟨rfl, rfl⟩
        go_wp2_with fail
        with_reducible refine (HM2.out _).mono ?_
        rintro e w' ⟨rfl, rfl⟩
        go_wp2_with fail
        all_goals exact bodyPost_ret (v := .tuple #[.agg #[.int .i64 0, .int .u64 0], .bool false]) (by first | (simp [results, Try.results28, go_sem]; done) | (simp (maxDischargeDepth := 7) [results, Try.results28, go_sem, *]; done)) rfl ⟨rfl, (by repeat (first | with_reducible exact Kept.refl _ | with_reducible assumption | with_reducible refine Kept.setCell ?_ (by first | (simp; done) | (simp; omega) | omega) _ | with_reducible refine Kept.alloc ?_ _ | with_reducible refine Kept.drewN ?_ _ | with_reducible refine Kept.drew ?_ | with_reducible refine Kept.trans ?_ (by with_reducible assumption) | with_reducible refine Kept.dr ?_ (by with_reducible assumption)))⟩
    · have e3 := wfit_no (far (by omega))
      rw [e3.2, e3.1]
      clear e3 far
      clear PM SG hQ
      have c3 : (H2 == 0) = false := by rw [beq_eq_false_iff_ne]; exact c1
      clear c1 hH1 hH2 hL1 hL2 hSS hCC
      generalize wh (wmag u) = BB at *; generalize wl (wmag u) = bb at *; generalize hna : wmag a = NN at *; generalize hma : wmag u = MM at *
      clear hna hma
      generalize hwu : wh u = A at *; generalize hwl : wl u = al at *
      clear hwu hwl cx
      have dA : decide (A < 0) = false := decide_eq_false (by omega)
      have da : decide (a < 0) = false := decide_eq_false ca
      clear ca
      go_enter Try.func28, Try.ntmps28
      go_wp2_with fail
      with_reducible refine (HS.out _).mono ?_
      rintro e w1 ⟨rfl, hk1⟩
      refine kuse (b := w.heap.size) hk1 (by first | (simp; done) | (simp; omega) | omega) ?_
      intro ha hb
      have hz1_0 : w.heap.size < w1.heap.size := by have := hk1.size; (try simp at this); omega
      have hn1_0 : ¬ w.heap.size = w1.heap.size := by omega
      have hm1_0 : ¬ w1.heap.size = w.heap.size := by omega
      have hf1_0_0 : w1.cell? ⟨w.heap.size, 0, none⟩ = some (.int .i64 A) := by first | (rw [ha]; with_reducible assumption) | (simp (maxDischargeDepth := 7) [go_sem, ha]; done) | (rw [ha]; assumption) | (simp (maxDischargeDepth := 7) [go_sem, ha, *]; done)
      have hf1_0_1 : w1.cell? ⟨w.heap.size, 1, none⟩ = some (.int .u64 al) := by first | (rw [ha]; with_reducible assumption) | (simp (maxDischargeDepth := 7) [go_sem, ha]; done) | (rw [ha]; assumption) | (simp (maxDischargeDepth := 7) [go_sem, ha, *]; done)
      try have hg1_0 : ∀ o, w1.frozen? ⟨w.heap.size, o, none⟩ = false := by intro o; first | (simp (maxDischargeDepth := 7) [go_sem, hb]; done) | (rw [hb]; simp (maxDischargeDepth := 7) [go_sem, *]; done)
      clear ha hb
      refine kuse (b := w.heap.size + 1) hk1 (by first | (simp; done) | (simp; omega) | omega) ?_
      intro ha hb
      have hz1_1 : w.heap.size + 1 < w1.heap.size := by have := hk1.size; (try simp at this); omega
      have hn1_1 : ¬ w.heap.size + 1 = w1.heap.size := by omega
      have hm1_1 : ¬ w1.heap.size = w.heap.size + 1 := by omega
      have hf1_1_0 : w1.cell? ⟨w.heap.size + 1, 0, none⟩ = some (.int .i64 0) := by first | (rw [ha]; with_reducible assumption) | (simp (maxDischargeDepth := 7) [go_sem, ha]; done) | (rw [ha]; assumption) | (simp (maxDischargeDepth := 7) [go_sem, ha, *]; done)
      have hf1_1_1 : w1.cell? ⟨w.heap.size + 1, 1, none⟩ = some (.int .u64 0) := by first | (rw [ha]; with_reducible assumption) | (simp (maxDischargeDepth := 7) [go_sem, ha]; done) | (rw [ha]; assumption) | (simp (maxDischargeDepth := 7) [go_sem, ha, *]; done)
      try have hg1_1 : ∀ o, w1.frozen? ⟨w.heap.size + 1, o, none⟩ = false := by intro o; first | (simp (maxDischargeDepth := 7) [go_sem, hb]; done) | (rw [hb]; simp (maxDischargeDepth := 7) [go_sem, *]; done)
      clear ha hb
      go_wp2_with fail
      with_reducible refine (HO.out _).mono ?_
      rintro e w2 ⟨rfl, hk2⟩
      refine kuse (b := w.heap.size) hk2 (by first | (simp; done) | (simp; omega) | omega) ?_
      intro ha hb
      have hz2_0 : w.heap.size < w2.heap.size := by have := hk2.size; (try simp at this); omega
      have hn2_0 : ¬ w.heap.size = w2.heap.size := by omega
      have hm2_0 : ¬ w2.heap.size = w.heap.size := by omega
      have hf2_0_0 : w2.cell? ⟨w.heap.size, 0, none⟩ = some (.int .i64 A) := by first | (rw [ha]; with_reducible assumption) | (simp (maxDischargeDepth := 7) [go_sem, ha]; done) | (rw [ha]; assumption) | (simp (maxDischargeDepth := 7) [go_sem, ha, *]; done)
      have hf2_0_1 : w2.cell? ⟨w.heap.size, 1, none⟩ = some (.int .u64 al) := by first | (rw [ha]; with_reducible assumption) | (simp (maxDischargeDepth := 7) [go_sem, ha]; done) | (rw [ha]; assumption) | (simp (maxDischargeDepth := 7) [go_sem, ha, *]; done)
      try have hg2_0 : ∀ o, w2.frozen? ⟨w.heap.size, o, none⟩ = false := by intro o; first | (simp (maxDischargeDepth := 7) [go_sem, hb]; done) | (rw [hb]; simp (maxDischargeDepth := 7) [go_sem, *]; done)
      clear ha hb
      refine kuse (b := w.heap.size + 1) hk2 (by first | (simp; done) | (simp; omega) | omega) ?_
      intro ha hb
      have hz2_1 : w.heap.size + 1 < w2.heap.size := by have := hk2.size; (try simp at this); omega
      have hn2_1 : ¬ w.heap.size + 1 = w2.heap.size := by omega
      have hm2_1 : ¬ w2.heap.size = w.heap.size + 1 := by omega
      have hf2_1_0 : w2.cell? ⟨w.heap.size + 1, 0, none⟩ = some (.int .i64 0) := by first | (rw [ha]; with_reducible assumption) | (simp (maxDischargeDepth := 7) [go_sem, ha]; done) | (rw [ha]; assumption) | (simp (maxDischargeDepth := 7) [go_sem, ha, *]; done)
      have hf2_1_1 : w2.cell? ⟨w.heap.size + 1, 1, none⟩ = some (.int .u64 0) := by first | (rw [ha]; with_reducible assumption) | (simp (maxDischargeDepth := 7) [go_sem, ha]; done) | (rw [ha]; assumption) | (simp (maxDischargeDepth := 7) [go_sem, ha, *]; done)
      try have hg2_1 : ∀ o, w2.frozen? ⟨w.heap.size + 1, o, none⟩ = false := by intro o; first | (simp (maxDischargeDepth := 7) [go_sem, hb]; done) | (rw [hb]; simp (maxDischargeDepth := 7) [go_sem, *]; done)
      clear ha hb
      try clear hf1_0_0
      try clear hf1_0_1
      try clear hf1_1_0
      try clear hf1_1_1
      try clear hg1_0
      try clear hg1_1
      try clear hz1_1
      go_wp2_with fail
      with_reducible refine (HN.out _).mono ?_
      rintro e w3 ⟨rfl, hk3⟩
      refine kuse (b := w.heap.size) hk3 (by first | (simp; done) | (simp; omega) | omega) ?_
      intro ha hb
      have hz3_0 : w.heap.size < w3.heap.size := by have := hk3.size; (try simp at this); omega
      have hn3_0 : ¬ w.heap.size = w3.heap.size := by omega
      have hm3_0 : ¬ w3.heap.size = w.heap.size := by omega
      have hf3_0_0 : w3.cell? ⟨w.heap.size, 0, none⟩ = some (.int .i64 A) := by first | (rw [ha]; with_reducible assumption) | (simp (maxDischargeDepth := 7) [go_sem, ha]; done) | (rw [ha]; assumption) | (simp (maxDischargeDepth := 7) [go_sem, ha, *]; done)
      have hf3_0_1 : w3.cell? ⟨w.heap.size, 1, none⟩ = some (.int .u64 al) := by first | (rw [ha]; with_reducible assumption) | (simp (maxDischargeDepth := 7) [go_sem, ha]; done) | (rw [ha]; assumption) | (simp (maxDischargeDepth := 7) [go_sem, ha, *]; done)
      try have hg3_0 : ∀ o, w3.frozen? ⟨w.heap.size, o, none⟩ = false := by intro o; first | (simp (maxDischargeDepth := 7) [go_sem, hb]; done) | (rw [hb]; simp (maxDischargeDepth := 7) [go_sem, *]; done)
      clear ha hb
      refine kuse (b := w.heap.size + 1) hk3 (by first | (simp; done) | (simp; omega) | omega) ?_
      intro ha hb
      have hz3_1 : w.heap.size + 1 < w3.heap.size := by have := hk3.size; (try simp at this); omega
      have hn3_1 : ¬ w.heap.size + 1 = w3.heap.size := by omega
      have hm3_1 : ¬ w3.heap.size = w.heap.size + 1 := by omega
      have hf3_1_0 : w3.cell? ⟨w.heap.size + 1, 0, none⟩ = some (.int .i64 0) := by first | (rw [ha]; with_reducible assumption) | (simp (maxDischargeDepth := 7) [go_sem, ha]; done) | (rw [ha]; assumption) | (simp (maxDischargeDepth := 7) [go_sem, ha, *]; done)
      have hf3_1_1 : w3.cell? ⟨w.heap.size + 1, 1, none⟩ = some (.int .u64 0) := by first | (rw [ha]; with_reducible assumption) | (simp (maxDischargeDepth := 7) [go_sem, ha]; done) | (rw [ha]; assumption) | (simp (maxDischargeDepth := 7) [go_sem, ha, *]; done)
      try have hg3_1 : ∀ o, w3.frozen? ⟨w.heap.size + 1, o, none⟩ = false := by intro o; first | (simp (maxDischargeDepth := 7) [go_sem, hb]; done) | (rw [hb]; simp (maxDischargeDepth := 7) [go_sem, *]; done)
      clear ha hb
      try clear hf2_0_0
      try clear hf2_0_1
      try clear hf2_1_0
      try clear hf2_1_1
      try clear hg2_0
      try clear hg2_1
      try clear hz2_1
      go_wp2_with fail
      with_reducible refine (HM1.out _).mono ?_
      rintro e w' ⟨rfl, rfl⟩
      go_wp2_with fail
      with_reducible refine (HM2.out _).mono ?_
      rintro e w' ⟨rfl, rfl⟩
      go_wp2_with fail
      all_goals exact bodyPost_ret (v := .tuple #[.agg #[.int .i64 0, .int .u64 0], .bool false]) (by first | (simp [results, Try.results28, go_sem]; done) | (simp (maxDischargeDepth := 7) [results, Try.results28, go_sem, *]; done)) rfl ⟨rfl, (by repeat (first | with_reducible exact Kept.refl _ | with_reducible assumption | with_reducible refine Kept.setCell ?_ (by first | (simp; done) | (simp; omega) | omega) _ | with_reducible refine Kept.alloc ?_ _ | with_reducible refine Kept.drewN ?_ _ | with_reducible refine Kept.drew ?_ | with_reducible refine Kept.trans ?_ (by with_reducible assumption) | with_reducible refine Kept.dr ?_ (by with_reducible assumption)))⟩
end Go.Proofs.Ytoegcfdlecbcjaa
