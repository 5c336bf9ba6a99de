/-
  Own contracts: quotients of members: plain.
-/
import Derived.Test.YtinpmooihjdbgaaRow
import Derived.Test.YtinpmooihjdbgaaIntr
import Derived.Test.YtinpmooihjdbgaaWidt
import Derived.Test.YtinpmooihjdbgaaWidp
import Derived.WalkKit
import Derived.ProofKit
import Derived.OpenShut
import Derived.WalkLawsBesides
import Derived.WalkSpells
import Derived.Lib.Hide
import Derived.Deep.DeepCutAuto
import Derived.Deep.CutBlock
import Derived.Deep.QuietTactic
import Derived.BigQuiet
import Derived.Handy
import Derived.StillTailTactics
import Derived.IntWalk
import Derived.LoopN
import Derived.Deep.RegionHeld3
namespace Go.Proofs.Ytinpmooihjdbgaa
open Go.ChangeShapes Go.WideShapes Go.ChangeAt Go.RowKit
set_option linter.unusedVariables false
set_option linter.unusedSimpArgs false
theorem kuz {W w1 : World} {b : Nat} {G : Prop} (h : Kept W w1) (hb : b < W.heap.size) (g : (∀ o, w1.cell? ⟨b, o, none⟩ = W.cell? ⟨b, o, none⟩) → (∀ o, w1.frozen? ⟨b, o, none⟩ = W.frozen? ⟨b, o, none⟩) → b < w1.heap.size → ¬ b = w1.heap.size → ¬ w1.heap.size = b → G) : G := by
  have z : b < w1.heap.size := Nat.lt_of_lt_of_le hb h.size
  exact g (kcell h b hb).1 (kcell h b hb).2 z (by omega) (by omega)
theorem qf_den {c d u v : Int} (h0 : 0 < c) (h1 : c ≤ v) (h2 : v ≤ d) : min (qf u c) (qf u d) ≤ qf u v := by
  unfold qf
  rw [fd_pos u c h0, fd_pos u d (by omega), fd_pos u v (by omega)]
  by_cases k : 0 ≤ u
  · have h3 : u / d ≤ u / v := by
      rw [Int.le_ediv_iff_mul_le (by omega)]
      have a1 := Int.ediv_mul_le u (b := d) (by omega)
      have a2 : 0 ≤ u / d := Int.ediv_nonneg k (by omega)
      have a3 : u / d * v ≤ u / d * d := Int.mul_le_mul_of_nonneg_left h2 a2
      omega
    omega
  · have h3 : u / c ≤ u / v := by
      rw [Int.le_ediv_iff_mul_le (by omega)]
      have a1 := Int.ediv_mul_le u (b := c) (by omega)
      have a2 : u / c ≤ 0 := by
        have := Int.ediv_le_ediv h0 (show u ≤ 0 by omega)
        rw [Int.zero_ediv] at this; exact this
      have a3 : u / c * v ≤ u / c * c := Int.mul_le_mul_of_nonpos_left a2 h1
      omega
    omega
theorem qf_neg (u v : Int) : qf u v = qf (-u) (-v) := by unfold qf; rw [Int.neg_fdiv_neg]
theorem qf_in {c d u v : Int} (nz : d < 0 ∨ 0 < c) (h1 : c ≤ v) (h2 : v ≤ d) : min (qf u c) (qf u d) ≤ qf u v := by
  rcases nz with k | k
  · have h := qf_den (u := -u) (c := -d) (d := -c) (v := -v) (by omega) (by omega) (by omega)
    rw [← qf_neg, ← qf_neg, ← qf_neg] at h
    omega
  · exact qf_den k h1 h2
theorem qc_eq (u v : Int) : qc u v = -(qf (-u) v) := rfl
theorem q_all {a b c d u v : Int} (nz : d < 0 ∨ 0 < c) (a1 : a ≤ u) (a2 : u ≤ b) (h1 : c ≤ v) (h2 : v ≤ d) : min (min (min (qf a c) (qf a d)) (qf b c)) (qf b d) ≤ qf u v ∧ qc u v ≤ max (max (max (qc a c) (qc a d)) (qc b c)) (qc b d) := by
  have hv : v ≠ 0 := by omega
  obtain ⟨l1, l2⟩ := q_lin hv a1 a2
  have e1 := qf_in (u := a) nz h1 h2
  have e2 := qf_in (u := b) nz h1 h2
  have e3 := qf_in (u := -a) nz h1 h2
  have e4 := qf_in (u := -b) nz h1 h2
  rw [qc_eq a v, qc_eq b v] at l2
  rw [qc_eq a c, qc_eq a d, qc_eq b c, qc_eq b d]
  omega
theorem sq_in {a u b : Int} (h0 : 0 ≤ a) (h1 : a ≤ u) (h2 : u ≤ b) (h3 : b ≤ 4611686018427387904) : 0 ≤ isq a ∧ isq a ≤ wsq u ∧ wsq u ≤ isqUp b ∧ isqUp b ≤ 4294967296 ∧ isq a ≤ isqUp b := by
  obtain ⟨p0, p1, p2, p3⟩ := isq_ok a h0 (by omega)
  obtain ⟨q0, q1, q2, q3⟩ := isq_ok b (by omega) (by omega)
  obtain ⟨s0, s1, s2, s3⟩ := wsq_spec u (by omega) (by omega)
  have r : b ≤ isqUp b * isqUp b ∧ 0 ≤ isqUp b ∧ isqUp b ≤ 4294967296 := by
    unfold isqUp
    split
    · refine ⟨by omega, by omega, by omega⟩
    · refine ⟨by omega, by omega, by omega⟩
  obtain ⟨r0, r1, r2⟩ := r
  have A : isq a ≤ wsq u := by
    by_cases k : isq a ≤ wsq u
    · exact k
    · have := Int.mul_le_mul (show wsq u + 1 ≤ isq a by omega) (show wsq u + 1 ≤ isq a by omega) (by omega) p0
      omega
  have B : wsq u ≤ isqUp b := by
    by_cases k : wsq u ≤ isqUp b
    · exact k
    · have := Int.mul_le_mul (show isqUp b + 1 ≤ wsq u by omega) (show isqUp b + 1 ≤ wsq u by omega) (by omega) s0
      have e : (isqUp b + 1) * (isqUp b + 1) = isqUp b * isqUp b + 2 * isqUp b + 1 := by grind
      omega
  exact ⟨p0, A, B, r2, by omega⟩
theorem div_q (u v : Int) (hv : v ≠ 0) (u0 : -4611686018427387904 ≤ u) (u1 : u ≤ 4611686018427387904) : wqV 0 u v = qf u v ∧ wqE 0 u v = true ∧ wqV 1 u v = qc u v ∧ wqE 1 u v = true := by
  have b := q_bd u v hv u0 u1
  have r0 : wq 0 u v = qf u v := by rw [wq_rnd 0 u v (Or.inl rfl) hv]; unfold rnd qf; rw [if_pos rfl]
  have r1 : wq 1 u v = qc u v := by rw [wq_rnd 1 u v (Or.inr (Or.inl rfl)) hv]; unfold rnd qc; rw [if_neg (by omega), if_pos rfl]
  obtain ⟨a1, a2⟩ := wqVE 0 u v hv
  obtain ⟨a3, a4⟩ := wqVE 1 u v hv
  rw [r0] at a1 a2
  rw [r1] at a3 a4
  obtain ⟨c1, c2⟩ := wfit_yes (u := qf u v) (by omega) (by omega)
  obtain ⟨c3, c4⟩ := wfit_yes (u := qc u v) (by omega) (by omega)
  exact ⟨by rw [a1, c2], by rw [a2, c1], by rw [a3, c4], by rw [a4, c3]⟩
theorem isq_n (u : Int) (h : u < 0) : wsq u = 0 ∧ wsqE u = false := by
  unfold wsq wsqE
  rw [if_pos h]
  exact ⟨rfl, by simp [h]⟩
set_option maxHeartbeats 2000000 in
set_option maxRecDepth 100000 in
theorem isqrt_neg (a b : Int) (x1 : a ≤ b) (x2 : -4611686018427387904 ≤ a) (x3 : b ≤ 4611686018427387904) (h : a < 0) (w : World) : Calls Try.prog 44 #[.agg #[.int .i64 a, .int .i64 b]] w fun e w' => e = .returned (.tuple #[.agg #[.int .i64 0, .int .i64 0], .int .i64 1]) ∧ Kept w w' := by
  have HV := Lib.hid (valid_ok a b x1 x2 x3)
  clear x1 x2 x3
  go_enter Try.func44, Try.ntmps44
  go_wp2_with fail
  with_reducible refine (HV.out _).mono ?_
  rintro e w1 ⟨rfl, hk1⟩
  refine kuz (b := w.heap.size) hk1 (by first | (simp; done) | (simp; omega) | omega) ?_
  intro ha hb hz1_0 hn1_0 hm1_0
  have hf1_0_0 : w1.cell? ⟨w.heap.size, 0, none⟩ = some (.int .i64 a) := (ha _).trans (by first | with_reducible assumption | (simp (maxDischargeDepth := 7) [go_sem]; done) | (simp (maxDischargeDepth := 7) [go_sem, *]; done))
  have hf1_0_1 : w1.cell? ⟨w.heap.size, 1, none⟩ = some (.int .i64 b) := (ha _).trans (by first | with_reducible assumption | (simp (maxDischargeDepth := 7) [go_sem]; done) | (simp (maxDischargeDepth := 7) [go_sem, *]; done))
  try have hg1_0 : ∀ o, w1.frozen? ⟨w.heap.size, o, none⟩ = false := by intro o; rw [hb]; first | (simp (maxDischargeDepth := 7) [go_sem]; done) | (simp (maxDischargeDepth := 7) [go_sem, *]; done)
  clear ha hb
  refine kuz (b := w.heap.size + 1) hk1 (by first | (simp; done) | (simp; omega) | omega) ?_
  intro ha hb hz1_1 hn1_1 hm1_1
  have hf1_1_0 : w1.cell? ⟨w.heap.size + 1, 0, none⟩ = some (.int .i64 0) := (ha _).trans (by first | with_reducible assumption | (simp (maxDischargeDepth := 7) [go_sem]; done) | (simp (maxDischargeDepth := 7) [go_sem, *]; done))
  have hf1_1_1 : w1.cell? ⟨w.heap.size + 1, 1, none⟩ = some (.int .i64 0) := (ha _).trans (by first | with_reducible assumption | (simp (maxDischargeDepth := 7) [go_sem]; done) | (simp (maxDischargeDepth := 7) [go_sem, *]; done))
  try have hg1_1 : ∀ o, w1.frozen? ⟨w.heap.size + 1, o, none⟩ = false := by intro o; rw [hb]; first | (simp (maxDischargeDepth := 7) [go_sem]; done) | (simp (maxDischargeDepth := 7) [go_sem, *]; done)
  clear ha hb
  go_wp2_with fail
  all_goals exact bodyPost_ret (v := .tuple #[.agg #[.int .i64 0, .int .i64 0], .int .i64 1]) (by first | (simp [results, Try.results44, go_sem]; done) | (simp (maxDischargeDepth := 7) [results, Try.results44, go_sem, *]; done)) rfl ⟨rfl, (by repeat (first | with_reducible exact Kept.refl _ | with_reducible assumption | with_reducible refine Kept.setCell ?_ (by first | (simp; done) | (simp; omega) | omega) _ | with_reducible refine Kept.alloc ?_ _ | with_reducible refine Kept.drewN ?_ _ | with_reducible refine Kept.drew ?_ | with_reducible refine Kept.trans ?_ (by with_reducible assumption) | with_reducible refine Kept.dr ?_ (by with_reducible assumption)))⟩
set_option maxHeartbeats 2000000 in
set_option maxRecDepth 100000 in
theorem quo1 (a b c d n m : Int) (h : b < a ∨ a < -4611686018427387904 ∨ 4611686018427387904 < b ∨ d < c ∨ c < -4611686018427387904 ∨ 4611686018427387904 < d ∨ c ≤ 0 ∧ 0 ≤ d) (n0 : 0 ≤ n) (n1 : n ≤ 18446744073709551615) (m0 : 0 ≤ m) (m1 : m ≤ 18446744073709551615) (w : World) : Calls Try.prog 9 #[.agg #[.int .i64 a, .int .i64 b], .agg #[.int .i64 c, .int .i64 d], .agg #[.int .u64 n, .int .u64 m]] w fun e w' => e = .returned (.bool true) ∧ Kept w w' := by
  have HQ := Lib.hid (iquo_arg a b c d h)
  clear h
  go_enter Try.func9, Try.ntmps9
  go_wp2_with fail
  with_reducible refine (awake_w _).mono ?_
  rintro e w1 ⟨rfl, hk1⟩
  refine kuz (b := w.heap.size) hk1 (by first | (simp; done) | (simp; omega) | omega) ?_
  intro ha hb hz1_0 hn1_0 hm1_0
  have hf1_0_0 : w1.cell? ⟨w.heap.size, 0, none⟩ = some (.int .i64 a) := (ha _).trans (by first | with_reducible assumption | (simp (maxDischargeDepth := 7) [go_sem]; done) | (simp (maxDischargeDepth := 7) [go_sem, *]; done))
  have hf1_0_1 : w1.cell? ⟨w.heap.size, 1, none⟩ = some (.int .i64 b) := (ha _).trans (by first | with_reducible assumption | (simp (maxDischargeDepth := 7) [go_sem]; done) | (simp (maxDischargeDepth := 7) [go_sem, *]; done))
  try have hg1_0 : ∀ o, w1.frozen? ⟨w.heap.size, o, none⟩ = false := by intro o; rw [hb]; first | (simp (maxDischargeDepth := 7) [go_sem]; done) | (simp (maxDischargeDepth := 7) [go_sem, *]; done)
  clear ha hb
  refine kuz (b := w.heap.size + 1) hk1 (by first | (simp; done) | (simp; omega) | omega) ?_
  intro ha hb hz1_1 hn1_1 hm1_1
  have hf1_1_0 : w1.cell? ⟨w.heap.size + 1, 0, none⟩ = some (.int .i64 c) := (ha _).trans (by first | with_reducible assumption | (simp (maxDischargeDepth := 7) [go_sem]; done) | (simp (maxDischargeDepth := 7) [go_sem, *]; done))
  have hf1_1_1 : w1.cell? ⟨w.heap.size + 1, 1, none⟩ = some (.int .i64 d) := (ha _).trans (by first | with_reducible assumption | (simp (maxDischargeDepth := 7) [go_sem]; done) | (simp (maxDischargeDepth := 7) [go_sem, *]; done))
  try have hg1_1 : ∀ o, w1.frozen? ⟨w.heap.size + 1, o, none⟩ = false := by intro o; rw [hb]; first | (simp (maxDischargeDepth := 7) [go_sem]; done) | (simp (maxDischargeDepth := 7) [go_sem, *]; done)
  clear ha hb
  refine kuz (b := w.heap.size + 2) hk1 (by first | (simp; done) | (simp; omega) | omega) ?_
  intro ha hb hz1_2 hn1_2 hm1_2
  have hf1_2_0 : w1.cell? ⟨w.heap.size + 2, 0, none⟩ = some (.int .u64 n) := (ha _).trans (by first | with_reducible assumption | (simp (maxDischargeDepth := 7) [go_sem]; done) | (simp (maxDischargeDepth := 7) [go_sem, *]; done))
  have hf1_2_1 : w1.cell? ⟨w.heap.size + 2, 1, none⟩ = some (.int .u64 m) := (ha _).trans (by first | with_reducible assumption | (simp (maxDischargeDepth := 7) [go_sem]; done) | (simp (maxDischargeDepth := 7) [go_sem, *]; done))
  try have hg1_2 : ∀ o, w1.frozen? ⟨w.heap.size + 2, o, none⟩ = false := by intro o; rw [hb]; first | (simp (maxDischargeDepth := 7) [go_sem]; done) | (simp (maxDischargeDepth := 7) [go_sem, *]; done)
  clear ha hb
  go_wp2_with fail
  with_reducible refine (HQ.out _).mono ?_
  rintro e w2 ⟨rfl, hk2⟩
  refine kuz (b := w.heap.size) hk2 (by first | (simp; done) | (simp; omega) | omega) ?_
  intro ha hb hz2_0 hn2_0 hm2_0
  have hf2_0_0 : w2.cell? ⟨w.heap.size, 0, none⟩ = some (.int .i64 a) := (ha _).trans (by first | with_reducible assumption | (simp (maxDischargeDepth := 7) [go_sem]; done) | (simp (maxDischargeDepth := 7) [go_sem, *]; done))
  have hf2_0_1 : w2.cell? ⟨w.heap.size, 1, none⟩ = some (.int .i64 b) := (ha _).trans (by first | with_reducible assumption | (simp (maxDischargeDepth := 7) [go_sem]; done) | (simp (maxDischargeDepth := 7) [go_sem, *]; done))
  try have hg2_0 : ∀ o, w2.frozen? ⟨w.heap.size, o, none⟩ = false := by intro o; rw [hb]; first | (simp (maxDischargeDepth := 7) [go_sem]; done) | (simp (maxDischargeDepth := 7) [go_sem, *]; done)
  clear ha hb
  refine kuz (b := w.heap.size + 1) hk2 (by first | (simp; done) | (simp; omega) | omega) ?_
  intro ha hb hz2_1 hn2_1 hm2_1
  have hf2_1_0 : w2.cell? ⟨w.heap.size + 1, 0, none⟩ = some (.int .i64 c) := (ha _).trans (by first | with_reducible assumption | (simp (maxDischargeDepth := 7) [go_sem]; done) | (simp (maxDischargeDepth := 7) [go_sem, *]; done))
  have hf2_1_1 : w2.cell? ⟨w.heap.size + 1, 1, none⟩ = some (.int .i64 d) := (ha _).trans (by first | with_reducible assumption | (simp (maxDischargeDepth := 7) [go_sem]; done) | (simp (maxDischargeDepth := 7) [go_sem, *]; done))
  try have hg2_1 : ∀ o, w2.frozen? ⟨w.heap.size + 1, o, none⟩ = false := by intro o; rw [hb]; first | (simp (maxDischargeDepth := 7) [go_sem]; done) | (simp (maxDischargeDepth := 7) [go_sem, *]; done)
  clear ha hb
  refine kuz (b := w.heap.size + 2) hk2 (by first | (simp; done) | (simp; omega) | omega) ?_
  intro ha hb hz2_2 hn2_2 hm2_2
  have hf2_2_0 : w2.cell? ⟨w.heap.size + 2, 0, none⟩ = some (.int .u64 n) := (ha _).trans (by first | with_reducible assumption | (simp (maxDischargeDepth := 7) [go_sem]; done) | (simp (maxDischargeDepth := 7) [go_sem, *]; done))
  have hf2_2_1 : w2.cell? ⟨w.heap.size + 2, 1, none⟩ = some (.int .u64 m) := (ha _).trans (by first | with_reducible assumption | (simp (maxDischargeDepth := 7) [go_sem]; done) | (simp (maxDischargeDepth := 7) [go_sem, *]; done))
  try have hg2_2 : ∀ o, w2.frozen? ⟨w.heap.size + 2, o, none⟩ = false := by intro o; rw [hb]; first | (simp (maxDischargeDepth := 7) [go_sem]; done) | (simp (maxDischargeDepth := 7) [go_sem, *]; done)
  clear ha hb
  try clear hf1_0_0
  try clear hf1_0_1
  try clear hf1_1_0
  try clear hf1_1_1
  try clear hf1_2_0
  try clear hf1_2_1
  try clear hg1_0
  try clear hg1_1
  try clear hg1_2
  try clear hz1_1
  try clear hz1_2
  go_wp2_with fail
  all_goals go_ret
  all_goals exact ⟨rfl, (by repeat (first | with_reducible exact Kept.refl _ | with_reducible assumption | with_reducible refine Kept.setCell ?_ (by first | (simp; done) | (simp; omega) | omega) _ | with_reducible refine Kept.alloc ?_ _ | with_reducible refine Kept.drewN ?_ _ | with_reducible refine Kept.drew ?_ | with_reducible refine Kept.trans ?_ (by with_reducible assumption) | with_reducible refine Kept.dr ?_ (by with_reducible assumption)))⟩
end Go.Proofs.Ytinpmooihjdbgaa
