/-
  Own contracts: the law of quotients of members.
-/
import Derived.Test.YtinpmooihjdbgaaIntyq
import Derived.WalkKit
import Derived.ProofKit
import Derived.OpenShut
import Derived.WalkLawsBesides
import Derived.WalkSpells
import Derived.Lib.Hide
import Derived.Deep.DeepCutAuto
import Derived.Deep.CutBlock
import Derived.Deep.QuietTactic
import Derived.BigQuiet
import Derived.Handy
import Derived.StillTailTactics
import Derived.IntWalk
import Derived.LoopN
import Derived.Deep.RegionHeld3
namespace Go.Proofs.Ytinpmooihjdbgaa
open Go.ChangeShapes Go.WideShapes Go.ChangeAt Go.RowKit
set_option linter.unusedVariables false
set_option linter.unusedSimpArgs false
set_option maxHeartbeats 8000000 in
set_option maxRecDepth 100000 in
theorem quo2 (a b c d n m : Int) (x1 : a ≤ b) (x2 : -4611686018427387904 ≤ a) (x3 : b ≤ 4611686018427387904) (y1 : c ≤ d) (y2 : -4611686018427387904 ≤ c) (y3 : d ≤ 4611686018427387904) (nz : d < 0 ∨ 0 < c) (n0 : 0 ≤ n) (n1 : n ≤ 18446744073709551615) (m0 : 0 ≤ m) (m1 : m ≤ 18446744073709551615) (w : World) : Calls Try.prog 9 #[.agg #[.int .i64 a, .int .i64 b], .agg #[.int .i64 c, .int .i64 d], .agg #[.int .u64 n, .int .u64 m]] w fun e w' => e = .returned (.bool true) ∧ Kept w w' := by
  obtain ⟨l, g, hl, hg, l0, lg, g0, HQ0⟩ := iquo_x a b c d x1 x2 x3 y1 y2 y3 nz
  have HQ := Lib.hid HQ0
  clear HQ0
  have HV1 := Lib.hid (valid_ok a b x1 x2 x3)
  have HV2 := Lib.hid (valid_ok c d y1 y2 y3)
  have HH := Lib.hid (has_no c d 0 (by omega))
  obtain ⟨u, hu⟩ : ∃ u, a + n % (b - a + 1) = u := ⟨_, rfl⟩
  obtain ⟨v, hv⟩ : ∃ v, c + m % (d - c + 1) = v := ⟨_, rfl⟩
  obtain ⟨u0, u1⟩ := mem_bd a b n x1 n0
  obtain ⟨v0, v1⟩ := mem_bd c d m y1 m0
  rw [hu] at u0 u1
  rw [hv] at v0 v1
  have HM1 := member_w a b n x1 x2 x3 n0 n1
  have HM2 := member_w c d m y1 y2 y3 m0 m1
  rw [hu] at HM1
  rw [hv] at HM2
  have HM1 := Lib.hid HM1
  have HM2 := Lib.hid HM2
  have HO1 := Lib.hid (of_w u (by omega) (by omega))
  have HO2 := Lib.hid (of_w v (by omega) (by omega))
  have HO3 := Lib.hid (of_w l (by omega) (by omega))
  have HO4 := Lib.hid (of_w g (by omega) (by omega))
  obtain ⟨D, hD⟩ : ∃ x, qf u v = x := ⟨_, rfl⟩
  obtain ⟨C, hC⟩ : ∃ x, qc u v = x := ⟨_, rfl⟩
  obtain ⟨d1, d2, d3, d4⟩ := div_q u v (by omega) (by omega) (by omega)
  have HD := wDiv_w u v (by omega) (by omega) (by omega) (by omega)
  have HU := wDivUp_w u v (by omega) (by omega) (by omega) (by omega)
  rw [d1, d2, hD] at HD
  rw [d3, d4, hC] at HU
  have HD := Lib.hid HD
  have HU := Lib.hid HU
  have qa := q_all nz u0 u1 v0 v1
  rw [← hl, ← hg, hD, hC] at qa
  have HC1 := cmp_w D l
  have HC2 := cmp_w C g
  have hr1 : wcm D l = 0 ∨ wcm D l = 1 := by
    have h1 := qa.1
    unfold wcm; rw [if_neg (by omega)]; split <;> omega
  have hr2 : wcm C g = 0 ∨ wcm C g = -1 := by
    have h2 := qa.2
    unfold wcm; split
    · omega
    · rw [if_pos (by omega)]; omega
  obtain ⟨r1, qr1⟩ : ∃ r, wcm D l = r := ⟨_, rfl⟩
  obtain ⟨r2, qr2⟩ : ∃ r, wcm C g = r := ⟨_, rfl⟩
  rw [qr1] at HC1 hr1
  rw [qr2] at HC2 hr2
  have HC1 := Lib.hid HC1
  have HC2 := Lib.hid HC2
  clear qr1 qr2
  have HS := wsqrt_w u (by omega) (by omega)
  clear d1 d2 d3 d4 hD hC hl hg hu hv nz lg n0 n1 m0 m1 y1 y2 y3 v0 v1 l0 g0 qa
  go_enter Try.func9, Try.ntmps9
  go_wp2_with fail
  with_reducible refine (awake_w _).mono ?_
  rintro e w1 ⟨rfl, hk1⟩
  refine kuz (b := w.heap.size) hk1 (by first | (simp; done) | (simp; omega) | omega) ?_
  intro ha hb hz1_0 hn1_0 hm1_0
  have hf1_0_0 : w1.cell? ⟨w.heap.size, 0, none⟩ = some (.int .i64 a) := (ha _).trans (by first | with_reducible assumption | (simp (maxDischargeDepth := 7) [go_sem]; done) | (simp (maxDischargeDepth := 7) [go_sem, *]; done))
  have hf1_0_1 : w1.cell? ⟨w.heap.size, 1, none⟩ = some (.int .i64 b) := (ha _).trans (by first | with_reducible assumption | (simp (maxDischargeDepth := 7) [go_sem]; done) | (simp (maxDischargeDepth := 7) [go_sem, *]; done))
  try have hg1_0 : ∀ o, w1.frozen? ⟨w.heap.size, o, none⟩ = false := by intro o; rw [hb]; first | (simp (maxDischargeDepth := 7) [go_sem]; done) | (simp (maxDischargeDepth := 7) [go_sem, *]; done)
  clear ha hb
  refine kuz (b := w.heap.size + 1) hk1 (by first | (simp; done) | (simp; omega) | omega) ?_
  intro ha hb hz1_1 hn1_1 hm1_1
  have hf1_1_0 : w1.cell? ⟨w.heap.size + 1, 0, none⟩ = some (.int .i64 c) := (ha _).trans (by first | with_reducible assumption | (simp (maxDischargeDepth := 7) [go_sem]; done) | (simp (maxDischargeDepth := 7) [go_sem, *]; done))
  have hf1_1_1 : w1.cell? ⟨w.heap.size + 1, 1, none⟩ = some (.int .i64 d) := (ha _).trans (by first | with_reducible assumption | (simp (maxDischargeDepth := 7) [go_sem]; done) | (simp (maxDischargeDepth := 7) [go_sem, *]; done))
  try have hg1_1 : ∀ o, w1.frozen? ⟨w.heap.size + 1, o, none⟩ = false := by intro o; rw [hb]; first | (simp (maxDischargeDepth := 7) [go_sem]; done) | (simp (maxDischargeDepth := 7) [go_sem, *]; done)
  clear ha hb
  refine kuz (b := w.heap.size + 2) hk1 (by first | (simp; done) | (simp; omega) | omega) ?_
  intro ha hb hz1_2 hn1_2 hm1_2
  have hf1_2_0 : w1.cell? ⟨w.heap.size + 2, 0, none⟩ = some (.int .u64 n) := (ha _).trans (by first | with_reducible assumption | (simp (maxDischargeDepth := 7) [go_sem]; done) | (simp (maxDischargeDepth := 7) [go_sem, *]; done))
  have hf1_2_1 : w1.cell? ⟨w.heap.size + 2, 1, none⟩ = some (.int .u64 m) := (ha _).trans (by first | with_reducible assumption | (simp (maxDischargeDepth := 7) [go_sem]; done) | (simp (maxDischargeDepth := 7) [go_sem, *]; done))
  try have hg1_2 : ∀ o, w1.frozen? ⟨w.heap.size + 2, o, none⟩ = false := by intro o; rw [hb]; first | (simp (maxDischargeDepth := 7) [go_sem]; done) | (simp (maxDischargeDepth := 7) [go_sem, *]; done)
  clear ha hb
  go_wp2_with fail
  with_reducible refine (HQ.out _).mono ?_
  rintro e w2 ⟨rfl, hk2⟩
  refine kuz (b := w.heap.size) hk2 (by first | (simp; done) | (simp; omega) | omega) ?_
  intro ha hb hz2_0 hn2_0 hm2_0
  have hf2_0_0 : w2.cell? ⟨w.heap.size, 0, none⟩ = some (.int .i64 a) := (ha _).trans (by first | with_reducible assumption | (simp (maxDischargeDepth := 7) [go_sem]; done) | (simp (maxDischargeDepth := 7) [go_sem, *]; done))
  have hf2_0_1 : w2.cell? ⟨w.heap.size, 1, none⟩ = some (.int .i64 b) := (ha _).trans (by first | with_reducible assumption | (simp (maxDischargeDepth := 7) [go_sem]; done) | (simp (maxDischargeDepth := 7) [go_sem, *]; done))
  try have hg2_0 : ∀ o, w2.frozen? ⟨w.heap.size, o, none⟩ = false := by intro o; rw [hb]; first | (simp (maxDischargeDepth := 7) [go_sem]; done) | (simp (maxDischargeDepth := 7) [go_sem, *]; done)
  clear ha hb
  refine kuz (b := w.heap.size + 1) hk2 (by first | (simp; done) | (simp; omega) | omega) ?_
  intro ha hb hz2_1 hn2_1 hm2_1
  have hf2_1_0 : w2.cell? ⟨w.heap.size + 1, 0, none⟩ = some (.int .i64 c) := (ha _).trans (by first | with_reducible assumption | (simp (maxDischargeDepth := 7) [go_sem]; done) | (simp (maxDischargeDepth := 7) [go_sem, *]; done))
  have hf2_1_1 : w2.cell? ⟨w.heap.size + 1, 1, none⟩ = some (.int .i64 d) := (ha _).trans (by first | with_reducible assumption | (simp (maxDischargeDepth := 7) [go_sem]; done) | (simp (maxDischargeDepth := 7) [go_sem, *]; done))
  try have hg2_1 : ∀ o, w2.frozen? ⟨w.heap.size + 1, o, none⟩ = false := by intro o; rw [hb]; first | (simp (maxDischargeDepth := 7) [go_sem]; done) | (simp (maxDischargeDepth := 7) [go_sem, *]; done)
  clear ha hb
  refine kuz (b := w.heap.size + 2) hk2 (by first | (simp; done) | (simp; omega) | omega) ?_
  intro ha hb hz2_2 hn2_2 hm2_2
  have hf2_2_0 : w2.cell? ⟨w.heap.size + 2, 0, none⟩ = some (.int .u64 n) := (ha _).trans (by first | with_reducible assumption | (simp (maxDischargeDepth := 7) [go_sem]; done) | (simp (maxDischargeDepth := 7) [go_sem, *]; done))
  have hf2_2_1 : w2.cell? ⟨w.heap.size + 2, 1, none⟩ = some (.int .u64 m) := (ha _).trans (by first | with_reducible assumption | (simp (maxDischargeDepth := 7) [go_sem]; done) | (simp (maxDischargeDepth := 7) [go_sem, *]; done))
  try have hg2_2 : ∀ o, w2.frozen? ⟨w.heap.size + 2, o, none⟩ = false := by intro o; rw [hb]; first | (simp (maxDischargeDepth := 7) [go_sem]; done) | (simp (maxDischargeDepth := 7) [go_sem, *]; done)
  clear ha hb
  try clear hf1_0_0
  try clear hf1_0_1
  try clear hf1_1_0
  try clear hf1_1_1
  try clear hf1_2_0
  try clear hf1_2_1
  try clear hg1_0
  try clear hg1_1
  try clear hg1_2
  try clear hz1_1
  try clear hz1_2
  go_wp2_with fail
  with_reducible refine (HV1.out _).mono ?_
  rintro e w3 ⟨rfl, hk3⟩
  refine kuz (b := w.heap.size) hk3 (by first | (simp; done) | (simp; omega) | omega) ?_
  intro ha hb hz3_0 hn3_0 hm3_0
  have hf3_0_0 : w3.cell? ⟨w.heap.size, 0, none⟩ = some (.int .i64 a) := (ha _).trans (by first | with_reducible assumption | (simp (maxDischargeDepth := 7) [go_sem]; done) | (simp (maxDischargeDepth := 7) [go_sem, *]; done))
  have hf3_0_1 : w3.cell? ⟨w.heap.size, 1, none⟩ = some (.int .i64 b) := (ha _).trans (by first | with_reducible assumption | (simp (maxDischargeDepth := 7) [go_sem]; done) | (simp (maxDischargeDepth := 7) [go_sem, *]; done))
  try have hg3_0 : ∀ o, w3.frozen? ⟨w.heap.size, o, none⟩ = false := by intro o; rw [hb]; first | (simp (maxDischargeDepth := 7) [go_sem]; done) | (simp (maxDischargeDepth := 7) [go_sem, *]; done)
  clear ha hb
  refine kuz (b := w.heap.size + 1) hk3 (by first | (simp; done) | (simp; omega) | omega) ?_
  intro ha hb hz3_1 hn3_1 hm3_1
  have hf3_1_0 : w3.cell? ⟨w.heap.size + 1, 0, none⟩ = some (.int .i64 c) := (ha _).trans (by first | with_reducible assumption | (simp (maxDischargeDepth := 7) [go_sem]; done) | (simp (maxDischargeDepth := 7) [go_sem, *]; done))
  have hf3_1_1 : w3.cell? ⟨w.heap.size + 1, 1, none⟩ = some (.int .i64 d) := (ha _).trans (by first | with_reducible assumption | (simp (maxDischargeDepth := 7) [go_sem]; done) | (simp (maxDischargeDepth := 7) [go_sem, *]; done))
  try have hg3_1 : ∀ o, w3.frozen? ⟨w.heap.size + 1, o, none⟩ = false := by intro o; rw [hb]; first | (simp (maxDischargeDepth := 7) [go_sem]; done) | (simp (maxDischargeDepth := 7) [go_sem, *]; done)
  clear ha hb
  refine kuz (b := w.heap.size + 2) hk3 (by first | (simp; done) | (simp; omega) | omega) ?_
  intro ha hb hz3_2 hn3_2 hm3_2
  have hf3_2_0 : w3.cell? ⟨w.heap.size + 2, 0, none⟩ = some (.int .u64 n) := (ha _).trans (by first | with_reducible assumption | (simp (maxDischargeDepth := 7) [go_sem]; done) | (simp (maxDischargeDepth := 7) [go_sem, *]; done))
  have hf3_2_1 : w3.cell? ⟨w.heap.size + 2, 1, none⟩ = some (.int .u64 m) := (ha _).trans (by first | with_reducible assumption | (simp (maxDischargeDepth := 7) [go_sem]; done) | (simp (maxDischargeDepth := 7) [go_sem, *]; done))
  try have hg3_2 : ∀ o, w3.frozen? ⟨w.heap.size + 2, o, none⟩ = false := by intro o; rw [hb]; first | (simp (maxDischargeDepth := 7) [go_sem]; done) | (simp (maxDischargeDepth := 7) [go_sem, *]; done)
  clear ha hb
  refine kuz (b := w2.heap.size) hk3 (by first | (simp; done) | (simp; omega) | omega) ?_
  intro ha hb hz3_3 hn3_3 hm3_3
  have hf3_3_0 : w3.cell? ⟨w2.heap.size, 0, none⟩ = some (.int .i64 l) := (ha _).trans (by first | with_reducible assumption | (simp (maxDischargeDepth := 7) [go_sem]; done) | (simp (maxDischargeDepth := 7) [go_sem, *]; done))
  have hf3_3_1 : w3.cell? ⟨w2.heap.size, 1, none⟩ = some (.int .i64 g) := (ha _).trans (by first | with_reducible assumption | (simp (maxDischargeDepth := 7) [go_sem]; done) | (simp (maxDischargeDepth := 7) [go_sem, *]; done))
  try have hg3_3 : ∀ o, w3.frozen? ⟨w2.heap.size, o, none⟩ = false := by intro o; rw [hb]; first | (simp (maxDischargeDepth := 7) [go_sem]; done) | (simp (maxDischargeDepth := 7) [go_sem, *]; done)
  clear ha hb
  try clear hf2_0_0
  try clear hf2_0_1
  try clear hf2_1_0
  try clear hf2_1_1
  try clear hf2_2_0
  try clear hf2_2_1
  try clear hg2_0
  try clear hg2_1
  try clear hg2_2
  try clear hz2_1
  try clear hz2_2
  go_wp2_with fail
  with_reducible refine (HV2.out _).mono ?_
  rintro e w4 ⟨rfl, hk4⟩
  refine kuz (b := w.heap.size) hk4 (by first | (simp; done) | (simp; omega) | omega) ?_
  intro ha hb hz4_0 hn4_0 hm4_0
  have hf4_0_0 : w4.cell? ⟨w.heap.size, 0, none⟩ = some (.int .i64 a) := (ha _).trans (by first | with_reducible assumption | (simp (maxDischargeDepth := 7) [go_sem]; done) | (simp (maxDischargeDepth := 7) [go_sem, *]; done))
  have hf4_0_1 : w4.cell? ⟨w.heap.size, 1, none⟩ = some (.int .i64 b) := (ha _).trans (by first | with_reducible assumption | (simp (maxDischargeDepth := 7) [go_sem]; done) | (simp (maxDischargeDepth := 7) [go_sem, *]; done))
  try have hg4_0 : ∀ o, w4.frozen? ⟨w.heap.size, o, none⟩ = false := by intro o; rw [hb]; first | (simp (maxDischargeDepth := 7) [go_sem]; done) | (simp (maxDischargeDepth := 7) [go_sem, *]; done)
  clear ha hb
  refine kuz (b := w.heap.size + 1) hk4 (by first | (simp; done) | (simp; omega) | omega) ?_
  intro ha hb hz4_1 hn4_1 hm4_1
  have hf4_1_0 : w4.cell? ⟨w.heap.size + 1, 0, none⟩ = some (.int .i64 c) := (ha _).trans (by first | with_reducible assumption | (simp (maxDischargeDepth := 7) [go_sem]; done) | (simp (maxDischargeDepth := 7) [go_sem, *]; done))
  have hf4_1_1 : w4.cell? ⟨w.heap.size + 1, 1, none⟩ = some (.int .i64 d) := (ha _).trans (by first | with_reducible assumption | (simp (maxDischargeDepth := 7) [go_sem]; done) | (simp (maxDischargeDepth := 7) [go_sem, *]; done))
  try have hg4_1 : ∀ o, w4.frozen? ⟨w.heap.size + 1, o, none⟩ = false := by intro o; rw [hb]; first | (simp (maxDischargeDepth := 7) [go_sem]; done) | (simp (maxDischargeDepth := 7) [go_sem, *]; done)
  clear ha hb
  refine kuz (b := w.heap.size + 2) hk4 (by first | (simp; done) | (simp; omega) | omega) ?_
  intro ha hb hz4_2 hn4_2 hm4_2
  have hf4_2_0 : w4.cell? ⟨w.heap.size + 2, 0, none⟩ = some (.int .u64 n) := (ha _).trans (by first | with_reducible assumption | (simp (maxDischargeDepth := 7) [go_sem]; done) | (simp (maxDischargeDepth := 7) [go_sem, *]; done))
  have hf4_2_1 : w4.cell? ⟨w.heap.size + 2, 1, none⟩ = some (.int .u64 m) := (ha _).trans (by first | with_reducible assumption | (simp (maxDischargeDepth := 7) [go_sem]; done) | (simp (maxDischargeDepth := 7) [go_sem, *]; done))
  try have hg4_2 : ∀ o, w4.frozen? ⟨w.heap.size + 2, o, none⟩ = false := by intro o; rw [hb]; first | (simp (maxDischargeDepth := 7) [go_sem]; done) | (simp (maxDischargeDepth := 7) [go_sem, *]; done)
  clear ha hb
  refine kuz (b := w2.heap.size) hk4 (by first | (simp; done) | (simp; omega) | omega) ?_
  intro ha hb hz4_3 hn4_3 hm4_3
  have hf4_3_0 : w4.cell? ⟨w2.heap.size, 0, none⟩ = some (.int .i64 l) := (ha _).trans (by first | with_reducible assumption | (simp (maxDischargeDepth := 7) [go_sem]; done) | (simp (maxDischargeDepth := 7) [go_sem, *]; done))
  have hf4_3_1 : w4.cell? ⟨w2.heap.size, 1, none⟩ = some (.int .i64 g) := (ha _).trans (by first | with_reducible assumption | (simp (maxDischargeDepth := 7) [go_sem]; done) | (simp (maxDischargeDepth := 7) [go_sem, *]; done))
  try have hg4_3 : ∀ o, w4.frozen? ⟨w2.heap.size, o, none⟩ = false := by intro o; rw [hb]; first | (simp (maxDischargeDepth := 7) [go_sem]; done) | (simp (maxDischargeDepth := 7) [go_sem, *]; done)
  clear ha hb
  try clear hf3_0_0
  try clear hf3_0_1
  try clear hf3_1_0
  try clear hf3_1_1
  try clear hf3_2_0
  try clear hf3_2_1
  try clear hf3_3_0
  try clear hf3_3_1
  try clear hg3_0
  try clear hg3_1
  try clear hg3_2
  try clear hg3_3
  try clear hz3_1
  try clear hz3_2
  try clear hz3_3
  go_wp2_with fail
  with_reducible refine (HH.out _).mono ?_
  rintro e w5 ⟨rfl, hk5⟩
  refine kuz (b := w.heap.size) hk5 (by first | (simp; done) | (simp; omega) | omega) ?_
  intro ha hb hz5_0 hn5_0 hm5_0
  have hf5_0_0 : w5.cell? ⟨w.heap.size, 0, none⟩ = some (.int .i64 a) := (ha _).trans (by first | with_reducible assumption | (simp (maxDischargeDepth := 7) [go_sem]; done) | (simp (maxDischargeDepth := 7) [go_sem, *]; done))
  have hf5_0_1 : w5.cell? ⟨w.heap.size, 1, none⟩ = some (.int .i64 b) := (ha _).trans (by first | with_reducible assumption | (simp (maxDischargeDepth := 7) [go_sem]; done) | (simp (maxDischargeDepth := 7) [go_sem, *]; done))
  try have hg5_0 : ∀ o, w5.frozen? ⟨w.heap.size, o, none⟩ = false := by intro o; rw [hb]; first | (simp (maxDischargeDepth := 7) [go_sem]; done) | (simp (maxDischargeDepth := 7) [go_sem, *]; done)
  clear ha hb
  refine kuz (b := w.heap.size + 1) hk5 (by first | (simp; done) | (simp; omega) | omega) ?_
  intro ha hb hz5_1 hn5_1 hm5_1
  have hf5_1_0 : w5.cell? ⟨w.heap.size + 1, 0, none⟩ = some (.int .i64 c) := (ha _).trans (by first | with_reducible assumption | (simp (maxDischargeDepth := 7) [go_sem]; done) | (simp (maxDischargeDepth := 7) [go_sem, *]; done))
  have hf5_1_1 : w5.cell? ⟨w.heap.size + 1, 1, none⟩ = some (.int .i64 d) := (ha _).trans (by first | with_reducible assumption | (simp (maxDischargeDepth := 7) [go_sem]; done) | (simp (maxDischargeDepth := 7) [go_sem, *]; done))
  try have hg5_1 : ∀ o, w5.frozen? ⟨w.heap.size + 1, o, none⟩ = false := by intro o; rw [hb]; first | (simp (maxDischargeDepth := 7) [go_sem]; done) | (simp (maxDischargeDepth := 7) [go_sem, *]; done)
  clear ha hb
  refine kuz (b := w.heap.size + 2) hk5 (by first | (simp; done) | (simp; omega) | omega) ?_
  intro ha hb hz5_2 hn5_2 hm5_2
  have hf5_2_0 : w5.cell? ⟨w.heap.size + 2, 0, none⟩ = some (.int .u64 n) := (ha _).trans (by first | with_reducible assumption | (simp (maxDischargeDepth := 7) [go_sem]; done) | (simp (maxDischargeDepth := 7) [go_sem, *]; done))
  have hf5_2_1 : w5.cell? ⟨w.heap.size + 2, 1, none⟩ = some (.int .u64 m) := (ha _).trans (by first | with_reducible assumption | (simp (maxDischargeDepth := 7) [go_sem]; done) | (simp (maxDischargeDepth := 7) [go_sem, *]; done))
  try have hg5_2 : ∀ o, w5.frozen? ⟨w.heap.size + 2, o, none⟩ = false := by intro o; rw [hb]; first | (simp (maxDischargeDepth := 7) [go_sem]; done) | (simp (maxDischargeDepth := 7) [go_sem, *]; done)
  clear ha hb
  refine kuz (b := w2.heap.size) hk5 (by first | (simp; done) | (simp; omega) | omega) ?_
  intro ha hb hz5_3 hn5_3 hm5_3
  have hf5_3_0 : w5.cell? ⟨w2.heap.size, 0, none⟩ = some (.int .i64 l) := (ha _).trans (by first | with_reducible assumption | (simp (maxDischargeDepth := 7) [go_sem]; done) | (simp (maxDischargeDepth := 7) [go_sem, *]; done))
  have hf5_3_1 : w5.cell? ⟨w2.heap.size, 1, none⟩ = some (.int .i64 g) := (ha _).trans (by first | with_reducible assumption | (simp (maxDischargeDepth := 7) [go_sem]; done) | (simp (maxDischargeDepth := 7) [go_sem, *]; done))
  try have hg5_3 : ∀ o, w5.frozen? ⟨w2.heap.size, o, none⟩ = false := by intro o; rw [hb]; first | (simp (maxDischargeDepth := 7) [go_sem]; done) | (simp (maxDischargeDepth := 7) [go_sem, *]; done)
  clear ha hb
  try clear hf4_0_0
  try clear hf4_0_1
  try clear hf4_1_0
  try clear hf4_1_1
  try clear hf4_2_0
  try clear hf4_2_1
  try clear hf4_3_0
  try clear hf4_3_1
  try clear hg4_0
  try clear hg4_1
  try clear hg4_2
  try clear hg4_3
  try clear hz4_1
  try clear hz4_2
  try clear hz4_3
  go_wp2_with fail
  have B0 : OwnB w5 (w.heap.size) [.int .i64 a, .int .i64 b] := ⟨hz5_0, hg5_0, hf5_0_0, hf5_0_1, trivial⟩
  have HB0_0 := Lib.hid B0
  clear B0
  have B1 : OwnB w5 (w.heap.size + 1) [.int .i64 c, .int .i64 d] := ⟨hz5_1, hg5_1, hf5_1_0, hf5_1_1, trivial⟩
  have HB0_1 := Lib.hid B1
  clear B1
  have B2 : OwnB w5 (w.heap.size + 2) [.int .u64 n, .int .u64 m] := ⟨hz5_2, hg5_2, hf5_2_0, hf5_2_1, trivial⟩
  have HB0_2 := Lib.hid B2
  clear B2
  have B3 : OwnB w5 (w2.heap.size) [.int .i64 l, .int .i64 g] := ⟨hz5_3, hg5_3, hf5_3_0, hf5_3_1, trivial⟩
  have HB0_3 := Lib.hid B3
  clear B3
  go_upto_region 8 with (fail)
  go_cut [9, 10] (fun p0 p1 wx => ∃ b0 b1 : Nat, p0 = .pointer (some ⟨b0, 0, none⟩) ∧ p1 = .pointer (some ⟨b1, 0, none⟩) ∧ w2.heap.size < b0 ∧ w2.heap.size < b1 ∧ b1 ≠ b0 ∧ OwnB wx (b0) [.int .i64 (wh (u)), .int .u64 (wl (u))] ∧ OwnB wx (b1) [.int .i64 (wh (v)), .int .u64 (wl (v))] ∧ OwnB wx (w.heap.size) [.int .i64 a, .int .i64 b] ∧ OwnB wx (w.heap.size + 1) [.int .i64 c, .int .i64 d] ∧ OwnB wx (w.heap.size + 2) [.int .u64 n, .int .u64 m] ∧ OwnB wx (w2.heap.size) [.int .i64 l, .int .i64 g] ∧ Kept w5 wx)
  case first =>
    go_region_held3 (fun W => W.cell? ⟨w.heap.size, 0, none⟩ = some (.int .i64 a) ∧ W.cell? ⟨w.heap.size, 1, none⟩ = some (.int .i64 b) ∧ W.cell? ⟨w.heap.size + 1, 0, none⟩ = some (.int .i64 c) ∧ W.cell? ⟨w.heap.size + 1, 1, none⟩ = some (.int .i64 d) ∧ W.cell? ⟨w.heap.size + 2, 0, none⟩ = some (.int .u64 n) ∧ W.cell? ⟨w.heap.size + 2, 1, none⟩ = some (.int .u64 m)) (first | (go_keep; done) | (simp (maxDischargeDepth := 9) [*, World.cell?_alloc_some, World.cell?_setCell_far]; done) | (simp (maxDischargeDepth := 9) [go_sem, *]; done)) (first | (go_at_call 46; (with_reducible refine (HM1.out _).mono ?_); rintro e z0 ⟨rfl, hk⟩; have hz := hk.size; (try (refine kuse (b := w.heap.size) hk (by first | (simp; done) | (simp; omega) | omega) ?_; intro hq hg; have hy : w.heap.size < z0.heap.size := (by (try simp at hz); omega); have hn : ¬ w.heap.size = z0.heap.size := (by omega); have hm : ¬ w.heap.size = z0.heap.size + 1 := (by omega); have hn' : ¬ z0.heap.size = w.heap.size := (by omega); have hm' : ¬ z0.heap.size + 1 = w.heap.size := (by omega))); (try (refine kuse (b := w.heap.size + 1) hk (by first | (simp; done) | (simp; omega) | omega) ?_; intro hq hg; have hy : w.heap.size + 1 < z0.heap.size := (by (try simp at hz); omega); have hn : ¬ w.heap.size + 1 = z0.heap.size := (by omega); have hm : ¬ w.heap.size + 1 = z0.heap.size + 1 := (by omega); have hn' : ¬ z0.heap.size = w.heap.size + 1 := (by omega); have hm' : ¬ z0.heap.size + 1 = w.heap.size + 1 := (by omega))); (try (refine kuse (b := w.heap.size + 2) hk (by first | (simp; done) | (simp; omega) | omega) ?_; intro hq hg; have hy : w.heap.size + 2 < z0.heap.size := (by (try simp at hz); omega); have hn : ¬ w.heap.size + 2 = z0.heap.size := (by omega); have hm : ¬ w.heap.size + 2 = z0.heap.size + 1 := (by omega); have hn' : ¬ z0.heap.size = w.heap.size + 2 := (by omega); have hm' : ¬ z0.heap.size + 1 = w.heap.size + 2 := (by omega))); (try (refine kuse (b := w2.heap.size) hk (by first | (simp; done) | (simp; omega) | omega) ?_; intro hq hg; have hy : w2.heap.size < z0.heap.size := (by (try simp at hz); omega); have hn : ¬ w2.heap.size = z0.heap.size := (by omega); have hm : ¬ w2.heap.size = z0.heap.size + 1 := (by omega); have hn' : ¬ z0.heap.size = w2.heap.size := (by omega); have hm' : ¬ z0.heap.size + 1 = w2.heap.size := (by omega))); (try (have hle : w1.heap.size ≤ z0.heap.size := (by (try simp at hz); omega))); (try (have hle : w2.heap.size ≤ z0.heap.size := (by (try simp at hz); omega))); (try (have hle : w3.heap.size ≤ z0.heap.size := (by (try simp at hz); omega))); (try (have hle : w4.heap.size ≤ z0.heap.size := (by (try simp at hz); omega))); (try (have hle : w5.heap.size ≤ z0.heap.size := (by (try simp at hz); omega))); (try (refine kuse (b := w5.heap.size) hk (by first | (simp; done) | (simp; omega) | omega) ?_; intro hq hg; have hy : w5.heap.size < z0.heap.size := (by (try simp at hz); omega))); (try (refine kuse (b := w5.heap.size + 1) hk (by first | (simp; done) | (simp; omega) | omega) ?_; intro hq hg; have hy : w5.heap.size + 1 < z0.heap.size := (by (try simp at hz); omega))); (try (refine withF (p := z0.cell? ⟨w.heap.size, 0, none⟩ = some (.int .i64 a)) (by first | (simp (maxDischargeDepth := 7) [go_sem, *]; done) | fail) ?_; intro ff)); (try (refine withF (p := z0.cell? ⟨w.heap.size, 1, none⟩ = some (.int .i64 b)) (by first | (simp (maxDischargeDepth := 7) [go_sem, *]; done) | fail) ?_; intro ff)); (try (refine withF (p := z0.cell? ⟨w.heap.size + 1, 0, none⟩ = some (.int .i64 c)) (by first | (simp (maxDischargeDepth := 7) [go_sem, *]; done) | fail) ?_; intro ff)); (try (refine withF (p := z0.cell? ⟨w.heap.size + 1, 1, none⟩ = some (.int .i64 d)) (by first | (simp (maxDischargeDepth := 7) [go_sem, *]; done) | fail) ?_; intro ff)); (try (refine withF (p := z0.cell? ⟨w.heap.size + 2, 0, none⟩ = some (.int .u64 n)) (by first | (simp (maxDischargeDepth := 7) [go_sem, *]; done) | fail) ?_; intro ff)); (try (refine withF (p := z0.cell? ⟨w.heap.size + 2, 1, none⟩ = some (.int .u64 m)) (by first | (simp (maxDischargeDepth := 7) [go_sem, *]; done) | fail) ?_; intro ff))) | (go_at_call 49; (with_reducible refine (HO1.out _).mono ?_); rintro e z1 ⟨rfl, hk⟩; have hz := hk.size; (try (refine kuse (b := w.heap.size) hk (by first | (simp; done) | (simp; omega) | omega) ?_; intro hq hg; have hy : w.heap.size < z1.heap.size := (by (try simp at hz); omega); have hn : ¬ w.heap.size = z1.heap.size := (by omega); have hm : ¬ w.heap.size = z1.heap.size + 1 := (by omega); have hn' : ¬ z1.heap.size = w.heap.size := (by omega); have hm' : ¬ z1.heap.size + 1 = w.heap.size := (by omega))); (try (refine kuse (b := w.heap.size + 1) hk (by first | (simp; done) | (simp; omega) | omega) ?_; intro hq hg; have hy : w.heap.size + 1 < z1.heap.size := (by (try simp at hz); omega); have hn : ¬ w.heap.size + 1 = z1.heap.size := (by omega); have hm : ¬ w.heap.size + 1 = z1.heap.size + 1 := (by omega); have hn' : ¬ z1.heap.size = w.heap.size + 1 := (by omega); have hm' : ¬ z1.heap.size + 1 = w.heap.size + 1 := (by omega))); (try (refine kuse (b := w.heap.size + 2) hk (by first | (simp; done) | (simp; omega) | omega) ?_; intro hq hg; have hy : w.heap.size + 2 < z1.heap.size := (by (try simp at hz); omega); have hn : ¬ w.heap.size + 2 = z1.heap.size := (by omega); have hm : ¬ w.heap.size + 2 = z1.heap.size + 1 := (by omega); have hn' : ¬ z1.heap.size = w.heap.size + 2 := (by omega); have hm' : ¬ z1.heap.size + 1 = w.heap.size + 2 := (by omega))); (try (refine kuse (b := w2.heap.size) hk (by first | (simp; done) | (simp; omega) | omega) ?_; intro hq hg; have hy : w2.heap.size < z1.heap.size := (by (try simp at hz); omega); have hn : ¬ w2.heap.size = z1.heap.size := (by omega); have hm : ¬ w2.heap.size = z1.heap.size + 1 := (by omega); have hn' : ¬ z1.heap.size = w2.heap.size := (by omega); have hm' : ¬ z1.heap.size + 1 = w2.heap.size := (by omega))); (try (have hle : w1.heap.size ≤ z1.heap.size := (by (try simp at hz); omega))); (try (have hle : w2.heap.size ≤ z1.heap.size := (by (try simp at hz); omega))); (try (have hle : w3.heap.size ≤ z1.heap.size := (by (try simp at hz); omega))); (try (have hle : w4.heap.size ≤ z1.heap.size := (by (try simp at hz); omega))); (try (have hle : w5.heap.size ≤ z1.heap.size := (by (try simp at hz); omega))); (try (have hle : z0.heap.size ≤ z1.heap.size := (by (try simp at hz); omega))); (try (refine kuse (b := z0.heap.size) hk (by first | (simp; done) | (simp; omega) | omega) ?_; intro hq hg; have hy : z0.heap.size < z1.heap.size := (by (try simp at hz); omega))); (try (refine kuse (b := z0.heap.size + 1) hk (by first | (simp; done) | (simp; omega) | omega) ?_; intro hq hg; have hy : z0.heap.size + 1 < z1.heap.size := (by (try simp at hz); omega))); (try (refine kuse (b := w5.heap.size) hk (by first | (simp; done) | (simp; omega) | omega) ?_; intro hq hg; have hy : w5.heap.size < z1.heap.size := (by (try simp at hz); omega))); (try (refine kuse (b := w5.heap.size + 1) hk (by first | (simp; done) | (simp; omega) | omega) ?_; intro hq hg; have hy : w5.heap.size + 1 < z1.heap.size := (by (try simp at hz); omega))); (try (refine withF (p := z1.cell? ⟨w.heap.size, 0, none⟩ = some (.int .i64 a)) (by first | (simp (maxDischargeDepth := 7) [go_sem, *]; done) | fail) ?_; intro ff)); (try (refine withF (p := z1.cell? ⟨w.heap.size, 1, none⟩ = some (.int .i64 b)) (by first | (simp (maxDischargeDepth := 7) [go_sem, *]; done) | fail) ?_; intro ff)); (try (refine withF (p := z1.cell? ⟨w.heap.size + 1, 0, none⟩ = some (.int .i64 c)) (by first | (simp (maxDischargeDepth := 7) [go_sem, *]; done) | fail) ?_; intro ff)); (try (refine withF (p := z1.cell? ⟨w.heap.size + 1, 1, none⟩ = some (.int .i64 d)) (by first | (simp (maxDischargeDepth := 7) [go_sem, *]; done) | fail) ?_; intro ff)); (try (refine withF (p := z1.cell? ⟨w.heap.size + 2, 0, none⟩ = some (.int .u64 n)) (by first | (simp (maxDischargeDepth := 7) [go_sem, *]; done) | fail) ?_; intro ff)); (try (refine withF (p := z1.cell? ⟨w.heap.size + 2, 1, none⟩ = some (.int .u64 m)) (by first | (simp (maxDischargeDepth := 7) [go_sem, *]; done) | fail) ?_; intro ff))) | (go_at_call 46; (with_reducible refine (HM2.out _).mono ?_); rintro e z2 ⟨rfl, hk⟩; have hz := hk.size; (try (refine kuse (b := w.heap.size) hk (by first | (simp; done) | (simp; omega) | omega) ?_; intro hq hg; have hy : w.heap.size < z2.heap.size := (by (try simp at hz); omega); have hn : ¬ w.heap.size = z2.heap.size := (by omega); have hm : ¬ w.heap.size = z2.heap.size + 1 := (by omega); have hn' : ¬ z2.heap.size = w.heap.size := (by omega); have hm' : ¬ z2.heap.size + 1 = w.heap.size := (by omega))); (try (refine kuse (b := w.heap.size + 1) hk (by first | (simp; done) | (simp; omega) | omega) ?_; intro hq hg; have hy : w.heap.size + 1 < z2.heap.size := (by (try simp at hz); omega); have hn : ¬ w.heap.size + 1 = z2.heap.size := (by omega); have hm : ¬ w.heap.size + 1 = z2.heap.size + 1 := (by omega); have hn' : ¬ z2.heap.size = w.heap.size + 1 := (by omega); have hm' : ¬ z2.heap.size + 1 = w.heap.size + 1 := (by omega))); (try (refine kuse (b := w.heap.size + 2) hk (by first | (simp; done) | (simp; omega) | omega) ?_; intro hq hg; have hy : w.heap.size + 2 < z2.heap.size := (by (try simp at hz); omega); have hn : ¬ w.heap.size + 2 = z2.heap.size := (by omega); have hm : ¬ w.heap.size + 2 = z2.heap.size + 1 := (by omega); have hn' : ¬ z2.heap.size = w.heap.size + 2 := (by omega); have hm' : ¬ z2.heap.size + 1 = w.heap.size + 2 := (by omega))); (try (refine kuse (b := w2.heap.size) hk (by first | (simp; done) | (simp; omega) | omega) ?_; intro hq hg; have hy : w2.heap.size < z2.heap.size := (by (try simp at hz); omega); have hn : ¬ w2.heap.size = z2.heap.size := (by omega); have hm : ¬ w2.heap.size = z2.heap.size + 1 := (by omega); have hn' : ¬ z2.heap.size = w2.heap.size := (by omega); have hm' : ¬ z2.heap.size + 1 = w2.heap.size := (by omega))); (try (have hle : w1.heap.size ≤ z2.heap.size := (by (try simp at hz); omega))); (try (have hle : w2.heap.size ≤ z2.heap.size := (by (try simp at hz); omega))); (try (have hle : w3.heap.size ≤ z2.heap.size := (by (try simp at hz); omega))); (try (have hle : w4.heap.size ≤ z2.heap.size := (by (try simp at hz); omega))); (try (have hle : w5.heap.size ≤ z2.heap.size := (by (try simp at hz); omega))); (try (have hle : z0.heap.size ≤ z2.heap.size := (by (try simp at hz); omega))); (try (have hle : z1.heap.size ≤ z2.heap.size := (by (try simp at hz); omega))); (try (refine kuse (b := z0.heap.size) hk (by first | (simp; done) | (simp; omega) | omega) ?_; intro hq hg; have hy : z0.heap.size < z2.heap.size := (by (try simp at hz); omega))); (try (refine kuse (b := z0.heap.size + 1) hk (by first | (simp; done) | (simp; omega) | omega) ?_; intro hq hg; have hy : z0.heap.size + 1 < z2.heap.size := (by (try simp at hz); omega))); (try (refine kuse (b := z1.heap.size) hk (by first | (simp; done) | (simp; omega) | omega) ?_; intro hq hg; have hy : z1.heap.size < z2.heap.size := (by (try simp at hz); omega))); (try (refine kuse (b := z1.heap.size + 1) hk (by first | (simp; done) | (simp; omega) | omega) ?_; intro hq hg; have hy : z1.heap.size + 1 < z2.heap.size := (by (try simp at hz); omega))); (try (refine kuse (b := w5.heap.size) hk (by first | (simp; done) | (simp; omega) | omega) ?_; intro hq hg; have hy : w5.heap.size < z2.heap.size := (by (try simp at hz); omega))); (try (refine kuse (b := w5.heap.size + 1) hk (by first | (simp; done) | (simp; omega) | omega) ?_; intro hq hg; have hy : w5.heap.size + 1 < z2.heap.size := (by (try simp at hz); omega))); (try (refine withF (p := z2.cell? ⟨w.heap.size, 0, none⟩ = some (.int .i64 a)) (by first | (simp (maxDischargeDepth := 7) [go_sem, *]; done) | fail) ?_; intro ff)); (try (refine withF (p := z2.cell? ⟨w.heap.size, 1, none⟩ = some (.int .i64 b)) (by first | (simp (maxDischargeDepth := 7) [go_sem, *]; done) | fail) ?_; intro ff)); (try (refine withF (p := z2.cell? ⟨w.heap.size + 1, 0, none⟩ = some (.int .i64 c)) (by first | (simp (maxDischargeDepth := 7) [go_sem, *]; done) | fail) ?_; intro ff)); (try (refine withF (p := z2.cell? ⟨w.heap.size + 1, 1, none⟩ = some (.int .i64 d)) (by first | (simp (maxDischargeDepth := 7) [go_sem, *]; done) | fail) ?_; intro ff)); (try (refine withF (p := z2.cell? ⟨w.heap.size + 2, 0, none⟩ = some (.int .u64 n)) (by first | (simp (maxDischargeDepth := 7) [go_sem, *]; done) | fail) ?_; intro ff)); (try (refine withF (p := z2.cell? ⟨w.heap.size + 2, 1, none⟩ = some (.int .u64 m)) (by first | (simp (maxDischargeDepth := 7) [go_sem, *]; done) | fail) ?_; intro ff))) | (go_at_call 49; (with_reducible refine (HO2.out _).mono ?_); rintro e z3 ⟨rfl, hk⟩; have hz := hk.size; (try (refine kuse (b := w.heap.size) hk (by first | (simp; done) | (simp; omega) | omega) ?_; intro hq hg; have hy : w.heap.size < z3.heap.size := (by (try simp at hz); omega); have hn : ¬ w.heap.size = z3.heap.size := (by omega); have hm : ¬ w.heap.size = z3.heap.size + 1 := (by omega); have hn' : ¬ z3.heap.size = w.heap.size := (by omega); have hm' : ¬ z3.heap.size + 1 = w.heap.size := (by omega))); (try (refine kuse (b := w.heap.size + 1) hk (by first | (simp; done) | (simp; omega) | omega) ?_; intro hq hg; have hy : w.heap.size + 1 < z3.heap.size := (by (try simp at hz); omega); have hn : ¬ w.heap.size + 1 = z3.heap.size := (by omega); have hm : ¬ w.heap.size + 1 = z3.heap.size + 1 := (by omega); have hn' : ¬ z3.heap.size = w.heap.size + 1 := (by omega); have hm' : ¬ z3.heap.size + 1 = w.heap.size + 1 := (by omega))); (try (refine kuse (b := w.heap.size + 2) hk (by first | (simp; done) | (simp; omega) | omega) ?_; intro hq hg; have hy : w.heap.size + 2 < z3.heap.size := (by (try simp at hz); omega); have hn : ¬ w.heap.size + 2 = z3.heap.size := (by omega); have hm : ¬ w.heap.size + 2 = z3.heap.size + 1 := (by omega); have hn' : ¬ z3.heap.size = w.heap.size + 2 := (by omega); have hm' : ¬ z3.heap.size + 1 = w.heap.size + 2 := (by omega))); (try (refine kuse (b := w2.heap.size) hk (by first | (simp; done) | (simp; omega) | omega) ?_; intro hq hg; have hy : w2.heap.size < z3.heap.size := (by (try simp at hz); omega); have hn : ¬ w2.heap.size = z3.heap.size := (by omega); have hm : ¬ w2.heap.size = z3.heap.size + 1 := (by omega); have hn' : ¬ z3.heap.size = w2.heap.size := (by omega); have hm' : ¬ z3.heap.size + 1 = w2.heap.size := (by omega))); (try (have hle : w1.heap.size ≤ z3.heap.size := (by (try simp at hz); omega))); (try (have hle : w2.heap.size ≤ z3.heap.size := (by (try simp at hz); omega))); (try (have hle : w3.heap.size ≤ z3.heap.size := (by (try simp at hz); omega))); (try (have hle : w4.heap.size ≤ z3.heap.size := (by (try simp at hz); omega))); (try (have hle : w5.heap.size ≤ z3.heap.size := (by (try simp at hz); omega))); (try (have hle : z0.heap.size ≤ z3.heap.size := (by (try simp at hz); omega))); (try (have hle : z1.heap.size ≤ z3.heap.size := (by (try simp at hz); omega))); (try (have hle : z2.heap.size ≤ z3.heap.size := (by (try simp at hz); omega))); (try (refine kuse (b := z0.heap.size) hk (by first | (simp; done) | (simp; omega) | omega) ?_; intro hq hg; have hy : z0.heap.size < z3.heap.size := (by (try simp at hz); omega))); (try (refine kuse (b := z0.heap.size + 1) hk (by first | (simp; done) | (simp; omega) | omega) ?_; intro hq hg; have hy : z0.heap.size + 1 < z3.heap.size := (by (try simp at hz); omega))); (try (refine kuse (b := z1.heap.size) hk (by first | (simp; done) | (simp; omega) | omega) ?_; intro hq hg; have hy : z1.heap.size < z3.heap.size := (by (try simp at hz); omega))); (try (refine kuse (b := z1.heap.size + 1) hk (by first | (simp; done) | (simp; omega) | omega) ?_; intro hq hg; have hy : z1.heap.size + 1 < z3.heap.size := (by (try simp at hz); omega))); (try (refine kuse (b := z2.heap.size) hk (by first | (simp; done) | (simp; omega) | omega) ?_; intro hq hg; have hy : z2.heap.size < z3.heap.size := (by (try simp at hz); omega))); (try (refine kuse (b := z2.heap.size + 1) hk (by first | (simp; done) | (simp; omega) | omega) ?_; intro hq hg; have hy : z2.heap.size + 1 < z3.heap.size := (by (try simp at hz); omega))); (try (refine kuse (b := w5.heap.size) hk (by first | (simp; done) | (simp; omega) | omega) ?_; intro hq hg; have hy : w5.heap.size < z3.heap.size := (by (try simp at hz); omega))); (try (refine kuse (b := w5.heap.size + 1) hk (by first | (simp; done) | (simp; omega) | omega) ?_; intro hq hg; have hy : w5.heap.size + 1 < z3.heap.size := (by (try simp at hz); omega))); (try (refine withF (p := z3.cell? ⟨w.heap.size, 0, none⟩ = some (.int .i64 a)) (by first | (simp (maxDischargeDepth := 7) [go_sem, *]; done) | fail) ?_; intro ff)); (try (refine withF (p := z3.cell? ⟨w.heap.size, 1, none⟩ = some (.int .i64 b)) (by first | (simp (maxDischargeDepth := 7) [go_sem, *]; done) | fail) ?_; intro ff)); (try (refine withF (p := z3.cell? ⟨w.heap.size + 1, 0, none⟩ = some (.int .i64 c)) (by first | (simp (maxDischargeDepth := 7) [go_sem, *]; done) | fail) ?_; intro ff)); (try (refine withF (p := z3.cell? ⟨w.heap.size + 1, 1, none⟩ = some (.int .i64 d)) (by first | (simp (maxDischargeDepth := 7) [go_sem, *]; done) | fail) ?_; intro ff)); (try (refine withF (p := z3.cell? ⟨w.heap.size + 2, 0, none⟩ = some (.int .u64 n)) (by first | (simp (maxDischargeDepth := 7) [go_sem, *]; done) | fail) ?_; intro ff)); (try (refine withF (p := z3.cell? ⟨w.heap.size + 2, 1, none⟩ = some (.int .u64 m)) (by first | (simp (maxDischargeDepth := 7) [go_sem, *]; done) | fail) ?_; intro ff))))
    all_goals (try go_wp2_with fail)
    all_goals (go_meet; case rel => refine (fun (hkx : Kept w5 _) => ⟨_, _, rfl, rfl, (by first | with_reducible assumption | omega | (simp; omega)), (by first | with_reducible assumption | omega | (simp; omega)), (by first | with_reducible assumption | omega | (simp; omega)), (by repeat (first | with_reducible exact own_alloc _ [.int .i64 (wh (u)), .int .u64 (wl (u))] 45 | with_reducible exact own_alloc _ [.int .i64 0, .int .u64 0] 45 | ((with_reducible refine own_allocE _ [.int .i64 (wh (u)), .int .u64 (wl (u))] 45 _ ?_); (simp; done)) | ((with_reducible refine own_allocE _ [.int .i64 0, .int .u64 0] 45 _ ?_); (simp; done)) | with_reducible refine own_set2 (us := [.int .i64 0, .int .u64 0]) ?_ rfl | with_reducible refine OwnB.other2 ?_ (by first | with_reducible assumption | omega | (simp; done) | (simp; omega)) | with_reducible refine OwnB.alloc ?_ _ | with_reducible refine OwnB.drew ?_ | with_reducible refine OwnB.drewN ?_ _ | with_reducible refine OwnB.kept (by with_reducible assumption) ?_)), (by repeat (first | with_reducible exact own_alloc _ [.int .i64 (wh (v)), .int .u64 (wl (v))] 45 | with_reducible exact own_alloc _ [.int .i64 0, .int .u64 0] 45 | ((with_reducible refine own_allocE _ [.int .i64 (wh (v)), .int .u64 (wl (v))] 45 _ ?_); (simp; done)) | ((with_reducible refine own_allocE _ [.int .i64 0, .int .u64 0] 45 _ ?_); (simp; done)) | with_reducible refine own_set2 (us := [.int .i64 0, .int .u64 0]) ?_ rfl | with_reducible refine OwnB.other2 ?_ (by first | with_reducible assumption | omega | (simp; done) | (simp; omega)) | with_reducible refine OwnB.alloc ?_ _ | with_reducible refine OwnB.drew ?_ | with_reducible refine OwnB.drewN ?_ _ | with_reducible refine OwnB.kept (by with_reducible assumption) ?_)), OwnB.kept hkx HB0_0.out, OwnB.kept hkx HB0_1.out, OwnB.kept hkx HB0_2.out, OwnB.kept hkx HB0_3.out, hkx⟩) ?_; exact (by repeat (first | with_reducible exact Kept.refl _ | with_reducible assumption | with_reducible refine Kept.set12 ?_ (by first | with_reducible assumption | omega | (simp; done) | (simp; omega)) | with_reducible refine Kept.set11 ?_ (by first | with_reducible assumption | omega | (simp; done) | (simp; omega)) | with_reducible refine Kept.set10 ?_ (by first | with_reducible assumption | omega | (simp; done) | (simp; omega)) | with_reducible refine Kept.set9 ?_ (by first | with_reducible assumption | omega | (simp; done) | (simp; omega)) | with_reducible refine Kept.set8 ?_ (by first | with_reducible assumption | omega | (simp; done) | (simp; omega)) | with_reducible refine Kept.set7 ?_ (by first | with_reducible assumption | omega | (simp; done) | (simp; omega)) | with_reducible refine Kept.set6 ?_ (by first | with_reducible assumption | omega | (simp; done) | (simp; omega)) | with_reducible refine Kept.set5 ?_ (by first | with_reducible assumption | omega | (simp; done) | (simp; omega)) | with_reducible refine Kept.set4 ?_ (by first | with_reducible assumption | omega | (simp; done) | (simp; omega)) | with_reducible refine Kept.set3 ?_ (by first | with_reducible assumption | omega | (simp; done) | (simp; omega)) | with_reducible refine Kept.set2 ?_ (by first | with_reducible assumption | omega | (simp; done) | (simp; omega)) | with_reducible refine Kept.setCell ?_ (by first | with_reducible assumption | omega | (simp; done) | (simp; omega)) _ | with_reducible refine Kept.alloc ?_ _ | with_reducible refine Kept.drewN ?_ _ | with_reducible refine Kept.drew ?_ | with_reducible refine Kept.trans ?_ (by with_reducible assumption) | with_reducible refine Kept.dr ?_ (by with_reducible assumption))))
  case rest =>
  obtain ⟨b1_0, b1_1, rfl, rfl, lt1_0, lt1_1, ne1_1_0, O1_0, O1_1, O1_2, O1_3, O1_4, O1_5, hkc1⟩ := hcut
  obtain ⟨hz_c1_0, hg_c1_0, hf_c1_0_0, hf_c1_0_1, _⟩ := O1_0
  obtain ⟨hz_c1_1, hg_c1_1, hf_c1_1_0, hf_c1_1_1, _⟩ := O1_1
  obtain ⟨hz_c1_2, hg_c1_2, hf_c1_2_0, hf_c1_2_1, _⟩ := O1_2
  obtain ⟨hz_c1_3, hg_c1_3, hf_c1_3_0, hf_c1_3_1, _⟩ := O1_3
  obtain ⟨hz_c1_4, hg_c1_4, hf_c1_4_0, hf_c1_4_1, _⟩ := O1_4
  obtain ⟨hz_c1_5, hg_c1_5, hf_c1_5_0, hf_c1_5_1, _⟩ := O1_5
  try clear hf5_0_0
  try clear hf5_0_1
  try clear hf5_1_0
  try clear hf5_1_1
  try clear hf5_2_0
  try clear hf5_2_1
  try clear hf5_3_0
  try clear hf5_3_1
  try clear hg5_0
  try clear hg5_1
  try clear hg5_2
  try clear hg5_3
  try clear hz5_1
  try clear hz5_2
  try clear hz5_3
  have HO0_0 : Hid (OwnB wc (b1_0) [.int .i64 (wh (u)), .int .u64 (wl (u))]) := Lib.hid ⟨hz_c1_0, hg_c1_0, hf_c1_0_0, hf_c1_0_1, trivial⟩
  have HO0_1 : Hid (OwnB wc (b1_1) [.int .i64 (wh (v)), .int .u64 (wl (v))]) := Lib.hid ⟨hz_c1_1, hg_c1_1, hf_c1_1_0, hf_c1_1_1, trivial⟩
  have HO0_2 : Hid (OwnB wc (w.heap.size) [.int .i64 a, .int .i64 b]) := Lib.hid ⟨hz_c1_2, hg_c1_2, hf_c1_2_0, hf_c1_2_1, trivial⟩
  have HO0_3 : Hid (OwnB wc (w.heap.size + 1) [.int .i64 c, .int .i64 d]) := Lib.hid ⟨hz_c1_3, hg_c1_3, hf_c1_3_0, hf_c1_3_1, trivial⟩
  have HO0_4 : Hid (OwnB wc (w.heap.size + 2) [.int .u64 n, .int .u64 m]) := Lib.hid ⟨hz_c1_4, hg_c1_4, hf_c1_4_0, hf_c1_4_1, trivial⟩
  have HO0_5 : Hid (OwnB wc (w2.heap.size) [.int .i64 l, .int .i64 g]) := Lib.hid ⟨hz_c1_5, hg_c1_5, hf_c1_5_0, hf_c1_5_1, trivial⟩
  have HK0 : Hid (Kept w wc) := Lib.hid (by repeat (first | with_reducible exact Kept.refl _ | with_reducible assumption | with_reducible refine Kept.setCell ?_ (by first | (simp; done) | (simp; omega) | omega) _ | with_reducible refine Kept.alloc ?_ _ | with_reducible refine Kept.drewN ?_ _ | with_reducible refine Kept.drew ?_ | with_reducible refine Kept.trans ?_ (by with_reducible assumption) | with_reducible refine Kept.dr ?_ (by with_reducible assumption)))
  have nw0 : w.heap.size ≤ b1_0 := by first | omega | (have := HK0.out.size; omega)
  have nb0_1 : ¬ b1_0 = b1_1 := by omega
  have nc0_1 : ¬ b1_1 = b1_0 := by omega
  have nw1 : w.heap.size ≤ b1_1 := by first | omega | (have := HK0.out.size; omega)
  have nb0_2 : ¬ b1_0 = w.heap.size := by omega
  have nc0_2 : ¬ w.heap.size = b1_0 := by omega
  have nb1_2 : ¬ b1_1 = w.heap.size := by omega
  have nc1_2 : ¬ w.heap.size = b1_1 := by omega
  have nw2 : w.heap.size ≤ w.heap.size := by first | omega | (have := HK0.out.size; omega)
  have nb0_3 : ¬ b1_0 = w.heap.size + 1 := by omega
  have nc0_3 : ¬ w.heap.size + 1 = b1_0 := by omega
  have nb1_3 : ¬ b1_1 = w.heap.size + 1 := by omega
  have nc1_3 : ¬ w.heap.size + 1 = b1_1 := by omega
  have nb2_3 : ¬ w.heap.size = w.heap.size + 1 := by omega
  have nc2_3 : ¬ w.heap.size + 1 = w.heap.size := by omega
  have nw3 : w.heap.size ≤ w.heap.size + 1 := by first | omega | (have := HK0.out.size; omega)
  have nb0_4 : ¬ b1_0 = w.heap.size + 2 := by omega
  have nc0_4 : ¬ w.heap.size + 2 = b1_0 := by omega
  have nb1_4 : ¬ b1_1 = w.heap.size + 2 := by omega
  have nc1_4 : ¬ w.heap.size + 2 = b1_1 := by omega
  have nb2_4 : ¬ w.heap.size = w.heap.size + 2 := by omega
  have nc2_4 : ¬ w.heap.size + 2 = w.heap.size := by omega
  have nb3_4 : ¬ w.heap.size + 1 = w.heap.size + 2 := by omega
  have nc3_4 : ¬ w.heap.size + 2 = w.heap.size + 1 := by omega
  have nw4 : w.heap.size ≤ w.heap.size + 2 := by first | omega | (have := HK0.out.size; omega)
  have nb0_5 : ¬ b1_0 = w2.heap.size := by omega
  have nc0_5 : ¬ w2.heap.size = b1_0 := by omega
  have nb1_5 : ¬ b1_1 = w2.heap.size := by omega
  have nc1_5 : ¬ w2.heap.size = b1_1 := by omega
  have nb2_5 : ¬ w.heap.size = w2.heap.size := by omega
  have nc2_5 : ¬ w2.heap.size = w.heap.size := by omega
  have nb3_5 : ¬ w.heap.size + 1 = w2.heap.size := by omega
  have nc3_5 : ¬ w2.heap.size = w.heap.size + 1 := by omega
  have nb4_5 : ¬ w.heap.size + 2 = w2.heap.size := by omega
  have nc4_5 : ¬ w2.heap.size = w.heap.size + 2 := by omega
  have nw5 : w.heap.size ≤ w2.heap.size := by first | omega | (have := HK0.out.size; omega)
  try clear hk1
  try clear hz1_0
  try clear hn1_0
  try clear hm1_0
  try clear hg1_0
  try clear hf1_0_0
  try clear hf1_0_1
  try clear hf1_0_2
  try clear hf1_0_3
  try clear hf1_0_4
  try clear hf1_0_5
  try clear hf1_0_6
  try clear hf1_0_7
  try clear hf1_0_8
  try clear hf1_0_9
  try clear hf1_0_10
  try clear hf1_0_11
  try clear hz1_1
  try clear hn1_1
  try clear hm1_1
  try clear hg1_1
  try clear hf1_1_0
  try clear hf1_1_1
  try clear hf1_1_2
  try clear hf1_1_3
  try clear hf1_1_4
  try clear hf1_1_5
  try clear hf1_1_6
  try clear hf1_1_7
  try clear hf1_1_8
  try clear hf1_1_9
  try clear hf1_1_10
  try clear hf1_1_11
  try clear hz1_2
  try clear hn1_2
  try clear hm1_2
  try clear hg1_2
  try clear hf1_2_0
  try clear hf1_2_1
  try clear hf1_2_2
  try clear hf1_2_3
  try clear hf1_2_4
  try clear hf1_2_5
  try clear hf1_2_6
  try clear hf1_2_7
  try clear hf1_2_8
  try clear hf1_2_9
  try clear hf1_2_10
  try clear hf1_2_11
  try clear hz1_3
  try clear hn1_3
  try clear hm1_3
  try clear hg1_3
  try clear hf1_3_0
  try clear hf1_3_1
  try clear hf1_3_2
  try clear hf1_3_3
  try clear hf1_3_4
  try clear hf1_3_5
  try clear hf1_3_6
  try clear hf1_3_7
  try clear hf1_3_8
  try clear hf1_3_9
  try clear hf1_3_10
  try clear hf1_3_11
  try clear hz1_4
  try clear hn1_4
  try clear hm1_4
  try clear hg1_4
  try clear hf1_4_0
  try clear hf1_4_1
  try clear hf1_4_2
  try clear hf1_4_3
  try clear hf1_4_4
  try clear hf1_4_5
  try clear hf1_4_6
  try clear hf1_4_7
  try clear hf1_4_8
  try clear hf1_4_9
  try clear hf1_4_10
  try clear hf1_4_11
  try clear hz1_5
  try clear hn1_5
  try clear hm1_5
  try clear hg1_5
  try clear hf1_5_0
  try clear hf1_5_1
  try clear hf1_5_2
  try clear hf1_5_3
  try clear hf1_5_4
  try clear hf1_5_5
  try clear hf1_5_6
  try clear hf1_5_7
  try clear hf1_5_8
  try clear hf1_5_9
  try clear hf1_5_10
  try clear hf1_5_11
  try clear hk2
  try clear hz2_0
  try clear hn2_0
  try clear hm2_0
  try clear hg2_0
  try clear hf2_0_0
  try clear hf2_0_1
  try clear hf2_0_2
  try clear hf2_0_3
  try clear hf2_0_4
  try clear hf2_0_5
  try clear hf2_0_6
  try clear hf2_0_7
  try clear hf2_0_8
  try clear hf2_0_9
  try clear hf2_0_10
  try clear hf2_0_11
  try clear hz2_1
  try clear hn2_1
  try clear hm2_1
  try clear hg2_1
  try clear hf2_1_0
  try clear hf2_1_1
  try clear hf2_1_2
  try clear hf2_1_3
  try clear hf2_1_4
  try clear hf2_1_5
  try clear hf2_1_6
  try clear hf2_1_7
  try clear hf2_1_8
  try clear hf2_1_9
  try clear hf2_1_10
  try clear hf2_1_11
  try clear hz2_2
  try clear hn2_2
  try clear hm2_2
  try clear hg2_2
  try clear hf2_2_0
  try clear hf2_2_1
  try clear hf2_2_2
  try clear hf2_2_3
  try clear hf2_2_4
  try clear hf2_2_5
  try clear hf2_2_6
  try clear hf2_2_7
  try clear hf2_2_8
  try clear hf2_2_9
  try clear hf2_2_10
  try clear hf2_2_11
  try clear hz2_3
  try clear hn2_3
  try clear hm2_3
  try clear hg2_3
  try clear hf2_3_0
  try clear hf2_3_1
  try clear hf2_3_2
  try clear hf2_3_3
  try clear hf2_3_4
  try clear hf2_3_5
  try clear hf2_3_6
  try clear hf2_3_7
  try clear hf2_3_8
  try clear hf2_3_9
  try clear hf2_3_10
  try clear hf2_3_11
  try clear hz2_4
  try clear hn2_4
  try clear hm2_4
  try clear hg2_4
  try clear hf2_4_0
  try clear hf2_4_1
  try clear hf2_4_2
  try clear hf2_4_3
  try clear hf2_4_4
  try clear hf2_4_5
  try clear hf2_4_6
  try clear hf2_4_7
  try clear hf2_4_8
  try clear hf2_4_9
  try clear hf2_4_10
  try clear hf2_4_11
  try clear hz2_5
  try clear hn2_5
  try clear hm2_5
  try clear hg2_5
  try clear hf2_5_0
  try clear hf2_5_1
  try clear hf2_5_2
  try clear hf2_5_3
  try clear hf2_5_4
  try clear hf2_5_5
  try clear hf2_5_6
  try clear hf2_5_7
  try clear hf2_5_8
  try clear hf2_5_9
  try clear hf2_5_10
  try clear hf2_5_11
  try clear hk3
  try clear hz3_0
  try clear hn3_0
  try clear hm3_0
  try clear hg3_0
  try clear hf3_0_0
  try clear hf3_0_1
  try clear hf3_0_2
  try clear hf3_0_3
  try clear hf3_0_4
  try clear hf3_0_5
  try clear hf3_0_6
  try clear hf3_0_7
  try clear hf3_0_8
  try clear hf3_0_9
  try clear hf3_0_10
  try clear hf3_0_11
  try clear hz3_1
  try clear hn3_1
  try clear hm3_1
  try clear hg3_1
  try clear hf3_1_0
  try clear hf3_1_1
  try clear hf3_1_2
  try clear hf3_1_3
  try clear hf3_1_4
  try clear hf3_1_5
  try clear hf3_1_6
  try clear hf3_1_7
  try clear hf3_1_8
  try clear hf3_1_9
  try clear hf3_1_10
  try clear hf3_1_11
  try clear hz3_2
  try clear hn3_2
  try clear hm3_2
  try clear hg3_2
  try clear hf3_2_0
  try clear hf3_2_1
  try clear hf3_2_2
  try clear hf3_2_3
  try clear hf3_2_4
  try clear hf3_2_5
  try clear hf3_2_6
  try clear hf3_2_7
  try clear hf3_2_8
  try clear hf3_2_9
  try clear hf3_2_10
  try clear hf3_2_11
  try clear hz3_3
  try clear hn3_3
  try clear hm3_3
  try clear hg3_3
  try clear hf3_3_0
  try clear hf3_3_1
  try clear hf3_3_2
  try clear hf3_3_3
  try clear hf3_3_4
  try clear hf3_3_5
  try clear hf3_3_6
  try clear hf3_3_7
  try clear hf3_3_8
  try clear hf3_3_9
  try clear hf3_3_10
  try clear hf3_3_11
  try clear hz3_4
  try clear hn3_4
  try clear hm3_4
  try clear hg3_4
  try clear hf3_4_0
  try clear hf3_4_1
  try clear hf3_4_2
  try clear hf3_4_3
  try clear hf3_4_4
  try clear hf3_4_5
  try clear hf3_4_6
  try clear hf3_4_7
  try clear hf3_4_8
  try clear hf3_4_9
  try clear hf3_4_10
  try clear hf3_4_11
  try clear hz3_5
  try clear hn3_5
  try clear hm3_5
  try clear hg3_5
  try clear hf3_5_0
  try clear hf3_5_1
  try clear hf3_5_2
  try clear hf3_5_3
  try clear hf3_5_4
  try clear hf3_5_5
  try clear hf3_5_6
  try clear hf3_5_7
  try clear hf3_5_8
  try clear hf3_5_9
  try clear hf3_5_10
  try clear hf3_5_11
  try clear hk4
  try clear hz4_0
  try clear hn4_0
  try clear hm4_0
  try clear hg4_0
  try clear hf4_0_0
  try clear hf4_0_1
  try clear hf4_0_2
  try clear hf4_0_3
  try clear hf4_0_4
  try clear hf4_0_5
  try clear hf4_0_6
  try clear hf4_0_7
  try clear hf4_0_8
  try clear hf4_0_9
  try clear hf4_0_10
  try clear hf4_0_11
  try clear hz4_1
  try clear hn4_1
  try clear hm4_1
  try clear hg4_1
  try clear hf4_1_0
  try clear hf4_1_1
  try clear hf4_1_2
  try clear hf4_1_3
  try clear hf4_1_4
  try clear hf4_1_5
  try clear hf4_1_6
  try clear hf4_1_7
  try clear hf4_1_8
  try clear hf4_1_9
  try clear hf4_1_10
  try clear hf4_1_11
  try clear hz4_2
  try clear hn4_2
  try clear hm4_2
  try clear hg4_2
  try clear hf4_2_0
  try clear hf4_2_1
  try clear hf4_2_2
  try clear hf4_2_3
  try clear hf4_2_4
  try clear hf4_2_5
  try clear hf4_2_6
  try clear hf4_2_7
  try clear hf4_2_8
  try clear hf4_2_9
  try clear hf4_2_10
  try clear hf4_2_11
  try clear hz4_3
  try clear hn4_3
  try clear hm4_3
  try clear hg4_3
  try clear hf4_3_0
  try clear hf4_3_1
  try clear hf4_3_2
  try clear hf4_3_3
  try clear hf4_3_4
  try clear hf4_3_5
  try clear hf4_3_6
  try clear hf4_3_7
  try clear hf4_3_8
  try clear hf4_3_9
  try clear hf4_3_10
  try clear hf4_3_11
  try clear hz4_4
  try clear hn4_4
  try clear hm4_4
  try clear hg4_4
  try clear hf4_4_0
  try clear hf4_4_1
  try clear hf4_4_2
  try clear hf4_4_3
  try clear hf4_4_4
  try clear hf4_4_5
  try clear hf4_4_6
  try clear hf4_4_7
  try clear hf4_4_8
  try clear hf4_4_9
  try clear hf4_4_10
  try clear hf4_4_11
  try clear hz4_5
  try clear hn4_5
  try clear hm4_5
  try clear hg4_5
  try clear hf4_5_0
  try clear hf4_5_1
  try clear hf4_5_2
  try clear hf4_5_3
  try clear hf4_5_4
  try clear hf4_5_5
  try clear hf4_5_6
  try clear hf4_5_7
  try clear hf4_5_8
  try clear hf4_5_9
  try clear hf4_5_10
  try clear hf4_5_11
  try clear hk5
  try clear hz5_0
  try clear hn5_0
  try clear hm5_0
  try clear hg5_0
  try clear hf5_0_0
  try clear hf5_0_1
  try clear hf5_0_2
  try clear hf5_0_3
  try clear hf5_0_4
  try clear hf5_0_5
  try clear hf5_0_6
  try clear hf5_0_7
  try clear hf5_0_8
  try clear hf5_0_9
  try clear hf5_0_10
  try clear hf5_0_11
  try clear hz5_1
  try clear hn5_1
  try clear hm5_1
  try clear hg5_1
  try clear hf5_1_0
  try clear hf5_1_1
  try clear hf5_1_2
  try clear hf5_1_3
  try clear hf5_1_4
  try clear hf5_1_5
  try clear hf5_1_6
  try clear hf5_1_7
  try clear hf5_1_8
  try clear hf5_1_9
  try clear hf5_1_10
  try clear hf5_1_11
  try clear hz5_2
  try clear hn5_2
  try clear hm5_2
  try clear hg5_2
  try clear hf5_2_0
  try clear hf5_2_1
  try clear hf5_2_2
  try clear hf5_2_3
  try clear hf5_2_4
  try clear hf5_2_5
  try clear hf5_2_6
  try clear hf5_2_7
  try clear hf5_2_8
  try clear hf5_2_9
  try clear hf5_2_10
  try clear hf5_2_11
  try clear hz5_3
  try clear hn5_3
  try clear hm5_3
  try clear hg5_3
  try clear hf5_3_0
  try clear hf5_3_1
  try clear hf5_3_2
  try clear hf5_3_3
  try clear hf5_3_4
  try clear hf5_3_5
  try clear hf5_3_6
  try clear hf5_3_7
  try clear hf5_3_8
  try clear hf5_3_9
  try clear hf5_3_10
  try clear hf5_3_11
  try clear hz5_4
  try clear hn5_4
  try clear hm5_4
  try clear hg5_4
  try clear hf5_4_0
  try clear hf5_4_1
  try clear hf5_4_2
  try clear hf5_4_3
  try clear hf5_4_4
  try clear hf5_4_5
  try clear hf5_4_6
  try clear hf5_4_7
  try clear hf5_4_8
  try clear hf5_4_9
  try clear hf5_4_10
  try clear hf5_4_11
  try clear hz5_5
  try clear hn5_5
  try clear hm5_5
  try clear hg5_5
  try clear hf5_5_0
  try clear hf5_5_1
  try clear hf5_5_2
  try clear hf5_5_3
  try clear hf5_5_4
  try clear hf5_5_5
  try clear hf5_5_6
  try clear hf5_5_7
  try clear hf5_5_8
  try clear hf5_5_9
  try clear hf5_5_10
  try clear hf5_5_11
  obtain ⟨oz0, og0, of0_0, of0_1, _⟩ := HO0_0.out
  obtain ⟨oz1, og1, of1_0, of1_1, _⟩ := HO0_1.out
  obtain ⟨oz2, og2, of2_0, of2_1, _⟩ := HO0_2.out
  obtain ⟨oz3, og3, of3_0, of3_1, _⟩ := HO0_3.out
  obtain ⟨oz4, og4, of4_0, of4_1, _⟩ := HO0_4.out
  obtain ⟨oz5, og5, of5_0, of5_1, _⟩ := HO0_5.out
  go_wp2_with fail
  try clear oz0 og0 of0_0 of0_1 oz1 og1 of1_0 of1_1 oz2 og2 of2_0 of2_1 oz3 og3 of3_0 of3_1 oz4 og4 of4_0 of4_1 oz5 og5 of5_0 of5_1
  with_reducible refine (HD.out _).mono ?_
  rintro e w10 ⟨rfl, hk⟩
  have HO1_0 : Hid (OwnB w10 (b1_0) [.int .i64 (wh (u)), .int .u64 (wl (u))]) := Lib.hid (OwnB.kept hk (by repeat (first | with_reducible exact HO0_0.out | with_reducible refine OwnB.setOther ?_ (by first | with_reducible assumption | omega) | with_reducible refine OwnB.drew ?_ | with_reducible refine OwnB.drewN ?_ _ | with_reducible refine OwnB.alloc ?_ _ | with_reducible refine OwnB.kept (by with_reducible assumption) ?_)))
  have HO1_1 : Hid (OwnB w10 (b1_1) [.int .i64 (wh (v)), .int .u64 (wl (v))]) := Lib.hid (OwnB.kept hk (by repeat (first | with_reducible exact HO0_1.out | with_reducible refine OwnB.setOther ?_ (by first | with_reducible assumption | omega) | with_reducible refine OwnB.drew ?_ | with_reducible refine OwnB.drewN ?_ _ | with_reducible refine OwnB.alloc ?_ _ | with_reducible refine OwnB.kept (by with_reducible assumption) ?_)))
  have HO1_2 : Hid (OwnB w10 (w.heap.size) [.int .i64 a, .int .i64 b]) := Lib.hid (OwnB.kept hk (by repeat (first | with_reducible exact HO0_2.out | with_reducible refine OwnB.setOther ?_ (by first | with_reducible assumption | omega) | with_reducible refine OwnB.drew ?_ | with_reducible refine OwnB.drewN ?_ _ | with_reducible refine OwnB.alloc ?_ _ | with_reducible refine OwnB.kept (by with_reducible assumption) ?_)))
  have HO1_3 : Hid (OwnB w10 (w.heap.size + 1) [.int .i64 c, .int .i64 d]) := Lib.hid (OwnB.kept hk (by repeat (first | with_reducible exact HO0_3.out | with_reducible refine OwnB.setOther ?_ (by first | with_reducible assumption | omega) | with_reducible refine OwnB.drew ?_ | with_reducible refine OwnB.drewN ?_ _ | with_reducible refine OwnB.alloc ?_ _ | with_reducible refine OwnB.kept (by with_reducible assumption) ?_)))
  have HO1_4 : Hid (OwnB w10 (w.heap.size + 2) [.int .u64 n, .int .u64 m]) := Lib.hid (OwnB.kept hk (by repeat (first | with_reducible exact HO0_4.out | with_reducible refine OwnB.setOther ?_ (by first | with_reducible assumption | omega) | with_reducible refine OwnB.drew ?_ | with_reducible refine OwnB.drewN ?_ _ | with_reducible refine OwnB.alloc ?_ _ | with_reducible refine OwnB.kept (by with_reducible assumption) ?_)))
  have HO1_5 : Hid (OwnB w10 (w2.heap.size) [.int .i64 l, .int .i64 g]) := Lib.hid (OwnB.kept hk (by repeat (first | with_reducible exact HO0_5.out | with_reducible refine OwnB.setOther ?_ (by first | with_reducible assumption | omega) | with_reducible refine OwnB.drew ?_ | with_reducible refine OwnB.drewN ?_ _ | with_reducible refine OwnB.alloc ?_ _ | with_reducible refine OwnB.kept (by with_reducible assumption) ?_)))
  have HK1 : Hid (Kept w w10) := Lib.hid (Kept.trans (by repeat (first | with_reducible exact HK0.out | with_reducible refine Kept.setCell ?_ (by first | with_reducible assumption | omega) _ | with_reducible refine Kept.drew ?_ | with_reducible refine Kept.drewN ?_ _ | with_reducible refine Kept.alloc ?_ _ | with_reducible refine Kept.trans ?_ (by with_reducible assumption))) hk)
  clear hk HO0_0 HO0_1 HO0_2 HO0_3 HO0_4 HO0_5 HK0
  obtain ⟨oz0, og0, of0_0, of0_1, _⟩ := HO1_0.out
  obtain ⟨oz1, og1, of1_0, of1_1, _⟩ := HO1_1.out
  obtain ⟨oz2, og2, of2_0, of2_1, _⟩ := HO1_2.out
  obtain ⟨oz3, og3, of3_0, of3_1, _⟩ := HO1_3.out
  obtain ⟨oz4, og4, of4_0, of4_1, _⟩ := HO1_4.out
  obtain ⟨oz5, og5, of5_0, of5_1, _⟩ := HO1_5.out
  have nb0_6 : ¬ b1_0 = w10.heap.size := by omega
  have nc0_6 : ¬ w10.heap.size = b1_0 := by omega
  have nb1_6 : ¬ b1_1 = w10.heap.size := by omega
  have nc1_6 : ¬ w10.heap.size = b1_1 := by omega
  have nb2_6 : ¬ w.heap.size = w10.heap.size := by omega
  have nc2_6 : ¬ w10.heap.size = w.heap.size := by omega
  have nb3_6 : ¬ w.heap.size + 1 = w10.heap.size := by omega
  have nc3_6 : ¬ w10.heap.size = w.heap.size + 1 := by omega
  have nb4_6 : ¬ w.heap.size + 2 = w10.heap.size := by omega
  have nc4_6 : ¬ w10.heap.size = w.heap.size + 2 := by omega
  have nb5_6 : ¬ w2.heap.size = w10.heap.size := by omega
  have nc5_6 : ¬ w10.heap.size = w2.heap.size := by omega
  have nw6 : w.heap.size ≤ w10.heap.size := HK1.out.size
  go_wp2_with fail
  try clear oz0 og0 of0_0 of0_1 oz1 og1 of1_0 of1_1 oz2 og2 of2_0 of2_1 oz3 og3 of3_0 of3_1 oz4 og4 of4_0 of4_1 oz5 og5 of5_0 of5_1
  with_reducible refine (HU.out _).mono ?_
  rintro e w11 ⟨rfl, hk⟩
  have HO2_0 : Hid (OwnB w11 (b1_0) [.int .i64 (wh (u)), .int .u64 (wl (u))]) := Lib.hid (OwnB.kept hk (by repeat (first | with_reducible exact HO1_0.out | with_reducible refine OwnB.setOther ?_ (by first | with_reducible assumption | omega) | with_reducible refine OwnB.drew ?_ | with_reducible refine OwnB.drewN ?_ _ | with_reducible refine OwnB.alloc ?_ _ | with_reducible refine OwnB.kept (by with_reducible assumption) ?_)))
  have HO2_1 : Hid (OwnB w11 (b1_1) [.int .i64 (wh (v)), .int .u64 (wl (v))]) := Lib.hid (OwnB.kept hk (by repeat (first | with_reducible exact HO1_1.out | with_reducible refine OwnB.setOther ?_ (by first | with_reducible assumption | omega) | with_reducible refine OwnB.drew ?_ | with_reducible refine OwnB.drewN ?_ _ | with_reducible refine OwnB.alloc ?_ _ | with_reducible refine OwnB.kept (by with_reducible assumption) ?_)))
  have HO2_2 : Hid (OwnB w11 (w.heap.size) [.int .i64 a, .int .i64 b]) := Lib.hid (OwnB.kept hk (by repeat (first | with_reducible exact HO1_2.out | with_reducible refine OwnB.setOther ?_ (by first | with_reducible assumption | omega) | with_reducible refine OwnB.drew ?_ | with_reducible refine OwnB.drewN ?_ _ | with_reducible refine OwnB.alloc ?_ _ | with_reducible refine OwnB.kept (by with_reducible assumption) ?_)))
  have HO2_3 : Hid (OwnB w11 (w.heap.size + 1) [.int .i64 c, .int .i64 d]) := Lib.hid (OwnB.kept hk (by repeat (first | with_reducible exact HO1_3.out | with_reducible refine OwnB.setOther ?_ (by first | with_reducible assumption | omega) | with_reducible refine OwnB.drew ?_ | with_reducible refine OwnB.drewN ?_ _ | with_reducible refine OwnB.alloc ?_ _ | with_reducible refine OwnB.kept (by with_reducible assumption) ?_)))
  have HO2_4 : Hid (OwnB w11 (w.heap.size + 2) [.int .u64 n, .int .u64 m]) := Lib.hid (OwnB.kept hk (by repeat (first | with_reducible exact HO1_4.out | with_reducible refine OwnB.setOther ?_ (by first | with_reducible assumption | omega) | with_reducible refine OwnB.drew ?_ | with_reducible refine OwnB.drewN ?_ _ | with_reducible refine OwnB.alloc ?_ _ | with_reducible refine OwnB.kept (by with_reducible assumption) ?_)))
  have HO2_5 : Hid (OwnB w11 (w2.heap.size) [.int .i64 l, .int .i64 g]) := Lib.hid (OwnB.kept hk (by repeat (first | with_reducible exact HO1_5.out | with_reducible refine OwnB.setOther ?_ (by first | with_reducible assumption | omega) | with_reducible refine OwnB.drew ?_ | with_reducible refine OwnB.drewN ?_ _ | with_reducible refine OwnB.alloc ?_ _ | with_reducible refine OwnB.kept (by with_reducible assumption) ?_)))
  have HO2_6 : Hid (OwnB w11 (w10.heap.size) [.int .i64 (wh (D)), .int .u64 (wl (D))]) := Lib.hid (OwnB.kept hk (by repeat (first | with_reducible exact own_alloc _ [.int .i64 (wh (D)), .int .u64 (wl (D))] 45 | with_reducible refine OwnB.setOther ?_ (by first | with_reducible assumption | omega) | with_reducible refine OwnB.drew ?_ | with_reducible refine OwnB.drewN ?_ _ | with_reducible refine OwnB.alloc ?_ _ | with_reducible refine OwnB.kept (by with_reducible assumption) ?_)))
  have HK2 : Hid (Kept w w11) := Lib.hid (Kept.trans (by repeat (first | with_reducible exact HK1.out | with_reducible refine Kept.setCell ?_ (by first | with_reducible assumption | omega) _ | with_reducible refine Kept.drew ?_ | with_reducible refine Kept.drewN ?_ _ | with_reducible refine Kept.alloc ?_ _ | with_reducible refine Kept.trans ?_ (by with_reducible assumption))) hk)
  clear hk HO1_0 HO1_1 HO1_2 HO1_3 HO1_4 HO1_5 HK1
  obtain ⟨oz0, og0, of0_0, of0_1, _⟩ := HO2_0.out
  obtain ⟨oz1, og1, of1_0, of1_1, _⟩ := HO2_1.out
  obtain ⟨oz2, og2, of2_0, of2_1, _⟩ := HO2_2.out
  obtain ⟨oz3, og3, of3_0, of3_1, _⟩ := HO2_3.out
  obtain ⟨oz4, og4, of4_0, of4_1, _⟩ := HO2_4.out
  obtain ⟨oz5, og5, of5_0, of5_1, _⟩ := HO2_5.out
  obtain ⟨oz6, og6, of6_0, of6_1, _⟩ := HO2_6.out
  have nb0_7 : ¬ b1_0 = w11.heap.size := by omega
  have nc0_7 : ¬ w11.heap.size = b1_0 := by omega
  have nb1_7 : ¬ b1_1 = w11.heap.size := by omega
  have nc1_7 : ¬ w11.heap.size = b1_1 := by omega
  have nb2_7 : ¬ w.heap.size = w11.heap.size := by omega
  have nc2_7 : ¬ w11.heap.size = w.heap.size := by omega
  have nb3_7 : ¬ w.heap.size + 1 = w11.heap.size := by omega
  have nc3_7 : ¬ w11.heap.size = w.heap.size + 1 := by omega
  have nb4_7 : ¬ w.heap.size + 2 = w11.heap.size := by omega
  have nc4_7 : ¬ w11.heap.size = w.heap.size + 2 := by omega
  have nb5_7 : ¬ w2.heap.size = w11.heap.size := by omega
  have nc5_7 : ¬ w11.heap.size = w2.heap.size := by omega
  have nb6_7 : ¬ w10.heap.size = w11.heap.size := by omega
  have nc6_7 : ¬ w11.heap.size = w10.heap.size := by omega
  have nw7 : w.heap.size ≤ w11.heap.size := HK2.out.size
  go_wp2_with fail
  try clear oz0 og0 of0_0 of0_1 oz1 og1 of1_0 of1_1 oz2 og2 of2_0 of2_1 oz3 og3 of3_0 of3_1 oz4 og4 of4_0 of4_1 oz5 og5 of5_0 of5_1 oz6 og6 of6_0 of6_1
  have HO2_7 : Hid (OwnB _ (w11.heap.size) [.int .i64 (wh (C)), .int .u64 (wl (C))]) := Lib.hid (own_alloc w11 [.int .i64 (wh (C)), .int .u64 (wl (C))] 45)
  have HA0 := Lib.hid (OwnB.alloc HO2_0.out (.cells #[.int .i64 (wh (C)), .int .u64 (wl (C))] 45))
  clear HO2_0
  have HO2_0 := HA0
  clear HA0
  have HA1 := Lib.hid (OwnB.alloc HO2_1.out (.cells #[.int .i64 (wh (C)), .int .u64 (wl (C))] 45))
  clear HO2_1
  have HO2_1 := HA1
  clear HA1
  have HA2 := Lib.hid (OwnB.alloc HO2_2.out (.cells #[.int .i64 (wh (C)), .int .u64 (wl (C))] 45))
  clear HO2_2
  have HO2_2 := HA2
  clear HA2
  have HA3 := Lib.hid (OwnB.alloc HO2_3.out (.cells #[.int .i64 (wh (C)), .int .u64 (wl (C))] 45))
  clear HO2_3
  have HO2_3 := HA3
  clear HA3
  have HA4 := Lib.hid (OwnB.alloc HO2_4.out (.cells #[.int .i64 (wh (C)), .int .u64 (wl (C))] 45))
  clear HO2_4
  have HO2_4 := HA4
  clear HA4
  have HA5 := Lib.hid (OwnB.alloc HO2_5.out (.cells #[.int .i64 (wh (C)), .int .u64 (wl (C))] 45))
  clear HO2_5
  have HO2_5 := HA5
  clear HA5
  have HA6 := Lib.hid (OwnB.alloc HO2_6.out (.cells #[.int .i64 (wh (C)), .int .u64 (wl (C))] 45))
  clear HO2_6
  have HO2_6 := HA6
  clear HA6
  obtain ⟨oz0, og0, of0_0, of0_1, _⟩ := HO2_0.out
  obtain ⟨oz1, og1, of1_0, of1_1, _⟩ := HO2_1.out
  obtain ⟨oz2, og2, of2_0, of2_1, _⟩ := HO2_2.out
  obtain ⟨oz3, og3, of3_0, of3_1, _⟩ := HO2_3.out
  obtain ⟨oz4, og4, of4_0, of4_1, _⟩ := HO2_4.out
  obtain ⟨oz5, og5, of5_0, of5_1, _⟩ := HO2_5.out
  obtain ⟨oz6, og6, of6_0, of6_1, _⟩ := HO2_6.out
  obtain ⟨oz7, og7, of7_0, of7_1, _⟩ := HO2_7.out
  have oy0 : b1_0 < w11.heap.size + 1 := by first | omega | (have h := oz0; simpa using h)
  have oy1 : b1_1 < w11.heap.size + 1 := by first | omega | (have h := oz1; simpa using h)
  have oy2 : w.heap.size < w11.heap.size + 1 := by first | omega | (have h := oz2; simpa using h)
  have oy3 : w.heap.size + 1 < w11.heap.size + 1 := by first | omega | (have h := oz3; simpa using h)
  have oy4 : w.heap.size + 2 < w11.heap.size + 1 := by first | omega | (have h := oz4; simpa using h)
  have oy5 : w2.heap.size < w11.heap.size + 1 := by first | omega | (have h := oz5; simpa using h)
  have oy6 : w10.heap.size < w11.heap.size + 1 := by first | omega | (have h := oz6; simpa using h)
  have oy7 : w11.heap.size < w11.heap.size + 1 := by first | omega | (have h := oz7; simpa using h)
  rcases hr1 with rfl | rfl
  · rcases hr2 with rfl | rfl
    · first | (go_region_held3 (fun W => W.cell? ⟨w2.heap.size, 0, none⟩ = some (.int .i64 l) ∧ W.cell? ⟨w2.heap.size, 1, none⟩ = some (.int .i64 g) ∧ W.cell? ⟨w10.heap.size, 0, none⟩ = some (.int .i64 (wh (D))) ∧ W.cell? ⟨w10.heap.size, 1, none⟩ = some (.int .u64 (wl (D))) ∧ W.cell? ⟨w11.heap.size, 0, none⟩ = some (.int .i64 (wh (C))) ∧ W.cell? ⟨w11.heap.size, 1, none⟩ = some (.int .u64 (wl (C))) ∧ W.cell? ⟨w.heap.size, 0, none⟩ = some (.int .i64 a) ∧ W.cell? ⟨w.heap.size, 1, none⟩ = some (.int .i64 b) ∧ W.cell? ⟨b1_0, 0, none⟩ = some (.int .i64 (wh (u))) ∧ W.cell? ⟨b1_0, 1, none⟩ = some (.int .u64 (wl (u)))) (first | (go_keep; done) | (simp (maxDischargeDepth := 9) [*, World.cell?_alloc_some, World.cell?_setCell_far]; done) | (simp (maxDischargeDepth := 9) [go_sem, *]; done)) (first | (go_at_call 49; with_reducible refine (HO3.out _).mono ?_; rintro e wz ⟨rfl, hk⟩; refine kuse (b := w2.heap.size) hk (by first | with_reducible assumption | (simp; done) | (simp; omega) | omega) ?_; intro hq hg; have hy : w2.heap.size < wz.heap.size := kept_lt hk (by first | with_reducible assumption | (simp; done) | (simp; omega) | omega); have ff := (hq 0).trans (show _ = some (.int .i64 l) by first | with_reducible assumption | (simp (maxDischargeDepth := 5) [go_sem]; done) | (simp (maxDischargeDepth := 5) [go_sem, *]; done)); have ff := (hq 1).trans (show _ = some (.int .i64 g) by first | with_reducible assumption | (simp (maxDischargeDepth := 5) [go_sem]; done) | (simp (maxDischargeDepth := 5) [go_sem, *]; done)); have gg := fun o => (hg o).trans (show _ = false by first | (with_reducible apply_assumption; done) | (simp (maxDischargeDepth := 5) [go_sem]; done) | (simp (maxDischargeDepth := 5) [go_sem, *]; done)); clear hq hg; refine kuse (b := w10.heap.size) hk (by first | with_reducible assumption | (simp; done) | (simp; omega) | omega) ?_; intro hq hg; have hy : w10.heap.size < wz.heap.size := kept_lt hk (by first | with_reducible assumption | (simp; done) | (simp; omega) | omega); have ff := (hq 0).trans (show _ = some (.int .i64 (wh (D))) by first | with_reducible assumption | (simp (maxDischargeDepth := 5) [go_sem]; done) | (simp (maxDischargeDepth := 5) [go_sem, *]; done)); have ff := (hq 1).trans (show _ = some (.int .u64 (wl (D))) by first | with_reducible assumption | (simp (maxDischargeDepth := 5) [go_sem]; done) | (simp (maxDischargeDepth := 5) [go_sem, *]; done)); have gg := fun o => (hg o).trans (show _ = false by first | (with_reducible apply_assumption; done) | (simp (maxDischargeDepth := 5) [go_sem]; done) | (simp (maxDischargeDepth := 5) [go_sem, *]; done)); clear hq hg; refine kuse (b := w11.heap.size) hk (by first | with_reducible assumption | (simp; done) | (simp; omega) | omega) ?_; intro hq hg; have hy : w11.heap.size < wz.heap.size := kept_lt hk (by first | with_reducible assumption | (simp; done) | (simp; omega) | omega); have ff := (hq 0).trans (show _ = some (.int .i64 (wh (C))) by first | with_reducible assumption | (simp (maxDischargeDepth := 5) [go_sem]; done) | (simp (maxDischargeDepth := 5) [go_sem, *]; done)); have ff := (hq 1).trans (show _ = some (.int .u64 (wl (C))) by first | with_reducible assumption | (simp (maxDischargeDepth := 5) [go_sem]; done) | (simp (maxDischargeDepth := 5) [go_sem, *]; done)); have gg := fun o => (hg o).trans (show _ = false by first | (with_reducible apply_assumption; done) | (simp (maxDischargeDepth := 5) [go_sem]; done) | (simp (maxDischargeDepth := 5) [go_sem, *]; done)); clear hq hg; refine kuse (b := w.heap.size) hk (by first | with_reducible assumption | (simp; done) | (simp; omega) | omega) ?_; intro hq hg; have hy : w.heap.size < wz.heap.size := kept_lt hk (by first | with_reducible assumption | (simp; done) | (simp; omega) | omega); have ff := (hq 0).trans (show _ = some (.int .i64 a) by first | with_reducible assumption | (simp (maxDischargeDepth := 5) [go_sem]; done) | (simp (maxDischargeDepth := 5) [go_sem, *]; done)); have ff := (hq 1).trans (show _ = some (.int .i64 b) by first | with_reducible assumption | (simp (maxDischargeDepth := 5) [go_sem]; done) | (simp (maxDischargeDepth := 5) [go_sem, *]; done)); have gg := fun o => (hg o).trans (show _ = false by first | (with_reducible apply_assumption; done) | (simp (maxDischargeDepth := 5) [go_sem]; done) | (simp (maxDischargeDepth := 5) [go_sem, *]; done)); clear hq hg; refine kuse (b := b1_0) hk (by first | with_reducible assumption | (simp; done) | (simp; omega) | omega) ?_; intro hq hg; have hy : b1_0 < wz.heap.size := kept_lt hk (by first | with_reducible assumption | (simp; done) | (simp; omega) | omega); have ff := (hq 0).trans (show _ = some (.int .i64 (wh (u))) by first | with_reducible assumption | (simp (maxDischargeDepth := 5) [go_sem]; done) | (simp (maxDischargeDepth := 5) [go_sem, *]; done)); have ff := (hq 1).trans (show _ = some (.int .u64 (wl (u))) by first | with_reducible assumption | (simp (maxDischargeDepth := 5) [go_sem]; done) | (simp (maxDischargeDepth := 5) [go_sem, *]; done)); have gg := fun o => (hg o).trans (show _ = false by first | (with_reducible apply_assumption; done) | (simp (maxDischargeDepth := 5) [go_sem]; done) | (simp (maxDischargeDepth := 5) [go_sem, *]; done)); clear hq hg) | (go_at_call 49; with_reducible refine (HO4.out _).mono ?_; rintro e wz ⟨rfl, hk⟩; refine kuse (b := w2.heap.size) hk (by first | with_reducible assumption | (simp; done) | (simp; omega) | omega) ?_; intro hq hg; have hy : w2.heap.size < wz.heap.size := kept_lt hk (by first | with_reducible assumption | (simp; done) | (simp; omega) | omega); have ff := (hq 0).trans (show _ = some (.int .i64 l) by first | with_reducible assumption | (simp (maxDischargeDepth := 5) [go_sem]; done) | (simp (maxDischargeDepth := 5) [go_sem, *]; done)); have ff := (hq 1).trans (show _ = some (.int .i64 g) by first | with_reducible assumption | (simp (maxDischargeDepth := 5) [go_sem]; done) | (simp (maxDischargeDepth := 5) [go_sem, *]; done)); have gg := fun o => (hg o).trans (show _ = false by first | (with_reducible apply_assumption; done) | (simp (maxDischargeDepth := 5) [go_sem]; done) | (simp (maxDischargeDepth := 5) [go_sem, *]; done)); clear hq hg; refine kuse (b := w10.heap.size) hk (by first | with_reducible assumption | (simp; done) | (simp; omega) | omega) ?_; intro hq hg; have hy : w10.heap.size < wz.heap.size := kept_lt hk (by first | with_reducible assumption | (simp; done) | (simp; omega) | omega); have ff := (hq 0).trans (show _ = some (.int .i64 (wh (D))) by first | with_reducible assumption | (simp (maxDischargeDepth := 5) [go_sem]; done) | (simp (maxDischargeDepth := 5) [go_sem, *]; done)); have ff := (hq 1).trans (show _ = some (.int .u64 (wl (D))) by first | with_reducible assumption | (simp (maxDischargeDepth := 5) [go_sem]; done) | (simp (maxDischargeDepth := 5) [go_sem, *]; done)); have gg := fun o => (hg o).trans (show _ = false by first | (with_reducible apply_assumption; done) | (simp (maxDischargeDepth := 5) [go_sem]; done) | (simp (maxDischargeDepth := 5) [go_sem, *]; done)); clear hq hg; refine kuse (b := w11.heap.size) hk (by first | with_reducible assumption | (simp; done) | (simp; omega) | omega) ?_; intro hq hg; have hy : w11.heap.size < wz.heap.size := kept_lt hk (by first | with_reducible assumption | (simp; done) | (simp; omega) | omega); have ff := (hq 0).trans (show _ = some (.int .i64 (wh (C))) by first | with_reducible assumption | (simp (maxDischargeDepth := 5) [go_sem]; done) | (simp (maxDischargeDepth := 5) [go_sem, *]; done)); have ff := (hq 1).trans (show _ = some (.int .u64 (wl (C))) by first | with_reducible assumption | (simp (maxDischargeDepth := 5) [go_sem]; done) | (simp (maxDischargeDepth := 5) [go_sem, *]; done)); have gg := fun o => (hg o).trans (show _ = false by first | (with_reducible apply_assumption; done) | (simp (maxDischargeDepth := 5) [go_sem]; done) | (simp (maxDischargeDepth := 5) [go_sem, *]; done)); clear hq hg; refine kuse (b := w.heap.size) hk (by first | with_reducible assumption | (simp; done) | (simp; omega) | omega) ?_; intro hq hg; have hy : w.heap.size < wz.heap.size := kept_lt hk (by first | with_reducible assumption | (simp; done) | (simp; omega) | omega); have ff := (hq 0).trans (show _ = some (.int .i64 a) by first | with_reducible assumption | (simp (maxDischargeDepth := 5) [go_sem]; done) | (simp (maxDischargeDepth := 5) [go_sem, *]; done)); have ff := (hq 1).trans (show _ = some (.int .i64 b) by first | with_reducible assumption | (simp (maxDischargeDepth := 5) [go_sem]; done) | (simp (maxDischargeDepth := 5) [go_sem, *]; done)); have gg := fun o => (hg o).trans (show _ = false by first | (with_reducible apply_assumption; done) | (simp (maxDischargeDepth := 5) [go_sem]; done) | (simp (maxDischargeDepth := 5) [go_sem, *]; done)); clear hq hg; refine kuse (b := b1_0) hk (by first | with_reducible assumption | (simp; done) | (simp; omega) | omega) ?_; intro hq hg; have hy : b1_0 < wz.heap.size := kept_lt hk (by first | with_reducible assumption | (simp; done) | (simp; omega) | omega); have ff := (hq 0).trans (show _ = some (.int .i64 (wh (u))) by first | with_reducible assumption | (simp (maxDischargeDepth := 5) [go_sem]; done) | (simp (maxDischargeDepth := 5) [go_sem, *]; done)); have ff := (hq 1).trans (show _ = some (.int .u64 (wl (u))) by first | with_reducible assumption | (simp (maxDischargeDepth := 5) [go_sem]; done) | (simp (maxDischargeDepth := 5) [go_sem, *]; done)); have gg := fun o => (hg o).trans (show _ = false by first | (with_reducible apply_assumption; done) | (simp (maxDischargeDepth := 5) [go_sem]; done) | (simp (maxDischargeDepth := 5) [go_sem, *]; done)); clear hq hg) | (go_at_call 52; with_reducible refine (HC1.out _).mono ?_; rintro e wz ⟨rfl, hk⟩; refine kuse (b := w2.heap.size) hk (by first | with_reducible assumption | (simp; done) | (simp; omega) | omega) ?_; intro hq hg; have hy : w2.heap.size < wz.heap.size := kept_lt hk (by first | with_reducible assumption | (simp; done) | (simp; omega) | omega); have ff := (hq 0).trans (show _ = some (.int .i64 l) by first | with_reducible assumption | (simp (maxDischargeDepth := 5) [go_sem]; done) | (simp (maxDischargeDepth := 5) [go_sem, *]; done)); have ff := (hq 1).trans (show _ = some (.int .i64 g) by first | with_reducible assumption | (simp (maxDischargeDepth := 5) [go_sem]; done) | (simp (maxDischargeDepth := 5) [go_sem, *]; done)); have gg := fun o => (hg o).trans (show _ = false by first | (with_reducible apply_assumption; done) | (simp (maxDischargeDepth := 5) [go_sem]; done) | (simp (maxDischargeDepth := 5) [go_sem, *]; done)); clear hq hg; refine kuse (b := w10.heap.size) hk (by first | with_reducible assumption | (simp; done) | (simp; omega) | omega) ?_; intro hq hg; have hy : w10.heap.size < wz.heap.size := kept_lt hk (by first | with_reducible assumption | (simp; done) | (simp; omega) | omega); have ff := (hq 0).trans (show _ = some (.int .i64 (wh (D))) by first | with_reducible assumption | (simp (maxDischargeDepth := 5) [go_sem]; done) | (simp (maxDischargeDepth := 5) [go_sem, *]; done)); have ff := (hq 1).trans (show _ = some (.int .u64 (wl (D))) by first | with_reducible assumption | (simp (maxDischargeDepth := 5) [go_sem]; done) | (simp (maxDischargeDepth := 5) [go_sem, *]; done)); have gg := fun o => (hg o).trans (show _ = false by first | (with_reducible apply_assumption; done) | (simp (maxDischargeDepth := 5) [go_sem]; done) | (simp (maxDischargeDepth := 5) [go_sem, *]; done)); clear hq hg; refine kuse (b := w11.heap.size) hk (by first | with_reducible assumption | (simp; done) | (simp; omega) | omega) ?_; intro hq hg; have hy : w11.heap.size < wz.heap.size := kept_lt hk (by first | with_reducible assumption | (simp; done) | (simp; omega) | omega); have ff := (hq 0).trans (show _ = some (.int .i64 (wh (C))) by first | with_reducible assumption | (simp (maxDischargeDepth := 5) [go_sem]; done) | (simp (maxDischargeDepth := 5) [go_sem, *]; done)); have ff := (hq 1).trans (show _ = some (.int .u64 (wl (C))) by first | with_reducible assumption | (simp (maxDischargeDepth := 5) [go_sem]; done) | (simp (maxDischargeDepth := 5) [go_sem, *]; done)); have gg := fun o => (hg o).trans (show _ = false by first | (with_reducible apply_assumption; done) | (simp (maxDischargeDepth := 5) [go_sem]; done) | (simp (maxDischargeDepth := 5) [go_sem, *]; done)); clear hq hg; refine kuse (b := w.heap.size) hk (by first | with_reducible assumption | (simp; done) | (simp; omega) | omega) ?_; intro hq hg; have hy : w.heap.size < wz.heap.size := kept_lt hk (by first | with_reducible assumption | (simp; done) | (simp; omega) | omega); have ff := (hq 0).trans (show _ = some (.int .i64 a) by first | with_reducible assumption | (simp (maxDischargeDepth := 5) [go_sem]; done) | (simp (maxDischargeDepth := 5) [go_sem, *]; done)); have ff := (hq 1).trans (show _ = some (.int .i64 b) by first | with_reducible assumption | (simp (maxDischargeDepth := 5) [go_sem]; done) | (simp (maxDischargeDepth := 5) [go_sem, *]; done)); have gg := fun o => (hg o).trans (show _ = false by first | (with_reducible apply_assumption; done) | (simp (maxDischargeDepth := 5) [go_sem]; done) | (simp (maxDischargeDepth := 5) [go_sem, *]; done)); clear hq hg; refine kuse (b := b1_0) hk (by first | with_reducible assumption | (simp; done) | (simp; omega) | omega) ?_; intro hq hg; have hy : b1_0 < wz.heap.size := kept_lt hk (by first | with_reducible assumption | (simp; done) | (simp; omega) | omega); have ff := (hq 0).trans (show _ = some (.int .i64 (wh (u))) by first | with_reducible assumption | (simp (maxDischargeDepth := 5) [go_sem]; done) | (simp (maxDischargeDepth := 5) [go_sem, *]; done)); have ff := (hq 1).trans (show _ = some (.int .u64 (wl (u))) by first | with_reducible assumption | (simp (maxDischargeDepth := 5) [go_sem]; done) | (simp (maxDischargeDepth := 5) [go_sem, *]; done)); have gg := fun o => (hg o).trans (show _ = false by first | (with_reducible apply_assumption; done) | (simp (maxDischargeDepth := 5) [go_sem]; done) | (simp (maxDischargeDepth := 5) [go_sem, *]; done)); clear hq hg) | (go_at_call 52; with_reducible refine (HC2.out _).mono ?_; rintro e wz ⟨rfl, hk⟩; refine kuse (b := w2.heap.size) hk (by first | with_reducible assumption | (simp; done) | (simp; omega) | omega) ?_; intro hq hg; have hy : w2.heap.size < wz.heap.size := kept_lt hk (by first | with_reducible assumption | (simp; done) | (simp; omega) | omega); have ff := (hq 0).trans (show _ = some (.int .i64 l) by first | with_reducible assumption | (simp (maxDischargeDepth := 5) [go_sem]; done) | (simp (maxDischargeDepth := 5) [go_sem, *]; done)); have ff := (hq 1).trans (show _ = some (.int .i64 g) by first | with_reducible assumption | (simp (maxDischargeDepth := 5) [go_sem]; done) | (simp (maxDischargeDepth := 5) [go_sem, *]; done)); have gg := fun o => (hg o).trans (show _ = false by first | (with_reducible apply_assumption; done) | (simp (maxDischargeDepth := 5) [go_sem]; done) | (simp (maxDischargeDepth := 5) [go_sem, *]; done)); clear hq hg; refine kuse (b := w10.heap.size) hk (by first | with_reducible assumption | (simp; done) | (simp; omega) | omega) ?_; intro hq hg; have hy : w10.heap.size < wz.heap.size := kept_lt hk (by first | with_reducible assumption | (simp; done) | (simp; omega) | omega); have ff := (hq 0).trans (show _ = some (.int .i64 (wh (D))) by first | with_reducible assumption | (simp (maxDischargeDepth := 5) [go_sem]; done) | (simp (maxDischargeDepth := 5) [go_sem, *]; done)); have ff := (hq 1).trans (show _ = some (.int .u64 (wl (D))) by first | with_reducible assumption | (simp (maxDischargeDepth := 5) [go_sem]; done) | (simp (maxDischargeDepth := 5) [go_sem, *]; done)); have gg := fun o => (hg o).trans (show _ = false by first | (with_reducible apply_assumption; done) | (simp (maxDischargeDepth := 5) [go_sem]; done) | (simp (maxDischargeDepth := 5) [go_sem, *]; done)); clear hq hg; refine kuse (b := w11.heap.size) hk (by first | with_reducible assumption | (simp; done) | (simp; omega) | omega) ?_; intro hq hg; have hy : w11.heap.size < wz.heap.size := kept_lt hk (by first | with_reducible assumption | (simp; done) | (simp; omega) | omega); have ff := (hq 0).trans (show _ = some (.int .i64 (wh (C))) by first | with_reducible assumption | (simp (maxDischargeDepth := 5) [go_sem]; done) | (simp (maxDischargeDepth := 5) [go_sem, *]; done)); have ff := (hq 1).trans (show _ = some (.int .u64 (wl (C))) by first | with_reducible assumption | (simp (maxDischargeDepth := 5) [go_sem]; done) | (simp (maxDischargeDepth := 5) [go_sem, *]; done)); have gg := fun o => (hg o).trans (show _ = false by first | (with_reducible apply_assumption; done) | (simp (maxDischargeDepth := 5) [go_sem]; done) | (simp (maxDischargeDepth := 5) [go_sem, *]; done)); clear hq hg; refine kuse (b := w.heap.size) hk (by first | with_reducible assumption | (simp; done) | (simp; omega) | omega) ?_; intro hq hg; have hy : w.heap.size < wz.heap.size := kept_lt hk (by first | with_reducible assumption | (simp; done) | (simp; omega) | omega); have ff := (hq 0).trans (show _ = some (.int .i64 a) by first | with_reducible assumption | (simp (maxDischargeDepth := 5) [go_sem]; done) | (simp (maxDischargeDepth := 5) [go_sem, *]; done)); have ff := (hq 1).trans (show _ = some (.int .i64 b) by first | with_reducible assumption | (simp (maxDischargeDepth := 5) [go_sem]; done) | (simp (maxDischargeDepth := 5) [go_sem, *]; done)); have gg := fun o => (hg o).trans (show _ = false by first | (with_reducible apply_assumption; done) | (simp (maxDischargeDepth := 5) [go_sem]; done) | (simp (maxDischargeDepth := 5) [go_sem, *]; done)); clear hq hg; refine kuse (b := b1_0) hk (by first | with_reducible assumption | (simp; done) | (simp; omega) | omega) ?_; intro hq hg; have hy : b1_0 < wz.heap.size := kept_lt hk (by first | with_reducible assumption | (simp; done) | (simp; omega) | omega); have ff := (hq 0).trans (show _ = some (.int .i64 (wh (u))) by first | with_reducible assumption | (simp (maxDischargeDepth := 5) [go_sem]; done) | (simp (maxDischargeDepth := 5) [go_sem, *]; done)); have ff := (hq 1).trans (show _ = some (.int .u64 (wl (u))) by first | with_reducible assumption | (simp (maxDischargeDepth := 5) [go_sem]; done) | (simp (maxDischargeDepth := 5) [go_sem, *]; done)); have gg := fun o => (hg o).trans (show _ = false by first | (with_reducible apply_assumption; done) | (simp (maxDischargeDepth := 5) [go_sem]; done) | (simp (maxDischargeDepth := 5) [go_sem, *]; done)); clear hq hg))) | fail
      all_goals (try go_wp2_with fail)
      try clear oz0 og0 of0_0 of0_1 oz1 og1 of1_0 of1_1 oz2 og2 of2_0 of2_1 oz3 og3 of3_0 of3_1 oz4 og4 of4_0 of4_1 oz5 og5 of5_0 of5_1 oz6 og6 of6_0 of6_1 oz7 og7 of7_0 of7_1
      by_cases s : a < 0
      · have HR := Lib.hid (isqrt_neg a b x1 x2 x3 s)
        obtain ⟨S, hS⟩ : ∃ x, wsq u = x := ⟨_, rfl⟩
        obtain ⟨T, hT⟩ : ∃ x, wsqE u = x := ⟨_, rfl⟩
        rw [hS, hT] at HS
        have HS := Lib.hid HS
        clear hS hT
        with_reducible refine (HR.out _).mono ?_
        rintro e w12 ⟨rfl, hk⟩
        have HO3_0 : Hid (OwnB w12 (b1_0) [.int .i64 (wh (u)), .int .u64 (wl (u))]) := Lib.hid (OwnB.kept hk (by repeat (first | with_reducible exact HO2_0.out | with_reducible refine OwnB.setOther ?_ (by first | with_reducible assumption | omega) | with_reducible refine OwnB.drew ?_ | with_reducible refine OwnB.drewN ?_ _ | with_reducible refine OwnB.alloc ?_ _ | with_reducible refine OwnB.kept (by with_reducible assumption) ?_)))
        have HO3_1 : Hid (OwnB w12 (b1_1) [.int .i64 (wh (v)), .int .u64 (wl (v))]) := Lib.hid (OwnB.kept hk (by repeat (first | with_reducible exact HO2_1.out | with_reducible refine OwnB.setOther ?_ (by first | with_reducible assumption | omega) | with_reducible refine OwnB.drew ?_ | with_reducible refine OwnB.drewN ?_ _ | with_reducible refine OwnB.alloc ?_ _ | with_reducible refine OwnB.kept (by with_reducible assumption) ?_)))
        have HO3_2 : Hid (OwnB w12 (w.heap.size) [.int .i64 a, .int .i64 b]) := Lib.hid (OwnB.kept hk (by repeat (first | with_reducible exact HO2_2.out | with_reducible refine OwnB.setOther ?_ (by first | with_reducible assumption | omega) | with_reducible refine OwnB.drew ?_ | with_reducible refine OwnB.drewN ?_ _ | with_reducible refine OwnB.alloc ?_ _ | with_reducible refine OwnB.kept (by with_reducible assumption) ?_)))
        have HO3_3 : Hid (OwnB w12 (w.heap.size + 1) [.int .i64 c, .int .i64 d]) := Lib.hid (OwnB.kept hk (by repeat (first | with_reducible exact HO2_3.out | with_reducible refine OwnB.setOther ?_ (by first | with_reducible assumption | omega) | with_reducible refine OwnB.drew ?_ | with_reducible refine OwnB.drewN ?_ _ | with_reducible refine OwnB.alloc ?_ _ | with_reducible refine OwnB.kept (by with_reducible assumption) ?_)))
        have HO3_4 : Hid (OwnB w12 (w.heap.size + 2) [.int .u64 n, .int .u64 m]) := Lib.hid (OwnB.kept hk (by repeat (first | with_reducible exact HO2_4.out | with_reducible refine OwnB.setOther ?_ (by first | with_reducible assumption | omega) | with_reducible refine OwnB.drew ?_ | with_reducible refine OwnB.drewN ?_ _ | with_reducible refine OwnB.alloc ?_ _ | with_reducible refine OwnB.kept (by with_reducible assumption) ?_)))
        have HO3_5 : Hid (OwnB w12 (w2.heap.size) [.int .i64 l, .int .i64 g]) := Lib.hid (OwnB.kept hk (by repeat (first | with_reducible exact HO2_5.out | with_reducible refine OwnB.setOther ?_ (by first | with_reducible assumption | omega) | with_reducible refine OwnB.drew ?_ | with_reducible refine OwnB.drewN ?_ _ | with_reducible refine OwnB.alloc ?_ _ | with_reducible refine OwnB.kept (by with_reducible assumption) ?_)))
        have HO3_6 : Hid (OwnB w12 (w10.heap.size) [.int .i64 (wh (D)), .int .u64 (wl (D))]) := Lib.hid (OwnB.kept hk (by repeat (first | with_reducible exact HO2_6.out | with_reducible refine OwnB.setOther ?_ (by first | with_reducible assumption | omega) | with_reducible refine OwnB.drew ?_ | with_reducible refine OwnB.drewN ?_ _ | with_reducible refine OwnB.alloc ?_ _ | with_reducible refine OwnB.kept (by with_reducible assumption) ?_)))
        have HO3_7 : Hid (OwnB w12 (w11.heap.size) [.int .i64 (wh (C)), .int .u64 (wl (C))]) := Lib.hid (OwnB.kept hk (by repeat (first | with_reducible exact HO2_7.out | with_reducible refine OwnB.setOther ?_ (by first | with_reducible assumption | omega) | with_reducible refine OwnB.drew ?_ | with_reducible refine OwnB.drewN ?_ _ | with_reducible refine OwnB.alloc ?_ _ | with_reducible refine OwnB.kept (by with_reducible assumption) ?_)))
        have HK3 : Hid (Kept w w12) := Lib.hid (Kept.trans (by repeat (first | with_reducible exact HK2.out | with_reducible refine Kept.setCell ?_ (by first | with_reducible assumption | omega) _ | with_reducible refine Kept.drew ?_ | with_reducible refine Kept.drewN ?_ _ | with_reducible refine Kept.alloc ?_ _ | with_reducible refine Kept.trans ?_ (by with_reducible assumption))) hk)
        clear hk HO2_0 HO2_1 HO2_2 HO2_3 HO2_4 HO2_5 HO2_6 HO2_7 HK2
        obtain ⟨oz0, og0, of0_0, of0_1, _⟩ := HO3_0.out
        obtain ⟨oz1, og1, of1_0, of1_1, _⟩ := HO3_1.out
        obtain ⟨oz2, og2, of2_0, of2_1, _⟩ := HO3_2.out
        obtain ⟨oz3, og3, of3_0, of3_1, _⟩ := HO3_3.out
        obtain ⟨oz4, og4, of4_0, of4_1, _⟩ := HO3_4.out
        obtain ⟨oz5, og5, of5_0, of5_1, _⟩ := HO3_5.out
        obtain ⟨oz6, og6, of6_0, of6_1, _⟩ := HO3_6.out
        obtain ⟨oz7, og7, of7_0, of7_1, _⟩ := HO3_7.out
        have nb0_8 : ¬ b1_0 = w12.heap.size := by omega
        have nc0_8 : ¬ w12.heap.size = b1_0 := by omega
        have nb1_8 : ¬ b1_1 = w12.heap.size := by omega
        have nc1_8 : ¬ w12.heap.size = b1_1 := by omega
        have nb2_8 : ¬ w.heap.size = w12.heap.size := by omega
        have nc2_8 : ¬ w12.heap.size = w.heap.size := by omega
        have nb3_8 : ¬ w.heap.size + 1 = w12.heap.size := by omega
        have nc3_8 : ¬ w12.heap.size = w.heap.size + 1 := by omega
        have nb4_8 : ¬ w.heap.size + 2 = w12.heap.size := by omega
        have nc4_8 : ¬ w12.heap.size = w.heap.size + 2 := by omega
        have nb5_8 : ¬ w2.heap.size = w12.heap.size := by omega
        have nc5_8 : ¬ w12.heap.size = w2.heap.size := by omega
        have nb6_8 : ¬ w10.heap.size = w12.heap.size := by omega
        have nc6_8 : ¬ w12.heap.size = w10.heap.size := by omega
        have nb7_8 : ¬ w11.heap.size = w12.heap.size := by omega
        have nc7_8 : ¬ w12.heap.size = w11.heap.size := by omega
        have nw8 : w.heap.size ≤ w12.heap.size := HK3.out.size
        go_wp2_with fail
        try clear oz0 og0 of0_0 of0_1 oz1 og1 of1_0 of1_1 oz2 og2 of2_0 of2_1 oz3 og3 of3_0 of3_1 oz4 og4 of4_0 of4_1 oz5 og5 of5_0 of5_1 oz6 og6 of6_0 of6_1 oz7 og7 of7_0 of7_1
        with_reducible refine (HS.out _).mono ?_
        rintro e w13 ⟨rfl, hk⟩
        have HO4_0 : Hid (OwnB w13 (b1_0) [.int .i64 (wh (u)), .int .u64 (wl (u))]) := Lib.hid (OwnB.kept hk (by repeat (first | with_reducible exact HO3_0.out | with_reducible refine OwnB.setOther ?_ (by first | with_reducible assumption | omega) | with_reducible refine OwnB.drew ?_ | with_reducible refine OwnB.drewN ?_ _ | with_reducible refine OwnB.alloc ?_ _ | with_reducible refine OwnB.kept (by with_reducible assumption) ?_)))
        have HO4_1 : Hid (OwnB w13 (b1_1) [.int .i64 (wh (v)), .int .u64 (wl (v))]) := Lib.hid (OwnB.kept hk (by repeat (first | with_reducible exact HO3_1.out | with_reducible refine OwnB.setOther ?_ (by first | with_reducible assumption | omega) | with_reducible refine OwnB.drew ?_ | with_reducible refine OwnB.drewN ?_ _ | with_reducible refine OwnB.alloc ?_ _ | with_reducible refine OwnB.kept (by with_reducible assumption) ?_)))
        have HO4_2 : Hid (OwnB w13 (w.heap.size) [.int .i64 a, .int .i64 b]) := Lib.hid (OwnB.kept hk (by repeat (first | with_reducible exact HO3_2.out | with_reducible refine OwnB.setOther ?_ (by first | with_reducible assumption | omega) | with_reducible refine OwnB.drew ?_ | with_reducible refine OwnB.drewN ?_ _ | with_reducible refine OwnB.alloc ?_ _ | with_reducible refine OwnB.kept (by with_reducible assumption) ?_)))
        have HO4_3 : Hid (OwnB w13 (w.heap.size + 1) [.int .i64 c, .int .i64 d]) := Lib.hid (OwnB.kept hk (by repeat (first | with_reducible exact HO3_3.out | with_reducible refine OwnB.setOther ?_ (by first | with_reducible assumption | omega) | with_reducible refine OwnB.drew ?_ | with_reducible refine OwnB.drewN ?_ _ | with_reducible refine OwnB.alloc ?_ _ | with_reducible refine OwnB.kept (by with_reducible assumption) ?_)))
        have HO4_4 : Hid (OwnB w13 (w.heap.size + 2) [.int .u64 n, .int .u64 m]) := Lib.hid (OwnB.kept hk (by repeat (first | with_reducible exact HO3_4.out | with_reducible refine OwnB.setOther ?_ (by first | with_reducible assumption | omega) | with_reducible refine OwnB.drew ?_ | with_reducible refine OwnB.drewN ?_ _ | with_reducible refine OwnB.alloc ?_ _ | with_reducible refine OwnB.kept (by with_reducible assumption) ?_)))
        have HO4_5 : Hid (OwnB w13 (w2.heap.size) [.int .i64 l, .int .i64 g]) := Lib.hid (OwnB.kept hk (by repeat (first | with_reducible exact HO3_5.out | with_reducible refine OwnB.setOther ?_ (by first | with_reducible assumption | omega) | with_reducible refine OwnB.drew ?_ | with_reducible refine OwnB.drewN ?_ _ | with_reducible refine OwnB.alloc ?_ _ | with_reducible refine OwnB.kept (by with_reducible assumption) ?_)))
        have HO4_6 : Hid (OwnB w13 (w10.heap.size) [.int .i64 (wh (D)), .int .u64 (wl (D))]) := Lib.hid (OwnB.kept hk (by repeat (first | with_reducible exact HO3_6.out | with_reducible refine OwnB.setOther ?_ (by first | with_reducible assumption | omega) | with_reducible refine OwnB.drew ?_ | with_reducible refine OwnB.drewN ?_ _ | with_reducible refine OwnB.alloc ?_ _ | with_reducible refine OwnB.kept (by with_reducible assumption) ?_)))
        have HO4_7 : Hid (OwnB w13 (w11.heap.size) [.int .i64 (wh (C)), .int .u64 (wl (C))]) := Lib.hid (OwnB.kept hk (by repeat (first | with_reducible exact HO3_7.out | with_reducible refine OwnB.setOther ?_ (by first | with_reducible assumption | omega) | with_reducible refine OwnB.drew ?_ | with_reducible refine OwnB.drewN ?_ _ | with_reducible refine OwnB.alloc ?_ _ | with_reducible refine OwnB.kept (by with_reducible assumption) ?_)))
        have HO4_8 : Hid (OwnB w13 (w12.heap.size) [.int .i64 0, .int .i64 0]) := Lib.hid (OwnB.kept hk (by repeat (first | with_reducible exact own_alloc _ [.int .i64 0, .int .i64 0] 23 | with_reducible refine OwnB.setOther ?_ (by first | with_reducible assumption | omega) | with_reducible refine OwnB.drew ?_ | with_reducible refine OwnB.drewN ?_ _ | with_reducible refine OwnB.alloc ?_ _ | with_reducible refine OwnB.kept (by with_reducible assumption) ?_)))
        have HK4 : Hid (Kept w w13) := Lib.hid (Kept.trans (by repeat (first | with_reducible exact HK3.out | with_reducible refine Kept.setCell ?_ (by first | with_reducible assumption | omega) _ | with_reducible refine Kept.drew ?_ | with_reducible refine Kept.drewN ?_ _ | with_reducible refine Kept.alloc ?_ _ | with_reducible refine Kept.trans ?_ (by with_reducible assumption))) hk)
        clear hk HO3_0 HO3_1 HO3_2 HO3_3 HO3_4 HO3_5 HO3_6 HO3_7 HK3
        obtain ⟨oz0, og0, of0_0, of0_1, _⟩ := HO4_0.out
        obtain ⟨oz1, og1, of1_0, of1_1, _⟩ := HO4_1.out
        obtain ⟨oz2, og2, of2_0, of2_1, _⟩ := HO4_2.out
        obtain ⟨oz3, og3, of3_0, of3_1, _⟩ := HO4_3.out
        obtain ⟨oz4, og4, of4_0, of4_1, _⟩ := HO4_4.out
        obtain ⟨oz5, og5, of5_0, of5_1, _⟩ := HO4_5.out
        obtain ⟨oz6, og6, of6_0, of6_1, _⟩ := HO4_6.out
        obtain ⟨oz7, og7, of7_0, of7_1, _⟩ := HO4_7.out
        obtain ⟨oz8, og8, of8_0, of8_1, _⟩ := HO4_8.out
        go_wp2_with fail
        try clear oz0 og0 of0_0 of0_1 oz1 og1 of1_0 of1_1 oz2 og2 of2_0 of2_1 oz3 og3 of3_0 of3_1 oz4 og4 of4_0 of4_1 oz5 og5 of5_0 of5_1 oz6 og6 of6_0 of6_1 oz7 og7 of7_0 of7_1 oz8 og8 of8_0 of8_1
        all_goals go_ret
        all_goals first | exact ⟨rfl, HK4.out⟩ | (refine ⟨?_, HK4.out⟩; simp; omega) | (refine ⟨?_, HK4.out⟩; simp [*]; done)
      · obtain ⟨s0, s1, s2, s3, s4⟩ := sq_in (a := a) (u := u) (b := b) (by omega) u0 u1 x3
        have HR := isqrt_ok a b (isq a) (isqUp b) x1 x2 x3 (by omega) (Lib.hid rfl) (Lib.hid rfl) s4 (by omega) (by omega)
        have E : wsqE u = true := by unfold wsqE; simp; omega
        rw [E] at HS
        obtain ⟨S, hS⟩ : ∃ x, wsq u = x := ⟨_, rfl⟩
        obtain ⟨A1, hA1⟩ : ∃ x, isq a = x := ⟨_, rfl⟩
        obtain ⟨B1, hB1⟩ : ∃ x, isqUp b = x := ⟨_, rfl⟩
        rw [hS] at HS s1 s2
        rw [hA1] at HR s0 s1 s4
        rw [hB1] at HR s2 s3 s4
        have HS := Lib.hid HS
        have HR := Lib.hid HR
        clear hS hA1 hB1 E
        have S0 : 0 ≤ S := by omega
        have wS : IntKind.i64.wrap S = S := IntWalk.i64_in _ (by omega)
        with_reducible refine (HR.out _).mono ?_
        rintro e w12 ⟨rfl, hk⟩
        have HO3_0 : Hid (OwnB w12 (b1_0) [.int .i64 (wh (u)), .int .u64 (wl (u))]) := Lib.hid (OwnB.kept hk (by repeat (first | with_reducible exact HO2_0.out | with_reducible refine OwnB.setOther ?_ (by first | with_reducible assumption | omega) | with_reducible refine OwnB.drew ?_ | with_reducible refine OwnB.drewN ?_ _ | with_reducible refine OwnB.alloc ?_ _ | with_reducible refine OwnB.kept (by with_reducible assumption) ?_)))
        have HO3_1 : Hid (OwnB w12 (b1_1) [.int .i64 (wh (v)), .int .u64 (wl (v))]) := Lib.hid (OwnB.kept hk (by repeat (first | with_reducible exact HO2_1.out | with_reducible refine OwnB.setOther ?_ (by first | with_reducible assumption | omega) | with_reducible refine OwnB.drew ?_ | with_reducible refine OwnB.drewN ?_ _ | with_reducible refine OwnB.alloc ?_ _ | with_reducible refine OwnB.kept (by with_reducible assumption) ?_)))
        have HO3_2 : Hid (OwnB w12 (w.heap.size) [.int .i64 a, .int .i64 b]) := Lib.hid (OwnB.kept hk (by repeat (first | with_reducible exact HO2_2.out | with_reducible refine OwnB.setOther ?_ (by first | with_reducible assumption | omega) | with_reducible refine OwnB.drew ?_ | with_reducible refine OwnB.drewN ?_ _ | with_reducible refine OwnB.alloc ?_ _ | with_reducible refine OwnB.kept (by with_reducible assumption) ?_)))
        have HO3_3 : Hid (OwnB w12 (w.heap.size + 1) [.int .i64 c, .int .i64 d]) := Lib.hid (OwnB.kept hk (by repeat (first | with_reducible exact HO2_3.out | with_reducible refine OwnB.setOther ?_ (by first | with_reducible assumption | omega) | with_reducible refine OwnB.drew ?_ | with_reducible refine OwnB.drewN ?_ _ | with_reducible refine OwnB.alloc ?_ _ | with_reducible refine OwnB.kept (by with_reducible assumption) ?_)))
        have HO3_4 : Hid (OwnB w12 (w.heap.size + 2) [.int .u64 n, .int .u64 m]) := Lib.hid (OwnB.kept hk (by repeat (first | with_reducible exact HO2_4.out | with_reducible refine OwnB.setOther ?_ (by first | with_reducible assumption | omega) | with_reducible refine OwnB.drew ?_ | with_reducible refine OwnB.drewN ?_ _ | with_reducible refine OwnB.alloc ?_ _ | with_reducible refine OwnB.kept (by with_reducible assumption) ?_)))
        have HO3_5 : Hid (OwnB w12 (w2.heap.size) [.int .i64 l, .int .i64 g]) := Lib.hid (OwnB.kept hk (by repeat (first | with_reducible exact HO2_5.out | with_reducible refine OwnB.setOther ?_ (by first | with_reducible assumption | omega) | with_reducible refine OwnB.drew ?_ | with_reducible refine OwnB.drewN ?_ _ | with_reducible refine OwnB.alloc ?_ _ | with_reducible refine OwnB.kept (by with_reducible assumption) ?_)))
        have HO3_6 : Hid (OwnB w12 (w10.heap.size) [.int .i64 (wh (D)), .int .u64 (wl (D))]) := Lib.hid (OwnB.kept hk (by repeat (first | with_reducible exact HO2_6.out | with_reducible refine OwnB.setOther ?_ (by first | with_reducible assumption | omega) | with_reducible refine OwnB.drew ?_ | with_reducible refine OwnB.drewN ?_ _ | with_reducible refine OwnB.alloc ?_ _ | with_reducible refine OwnB.kept (by with_reducible assumption) ?_)))
        have HO3_7 : Hid (OwnB w12 (w11.heap.size) [.int .i64 (wh (C)), .int .u64 (wl (C))]) := Lib.hid (OwnB.kept hk (by repeat (first | with_reducible exact HO2_7.out | with_reducible refine OwnB.setOther ?_ (by first | with_reducible assumption | omega) | with_reducible refine OwnB.drew ?_ | with_reducible refine OwnB.drewN ?_ _ | with_reducible refine OwnB.alloc ?_ _ | with_reducible refine OwnB.kept (by with_reducible assumption) ?_)))
        have HK3 : Hid (Kept w w12) := Lib.hid (Kept.trans (by repeat (first | with_reducible exact HK2.out | with_reducible refine Kept.setCell ?_ (by first | with_reducible assumption | omega) _ | with_reducible refine Kept.drew ?_ | with_reducible refine Kept.drewN ?_ _ | with_reducible refine Kept.alloc ?_ _ | with_reducible refine Kept.trans ?_ (by with_reducible assumption))) hk)
        clear hk HO2_0 HO2_1 HO2_2 HO2_3 HO2_4 HO2_5 HO2_6 HO2_7 HK2
        obtain ⟨oz0, og0, of0_0, of0_1, _⟩ := HO3_0.out
        obtain ⟨oz1, og1, of1_0, of1_1, _⟩ := HO3_1.out
        obtain ⟨oz2, og2, of2_0, of2_1, _⟩ := HO3_2.out
        obtain ⟨oz3, og3, of3_0, of3_1, _⟩ := HO3_3.out
        obtain ⟨oz4, og4, of4_0, of4_1, _⟩ := HO3_4.out
        obtain ⟨oz5, og5, of5_0, of5_1, _⟩ := HO3_5.out
        obtain ⟨oz6, og6, of6_0, of6_1, _⟩ := HO3_6.out
        obtain ⟨oz7, og7, of7_0, of7_1, _⟩ := HO3_7.out
        have nb0_8 : ¬ b1_0 = w12.heap.size := by omega
        have nc0_8 : ¬ w12.heap.size = b1_0 := by omega
        have nb1_8 : ¬ b1_1 = w12.heap.size := by omega
        have nc1_8 : ¬ w12.heap.size = b1_1 := by omega
        have nb2_8 : ¬ w.heap.size = w12.heap.size := by omega
        have nc2_8 : ¬ w12.heap.size = w.heap.size := by omega
        have nb3_8 : ¬ w.heap.size + 1 = w12.heap.size := by omega
        have nc3_8 : ¬ w12.heap.size = w.heap.size + 1 := by omega
        have nb4_8 : ¬ w.heap.size + 2 = w12.heap.size := by omega
        have nc4_8 : ¬ w12.heap.size = w.heap.size + 2 := by omega
        have nb5_8 : ¬ w2.heap.size = w12.heap.size := by omega
        have nc5_8 : ¬ w12.heap.size = w2.heap.size := by omega
        have nb6_8 : ¬ w10.heap.size = w12.heap.size := by omega
        have nc6_8 : ¬ w12.heap.size = w10.heap.size := by omega
        have nb7_8 : ¬ w11.heap.size = w12.heap.size := by omega
        have nc7_8 : ¬ w12.heap.size = w11.heap.size := by omega
        have nw8 : w.heap.size ≤ w12.heap.size := HK3.out.size
        go_wp2_with fail
        try clear oz0 og0 of0_0 of0_1 oz1 og1 of1_0 of1_1 oz2 og2 of2_0 of2_1 oz3 og3 of3_0 of3_1 oz4 og4 of4_0 of4_1 oz5 og5 of5_0 of5_1 oz6 og6 of6_0 of6_1 oz7 og7 of7_0 of7_1
        with_reducible refine (HS.out _).mono ?_
        rintro e w13 ⟨rfl, hk⟩
        have HO4_0 : Hid (OwnB w13 (b1_0) [.int .i64 (wh (u)), .int .u64 (wl (u))]) := Lib.hid (OwnB.kept hk (by repeat (first | with_reducible exact HO3_0.out | with_reducible refine OwnB.setOther ?_ (by first | with_reducible assumption | omega) | with_reducible refine OwnB.drew ?_ | with_reducible refine OwnB.drewN ?_ _ | with_reducible refine OwnB.alloc ?_ _ | with_reducible refine OwnB.kept (by with_reducible assumption) ?_)))
        have HO4_1 : Hid (OwnB w13 (b1_1) [.int .i64 (wh (v)), .int .u64 (wl (v))]) := Lib.hid (OwnB.kept hk (by repeat (first | with_reducible exact HO3_1.out | with_reducible refine OwnB.setOther ?_ (by first | with_reducible assumption | omega) | with_reducible refine OwnB.drew ?_ | with_reducible refine OwnB.drewN ?_ _ | with_reducible refine OwnB.alloc ?_ _ | with_reducible refine OwnB.kept (by with_reducible assumption) ?_)))
        have HO4_2 : Hid (OwnB w13 (w.heap.size) [.int .i64 a, .int .i64 b]) := Lib.hid (OwnB.kept hk (by repeat (first | with_reducible exact HO3_2.out | with_reducible refine OwnB.setOther ?_ (by first | with_reducible assumption | omega) | with_reducible refine OwnB.drew ?_ | with_reducible refine OwnB.drewN ?_ _ | with_reducible refine OwnB.alloc ?_ _ | with_reducible refine OwnB.kept (by with_reducible assumption) ?_)))
        have HO4_3 : Hid (OwnB w13 (w.heap.size + 1) [.int .i64 c, .int .i64 d]) := Lib.hid (OwnB.kept hk (by repeat (first | with_reducible exact HO3_3.out | with_reducible refine OwnB.setOther ?_ (by first | with_reducible assumption | omega) | with_reducible refine OwnB.drew ?_ | with_reducible refine OwnB.drewN ?_ _ | with_reducible refine OwnB.alloc ?_ _ | with_reducible refine OwnB.kept (by with_reducible assumption) ?_)))
        have HO4_4 : Hid (OwnB w13 (w.heap.size + 2) [.int .u64 n, .int .u64 m]) := Lib.hid (OwnB.kept hk (by repeat (first | with_reducible exact HO3_4.out | with_reducible refine OwnB.setOther ?_ (by first | with_reducible assumption | omega) | with_reducible refine OwnB.drew ?_ | with_reducible refine OwnB.drewN ?_ _ | with_reducible refine OwnB.alloc ?_ _ | with_reducible refine OwnB.kept (by with_reducible assumption) ?_)))
        have HO4_5 : Hid (OwnB w13 (w2.heap.size) [.int .i64 l, .int .i64 g]) := Lib.hid (OwnB.kept hk (by repeat (first | with_reducible exact HO3_5.out | with_reducible refine OwnB.setOther ?_ (by first | with_reducible assumption | omega) | with_reducible refine OwnB.drew ?_ | with_reducible refine OwnB.drewN ?_ _ | with_reducible refine OwnB.alloc ?_ _ | with_reducible refine OwnB.kept (by with_reducible assumption) ?_)))
        have HO4_6 : Hid (OwnB w13 (w10.heap.size) [.int .i64 (wh (D)), .int .u64 (wl (D))]) := Lib.hid (OwnB.kept hk (by repeat (first | with_reducible exact HO3_6.out | with_reducible refine OwnB.setOther ?_ (by first | with_reducible assumption | omega) | with_reducible refine OwnB.drew ?_ | with_reducible refine OwnB.drewN ?_ _ | with_reducible refine OwnB.alloc ?_ _ | with_reducible refine OwnB.kept (by with_reducible assumption) ?_)))
        have HO4_7 : Hid (OwnB w13 (w11.heap.size) [.int .i64 (wh (C)), .int .u64 (wl (C))]) := Lib.hid (OwnB.kept hk (by repeat (first | with_reducible exact HO3_7.out | with_reducible refine OwnB.setOther ?_ (by first | with_reducible assumption | omega) | with_reducible refine OwnB.drew ?_ | with_reducible refine OwnB.drewN ?_ _ | with_reducible refine OwnB.alloc ?_ _ | with_reducible refine OwnB.kept (by with_reducible assumption) ?_)))
        have HO4_8 : Hid (OwnB w13 (w12.heap.size) [.int .i64 A1, .int .i64 B1]) := Lib.hid (OwnB.kept hk (by repeat (first | with_reducible exact own_alloc _ [.int .i64 A1, .int .i64 B1] 23 | with_reducible refine OwnB.setOther ?_ (by first | with_reducible assumption | omega) | with_reducible refine OwnB.drew ?_ | with_reducible refine OwnB.drewN ?_ _ | with_reducible refine OwnB.alloc ?_ _ | with_reducible refine OwnB.kept (by with_reducible assumption) ?_)))
        have HK4 : Hid (Kept w w13) := Lib.hid (Kept.trans (by repeat (first | with_reducible exact HK3.out | with_reducible refine Kept.setCell ?_ (by first | with_reducible assumption | omega) _ | with_reducible refine Kept.drew ?_ | with_reducible refine Kept.drewN ?_ _ | with_reducible refine Kept.alloc ?_ _ | with_reducible refine Kept.trans ?_ (by with_reducible assumption))) hk)
        clear hk HO3_0 HO3_1 HO3_2 HO3_3 HO3_4 HO3_5 HO3_6 HO3_7 HK3
        obtain ⟨oz0, og0, of0_0, of0_1, _⟩ := HO4_0.out
        obtain ⟨oz1, og1, of1_0, of1_1, _⟩ := HO4_1.out
        obtain ⟨oz2, og2, of2_0, of2_1, _⟩ := HO4_2.out
        obtain ⟨oz3, og3, of3_0, of3_1, _⟩ := HO4_3.out
        obtain ⟨oz4, og4, of4_0, of4_1, _⟩ := HO4_4.out
        obtain ⟨oz5, og5, of5_0, of5_1, _⟩ := HO4_5.out
        obtain ⟨oz6, og6, of6_0, of6_1, _⟩ := HO4_6.out
        obtain ⟨oz7, og7, of7_0, of7_1, _⟩ := HO4_7.out
        obtain ⟨oz8, og8, of8_0, of8_1, _⟩ := HO4_8.out
        go_wp2_with fail
        try clear oz0 og0 of0_0 of0_1 oz1 og1 of1_0 of1_1 oz2 og2 of2_0 of2_1 oz3 og3 of3_0 of3_1 oz4 og4 of4_0 of4_1 oz5 og5 of5_0 of5_1 oz6 og6 of6_0 of6_1 oz7 og7 of7_0 of7_1 oz8 og8 of8_0 of8_1
        all_goals go_ret
        all_goals first | exact ⟨rfl, HK4.out⟩ | (refine ⟨?_, HK4.out⟩; simp; omega) | (refine ⟨?_, HK4.out⟩; simp [*]; done)
    · first | (go_region_held3 (fun W => W.cell? ⟨w2.heap.size, 0, none⟩ = some (.int .i64 l) ∧ W.cell? ⟨w2.heap.size, 1, none⟩ = some (.int .i64 g) ∧ W.cell? ⟨w10.heap.size, 0, none⟩ = some (.int .i64 (wh (D))) ∧ W.cell? ⟨w10.heap.size, 1, none⟩ = some (.int .u64 (wl (D))) ∧ W.cell? ⟨w11.heap.size, 0, none⟩ = some (.int .i64 (wh (C))) ∧ W.cell? ⟨w11.heap.size, 1, none⟩ = some (.int .u64 (wl (C))) ∧ W.cell? ⟨w.heap.size, 0, none⟩ = some (.int .i64 a) ∧ W.cell? ⟨w.heap.size, 1, none⟩ = some (.int .i64 b) ∧ W.cell? ⟨b1_0, 0, none⟩ = some (.int .i64 (wh (u))) ∧ W.cell? ⟨b1_0, 1, none⟩ = some (.int .u64 (wl (u)))) (first | (go_keep; done) | (simp (maxDischargeDepth := 9) [*, World.cell?_alloc_some, World.cell?_setCell_far]; done) | (simp (maxDischargeDepth := 9) [go_sem, *]; done)) (first | (go_at_call 49; with_reducible refine (HO3.out _).mono ?_; rintro e wz ⟨rfl, hk⟩; refine kuse (b := w2.heap.size) hk (by first | with_reducible assumption | (simp; done) | (simp; omega) | omega) ?_; intro hq hg; have hy : w2.heap.size < wz.heap.size := kept_lt hk (by first | with_reducible assumption | (simp; done) | (simp; omega) | omega); have ff := (hq 0).trans (show _ = some (.int .i64 l) by first | with_reducible assumption | (simp (maxDischargeDepth := 5) [go_sem]; done) | (simp (maxDischargeDepth := 5) [go_sem, *]; done)); have ff := (hq 1).trans (show _ = some (.int .i64 g) by first | with_reducible assumption | (simp (maxDischargeDepth := 5) [go_sem]; done) | (simp (maxDischargeDepth := 5) [go_sem, *]; done)); have gg := fun o => (hg o).trans (show _ = false by first | (with_reducible apply_assumption; done) | (simp (maxDischargeDepth := 5) [go_sem]; done) | (simp (maxDischargeDepth := 5) [go_sem, *]; done)); clear hq hg; refine kuse (b := w10.heap.size) hk (by first | with_reducible assumption | (simp; done) | (simp; omega) | omega) ?_; intro hq hg; have hy : w10.heap.size < wz.heap.size := kept_lt hk (by first | with_reducible assumption | (simp; done) | (simp; omega) | omega); have ff := (hq 0).trans (show _ = some (.int .i64 (wh (D))) by first | with_reducible assumption | (simp (maxDischargeDepth := 5) [go_sem]; done) | (simp (maxDischargeDepth := 5) [go_sem, *]; done)); have ff := (hq 1).trans (show _ = some (.int .u64 (wl (D))) by first | with_reducible assumption | (simp (maxDischargeDepth := 5) [go_sem]; done) | (simp (maxDischargeDepth := 5) [go_sem, *]; done)); have gg := fun o => (hg o).trans (show _ = false by first | (with_reducible apply_assumption; done) | (simp (maxDischargeDepth := 5) [go_sem]; done) | (simp (maxDischargeDepth := 5) [go_sem, *]; done)); clear hq hg; refine kuse (b := w11.heap.size) hk (by first | with_reducible assumption | (simp; done) | (simp; omega) | omega) ?_; intro hq hg; have hy : w11.heap.size < wz.heap.size := kept_lt hk (by first | with_reducible assumption | (simp; done) | (simp; omega) | omega); have ff := (hq 0).trans (show _ = some (.int .i64 (wh (C))) by first | with_reducible assumption | (simp (maxDischargeDepth := 5) [go_sem]; done) | (simp (maxDischargeDepth := 5) [go_sem, *]; done)); have ff := (hq 1).trans (show _ = some (.int .u64 (wl (C))) by first | with_reducible assumption | (simp (maxDischargeDepth := 5) [go_sem]; done) | (simp (maxDischargeDepth := 5) [go_sem, *]; done)); have gg := fun o => (hg o).trans (show _ = false by first | (with_reducible apply_assumption; done) | (simp (maxDischargeDepth := 5) [go_sem]; done) | (simp (maxDischargeDepth := 5) [go_sem, *]; done)); clear hq hg; refine kuse (b := w.heap.size) hk (by first | with_reducible assumption | (simp; done) | (simp; omega) | omega) ?_; intro hq hg; have hy : w.heap.size < wz.heap.size := kept_lt hk (by first | with_reducible assumption | (simp; done) | (simp; omega) | omega); have ff := (hq 0).trans (show _ = some (.int .i64 a) by first | with_reducible assumption | (simp (maxDischargeDepth := 5) [go_sem]; done) | (simp (maxDischargeDepth := 5) [go_sem, *]; done)); have ff := (hq 1).trans (show _ = some (.int .i64 b) by first | with_reducible assumption | (simp (maxDischargeDepth := 5) [go_sem]; done) | (simp (maxDischargeDepth := 5) [go_sem, *]; done)); have gg := fun o => (hg o).trans (show _ = false by first | (with_reducible apply_assumption; done) | (simp (maxDischargeDepth := 5) [go_sem]; done) | (simp (maxDischargeDepth := 5) [go_sem, *]; done)); clear hq hg; refine kuse (b := b1_0) hk (by first | with_reducible assumption | (simp; done) | (simp; omega) | omega) ?_; intro hq hg; have hy : b1_0 < wz.heap.size := kept_lt hk (by first | with_reducible assumption | (simp; done) | (simp; omega) | omega); have ff := (hq 0).trans (show _ = some (.int .i64 (wh (u))) by first | with_reducible assumption | (simp (maxDischargeDepth := 5) [go_sem]; done) | (simp (maxDischargeDepth := 5) [go_sem, *]; done)); have ff := (hq 1).trans (show _ = some (.int .u64 (wl (u))) by first | with_reducible assumption | (simp (maxDischargeDepth := 5) [go_sem]; done) | (simp (maxDischargeDepth := 5) [go_sem, *]; done)); have gg := fun o => (hg o).trans (show _ = false by first | (with_reducible apply_assumption; done) | (simp (maxDischargeDepth := 5) [go_sem]; done) | (simp (maxDischargeDepth := 5) [go_sem, *]; done)); clear hq hg) | (go_at_call 49; with_reducible refine (HO4.out _).mono ?_; rintro e wz ⟨rfl, hk⟩; refine kuse (b := w2.heap.size) hk (by first | with_reducible assumption | (simp; done) | (simp; omega) | omega) ?_; intro hq hg; have hy : w2.heap.size < wz.heap.size := kept_lt hk (by first | with_reducible assumption | (simp; done) | (simp; omega) | omega); have ff := (hq 0).trans (show _ = some (.int .i64 l) by first | with_reducible assumption | (simp (maxDischargeDepth := 5) [go_sem]; done) | (simp (maxDischargeDepth := 5) [go_sem, *]; done)); have ff := (hq 1).trans (show _ = some (.int .i64 g) by first | with_reducible assumption | (simp (maxDischargeDepth := 5) [go_sem]; done) | (simp (maxDischargeDepth := 5) [go_sem, *]; done)); have gg := fun o => (hg o).trans (show _ = false by first | (with_reducible apply_assumption; done) | (simp (maxDischargeDepth := 5) [go_sem]; done) | (simp (maxDischargeDepth := 5) [go_sem, *]; done)); clear hq hg; refine kuse (b := w10.heap.size) hk (by first | with_reducible assumption | (simp; done) | (simp; omega) | omega) ?_; intro hq hg; have hy : w10.heap.size < wz.heap.size := kept_lt hk (by first | with_reducible assumption | (simp; done) | (simp; omega) | omega); have ff := (hq 0).trans (show _ = some (.int .i64 (wh (D))) by first | with_reducible assumption | (simp (maxDischargeDepth := 5) [go_sem]; done) | (simp (maxDischargeDepth := 5) [go_sem, *]; done)); have ff := (hq 1).trans (show _ = some (.int .u64 (wl (D))) by first | with_reducible assumption | (simp (maxDischargeDepth := 5) [go_sem]; done) | (simp (maxDischargeDepth := 5) [go_sem, *]; done)); have gg := fun o => (hg o).trans (show _ = false by first | (with_reducible apply_assumption; done) | (simp (maxDischargeDepth := 5) [go_sem]; done) | (simp (maxDischargeDepth := 5) [go_sem, *]; done)); clear hq hg; refine kuse (b := w11.heap.size) hk (by first | with_reducible assumption | (simp; done) | (simp; omega) | omega) ?_; intro hq hg; have hy : w11.heap.size < wz.heap.size := kept_lt hk (by first | with_reducible assumption | (simp; done) | (simp; omega) | omega); have ff := (hq 0).trans (show _ = some (.int .i64 (wh (C))) by first | with_reducible assumption | (simp (maxDischargeDepth := 5) [go_sem]; done) | (simp (maxDischargeDepth := 5) [go_sem, *]; done)); have ff := (hq 1).trans (show _ = some (.int .u64 (wl (C))) by first | with_reducible assumption | (simp (maxDischargeDepth := 5) [go_sem]; done) | (simp (maxDischargeDepth := 5) [go_sem, *]; done)); have gg := fun o => (hg o).trans (show _ = false by first | (with_reducible apply_assumption; done) | (simp (maxDischargeDepth := 5) [go_sem]; done) | (simp (maxDischargeDepth := 5) [go_sem, *]; done)); clear hq hg; refine kuse (b := w.heap.size) hk (by first | with_reducible assumption | (simp; done) | (simp; omega) | omega) ?_; intro hq hg; have hy : w.heap.size < wz.heap.size := kept_lt hk (by first | with_reducible assumption | (simp; done) | (simp; omega) | omega); have ff := (hq 0).trans (show _ = some (.int .i64 a) by first | with_reducible assumption | (simp (maxDischargeDepth := 5) [go_sem]; done) | (simp (maxDischargeDepth := 5) [go_sem, *]; done)); have ff := (hq 1).trans (show _ = some (.int .i64 b) by first | with_reducible assumption | (simp (maxDischargeDepth := 5) [go_sem]; done) | (simp (maxDischargeDepth := 5) [go_sem, *]; done)); have gg := fun o => (hg o).trans (show _ = false by first | (with_reducible apply_assumption; done) | (simp (maxDischargeDepth := 5) [go_sem]; done) | (simp (maxDischargeDepth := 5) [go_sem, *]; done)); clear hq hg; refine kuse (b := b1_0) hk (by first | with_reducible assumption | (simp; done) | (simp; omega) | omega) ?_; intro hq hg; have hy : b1_0 < wz.heap.size := kept_lt hk (by first | with_reducible assumption | (simp; done) | (simp; omega) | omega); have ff := (hq 0).trans (show _ = some (.int .i64 (wh (u))) by first | with_reducible assumption | (simp (maxDischargeDepth := 5) [go_sem]; done) | (simp (maxDischargeDepth := 5) [go_sem, *]; done)); have ff := (hq 1).trans (show _ = some (.int .u64 (wl (u))) by first | with_reducible assumption | (simp (maxDischargeDepth := 5) [go_sem]; done) | (simp (maxDischargeDepth := 5) [go_sem, *]; done)); have gg := fun o => (hg o).trans (show _ = false by first | (with_reducible apply_assumption; done) | (simp (maxDischargeDepth := 5) [go_sem]; done) | (simp (maxDischargeDepth := 5) [go_sem, *]; done)); clear hq hg) | (go_at_call 52; with_reducible refine (HC1.out _).mono ?_; rintro e wz ⟨rfl, hk⟩; refine kuse (b := w2.heap.size) hk (by first | with_reducible assumption | (simp; done) | (simp; omega) | omega) ?_; intro hq hg; have hy : w2.heap.size < wz.heap.size := kept_lt hk (by first | with_reducible assumption | (simp; done) | (simp; omega) | omega); have ff := (hq 0).trans (show _ = some (.int .i64 l) by first | with_reducible assumption | (simp (maxDischargeDepth := 5) [go_sem]; done) | (simp (maxDischargeDepth := 5) [go_sem, *]; done)); have ff := (hq 1).trans (show _ = some (.int .i64 g) by first | with_reducible assumption | (simp (maxDischargeDepth := 5) [go_sem]; done) | (simp (maxDischargeDepth := 5) [go_sem, *]; done)); have gg := fun o => (hg o).trans (show _ = false by first | (with_reducible apply_assumption; done) | (simp (maxDischargeDepth := 5) [go_sem]; done) | (simp (maxDischargeDepth := 5) [go_sem, *]; done)); clear hq hg; refine kuse (b := w10.heap.size) hk (by first | with_reducible assumption | (simp; done) | (simp; omega) | omega) ?_; intro hq hg; have hy : w10.heap.size < wz.heap.size := kept_lt hk (by first | with_reducible assumption | (simp; done) | (simp; omega) | omega); have ff := (hq 0).trans (show _ = some (.int .i64 (wh (D))) by first | with_reducible assumption | (simp (maxDischargeDepth := 5) [go_sem]; done) | (simp (maxDischargeDepth := 5) [go_sem, *]; done)); have ff := (hq 1).trans (show _ = some (.int .u64 (wl (D))) by first | with_reducible assumption | (simp (maxDischargeDepth := 5) [go_sem]; done) | (simp (maxDischargeDepth := 5) [go_sem, *]; done)); have gg := fun o => (hg o).trans (show _ = false by first | (with_reducible apply_assumption; done) | (simp (maxDischargeDepth := 5) [go_sem]; done) | (simp (maxDischargeDepth := 5) [go_sem, *]; done)); clear hq hg; refine kuse (b := w11.heap.size) hk (by first | with_reducible assumption | (simp; done) | (simp; omega) | omega) ?_; intro hq hg; have hy : w11.heap.size < wz.heap.size := kept_lt hk (by first | with_reducible assumption | (simp; done) | (simp; omega) | omega); have ff := (hq 0).trans (show _ = some (.int .i64 (wh (C))) by first | with_reducible assumption | (simp (maxDischargeDepth := 5) [go_sem]; done) | (simp (maxDischargeDepth := 5) [go_sem, *]; done)); have ff := (hq 1).trans (show _ = some (.int .u64 (wl (C))) by first | with_reducible assumption | (simp (maxDischargeDepth := 5) [go_sem]; done) | (simp (maxDischargeDepth := 5) [go_sem, *]; done)); have gg := fun o => (hg o).trans (show _ = false by first | (with_reducible apply_assumption; done) | (simp (maxDischargeDepth := 5) [go_sem]; done) | (simp (maxDischargeDepth := 5) [go_sem, *]; done)); clear hq hg; refine kuse (b := w.heap.size) hk (by first | with_reducible assumption | (simp; done) | (simp; omega) | omega) ?_; intro hq hg; have hy : w.heap.size < wz.heap.size := kept_lt hk (by first | with_reducible assumption | (simp; done) | (simp; omega) | omega); have ff := (hq 0).trans (show _ = some (.int .i64 a) by first | with_reducible assumption | (simp (maxDischargeDepth := 5) [go_sem]; done) | (simp (maxDischargeDepth := 5) [go_sem, *]; done)); have ff := (hq 1).trans (show _ = some (.int .i64 b) by first | with_reducible assumption | (simp (maxDischargeDepth := 5) [go_sem]; done) | (simp (maxDischargeDepth := 5) [go_sem, *]; done)); have gg := fun o => (hg o).trans (show _ = false by first | (with_reducible apply_assumption; done) | (simp (maxDischargeDepth := 5) [go_sem]; done) | (simp (maxDischargeDepth := 5) [go_sem, *]; done)); clear hq hg; refine kuse (b := b1_0) hk (by first | with_reducible assumption | (simp; done) | (simp; omega) | omega) ?_; intro hq hg; have hy : b1_0 < wz.heap.size := kept_lt hk (by first | with_reducible assumption | (simp; done) | (simp; omega) | omega); have ff := (hq 0).trans (show _ = some (.int .i64 (wh (u))) by first | with_reducible assumption | (simp (maxDischargeDepth := 5) [go_sem]; done) | (simp (maxDischargeDepth := 5) [go_sem, *]; done)); have ff := (hq 1).trans (show _ = some (.int .u64 (wl (u))) by first | with_reducible assumption | (simp (maxDischargeDepth := 5) [go_sem]; done) | (simp (maxDischargeDepth := 5) [go_sem, *]; done)); have gg := fun o => (hg o).trans (show _ = false by first | (with_reducible apply_assumption; done) | (simp (maxDischargeDepth := 5) [go_sem]; done) | (simp (maxDischargeDepth := 5) [go_sem, *]; done)); clear hq hg) | (go_at_call 52; with_reducible refine (HC2.out _).mono ?_; rintro e wz ⟨rfl, hk⟩; refine kuse (b := w2.heap.size) hk (by first | with_reducible assumption | (simp; done) | (simp; omega) | omega) ?_; intro hq hg; have hy : w2.heap.size < wz.heap.size := kept_lt hk (by first | with_reducible assumption | (simp; done) | (simp; omega) | omega); have ff := (hq 0).trans (show _ = some (.int .i64 l) by first | with_reducible assumption | (simp (maxDischargeDepth := 5) [go_sem]; done) | (simp (maxDischargeDepth := 5) [go_sem, *]; done)); have ff := (hq 1).trans (show _ = some (.int .i64 g) by first | with_reducible assumption | (simp (maxDischargeDepth := 5) [go_sem]; done) | (simp (maxDischargeDepth := 5) [go_sem, *]; done)); have gg := fun o => (hg o).trans (show _ = false by first | (with_reducible apply_assumption; done) | (simp (maxDischargeDepth := 5) [go_sem]; done) | (simp (maxDischargeDepth := 5) [go_sem, *]; done)); clear hq hg; refine kuse (b := w10.heap.size) hk (by first | with_reducible assumption | (simp; done) | (simp; omega) | omega) ?_; intro hq hg; have hy : w10.heap.size < wz.heap.size := kept_lt hk (by first | with_reducible assumption | (simp; done) | (simp; omega) | omega); have ff := (hq 0).trans (show _ = some (.int .i64 (wh (D))) by first | with_reducible assumption | (simp (maxDischargeDepth := 5) [go_sem]; done) | (simp (maxDischargeDepth := 5) [go_sem, *]; done)); have ff := (hq 1).trans (show _ = some (.int .u64 (wl (D))) by first | with_reducible assumption | (simp (maxDischargeDepth := 5) [go_sem]; done) | (simp (maxDischargeDepth := 5) [go_sem, *]; done)); have gg := fun o => (hg o).trans (show _ = false by first | (with_reducible apply_assumption; done) | (simp (maxDischargeDepth := 5) [go_sem]; done) | (simp (maxDischargeDepth := 5) [go_sem, *]; done)); clear hq hg; refine kuse (b := w11.heap.size) hk (by first | with_reducible assumption | (simp; done) | (simp; omega) | omega) ?_; intro hq hg; have hy : w11.heap.size < wz.heap.size := kept_lt hk (by first | with_reducible assumption | (simp; done) | (simp; omega) | omega); have ff := (hq 0).trans (show _ = some (.int .i64 (wh (C))) by first | with_reducible assumption | (simp (maxDischargeDepth := 5) [go_sem]; done) | (simp (maxDischargeDepth := 5) [go_sem, *]; done)); have ff := (hq 1).trans (show _ = some (.int .u64 (wl (C))) by first | with_reducible assumption | (simp (maxDischargeDepth := 5) [go_sem]; done) | (simp (maxDischargeDepth := 5) [go_sem, *]; done)); have gg := fun o => (hg o).trans (show _ = false by first | (with_reducible apply_assumption; done) | (simp (maxDischargeDepth := 5) [go_sem]; done) | (simp (maxDischargeDepth := 5) [go_sem, *]; done)); clear hq hg; refine kuse (b := w.heap.size) hk (by first | with_reducible assumption | (simp; done) | (simp; omega) | omega) ?_; intro hq hg; have hy : w.heap.size < wz.heap.size := kept_lt hk (by first | with_reducible assumption | (simp; done) | (simp; omega) | omega); have ff := (hq 0).trans (show _ = some (.int .i64 a) by first | with_reducible assumption | (simp (maxDischargeDepth := 5) [go_sem]; done) | (simp (maxDischargeDepth := 5) [go_sem, *]; done)); have ff := (hq 1).trans (show _ = some (.int .i64 b) by first | with_reducible assumption | (simp (maxDischargeDepth := 5) [go_sem]; done) | (simp (maxDischargeDepth := 5) [go_sem, *]; done)); have gg := fun o => (hg o).trans (show _ = false by first | (with_reducible apply_assumption; done) | (simp (maxDischargeDepth := 5) [go_sem]; done) | (simp (maxDischargeDepth := 5) [go_sem, *]; done)); clear hq hg; refine kuse (b := b1_0) hk (by first | with_reducible assumption | (simp; done) | (simp; omega) | omega) ?_; intro hq hg; have hy : b1_0 < wz.heap.size := kept_lt hk (by first | with_reducible assumption | (simp; done) | (simp; omega) | omega); have ff := (hq 0).trans (show _ = some (.int .i64 (wh (u))) by first | with_reducible assumption | (simp (maxDischargeDepth := 5) [go_sem]; done) | (simp (maxDischargeDepth := 5) [go_sem, *]; done)); have ff := (hq 1).trans (show _ = some (.int .u64 (wl (u))) by first | with_reducible assumption | (simp (maxDischargeDepth := 5) [go_sem]; done) | (simp (maxDischargeDepth := 5) [go_sem, *]; done)); have gg := fun o => (hg o).trans (show _ = false by first | (with_reducible apply_assumption; done) | (simp (maxDischargeDepth := 5) [go_sem]; done) | (simp (maxDischargeDepth := 5) [go_sem, *]; done)); clear hq hg))) | fail
      all_goals (try go_wp2_with fail)
      try clear oz0 og0 of0_0 of0_1 oz1 og1 of1_0 of1_1 oz2 og2 of2_0 of2_1 oz3 og3 of3_0 of3_1 oz4 og4 of4_0 of4_1 oz5 og5 of5_0 of5_1 oz6 og6 of6_0 of6_1 oz7 og7 of7_0 of7_1
      by_cases s : a < 0
      · have HR := Lib.hid (isqrt_neg a b x1 x2 x3 s)
        obtain ⟨S, hS⟩ : ∃ x, wsq u = x := ⟨_, rfl⟩
        obtain ⟨T, hT⟩ : ∃ x, wsqE u = x := ⟨_, rfl⟩
        rw [hS, hT] at HS
        have HS := Lib.hid HS
        clear hS hT
        with_reducible refine (HR.out _).mono ?_
        rintro e w12 ⟨rfl, hk⟩
        have HO3_0 : Hid (OwnB w12 (b1_0) [.int .i64 (wh (u)), .int .u64 (wl (u))]) := Lib.hid (OwnB.kept hk (by repeat (first | with_reducible exact HO2_0.out | with_reducible refine OwnB.setOther ?_ (by first | with_reducible assumption | omega) | with_reducible refine OwnB.drew ?_ | with_reducible refine OwnB.drewN ?_ _ | with_reducible refine OwnB.alloc ?_ _ | with_reducible refine OwnB.kept (by with_reducible assumption) ?_)))
        have HO3_1 : Hid (OwnB w12 (b1_1) [.int .i64 (wh (v)), .int .u64 (wl (v))]) := Lib.hid (OwnB.kept hk (by repeat (first | with_reducible exact HO2_1.out | with_reducible refine OwnB.setOther ?_ (by first | with_reducible assumption | omega) | with_reducible refine OwnB.drew ?_ | with_reducible refine OwnB.drewN ?_ _ | with_reducible refine OwnB.alloc ?_ _ | with_reducible refine OwnB.kept (by with_reducible assumption) ?_)))
        have HO3_2 : Hid (OwnB w12 (w.heap.size) [.int .i64 a, .int .i64 b]) := Lib.hid (OwnB.kept hk (by repeat (first | with_reducible exact HO2_2.out | with_reducible refine OwnB.setOther ?_ (by first | with_reducible assumption | omega) | with_reducible refine OwnB.drew ?_ | with_reducible refine OwnB.drewN ?_ _ | with_reducible refine OwnB.alloc ?_ _ | with_reducible refine OwnB.kept (by with_reducible assumption) ?_)))
        have HO3_3 : Hid (OwnB w12 (w.heap.size + 1) [.int .i64 c, .int .i64 d]) := Lib.hid (OwnB.kept hk (by repeat (first | with_reducible exact HO2_3.out | with_reducible refine OwnB.setOther ?_ (by first | with_reducible assumption | omega) | with_reducible refine OwnB.drew ?_ | with_reducible refine OwnB.drewN ?_ _ | with_reducible refine OwnB.alloc ?_ _ | with_reducible refine OwnB.kept (by with_reducible assumption) ?_)))
        have HO3_4 : Hid (OwnB w12 (w.heap.size + 2) [.int .u64 n, .int .u64 m]) := Lib.hid (OwnB.kept hk (by repeat (first | with_reducible exact HO2_4.out | with_reducible refine OwnB.setOther ?_ (by first | with_reducible assumption | omega) | with_reducible refine OwnB.drew ?_ | with_reducible refine OwnB.drewN ?_ _ | with_reducible refine OwnB.alloc ?_ _ | with_reducible refine OwnB.kept (by with_reducible assumption) ?_)))
        have HO3_5 : Hid (OwnB w12 (w2.heap.size) [.int .i64 l, .int .i64 g]) := Lib.hid (OwnB.kept hk (by repeat (first | with_reducible exact HO2_5.out | with_reducible refine OwnB.setOther ?_ (by first | with_reducible assumption | omega) | with_reducible refine OwnB.drew ?_ | with_reducible refine OwnB.drewN ?_ _ | with_reducible refine OwnB.alloc ?_ _ | with_reducible refine OwnB.kept (by with_reducible assumption) ?_)))
        have HO3_6 : Hid (OwnB w12 (w10.heap.size) [.int .i64 (wh (D)), .int .u64 (wl (D))]) := Lib.hid (OwnB.kept hk (by repeat (first | with_reducible exact HO2_6.out | with_reducible refine OwnB.setOther ?_ (by first | with_reducible assumption | omega) | with_reducible refine OwnB.drew ?_ | with_reducible refine OwnB.drewN ?_ _ | with_reducible refine OwnB.alloc ?_ _ | with_reducible refine OwnB.kept (by with_reducible assumption) ?_)))
        have HO3_7 : Hid (OwnB w12 (w11.heap.size) [.int .i64 (wh (C)), .int .u64 (wl (C))]) := Lib.hid (OwnB.kept hk (by repeat (first | with_reducible exact HO2_7.out | with_reducible refine OwnB.setOther ?_ (by first | with_reducible assumption | omega) | with_reducible refine OwnB.drew ?_ | with_reducible refine OwnB.drewN ?_ _ | with_reducible refine OwnB.alloc ?_ _ | with_reducible refine OwnB.kept (by with_reducible assumption) ?_)))
        have HK3 : Hid (Kept w w12) := Lib.hid (Kept.trans (by repeat (first | with_reducible exact HK2.out | with_reducible refine Kept.setCell ?_ (by first | with_reducible assumption | omega) _ | with_reducible refine Kept.drew ?_ | with_reducible refine Kept.drewN ?_ _ | with_reducible refine Kept.alloc ?_ _ | with_reducible refine Kept.trans ?_ (by with_reducible assumption))) hk)
        clear hk HO2_0 HO2_1 HO2_2 HO2_3 HO2_4 HO2_5 HO2_6 HO2_7 HK2
        obtain ⟨oz0, og0, of0_0, of0_1, _⟩ := HO3_0.out
        obtain ⟨oz1, og1, of1_0, of1_1, _⟩ := HO3_1.out
        obtain ⟨oz2, og2, of2_0, of2_1, _⟩ := HO3_2.out
        obtain ⟨oz3, og3, of3_0, of3_1, _⟩ := HO3_3.out
        obtain ⟨oz4, og4, of4_0, of4_1, _⟩ := HO3_4.out
        obtain ⟨oz5, og5, of5_0, of5_1, _⟩ := HO3_5.out
        obtain ⟨oz6, og6, of6_0, of6_1, _⟩ := HO3_6.out
        obtain ⟨oz7, og7, of7_0, of7_1, _⟩ := HO3_7.out
        have nb0_8 : ¬ b1_0 = w12.heap.size := by omega
        have nc0_8 : ¬ w12.heap.size = b1_0 := by omega
        have nb1_8 : ¬ b1_1 = w12.heap.size := by omega
        have nc1_8 : ¬ w12.heap.size = b1_1 := by omega
        have nb2_8 : ¬ w.heap.size = w12.heap.size := by omega
        have nc2_8 : ¬ w12.heap.size = w.heap.size := by omega
        have nb3_8 : ¬ w.heap.size + 1 = w12.heap.size := by omega
        have nc3_8 : ¬ w12.heap.size = w.heap.size + 1 := by omega
        have nb4_8 : ¬ w.heap.size + 2 = w12.heap.size := by omega
        have nc4_8 : ¬ w12.heap.size = w.heap.size + 2 := by omega
        have nb5_8 : ¬ w2.heap.size = w12.heap.size := by omega
        have nc5_8 : ¬ w12.heap.size = w2.heap.size := by omega
        have nb6_8 : ¬ w10.heap.size = w12.heap.size := by omega
        have nc6_8 : ¬ w12.heap.size = w10.heap.size := by omega
        have nb7_8 : ¬ w11.heap.size = w12.heap.size := by omega
        have nc7_8 : ¬ w12.heap.size = w11.heap.size := by omega
        have nw8 : w.heap.size ≤ w12.heap.size := HK3.out.size
        go_wp2_with fail
        try clear oz0 og0 of0_0 of0_1 oz1 og1 of1_0 of1_1 oz2 og2 of2_0 of2_1 oz3 og3 of3_0 of3_1 oz4 og4 of4_0 of4_1 oz5 og5 of5_0 of5_1 oz6 og6 of6_0 of6_1 oz7 og7 of7_0 of7_1
        with_reducible refine (HS.out _).mono ?_
        rintro e w13 ⟨rfl, hk⟩
        have HO4_0 : Hid (OwnB w13 (b1_0) [.int .i64 (wh (u)), .int .u64 (wl (u))]) := Lib.hid (OwnB.kept hk (by repeat (first | with_reducible exact HO3_0.out | with_reducible refine OwnB.setOther ?_ (by first | with_reducible assumption | omega) | with_reducible refine OwnB.drew ?_ | with_reducible refine OwnB.drewN ?_ _ | with_reducible refine OwnB.alloc ?_ _ | with_reducible refine OwnB.kept (by with_reducible assumption) ?_)))
        have HO4_1 : Hid (OwnB w13 (b1_1) [.int .i64 (wh (v)), .int .u64 (wl (v))]) := Lib.hid (OwnB.kept hk (by repeat (first | with_reducible exact HO3_1.out | with_reducible refine OwnB.setOther ?_ (by first | with_reducible assumption | omega) | with_reducible refine OwnB.drew ?_ | with_reducible refine OwnB.drewN ?_ _ | with_reducible refine OwnB.alloc ?_ _ | with_reducible refine OwnB.kept (by with_reducible assumption) ?_)))
        have HO4_2 : Hid (OwnB w13 (w.heap.size) [.int .i64 a, .int .i64 b]) := Lib.hid (OwnB.kept hk (by repeat (first | with_reducible exact HO3_2.out | with_reducible refine OwnB.setOther ?_ (by first | with_reducible assumption | omega) | with_reducible refine OwnB.drew ?_ | with_reducible refine OwnB.drewN ?_ _ | with_reducible refine OwnB.alloc ?_ _ | with_reducible refine OwnB.kept (by with_reducible assumption) ?_)))
        have HO4_3 : Hid (OwnB w13 (w.heap.size + 1) [.int .i64 c, .int .i64 d]) := Lib.hid (OwnB.kept hk (by repeat (first | with_reducible exact HO3_3.out | with_reducible refine OwnB.setOther ?_ (by first | with_reducible assumption | omega) | with_reducible refine OwnB.drew ?_ | with_reducible refine OwnB.drewN ?_ _ | with_reducible refine OwnB.alloc ?_ _ | with_reducible refine OwnB.kept (by with_reducible assumption) ?_)))
        have HO4_4 : Hid (OwnB w13 (w.heap.size + 2) [.int .u64 n, .int .u64 m]) := Lib.hid (OwnB.kept hk (by repeat (first | with_reducible exact HO3_4.out | with_reducible refine OwnB.setOther ?_ (by first | with_reducible assumption | omega) | with_reducible refine OwnB.drew ?_ | with_reducible refine OwnB.drewN ?_ _ | with_reducible refine OwnB.alloc ?_ _ | with_reducible refine OwnB.kept (by with_reducible assumption) ?_)))
        have HO4_5 : Hid (OwnB w13 (w2.heap.size) [.int .i64 l, .int .i64 g]) := Lib.hid (OwnB.kept hk (by repeat (first | with_reducible exact HO3_5.out | with_reducible refine OwnB.setOther ?_ (by first | with_reducible assumption | omega) | with_reducible refine OwnB.drew ?_ | with_reducible refine OwnB.drewN ?_ _ | with_reducible refine OwnB.alloc ?_ _ | with_reducible refine OwnB.kept (by with_reducible assumption) ?_)))
        have HO4_6 : Hid (OwnB w13 (w10.heap.size) [.int .i64 (wh (D)), .int .u64 (wl (D))]) := Lib.hid (OwnB.kept hk (by repeat (first | with_reducible exact HO3_6.out | with_reducible refine OwnB.setOther ?_ (by first | with_reducible assumption | omega) | with_reducible refine OwnB.drew ?_ | with_reducible refine OwnB.drewN ?_ _ | with_reducible refine OwnB.alloc ?_ _ | with_reducible refine OwnB.kept (by with_reducible assumption) ?_)))
        have HO4_7 : Hid (OwnB w13 (w11.heap.size) [.int .i64 (wh (C)), .int .u64 (wl (C))]) := Lib.hid (OwnB.kept hk (by repeat (first | with_reducible exact HO3_7.out | with_reducible refine OwnB.setOther ?_ (by first | with_reducible assumption | omega) | with_reducible refine OwnB.drew ?_ | with_reducible refine OwnB.drewN ?_ _ | with_reducible refine OwnB.alloc ?_ _ | with_reducible refine OwnB.kept (by with_reducible assumption) ?_)))
        have HO4_8 : Hid (OwnB w13 (w12.heap.size) [.int .i64 0, .int .i64 0]) := Lib.hid (OwnB.kept hk (by repeat (first | with_reducible exact own_alloc _ [.int .i64 0, .int .i64 0] 23 | with_reducible refine OwnB.setOther ?_ (by first | with_reducible assumption | omega) | with_reducible refine OwnB.drew ?_ | with_reducible refine OwnB.drewN ?_ _ | with_reducible refine OwnB.alloc ?_ _ | with_reducible refine OwnB.kept (by with_reducible assumption) ?_)))
        have HK4 : Hid (Kept w w13) := Lib.hid (Kept.trans (by repeat (first | with_reducible exact HK3.out | with_reducible refine Kept.setCell ?_ (by first | with_reducible assumption | omega) _ | with_reducible refine Kept.drew ?_ | with_reducible refine Kept.drewN ?_ _ | with_reducible refine Kept.alloc ?_ _ | with_reducible refine Kept.trans ?_ (by with_reducible assumption))) hk)
        clear hk HO3_0 HO3_1 HO3_2 HO3_3 HO3_4 HO3_5 HO3_6 HO3_7 HK3
        obtain ⟨oz0, og0, of0_0, of0_1, _⟩ := HO4_0.out
        obtain ⟨oz1, og1, of1_0, of1_1, _⟩ := HO4_1.out
        obtain ⟨oz2, og2, of2_0, of2_1, _⟩ := HO4_2.out
        obtain ⟨oz3, og3, of3_0, of3_1, _⟩ := HO4_3.out
        obtain ⟨oz4, og4, of4_0, of4_1, _⟩ := HO4_4.out
        obtain ⟨oz5, og5, of5_0, of5_1, _⟩ := HO4_5.out
        obtain ⟨oz6, og6, of6_0, of6_1, _⟩ := HO4_6.out
        obtain ⟨oz7, og7, of7_0, of7_1, _⟩ := HO4_7.out
        obtain ⟨oz8, og8, of8_0, of8_1, _⟩ := HO4_8.out
        go_wp2_with fail
        try clear oz0 og0 of0_0 of0_1 oz1 og1 of1_0 of1_1 oz2 og2 of2_0 of2_1 oz3 og3 of3_0 of3_1 oz4 og4 of4_0 of4_1 oz5 og5 of5_0 of5_1 oz6 og6 of6_0 of6_1 oz7 og7 of7_0 of7_1 oz8 og8 of8_0 of8_1
        all_goals go_ret
        all_goals first | exact ⟨rfl, HK4.out⟩ | (refine ⟨?_, HK4.out⟩; simp; omega) | (refine ⟨?_, HK4.out⟩; simp [*]; done)
      · obtain ⟨s0, s1, s2, s3, s4⟩ := sq_in (a := a) (u := u) (b := b) (by omega) u0 u1 x3
        have HR := isqrt_ok a b (isq a) (isqUp b) x1 x2 x3 (by omega) (Lib.hid rfl) (Lib.hid rfl) s4 (by omega) (by omega)
        have E : wsqE u = true := by unfold wsqE; simp; omega
        rw [E] at HS
        obtain ⟨S, hS⟩ : ∃ x, wsq u = x := ⟨_, rfl⟩
        obtain ⟨A1, hA1⟩ : ∃ x, isq a = x := ⟨_, rfl⟩
        obtain ⟨B1, hB1⟩ : ∃ x, isqUp b = x := ⟨_, rfl⟩
        rw [hS] at HS s1 s2
        rw [hA1] at HR s0 s1 s4
        rw [hB1] at HR s2 s3 s4
        have HS := Lib.hid HS
        have HR := Lib.hid HR
        clear hS hA1 hB1 E
        have S0 : 0 ≤ S := by omega
        have wS : IntKind.i64.wrap S = S := IntWalk.i64_in _ (by omega)
        with_reducible refine (HR.out _).mono ?_
        rintro e w12 ⟨rfl, hk⟩
        have HO3_0 : Hid (OwnB w12 (b1_0) [.int .i64 (wh (u)), .int .u64 (wl (u))]) := Lib.hid (OwnB.kept hk (by repeat (first | with_reducible exact HO2_0.out | with_reducible refine OwnB.setOther ?_ (by first | with_reducible assumption | omega) | with_reducible refine OwnB.drew ?_ | with_reducible refine OwnB.drewN ?_ _ | with_reducible refine OwnB.alloc ?_ _ | with_reducible refine OwnB.kept (by with_reducible assumption) ?_)))
        have HO3_1 : Hid (OwnB w12 (b1_1) [.int .i64 (wh (v)), .int .u64 (wl (v))]) := Lib.hid (OwnB.kept hk (by repeat (first | with_reducible exact HO2_1.out | with_reducible refine OwnB.setOther ?_ (by first | with_reducible assumption | omega) | with_reducible refine OwnB.drew ?_ | with_reducible refine OwnB.drewN ?_ _ | with_reducible refine OwnB.alloc ?_ _ | with_reducible refine OwnB.kept (by with_reducible assumption) ?_)))
        have HO3_2 : Hid (OwnB w12 (w.heap.size) [.int .i64 a, .int .i64 b]) := Lib.hid (OwnB.kept hk (by repeat (first | with_reducible exact HO2_2.out | with_reducible refine OwnB.setOther ?_ (by first | with_reducible assumption | omega) | with_reducible refine OwnB.drew ?_ | with_reducible refine OwnB.drewN ?_ _ | with_reducible refine OwnB.alloc ?_ _ | with_reducible refine OwnB.kept (by with_reducible assumption) ?_)))
        have HO3_3 : Hid (OwnB w12 (w.heap.size + 1) [.int .i64 c, .int .i64 d]) := Lib.hid (OwnB.kept hk (by repeat (first | with_reducible exact HO2_3.out | with_reducible refine OwnB.setOther ?_ (by first | with_reducible assumption | omega) | with_reducible refine OwnB.drew ?_ | with_reducible refine OwnB.drewN ?_ _ | with_reducible refine OwnB.alloc ?_ _ | with_reducible refine OwnB.kept (by with_reducible assumption) ?_)))
        have HO3_4 : Hid (OwnB w12 (w.heap.size + 2) [.int .u64 n, .int .u64 m]) := Lib.hid (OwnB.kept hk (by repeat (first | with_reducible exact HO2_4.out | with_reducible refine OwnB.setOther ?_ (by first | with_reducible assumption | omega) | with_reducible refine OwnB.drew ?_ | with_reducible refine OwnB.drewN ?_ _ | with_reducible refine OwnB.alloc ?_ _ | with_reducible refine OwnB.kept (by with_reducible assumption) ?_)))
        have HO3_5 : Hid (OwnB w12 (w2.heap.size) [.int .i64 l, .int .i64 g]) := Lib.hid (OwnB.kept hk (by repeat (first | with_reducible exact HO2_5.out | with_reducible refine OwnB.setOther ?_ (by first | with_reducible assumption | omega) | with_reducible refine OwnB.drew ?_ | with_reducible refine OwnB.drewN ?_ _ | with_reducible refine OwnB.alloc ?_ _ | with_reducible refine OwnB.kept (by with_reducible assumption) ?_)))
        have HO3_6 : Hid (OwnB w12 (w10.heap.size) [.int .i64 (wh (D)), .int .u64 (wl (D))]) := Lib.hid (OwnB.kept hk (by repeat (first | with_reducible exact HO2_6.out | with_reducible refine OwnB.setOther ?_ (by first | with_reducible assumption | omega) | with_reducible refine OwnB.drew ?_ | with_reducible refine OwnB.drewN ?_ _ | with_reducible refine OwnB.alloc ?_ _ | with_reducible refine OwnB.kept (by with_reducible assumption) ?_)))
        have HO3_7 : Hid (OwnB w12 (w11.heap.size) [.int .i64 (wh (C)), .int .u64 (wl (C))]) := Lib.hid (OwnB.kept hk (by repeat (first | with_reducible exact HO2_7.out | with_reducible refine OwnB.setOther ?_ (by first | with_reducible assumption | omega) | with_reducible refine OwnB.drew ?_ | with_reducible refine OwnB.drewN ?_ _ | with_reducible refine OwnB.alloc ?_ _ | with_reducible refine OwnB.kept (by with_reducible assumption) ?_)))
        have HK3 : Hid (Kept w w12) := Lib.hid (Kept.trans (by repeat (first | with_reducible exact HK2.out | with_reducible refine Kept.setCell ?_ (by first | with_reducible assumption | omega) _ | with_reducible refine Kept.drew ?_ | with_reducible refine Kept.drewN ?_ _ | with_reducible refine Kept.alloc ?_ _ | with_reducible refine Kept.trans ?_ (by with_reducible assumption))) hk)
        clear hk HO2_0 HO2_1 HO2_2 HO2_3 HO2_4 HO2_5 HO2_6 HO2_7 HK2
        obtain ⟨oz0, og0, of0_0, of0_1, _⟩ := HO3_0.out
        obtain ⟨oz1, og1, of1_0, of1_1, _⟩ := HO3_1.out
        obtain ⟨oz2, og2, of2_0, of2_1, _⟩ := HO3_2.out
        obtain ⟨oz3, og3, of3_0, of3_1, _⟩ := HO3_3.out
        obtain ⟨oz4, og4, of4_0, of4_1, _⟩ := HO3_4.out
        obtain ⟨oz5, og5, of5_0, of5_1, _⟩ := HO3_5.out
        obtain ⟨oz6, og6, of6_0, of6_1, _⟩ := HO3_6.out
        obtain ⟨oz7, og7, of7_0, of7_1, _⟩ := HO3_7.out
        have nb0_8 : ¬ b1_0 = w12.heap.size := by omega
        have nc0_8 : ¬ w12.heap.size = b1_0 := by omega
        have nb1_8 : ¬ b1_1 = w12.heap.size := by omega
        have nc1_8 : ¬ w12.heap.size = b1_1 := by omega
        have nb2_8 : ¬ w.heap.size = w12.heap.size := by omega
        have nc2_8 : ¬ w12.heap.size = w.heap.size := by omega
        have nb3_8 : ¬ w.heap.size + 1 = w12.heap.size := by omega
        have nc3_8 : ¬ w12.heap.size = w.heap.size + 1 := by omega
        have nb4_8 : ¬ w.heap.size + 2 = w12.heap.size := by omega
        have nc4_8 : ¬ w12.heap.size = w.heap.size + 2 := by omega
        have nb5_8 : ¬ w2.heap.size = w12.heap.size := by omega
        have nc5_8 : ¬ w12.heap.size = w2.heap.size := by omega
        have nb6_8 : ¬ w10.heap.size = w12.heap.size := by omega
        have nc6_8 : ¬ w12.heap.size = w10.heap.size := by omega
        have nb7_8 : ¬ w11.heap.size = w12.heap.size := by omega
        have nc7_8 : ¬ w12.heap.size = w11.heap.size := by omega
        have nw8 : w.heap.size ≤ w12.heap.size := HK3.out.size
        go_wp2_with fail
        try clear oz0 og0 of0_0 of0_1 oz1 og1 of1_0 of1_1 oz2 og2 of2_0 of2_1 oz3 og3 of3_0 of3_1 oz4 og4 of4_0 of4_1 oz5 og5 of5_0 of5_1 oz6 og6 of6_0 of6_1 oz7 og7 of7_0 of7_1
        with_reducible refine (HS.out _).mono ?_
        rintro e w13 ⟨rfl, hk⟩
        have HO4_0 : Hid (OwnB w13 (b1_0) [.int .i64 (wh (u)), .int .u64 (wl (u))]) := Lib.hid (OwnB.kept hk (by repeat (first | with_reducible exact HO3_0.out | with_reducible refine OwnB.setOther ?_ (by first | with_reducible assumption | omega) | with_reducible refine OwnB.drew ?_ | with_reducible refine OwnB.drewN ?_ _ | with_reducible refine OwnB.alloc ?_ _ | with_reducible refine OwnB.kept (by with_reducible assumption) ?_)))
        have HO4_1 : Hid (OwnB w13 (b1_1) [.int .i64 (wh (v)), .int .u64 (wl (v))]) := Lib.hid (OwnB.kept hk (by repeat (first | with_reducible exact HO3_1.out | with_reducible refine OwnB.setOther ?_ (by first | with_reducible assumption | omega) | with_reducible refine OwnB.drew ?_ | with_reducible refine OwnB.drewN ?_ _ | with_reducible refine OwnB.alloc ?_ _ | with_reducible refine OwnB.kept (by with_reducible assumption) ?_)))
        have HO4_2 : Hid (OwnB w13 (w.heap.size) [.int .i64 a, .int .i64 b]) := Lib.hid (OwnB.kept hk (by repeat (first | with_reducible exact HO3_2.out | with_reducible refine OwnB.setOther ?_ (by first | with_reducible assumption | omega) | with_reducible refine OwnB.drew ?_ | with_reducible refine OwnB.drewN ?_ _ | with_reducible refine OwnB.alloc ?_ _ | with_reducible refine OwnB.kept (by with_reducible assumption) ?_)))
        have HO4_3 : Hid (OwnB w13 (w.heap.size + 1) [.int .i64 c, .int .i64 d]) := Lib.hid (OwnB.kept hk (by repeat (first | with_reducible exact HO3_3.out | with_reducible refine OwnB.setOther ?_ (by first | with_reducible assumption | omega) | with_reducible refine OwnB.drew ?_ | with_reducible refine OwnB.drewN ?_ _ | with_reducible refine OwnB.alloc ?_ _ | with_reducible refine OwnB.kept (by with_reducible assumption) ?_)))
        have HO4_4 : Hid (OwnB w13 (w.heap.size + 2) [.int .u64 n, .int .u64 m]) := Lib.hid (OwnB.kept hk (by repeat (first | with_reducible exact HO3_4.out | with_reducible refine OwnB.setOther ?_ (by first | with_reducible assumption | omega) | with_reducible refine OwnB.drew ?_ | with_reducible refine OwnB.drewN ?_ _ | with_reducible refine OwnB.alloc ?_ _ | with_reducible refine OwnB.kept (by with_reducible assumption) ?_)))
        have HO4_5 : Hid (OwnB w13 (w2.heap.size) [.int .i64 l, .int .i64 g]) := Lib.hid (OwnB.kept hk (by repeat (first | with_reducible exact HO3_5.out | with_reducible refine OwnB.setOther ?_ (by first | with_reducible assumption | omega) | with_reducible refine OwnB.drew ?_ | with_reducible refine OwnB.drewN ?_ _ | with_reducible refine OwnB.alloc ?_ _ | with_reducible refine OwnB.kept (by with_reducible assumption) ?_)))
        have HO4_6 : Hid (OwnB w13 (w10.heap.size) [.int .i64 (wh (D)), .int .u64 (wl (D))]) := Lib.hid (OwnB.kept hk (by repeat (first | with_reducible exact HO3_6.out | with_reducible refine OwnB.setOther ?_ (by first | with_reducible assumption | omega) | with_reducible refine OwnB.drew ?_ | with_reducible refine OwnB.drewN ?_ _ | with_reducible refine OwnB.alloc ?_ _ | with_reducible refine OwnB.kept (by with_reducible assumption) ?_)))
        have HO4_7 : Hid (OwnB w13 (w11.heap.size) [.int .i64 (wh (C)), .int .u64 (wl (C))]) := Lib.hid (OwnB.kept hk (by repeat (first | with_reducible exact HO3_7.out | with_reducible refine OwnB.setOther ?_ (by first | with_reducible assumption | omega) | with_reducible refine OwnB.drew ?_ | with_reducible refine OwnB.drewN ?_ _ | with_reducible refine OwnB.alloc ?_ _ | with_reducible refine OwnB.kept (by with_reducible assumption) ?_)))
        have HO4_8 : Hid (OwnB w13 (w12.heap.size) [.int .i64 A1, .int .i64 B1]) := Lib.hid (OwnB.kept hk (by repeat (first | with_reducible exact own_alloc _ [.int .i64 A1, .int .i64 B1] 23 | with_reducible refine OwnB.setOther ?_ (by first | with_reducible assumption | omega) | with_reducible refine OwnB.drew ?_ | with_reducible refine OwnB.drewN ?_ _ | with_reducible refine OwnB.alloc ?_ _ | with_reducible refine OwnB.kept (by with_reducible assumption) ?_)))
        have HK4 : Hid (Kept w w13) := Lib.hid (Kept.trans (by repeat (first | with_reducible exact HK3.out | with_reducible refine Kept.setCell ?_ (by first | with_reducible assumption | omega) _ | with_reducible refine Kept.drew ?_ | with_reducible refine Kept.drewN ?_ _ | with_reducible refine Kept.alloc ?_ _ | with_reducible refine Kept.trans ?_ (by with_reducible assumption))) hk)
        clear hk HO3_0 HO3_1 HO3_2 HO3_3 HO3_4 HO3_5 HO3_6 HO3_7 HK3
        obtain ⟨oz0, og0, of0_0, of0_1, _⟩ := HO4_0.out
        obtain ⟨oz1, og1, of1_0, of1_1, _⟩ := HO4_1.out
        obtain ⟨oz2, og2, of2_0, of2_1, _⟩ := HO4_2.out
        obtain ⟨oz3, og3, of3_0, of3_1, _⟩ := HO4_3.out
        obtain ⟨oz4, og4, of4_0, of4_1, _⟩ := HO4_4.out
        obtain ⟨oz5, og5, of5_0, of5_1, _⟩ := HO4_5.out
        obtain ⟨oz6, og6, of6_0, of6_1, _⟩ := HO4_6.out
        obtain ⟨oz7, og7, of7_0, of7_1, _⟩ := HO4_7.out
        obtain ⟨oz8, og8, of8_0, of8_1, _⟩ := HO4_8.out
        go_wp2_with fail
        try clear oz0 og0 of0_0 of0_1 oz1 og1 of1_0 of1_1 oz2 og2 of2_0 of2_1 oz3 og3 of3_0 of3_1 oz4 og4 of4_0 of4_1 oz5 og5 of5_0 of5_1 oz6 og6 of6_0 of6_1 oz7 og7 of7_0 of7_1 oz8 og8 of8_0 of8_1
        all_goals go_ret
        all_goals first | exact ⟨rfl, HK4.out⟩ | (refine ⟨?_, HK4.out⟩; simp; omega) | (refine ⟨?_, HK4.out⟩; simp [*]; done)
  · rcases hr2 with rfl | rfl
    · first | (go_region_held3 (fun W => W.cell? ⟨w2.heap.size, 0, none⟩ = some (.int .i64 l) ∧ W.cell? ⟨w2.heap.size, 1, none⟩ = some (.int .i64 g) ∧ W.cell? ⟨w10.heap.size, 0, none⟩ = some (.int .i64 (wh (D))) ∧ W.cell? ⟨w10.heap.size, 1, none⟩ = some (.int .u64 (wl (D))) ∧ W.cell? ⟨w11.heap.size, 0, none⟩ = some (.int .i64 (wh (C))) ∧ W.cell? ⟨w11.heap.size, 1, none⟩ = some (.int .u64 (wl (C))) ∧ W.cell? ⟨w.heap.size, 0, none⟩ = some (.int .i64 a) ∧ W.cell? ⟨w.heap.size, 1, none⟩ = some (.int .i64 b) ∧ W.cell? ⟨b1_0, 0, none⟩ = some (.int .i64 (wh (u))) ∧ W.cell? ⟨b1_0, 1, none⟩ = some (.int .u64 (wl (u)))) (first | (go_keep; done) | (simp (maxDischargeDepth := 9) [*, World.cell?_alloc_some, World.cell?_setCell_far]; done) | (simp (maxDischargeDepth := 9) [go_sem, *]; done)) (first | (go_at_call 49; with_reducible refine (HO3.out _).mono ?_; rintro e wz ⟨rfl, hk⟩; refine kuse (b := w2.heap.size) hk (by first | with_reducible assumption | (simp; done) | (simp; omega) | omega) ?_; intro hq hg; have hy : w2.heap.size < wz.heap.size := kept_lt hk (by first | with_reducible assumption | (simp; done) | (simp; omega) | omega); have ff := (hq 0).trans (show _ = some (.int .i64 l) by first | with_reducible assumption | (simp (maxDischargeDepth := 5) [go_sem]; done) | (simp (maxDischargeDepth := 5) [go_sem, *]; done)); have ff := (hq 1).trans (show _ = some (.int .i64 g) by first | with_reducible assumption | (simp (maxDischargeDepth := 5) [go_sem]; done) | (simp (maxDischargeDepth := 5) [go_sem, *]; done)); have gg := fun o => (hg o).trans (show _ = false by first | (with_reducible apply_assumption; done) | (simp (maxDischargeDepth := 5) [go_sem]; done) | (simp (maxDischargeDepth := 5) [go_sem, *]; done)); clear hq hg; refine kuse (b := w10.heap.size) hk (by first | with_reducible assumption | (simp; done) | (simp; omega) | omega) ?_; intro hq hg; have hy : w10.heap.size < wz.heap.size := kept_lt hk (by first | with_reducible assumption | (simp; done) | (simp; omega) | omega); have ff := (hq 0).trans (show _ = some (.int .i64 (wh (D))) by first | with_reducible assumption | (simp (maxDischargeDepth := 5) [go_sem]; done) | (simp (maxDischargeDepth := 5) [go_sem, *]; done)); have ff := (hq 1).trans (show _ = some (.int .u64 (wl (D))) by first | with_reducible assumption | (simp (maxDischargeDepth := 5) [go_sem]; done) | (simp (maxDischargeDepth := 5) [go_sem, *]; done)); have gg := fun o => (hg o).trans (show _ = false by first | (with_reducible apply_assumption; done) | (simp (maxDischargeDepth := 5) [go_sem]; done) | (simp (maxDischargeDepth := 5) [go_sem, *]; done)); clear hq hg; refine kuse (b := w11.heap.size) hk (by first | with_reducible assumption | (simp; done) | (simp; omega) | omega) ?_; intro hq hg; have hy : w11.heap.size < wz.heap.size := kept_lt hk (by first | with_reducible assumption | (simp; done) | (simp; omega) | omega); have ff := (hq 0).trans (show _ = some (.int .i64 (wh (C))) by first | with_reducible assumption | (simp (maxDischargeDepth := 5) [go_sem]; done) | (simp (maxDischargeDepth := 5) [go_sem, *]; done)); have ff := (hq 1).trans (show _ = some (.int .u64 (wl (C))) by first | with_reducible assumption | (simp (maxDischargeDepth := 5) [go_sem]; done) | (simp (maxDischargeDepth := 5) [go_sem, *]; done)); have gg := fun o => (hg o).trans (show _ = false by first | (with_reducible apply_assumption; done) | (simp (maxDischargeDepth := 5) [go_sem]; done) | (simp (maxDischargeDepth := 5) [go_sem, *]; done)); clear hq hg; refine kuse (b := w.heap.size) hk (by first | with_reducible assumption | (simp; done) | (simp; omega) | omega) ?_; intro hq hg; have hy : w.heap.size < wz.heap.size := kept_lt hk (by first | with_reducible assumption | (simp; done) | (simp; omega) | omega); have ff := (hq 0).trans (show _ = some (.int .i64 a) by first | with_reducible assumption | (simp (maxDischargeDepth := 5) [go_sem]; done) | (simp (maxDischargeDepth := 5) [go_sem, *]; done)); have ff := (hq 1).trans (show _ = some (.int .i64 b) by first | with_reducible assumption | (simp (maxDischargeDepth := 5) [go_sem]; done) | (simp (maxDischargeDepth := 5) [go_sem, *]; done)); have gg := fun o => (hg o).trans (show _ = false by first | (with_reducible apply_assumption; done) | (simp (maxDischargeDepth := 5) [go_sem]; done) | (simp (maxDischargeDepth := 5) [go_sem, *]; done)); clear hq hg; refine kuse (b := b1_0) hk (by first | with_reducible assumption | (simp; done) | (simp; omega) | omega) ?_; intro hq hg; have hy : b1_0 < wz.heap.size := kept_lt hk (by first | with_reducible assumption | (simp; done) | (simp; omega) | omega); have ff := (hq 0).trans (show _ = some (.int .i64 (wh (u))) by first | with_reducible assumption | (simp (maxDischargeDepth := 5) [go_sem]; done) | (simp (maxDischargeDepth := 5) [go_sem, *]; done)); have ff := (hq 1).trans (show _ = some (.int .u64 (wl (u))) by first | with_reducible assumption | (simp (maxDischargeDepth := 5) [go_sem]; done) | (simp (maxDischargeDepth := 5) [go_sem, *]; done)); have gg := fun o => (hg o).trans (show _ = false by first | (with_reducible apply_assumption; done) | (simp (maxDischargeDepth := 5) [go_sem]; done) | (simp (maxDischargeDepth := 5) [go_sem, *]; done)); clear hq hg) | (go_at_call 49; with_reducible refine (HO4.out _).mono ?_; rintro e wz ⟨rfl, hk⟩; refine kuse (b := w2.heap.size) hk (by first | with_reducible assumption | (simp; done) | (simp; omega) | omega) ?_; intro hq hg; have hy : w2.heap.size < wz.heap.size := kept_lt hk (by first | with_reducible assumption | (simp; done) | (simp; omega) | omega); have ff := (hq 0).trans (show _ = some (.int .i64 l) by first | with_reducible assumption | (simp (maxDischargeDepth := 5) [go_sem]; done) | (simp (maxDischargeDepth := 5) [go_sem, *]; done)); have ff := (hq 1).trans (show _ = some (.int .i64 g) by first | with_reducible assumption | (simp (maxDischargeDepth := 5) [go_sem]; done) | (simp (maxDischargeDepth := 5) [go_sem, *]; done)); have gg := fun o => (hg o).trans (show _ = false by first | (with_reducible apply_assumption; done) | (simp (maxDischargeDepth := 5) [go_sem]; done) | (simp (maxDischargeDepth := 5) [go_sem, *]; done)); clear hq hg; refine kuse (b := w10.heap.size) hk (by first | with_reducible assumption | (simp; done) | (simp; omega) | omega) ?_; intro hq hg; have hy : w10.heap.size < wz.heap.size := kept_lt hk (by first | with_reducible assumption | (simp; done) | (simp; omega) | omega); have ff := (hq 0).trans (show _ = some (.int .i64 (wh (D))) by first | with_reducible assumption | (simp (maxDischargeDepth := 5) [go_sem]; done) | (simp (maxDischargeDepth := 5) [go_sem, *]; done)); have ff := (hq 1).trans (show _ = some (.int .u64 (wl (D))) by first | with_reducible assumption | (simp (maxDischargeDepth := 5) [go_sem]; done) | (simp (maxDischargeDepth := 5) [go_sem, *]; done)); have gg := fun o => (hg o).trans (show _ = false by first | (with_reducible apply_assumption; done) | (simp (maxDischargeDepth := 5) [go_sem]; done) | (simp (maxDischargeDepth := 5) [go_sem, *]; done)); clear hq hg; refine kuse (b := w11.heap.size) hk (by first | with_reducible assumption | (simp; done) | (simp; omega) | omega) ?_; intro hq hg; have hy : w11.heap.size < wz.heap.size := kept_lt hk (by first | with_reducible assumption | (simp; done) | (simp; omega) | omega); have ff := (hq 0).trans (show _ = some (.int .i64 (wh (C))) by first | with_reducible assumption | (simp (maxDischargeDepth := 5) [go_sem]; done) | (simp (maxDischargeDepth := 5) [go_sem, *]; done)); have ff := (hq 1).trans (show _ = some (.int .u64 (wl (C))) by first | with_reducible assumption | (simp (maxDischargeDepth := 5) [go_sem]; done) | (simp (maxDischargeDepth := 5) [go_sem, *]; done)); have gg := fun o => (hg o).trans (show _ = false by first | (with_reducible apply_assumption; done) | (simp (maxDischargeDepth := 5) [go_sem]; done) | (simp (maxDischargeDepth := 5) [go_sem, *]; done)); clear hq hg; refine kuse (b := w.heap.size) hk (by first | with_reducible assumption | (simp; done) | (simp; omega) | omega) ?_; intro hq hg; have hy : w.heap.size < wz.heap.size := kept_lt hk (by first | with_reducible assumption | (simp; done) | (simp; omega) | omega); have ff := (hq 0).trans (show _ = some (.int .i64 a) by first | with_reducible assumption | (simp (maxDischargeDepth := 5) [go_sem]; done) | (simp (maxDischargeDepth := 5) [go_sem, *]; done)); have ff := (hq 1).trans (show _ = some (.int .i64 b) by first | with_reducible assumption | (simp (maxDischargeDepth := 5) [go_sem]; done) | (simp (maxDischargeDepth := 5) [go_sem, *]; done)); have gg := fun o => (hg o).trans (show _ = false by first | (with_reducible apply_assumption; done) | (simp (maxDischargeDepth := 5) [go_sem]; done) | (simp (maxDischargeDepth := 5) [go_sem, *]; done)); clear hq hg; refine kuse (b := b1_0) hk (by first | with_reducible assumption | (simp; done) | (simp; omega) | omega) ?_; intro hq hg; have hy : b1_0 < wz.heap.size := kept_lt hk (by first | with_reducible assumption | (simp; done) | (simp; omega) | omega); have ff := (hq 0).trans (show _ = some (.int .i64 (wh (u))) by first | with_reducible assumption | (simp (maxDischargeDepth := 5) [go_sem]; done) | (simp (maxDischargeDepth := 5) [go_sem, *]; done)); have ff := (hq 1).trans (show _ = some (.int .u64 (wl (u))) by first | with_reducible assumption | (simp (maxDischargeDepth := 5) [go_sem]; done) | (simp (maxDischargeDepth := 5) [go_sem, *]; done)); have gg := fun o => (hg o).trans (show _ = false by first | (with_reducible apply_assumption; done) | (simp (maxDischargeDepth := 5) [go_sem]; done) | (simp (maxDischargeDepth := 5) [go_sem, *]; done)); clear hq hg) | (go_at_call 52; with_reducible refine (HC1.out _).mono ?_; rintro e wz ⟨rfl, hk⟩; refine kuse (b := w2.heap.size) hk (by first | with_reducible assumption | (simp; done) | (simp; omega) | omega) ?_; intro hq hg; have hy : w2.heap.size < wz.heap.size := kept_lt hk (by first | with_reducible assumption | (simp; done) | (simp; omega) | omega); have ff := (hq 0).trans (show _ = some (.int .i64 l) by first | with_reducible assumption | (simp (maxDischargeDepth := 5) [go_sem]; done) | (simp (maxDischargeDepth := 5) [go_sem, *]; done)); have ff := (hq 1).trans (show _ = some (.int .i64 g) by first | with_reducible assumption | (simp (maxDischargeDepth := 5) [go_sem]; done) | (simp (maxDischargeDepth := 5) [go_sem, *]; done)); have gg := fun o => (hg o).trans (show _ = false by first | (with_reducible apply_assumption; done) | (simp (maxDischargeDepth := 5) [go_sem]; done) | (simp (maxDischargeDepth := 5) [go_sem, *]; done)); clear hq hg; refine kuse (b := w10.heap.size) hk (by first | with_reducible assumption | (simp; done) | (simp; omega) | omega) ?_; intro hq hg; have hy : w10.heap.size < wz.heap.size := kept_lt hk (by first | with_reducible assumption | (simp; done) | (simp; omega) | omega); have ff := (hq 0).trans (show _ = some (.int .i64 (wh (D))) by first | with_reducible assumption | (simp (maxDischargeDepth := 5) [go_sem]; done) | (simp (maxDischargeDepth := 5) [go_sem, *]; done)); have ff := (hq 1).trans (show _ = some (.int .u64 (wl (D))) by first | with_reducible assumption | (simp (maxDischargeDepth := 5) [go_sem]; done) | (simp (maxDischargeDepth := 5) [go_sem, *]; done)); have gg := fun o => (hg o).trans (show _ = false by first | (with_reducible apply_assumption; done) | (simp (maxDischargeDepth := 5) [go_sem]; done) | (simp (maxDischargeDepth := 5) [go_sem, *]; done)); clear hq hg; refine kuse (b := w11.heap.size) hk (by first | with_reducible assumption | (simp; done) | (simp; omega) | omega) ?_; intro hq hg; have hy : w11.heap.size < wz.heap.size := kept_lt hk (by first | with_reducible assumption | (simp; done) | (simp; omega) | omega); have ff := (hq 0).trans (show _ = some (.int .i64 (wh (C))) by first | with_reducible assumption | (simp (maxDischargeDepth := 5) [go_sem]; done) | (simp (maxDischargeDepth := 5) [go_sem, *]; done)); have ff := (hq 1).trans (show _ = some (.int .u64 (wl (C))) by first | with_reducible assumption | (simp (maxDischargeDepth := 5) [go_sem]; done) | (simp (maxDischargeDepth := 5) [go_sem, *]; done)); have gg := fun o => (hg o).trans (show _ = false by first | (with_reducible apply_assumption; done) | (simp (maxDischargeDepth := 5) [go_sem]; done) | (simp (maxDischargeDepth := 5) [go_sem, *]; done)); clear hq hg; refine kuse (b := w.heap.size) hk (by first | with_reducible assumption | (simp; done) | (simp; omega) | omega) ?_; intro hq hg; have hy : w.heap.size < wz.heap.size := kept_lt hk (by first | with_reducible assumption | (simp; done) | (simp; omega) | omega); have ff := (hq 0).trans (show _ = some (.int .i64 a) by first | with_reducible assumption | (simp (maxDischargeDepth := 5) [go_sem]; done) | (simp (maxDischargeDepth := 5) [go_sem, *]; done)); have ff := (hq 1).trans (show _ = some (.int .i64 b) by first | with_reducible assumption | (simp (maxDischargeDepth := 5) [go_sem]; done) | (simp (maxDischargeDepth := 5) [go_sem, *]; done)); have gg := fun o => (hg o).trans (show _ = false by first | (with_reducible apply_assumption; done) | (simp (maxDischargeDepth := 5) [go_sem]; done) | (simp (maxDischargeDepth := 5) [go_sem, *]; done)); clear hq hg; refine kuse (b := b1_0) hk (by first | with_reducible assumption | (simp; done) | (simp; omega) | omega) ?_; intro hq hg; have hy : b1_0 < wz.heap.size := kept_lt hk (by first | with_reducible assumption | (simp; done) | (simp; omega) | omega); have ff := (hq 0).trans (show _ = some (.int .i64 (wh (u))) by first | with_reducible assumption | (simp (maxDischargeDepth := 5) [go_sem]; done) | (simp (maxDischargeDepth := 5) [go_sem, *]; done)); have ff := (hq 1).trans (show _ = some (.int .u64 (wl (u))) by first | with_reducible assumption | (simp (maxDischargeDepth := 5) [go_sem]; done) | (simp (maxDischargeDepth := 5) [go_sem, *]; done)); have gg := fun o => (hg o).trans (show _ = false by first | (with_reducible apply_assumption; done) | (simp (maxDischargeDepth := 5) [go_sem]; done) | (simp (maxDischargeDepth := 5) [go_sem, *]; done)); clear hq hg) | (go_at_call 52; with_reducible refine (HC2.out _).mono ?_; rintro e wz ⟨rfl, hk⟩; refine kuse (b := w2.heap.size) hk (by first | with_reducible assumption | (simp; done) | (simp; omega) | omega) ?_; intro hq hg; have hy : w2.heap.size < wz.heap.size := kept_lt hk (by first | with_reducible assumption | (simp; done) | (simp; omega) | omega); have ff := (hq 0).trans (show _ = some (.int .i64 l) by first | with_reducible assumption | (simp (maxDischargeDepth := 5) [go_sem]; done) | (simp (maxDischargeDepth := 5) [go_sem, *]; done)); have ff := (hq 1).trans (show _ = some (.int .i64 g) by first | with_reducible assumption | (simp (maxDischargeDepth := 5) [go_sem]; done) | (simp (maxDischargeDepth := 5) [go_sem, *]; done)); have gg := fun o => (hg o).trans (show _ = false by first | (with_reducible apply_assumption; done) | (simp (maxDischargeDepth := 5) [go_sem]; done) | (simp (maxDischargeDepth := 5) [go_sem, *]; done)); clear hq hg; refine kuse (b := w10.heap.size) hk (by first | with_reducible assumption | (simp; done) | (simp; omega) | omega) ?_; intro hq hg; have hy : w10.heap.size < wz.heap.size := kept_lt hk (by first | with_reducible assumption | (simp; done) | (simp; omega) | omega); have ff := (hq 0).trans (show _ = some (.int .i64 (wh (D))) by first | with_reducible assumption | (simp (maxDischargeDepth := 5) [go_sem]; done) | (simp (maxDischargeDepth := 5) [go_sem, *]; done)); have ff := (hq 1).trans (show _ = some (.int .u64 (wl (D))) by first | with_reducible assumption | (simp (maxDischargeDepth := 5) [go_sem]; done) | (simp (maxDischargeDepth := 5) [go_sem, *]; done)); have gg := fun o => (hg o).trans (show _ = false by first | (with_reducible apply_assumption; done) | (simp (maxDischargeDepth := 5) [go_sem]; done) | (simp (maxDischargeDepth := 5) [go_sem, *]; done)); clear hq hg; refine kuse (b := w11.heap.size) hk (by first | with_reducible assumption | (simp; done) | (simp; omega) | omega) ?_; intro hq hg; have hy : w11.heap.size < wz.heap.size := kept_lt hk (by first | with_reducible assumption | (simp; done) | (simp; omega) | omega); have ff := (hq 0).trans (show _ = some (.int .i64 (wh (C))) by first | with_reducible assumption | (simp (maxDischargeDepth := 5) [go_sem]; done) | (simp (maxDischargeDepth := 5) [go_sem, *]; done)); have ff := (hq 1).trans (show _ = some (.int .u64 (wl (C))) by first | with_reducible assumption | (simp (maxDischargeDepth := 5) [go_sem]; done) | (simp (maxDischargeDepth := 5) [go_sem, *]; done)); have gg := fun o => (hg o).trans (show _ = false by first | (with_reducible apply_assumption; done) | (simp (maxDischargeDepth := 5) [go_sem]; done) | (simp (maxDischargeDepth := 5) [go_sem, *]; done)); clear hq hg; refine kuse (b := w.heap.size) hk (by first | with_reducible assumption | (simp; done) | (simp; omega) | omega) ?_; intro hq hg; have hy : w.heap.size < wz.heap.size := kept_lt hk (by first | with_reducible assumption | (simp; done) | (simp; omega) | omega); have ff := (hq 0).trans (show _ = some (.int .i64 a) by first | with_reducible assumption | (simp (maxDischargeDepth := 5) [go_sem]; done) | (simp (maxDischargeDepth := 5) [go_sem, *]; done)); have ff := (hq 1).trans (show _ = some (.int .i64 b) by first | with_reducible assumption | (simp (maxDischargeDepth := 5) [go_sem]; done) | (simp (maxDischargeDepth := 5) [go_sem, *]; done)); have gg := fun o => (hg o).trans (show _ = false by first | (with_reducible apply_assumption; done) | (simp (maxDischargeDepth := 5) [go_sem]; done) | (simp (maxDischargeDepth := 5) [go_sem, *]; done)); clear hq hg; refine kuse (b := b1_0) hk (by first | with_reducible assumption | (simp; done) | (simp; omega) | omega) ?_; intro hq hg; have hy : b1_0 < wz.heap.size := kept_lt hk (by first | with_reducible assumption | (simp; done) | (simp; omega) | omega); have ff := (hq 0).trans (show _ = some (.int .i64 (wh (u))) by first | with_reducible assumption | (simp (maxDischargeDepth := 5) [go_sem]; done) | (simp (maxDischargeDepth := 5) [go_sem, *]; done)); have ff := (hq 1).trans (show _ = some (.int .u64 (wl (u))) by first | with_reducible assumption | (simp (maxDischargeDepth := 5) [go_sem]; done) | (simp (maxDischargeDepth := 5) [go_sem, *]; done)); have gg := fun o => (hg o).trans (show _ = false by first | (with_reducible apply_assumption; done) | (simp (maxDischargeDepth := 5) [go_sem]; done) | (simp (maxDischargeDepth := 5) [go_sem, *]; done)); clear hq hg))) | fail
      all_goals (try go_wp2_with fail)
      try clear oz0 og0 of0_0 of0_1 oz1 og1 of1_0 of1_1 oz2 og2 of2_0 of2_1 oz3 og3 of3_0 of3_1 oz4 og4 of4_0 of4_1 oz5 og5 of5_0 of5_1 oz6 og6 of6_0 of6_1 oz7 og7 of7_0 of7_1
      by_cases s : a < 0
      · have HR := Lib.hid (isqrt_neg a b x1 x2 x3 s)
        obtain ⟨S, hS⟩ : ∃ x, wsq u = x := ⟨_, rfl⟩
        obtain ⟨T, hT⟩ : ∃ x, wsqE u = x := ⟨_, rfl⟩
        rw [hS, hT] at HS
        have HS := Lib.hid HS
        clear hS hT
        with_reducible refine (HR.out _).mono ?_
        rintro e w12 ⟨rfl, hk⟩
        have HO3_0 : Hid (OwnB w12 (b1_0) [.int .i64 (wh (u)), .int .u64 (wl (u))]) := Lib.hid (OwnB.kept hk (by repeat (first | with_reducible exact HO2_0.out | with_reducible refine OwnB.setOther ?_ (by first | with_reducible assumption | omega) | with_reducible refine OwnB.drew ?_ | with_reducible refine OwnB.drewN ?_ _ | with_reducible refine OwnB.alloc ?_ _ | with_reducible refine OwnB.kept (by with_reducible assumption) ?_)))
        have HO3_1 : Hid (OwnB w12 (b1_1) [.int .i64 (wh (v)), .int .u64 (wl (v))]) := Lib.hid (OwnB.kept hk (by repeat (first | with_reducible exact HO2_1.out | with_reducible refine OwnB.setOther ?_ (by first | with_reducible assumption | omega) | with_reducible refine OwnB.drew ?_ | with_reducible refine OwnB.drewN ?_ _ | with_reducible refine OwnB.alloc ?_ _ | with_reducible refine OwnB.kept (by with_reducible assumption) ?_)))
        have HO3_2 : Hid (OwnB w12 (w.heap.size) [.int .i64 a, .int .i64 b]) := Lib.hid (OwnB.kept hk (by repeat (first | with_reducible exact HO2_2.out | with_reducible refine OwnB.setOther ?_ (by first | with_reducible assumption | omega) | with_reducible refine OwnB.drew ?_ | with_reducible refine OwnB.drewN ?_ _ | with_reducible refine OwnB.alloc ?_ _ | with_reducible refine OwnB.kept (by with_reducible assumption) ?_)))
        have HO3_3 : Hid (OwnB w12 (w.heap.size + 1) [.int .i64 c, .int .i64 d]) := Lib.hid (OwnB.kept hk (by repeat (first | with_reducible exact HO2_3.out | with_reducible refine OwnB.setOther ?_ (by first | with_reducible assumption | omega) | with_reducible refine OwnB.drew ?_ | with_reducible refine OwnB.drewN ?_ _ | with_reducible refine OwnB.alloc ?_ _ | with_reducible refine OwnB.kept (by with_reducible assumption) ?_)))
        have HO3_4 : Hid (OwnB w12 (w.heap.size + 2) [.int .u64 n, .int .u64 m]) := Lib.hid (OwnB.kept hk (by repeat (first | with_reducible exact HO2_4.out | with_reducible refine OwnB.setOther ?_ (by first | with_reducible assumption | omega) | with_reducible refine OwnB.drew ?_ | with_reducible refine OwnB.drewN ?_ _ | with_reducible refine OwnB.alloc ?_ _ | with_reducible refine OwnB.kept (by with_reducible assumption) ?_)))
        have HO3_5 : Hid (OwnB w12 (w2.heap.size) [.int .i64 l, .int .i64 g]) := Lib.hid (OwnB.kept hk (by repeat (first | with_reducible exact HO2_5.out | with_reducible refine OwnB.setOther ?_ (by first | with_reducible assumption | omega) | with_reducible refine OwnB.drew ?_ | with_reducible refine OwnB.drewN ?_ _ | with_reducible refine OwnB.alloc ?_ _ | with_reducible refine OwnB.kept (by with_reducible assumption) ?_)))
        have HO3_6 : Hid (OwnB w12 (w10.heap.size) [.int .i64 (wh (D)), .int .u64 (wl (D))]) := Lib.hid (OwnB.kept hk (by repeat (first | with_reducible exact HO2_6.out | with_reducible refine OwnB.setOther ?_ (by first | with_reducible assumption | omega) | with_reducible refine OwnB.drew ?_ | with_reducible refine OwnB.drewN ?_ _ | with_reducible refine OwnB.alloc ?_ _ | with_reducible refine OwnB.kept (by with_reducible assumption) ?_)))
        have HO3_7 : Hid (OwnB w12 (w11.heap.size) [.int .i64 (wh (C)), .int .u64 (wl (C))]) := Lib.hid (OwnB.kept hk (by repeat (first | with_reducible exact HO2_7.out | with_reducible refine OwnB.setOther ?_ (by first | with_reducible assumption | omega) | with_reducible refine OwnB.drew ?_ | with_reducible refine OwnB.drewN ?_ _ | with_reducible refine OwnB.alloc ?_ _ | with_reducible refine OwnB.kept (by with_reducible assumption) ?_)))
        have HK3 : Hid (Kept w w12) := Lib.hid (Kept.trans (by repeat (first | with_reducible exact HK2.out | with_reducible refine Kept.setCell ?_ (by first | with_reducible assumption | omega) _ | with_reducible refine Kept.drew ?_ | with_reducible refine Kept.drewN ?_ _ | with_reducible refine Kept.alloc ?_ _ | with_reducible refine Kept.trans ?_ (by with_reducible assumption))) hk)
        clear hk HO2_0 HO2_1 HO2_2 HO2_3 HO2_4 HO2_5 HO2_6 HO2_7 HK2
        obtain ⟨oz0, og0, of0_0, of0_1, _⟩ := HO3_0.out
        obtain ⟨oz1, og1, of1_0, of1_1, _⟩ := HO3_1.out
        obtain ⟨oz2, og2, of2_0, of2_1, _⟩ := HO3_2.out
        obtain ⟨oz3, og3, of3_0, of3_1, _⟩ := HO3_3.out
        obtain ⟨oz4, og4, of4_0, of4_1, _⟩ := HO3_4.out
        obtain ⟨oz5, og5, of5_0, of5_1, _⟩ := HO3_5.out
        obtain ⟨oz6, og6, of6_0, of6_1, _⟩ := HO3_6.out
        obtain ⟨oz7, og7, of7_0, of7_1, _⟩ := HO3_7.out
        have nb0_8 : ¬ b1_0 = w12.heap.size := by omega
        have nc0_8 : ¬ w12.heap.size = b1_0 := by omega
        have nb1_8 : ¬ b1_1 = w12.heap.size := by omega
        have nc1_8 : ¬ w12.heap.size = b1_1 := by omega
        have nb2_8 : ¬ w.heap.size = w12.heap.size := by omega
        have nc2_8 : ¬ w12.heap.size = w.heap.size := by omega
        have nb3_8 : ¬ w.heap.size + 1 = w12.heap.size := by omega
        have nc3_8 : ¬ w12.heap.size = w.heap.size + 1 := by omega
        have nb4_8 : ¬ w.heap.size + 2 = w12.heap.size := by omega
        have nc4_8 : ¬ w12.heap.size = w.heap.size + 2 := by omega
        have nb5_8 : ¬ w2.heap.size = w12.heap.size := by omega
        have nc5_8 : ¬ w12.heap.size = w2.heap.size := by omega
        have nb6_8 : ¬ w10.heap.size = w12.heap.size := by omega
        have nc6_8 : ¬ w12.heap.size = w10.heap.size := by omega
        have nb7_8 : ¬ w11.heap.size = w12.heap.size := by omega
        have nc7_8 : ¬ w12.heap.size = w11.heap.size := by omega
        have nw8 : w.heap.size ≤ w12.heap.size := HK3.out.size
        go_wp2_with fail
        try clear oz0 og0 of0_0 of0_1 oz1 og1 of1_0 of1_1 oz2 og2 of2_0 of2_1 oz3 og3 of3_0 of3_1 oz4 og4 of4_0 of4_1 oz5 og5 of5_0 of5_1 oz6 og6 of6_0 of6_1 oz7 og7 of7_0 of7_1
        with_reducible refine (HS.out _).mono ?_
        rintro e w13 ⟨rfl, hk⟩
        have HO4_0 : Hid (OwnB w13 (b1_0) [.int .i64 (wh (u)), .int .u64 (wl (u))]) := Lib.hid (OwnB.kept hk (by repeat (first | with_reducible exact HO3_0.out | with_reducible refine OwnB.setOther ?_ (by first | with_reducible assumption | omega) | with_reducible refine OwnB.drew ?_ | with_reducible refine OwnB.drewN ?_ _ | with_reducible refine OwnB.alloc ?_ _ | with_reducible refine OwnB.kept (by with_reducible assumption) ?_)))
        have HO4_1 : Hid (OwnB w13 (b1_1) [.int .i64 (wh (v)), .int .u64 (wl (v))]) := Lib.hid (OwnB.kept hk (by repeat (first | with_reducible exact HO3_1.out | with_reducible refine OwnB.setOther ?_ (by first | with_reducible assumption | omega) | with_reducible refine OwnB.drew ?_ | with_reducible refine OwnB.drewN ?_ _ | with_reducible refine OwnB.alloc ?_ _ | with_reducible refine OwnB.kept (by with_reducible assumption) ?_)))
        have HO4_2 : Hid (OwnB w13 (w.heap.size) [.int .i64 a, .int .i64 b]) := Lib.hid (OwnB.kept hk (by repeat (first | with_reducible exact HO3_2.out | with_reducible refine OwnB.setOther ?_ (by first | with_reducible assumption | omega) | with_reducible refine OwnB.drew ?_ | with_reducible refine OwnB.drewN ?_ _ | with_reducible refine OwnB.alloc ?_ _ | with_reducible refine OwnB.kept (by with_reducible assumption) ?_)))
        have HO4_3 : Hid (OwnB w13 (w.heap.size + 1) [.int .i64 c, .int .i64 d]) := Lib.hid (OwnB.kept hk (by repeat (first | with_reducible exact HO3_3.out | with_reducible refine OwnB.setOther ?_ (by first | with_reducible assumption | omega) | with_reducible refine OwnB.drew ?_ | with_reducible refine OwnB.drewN ?_ _ | with_reducible refine OwnB.alloc ?_ _ | with_reducible refine OwnB.kept (by with_reducible assumption) ?_)))
        have HO4_4 : Hid (OwnB w13 (w.heap.size + 2) [.int .u64 n, .int .u64 m]) := Lib.hid (OwnB.kept hk (by repeat (first | with_reducible exact HO3_4.out | with_reducible refine OwnB.setOther ?_ (by first | with_reducible assumption | omega) | with_reducible refine OwnB.drew ?_ | with_reducible refine OwnB.drewN ?_ _ | with_reducible refine OwnB.alloc ?_ _ | with_reducible refine OwnB.kept (by with_reducible assumption) ?_)))
        have HO4_5 : Hid (OwnB w13 (w2.heap.size) [.int .i64 l, .int .i64 g]) := Lib.hid (OwnB.kept hk (by repeat (first | with_reducible exact HO3_5.out | with_reducible refine OwnB.setOther ?_ (by first | with_reducible assumption | omega) | with_reducible refine OwnB.drew ?_ | with_reducible refine OwnB.drewN ?_ _ | with_reducible refine OwnB.alloc ?_ _ | with_reducible refine OwnB.kept (by with_reducible assumption) ?_)))
        have HO4_6 : Hid (OwnB w13 (w10.heap.size) [.int .i64 (wh (D)), .int .u64 (wl (D))]) := Lib.hid (OwnB.kept hk (by repeat (first | with_reducible exact HO3_6.out | with_reducible refine OwnB.setOther ?_ (by first | with_reducible assumption | omega) | with_reducible refine OwnB.drew ?_ | with_reducible refine OwnB.drewN ?_ _ | with_reducible refine OwnB.alloc ?_ _ | with_reducible refine OwnB.kept (by with_reducible assumption) ?_)))
        have HO4_7 : Hid (OwnB w13 (w11.heap.size) [.int .i64 (wh (C)), .int .u64 (wl (C))]) := Lib.hid (OwnB.kept hk (by repeat (first | with_reducible exact HO3_7.out | with_reducible refine OwnB.setOther ?_ (by first | with_reducible assumption | omega) | with_reducible refine OwnB.drew ?_ | with_reducible refine OwnB.drewN ?_ _ | with_reducible refine OwnB.alloc ?_ _ | with_reducible refine OwnB.kept (by with_reducible assumption) ?_)))
        have HO4_8 : Hid (OwnB w13 (w12.heap.size) [.int .i64 0, .int .i64 0]) := Lib.hid (OwnB.kept hk (by repeat (first | with_reducible exact own_alloc _ [.int .i64 0, .int .i64 0] 23 | with_reducible refine OwnB.setOther ?_ (by first | with_reducible assumption | omega) | with_reducible refine OwnB.drew ?_ | with_reducible refine OwnB.drewN ?_ _ | with_reducible refine OwnB.alloc ?_ _ | with_reducible refine OwnB.kept (by with_reducible assumption) ?_)))
        have HK4 : Hid (Kept w w13) := Lib.hid (Kept.trans (by repeat (first | with_reducible exact HK3.out | with_reducible refine Kept.setCell ?_ (by first | with_reducible assumption | omega) _ | with_reducible refine Kept.drew ?_ | with_reducible refine Kept.drewN ?_ _ | with_reducible refine Kept.alloc ?_ _ | with_reducible refine Kept.trans ?_ (by with_reducible assumption))) hk)
        clear hk HO3_0 HO3_1 HO3_2 HO3_3 HO3_4 HO3_5 HO3_6 HO3_7 HK3
        obtain ⟨oz0, og0, of0_0, of0_1, _⟩ := HO4_0.out
        obtain ⟨oz1, og1, of1_0, of1_1, _⟩ := HO4_1.out
        obtain ⟨oz2, og2, of2_0, of2_1, _⟩ := HO4_2.out
        obtain ⟨oz3, og3, of3_0, of3_1, _⟩ := HO4_3.out
        obtain ⟨oz4, og4, of4_0, of4_1, _⟩ := HO4_4.out
        obtain ⟨oz5, og5, of5_0, of5_1, _⟩ := HO4_5.out
        obtain ⟨oz6, og6, of6_0, of6_1, _⟩ := HO4_6.out
        obtain ⟨oz7, og7, of7_0, of7_1, _⟩ := HO4_7.out
        obtain ⟨oz8, og8, of8_0, of8_1, _⟩ := HO4_8.out
        go_wp2_with fail
        try clear oz0 og0 of0_0 of0_1 oz1 og1 of1_0 of1_1 oz2 og2 of2_0 of2_1 oz3 og3 of3_0 of3_1 oz4 og4 of4_0 of4_1 oz5 og5 of5_0 of5_1 oz6 og6 of6_0 of6_1 oz7 og7 of7_0 of7_1 oz8 og8 of8_0 of8_1
        all_goals go_ret
        all_goals first | exact ⟨rfl, HK4.out⟩ | (refine ⟨?_, HK4.out⟩; simp; omega) | (refine ⟨?_, HK4.out⟩; simp [*]; done)
      · obtain ⟨s0, s1, s2, s3, s4⟩ := sq_in (a := a) (u := u) (b := b) (by omega) u0 u1 x3
        have HR := isqrt_ok a b (isq a) (isqUp b) x1 x2 x3 (by omega) (Lib.hid rfl) (Lib.hid rfl) s4 (by omega) (by omega)
        have E : wsqE u = true := by unfold wsqE; simp; omega
        rw [E] at HS
        obtain ⟨S, hS⟩ : ∃ x, wsq u = x := ⟨_, rfl⟩
        obtain ⟨A1, hA1⟩ : ∃ x, isq a = x := ⟨_, rfl⟩
        obtain ⟨B1, hB1⟩ : ∃ x, isqUp b = x := ⟨_, rfl⟩
        rw [hS] at HS s1 s2
        rw [hA1] at HR s0 s1 s4
        rw [hB1] at HR s2 s3 s4
        have HS := Lib.hid HS
        have HR := Lib.hid HR
        clear hS hA1 hB1 E
        have S0 : 0 ≤ S := by omega
        have wS : IntKind.i64.wrap S = S := IntWalk.i64_in _ (by omega)
        with_reducible refine (HR.out _).mono ?_
        rintro e w12 ⟨rfl, hk⟩
        have HO3_0 : Hid (OwnB w12 (b1_0) [.int .i64 (wh (u)), .int .u64 (wl (u))]) := Lib.hid (OwnB.kept hk (by repeat (first | with_reducible exact HO2_0.out | with_reducible refine OwnB.setOther ?_ (by first | with_reducible assumption | omega) | with_reducible refine OwnB.drew ?_ | with_reducible refine OwnB.drewN ?_ _ | with_reducible refine OwnB.alloc ?_ _ | with_reducible refine OwnB.kept (by with_reducible assumption) ?_)))
        have HO3_1 : Hid (OwnB w12 (b1_1) [.int .i64 (wh (v)), .int .u64 (wl (v))]) := Lib.hid (OwnB.kept hk (by repeat (first | with_reducible exact HO2_1.out | with_reducible refine OwnB.setOther ?_ (by first | with_reducible assumption | omega) | with_reducible refine OwnB.drew ?_ | with_reducible refine OwnB.drewN ?_ _ | with_reducible refine OwnB.alloc ?_ _ | with_reducible refine OwnB.kept (by with_reducible assumption) ?_)))
        have HO3_2 : Hid (OwnB w12 (w.heap.size) [.int .i64 a, .int .i64 b]) := Lib.hid (OwnB.kept hk (by repeat (first | with_reducible exact HO2_2.out | with_reducible refine OwnB.setOther ?_ (by first | with_reducible assumption | omega) | with_reducible refine OwnB.drew ?_ | with_reducible refine OwnB.drewN ?_ _ | with_reducible refine OwnB.alloc ?_ _ | with_reducible refine OwnB.kept (by with_reducible assumption) ?_)))
        have HO3_3 : Hid (OwnB w12 (w.heap.size + 1) [.int .i64 c, .int .i64 d]) := Lib.hid (OwnB.kept hk (by repeat (first | with_reducible exact HO2_3.out | with_reducible refine OwnB.setOther ?_ (by first | with_reducible assumption | omega) | with_reducible refine OwnB.drew ?_ | with_reducible refine OwnB.drewN ?_ _ | with_reducible refine OwnB.alloc ?_ _ | with_reducible refine OwnB.kept (by with_reducible assumption) ?_)))
        have HO3_4 : Hid (OwnB w12 (w.heap.size + 2) [.int .u64 n, .int .u64 m]) := Lib.hid (OwnB.kept hk (by repeat (first | with_reducible exact HO2_4.out | with_reducible refine OwnB.setOther ?_ (by first | with_reducible assumption | omega) | with_reducible refine OwnB.drew ?_ | with_reducible refine OwnB.drewN ?_ _ | with_reducible refine OwnB.alloc ?_ _ | with_reducible refine OwnB.kept (by with_reducible assumption) ?_)))
        have HO3_5 : Hid (OwnB w12 (w2.heap.size) [.int .i64 l, .int .i64 g]) := Lib.hid (OwnB.kept hk (by repeat (first | with_reducible exact HO2_5.out | with_reducible refine OwnB.setOther ?_ (by first | with_reducible assumption | omega) | with_reducible refine OwnB.drew ?_ | with_reducible refine OwnB.drewN ?_ _ | with_reducible refine OwnB.alloc ?_ _ | with_reducible refine OwnB.kept (by with_reducible assumption) ?_)))
        have HO3_6 : Hid (OwnB w12 (w10.heap.size) [.int .i64 (wh (D)), .int .u64 (wl (D))]) := Lib.hid (OwnB.kept hk (by repeat (first | with_reducible exact HO2_6.out | with_reducible refine OwnB.setOther ?_ (by first | with_reducible assumption | omega) | with_reducible refine OwnB.drew ?_ | with_reducible refine OwnB.drewN ?_ _ | with_reducible refine OwnB.alloc ?_ _ | with_reducible refine OwnB.kept (by with_reducible assumption) ?_)))
        have HO3_7 : Hid (OwnB w12 (w11.heap.size) [.int .i64 (wh (C)), .int .u64 (wl (C))]) := Lib.hid (OwnB.kept hk (by repeat (first | with_reducible exact HO2_7.out | with_reducible refine OwnB.setOther ?_ (by first | with_reducible assumption | omega) | with_reducible refine OwnB.drew ?_ | with_reducible refine OwnB.drewN ?_ _ | with_reducible refine OwnB.alloc ?_ _ | with_reducible refine OwnB.kept (by with_reducible assumption) ?_)))
        have HK3 : Hid (Kept w w12) := Lib.hid (Kept.trans (by repeat (first | with_reducible exact HK2.out | with_reducible refine Kept.setCell ?_ (by first | with_reducible assumption | omega) _ | with_reducible refine Kept.drew ?_ | with_reducible refine Kept.drewN ?_ _ | with_reducible refine Kept.alloc ?_ _ | with_reducible refine Kept.trans ?_ (by with_reducible assumption))) hk)
        clear hk HO2_0 HO2_1 HO2_2 HO2_3 HO2_4 HO2_5 HO2_6 HO2_7 HK2
        obtain ⟨oz0, og0, of0_0, of0_1, _⟩ := HO3_0.out
        obtain ⟨oz1, og1, of1_0, of1_1, _⟩ := HO3_1.out
        obtain ⟨oz2, og2, of2_0, of2_1, _⟩ := HO3_2.out
        obtain ⟨oz3, og3, of3_0, of3_1, _⟩ := HO3_3.out
        obtain ⟨oz4, og4, of4_0, of4_1, _⟩ := HO3_4.out
        obtain ⟨oz5, og5, of5_0, of5_1, _⟩ := HO3_5.out
        obtain ⟨oz6, og6, of6_0, of6_1, _⟩ := HO3_6.out
        obtain ⟨oz7, og7, of7_0, of7_1, _⟩ := HO3_7.out
        have nb0_8 : ¬ b1_0 = w12.heap.size := by omega
        have nc0_8 : ¬ w12.heap.size = b1_0 := by omega
        have nb1_8 : ¬ b1_1 = w12.heap.size := by omega
        have nc1_8 : ¬ w12.heap.size = b1_1 := by omega
        have nb2_8 : ¬ w.heap.size = w12.heap.size := by omega
        have nc2_8 : ¬ w12.heap.size = w.heap.size := by omega
        have nb3_8 : ¬ w.heap.size + 1 = w12.heap.size := by omega
        have nc3_8 : ¬ w12.heap.size = w.heap.size + 1 := by omega
        have nb4_8 : ¬ w.heap.size + 2 = w12.heap.size := by omega
        have nc4_8 : ¬ w12.heap.size = w.heap.size + 2 := by omega
        have nb5_8 : ¬ w2.heap.size = w12.heap.size := by omega
        have nc5_8 : ¬ w12.heap.size = w2.heap.size := by omega
        have nb6_8 : ¬ w10.heap.size = w12.heap.size := by omega
        have nc6_8 : ¬ w12.heap.size = w10.heap.size := by omega
        have nb7_8 : ¬ w11.heap.size = w12.heap.size := by omega
        have nc7_8 : ¬ w12.heap.size = w11.heap.size := by omega
        have nw8 : w.heap.size ≤ w12.heap.size := HK3.out.size
        go_wp2_with fail
        try clear oz0 og0 of0_0 of0_1 oz1 og1 of1_0 of1_1 oz2 og2 of2_0 of2_1 oz3 og3 of3_0 of3_1 oz4 og4 of4_0 of4_1 oz5 og5 of5_0 of5_1 oz6 og6 of6_0 of6_1 oz7 og7 of7_0 of7_1
        with_reducible refine (HS.out _).mono ?_
        rintro e w13 ⟨rfl, hk⟩
        have HO4_0 : Hid (OwnB w13 (b1_0) [.int .i64 (wh (u)), .int .u64 (wl (u))]) := Lib.hid (OwnB.kept hk (by repeat (first | with_reducible exact HO3_0.out | with_reducible refine OwnB.setOther ?_ (by first | with_reducible assumption | omega) | with_reducible refine OwnB.drew ?_ | with_reducible refine OwnB.drewN ?_ _ | with_reducible refine OwnB.alloc ?_ _ | with_reducible refine OwnB.kept (by with_reducible assumption) ?_)))
        have HO4_1 : Hid (OwnB w13 (b1_1) [.int .i64 (wh (v)), .int .u64 (wl (v))]) := Lib.hid (OwnB.kept hk (by repeat (first | with_reducible exact HO3_1.out | with_reducible refine OwnB.setOther ?_ (by first | with_reducible assumption | omega) | with_reducible refine OwnB.drew ?_ | with_reducible refine OwnB.drewN ?_ _ | with_reducible refine OwnB.alloc ?_ _ | with_reducible refine OwnB.kept (by with_reducible assumption) ?_)))
        have HO4_2 : Hid (OwnB w13 (w.heap.size) [.int .i64 a, .int .i64 b]) := Lib.hid (OwnB.kept hk (by repeat (first | with_reducible exact HO3_2.out | with_reducible refine OwnB.setOther ?_ (by first | with_reducible assumption | omega) | with_reducible refine OwnB.drew ?_ | with_reducible refine OwnB.drewN ?_ _ | with_reducible refine OwnB.alloc ?_ _ | with_reducible refine OwnB.kept (by with_reducible assumption) ?_)))
        have HO4_3 : Hid (OwnB w13 (w.heap.size + 1) [.int .i64 c, .int .i64 d]) := Lib.hid (OwnB.kept hk (by repeat (first | with_reducible exact HO3_3.out | with_reducible refine OwnB.setOther ?_ (by first | with_reducible assumption | omega) | with_reducible refine OwnB.drew ?_ | with_reducible refine OwnB.drewN ?_ _ | with_reducible refine OwnB.alloc ?_ _ | with_reducible refine OwnB.kept (by with_reducible assumption) ?_)))
        have HO4_4 : Hid (OwnB w13 (w.heap.size + 2) [.int .u64 n, .int .u64 m]) := Lib.hid (OwnB.kept hk (by repeat (first | with_reducible exact HO3_4.out | with_reducible refine OwnB.setOther ?_ (by first | with_reducible assumption | omega) | with_reducible refine OwnB.drew ?_ | with_reducible refine OwnB.drewN ?_ _ | with_reducible refine OwnB.alloc ?_ _ | with_reducible refine OwnB.kept (by with_reducible assumption) ?_)))
        have HO4_5 : Hid (OwnB w13 (w2.heap.size) [.int .i64 l, .int .i64 g]) := Lib.hid (OwnB.kept hk (by repeat (first | with_reducible exact HO3_5.out | with_reducible refine OwnB.setOther ?_ (by first | with_reducible assumption | omega) | with_reducible refine OwnB.drew ?_ | with_reducible refine OwnB.drewN ?_ _ | with_reducible refine OwnB.alloc ?_ _ | with_reducible refine OwnB.kept (by with_reducible assumption) ?_)))
        have HO4_6 : Hid (OwnB w13 (w10.heap.size) [.int .i64 (wh (D)), .int .u64 (wl (D))]) := Lib.hid (OwnB.kept hk (by repeat (first | with_reducible exact HO3_6.out | with_reducible refine OwnB.setOther ?_ (by first | with_reducible assumption | omega) | with_reducible refine OwnB.drew ?_ | with_reducible refine OwnB.drewN ?_ _ | with_reducible refine OwnB.alloc ?_ _ | with_reducible refine OwnB.kept (by with_reducible assumption) ?_)))
        have HO4_7 : Hid (OwnB w13 (w11.heap.size) [.int .i64 (wh (C)), .int .u64 (wl (C))]) := Lib.hid (OwnB.kept hk (by repeat (first | with_reducible exact HO3_7.out | with_reducible refine OwnB.setOther ?_ (by first | with_reducible assumption | omega) | with_reducible refine OwnB.drew ?_ | with_reducible refine OwnB.drewN ?_ _ | with_reducible refine OwnB.alloc ?_ _ | with_reducible refine OwnB.kept (by with_reducible assumption) ?_)))
        have HO4_8 : Hid (OwnB w13 (w12.heap.size) [.int .i64 A1, .int .i64 B1]) := Lib.hid (OwnB.kept hk (by repeat (first | with_reducible exact own_alloc _ [.int .i64 A1, .int .i64 B1] 23 | with_reducible refine OwnB.setOther ?_ (by first | with_reducible assumption | omega) | with_reducible refine OwnB.drew ?_ | with_reducible refine OwnB.drewN ?_ _ | with_reducible refine OwnB.alloc ?_ _ | with_reducible refine OwnB.kept (by with_reducible assumption) ?_)))
        have HK4 : Hid (Kept w w13) := Lib.hid (Kept.trans (by repeat (first | with_reducible exact HK3.out | with_reducible refine Kept.setCell ?_ (by first | with_reducible assumption | omega) _ | with_reducible refine Kept.drew ?_ | with_reducible refine Kept.drewN ?_ _ | with_reducible refine Kept.alloc ?_ _ | with_reducible refine Kept.trans ?_ (by with_reducible assumption))) hk)
        clear hk HO3_0 HO3_1 HO3_2 HO3_3 HO3_4 HO3_5 HO3_6 HO3_7 HK3
        obtain ⟨oz0, og0, of0_0, of0_1, _⟩ := HO4_0.out
        obtain ⟨oz1, og1, of1_0, of1_1, _⟩ := HO4_1.out
        obtain ⟨oz2, og2, of2_0, of2_1, _⟩ := HO4_2.out
        obtain ⟨oz3, og3, of3_0, of3_1, _⟩ := HO4_3.out
        obtain ⟨oz4, og4, of4_0, of4_1, _⟩ := HO4_4.out
        obtain ⟨oz5, og5, of5_0, of5_1, _⟩ := HO4_5.out
        obtain ⟨oz6, og6, of6_0, of6_1, _⟩ := HO4_6.out
        obtain ⟨oz7, og7, of7_0, of7_1, _⟩ := HO4_7.out
        obtain ⟨oz8, og8, of8_0, of8_1, _⟩ := HO4_8.out
        go_wp2_with fail
        try clear oz0 og0 of0_0 of0_1 oz1 og1 of1_0 of1_1 oz2 og2 of2_0 of2_1 oz3 og3 of3_0 of3_1 oz4 og4 of4_0 of4_1 oz5 og5 of5_0 of5_1 oz6 og6 of6_0 of6_1 oz7 og7 of7_0 of7_1 oz8 og8 of8_0 of8_1
        all_goals go_ret
        all_goals first | exact ⟨rfl, HK4.out⟩ | (refine ⟨?_, HK4.out⟩; simp; omega) | (refine ⟨?_, HK4.out⟩; simp [*]; done)
    · first | (go_region_held3 (fun W => W.cell? ⟨w2.heap.size, 0, none⟩ = some (.int .i64 l) ∧ W.cell? ⟨w2.heap.size, 1, none⟩ = some (.int .i64 g) ∧ W.cell? ⟨w10.heap.size, 0, none⟩ = some (.int .i64 (wh (D))) ∧ W.cell? ⟨w10.heap.size, 1, none⟩ = some (.int .u64 (wl (D))) ∧ W.cell? ⟨w11.heap.size, 0, none⟩ = some (.int .i64 (wh (C))) ∧ W.cell? ⟨w11.heap.size, 1, none⟩ = some (.int .u64 (wl (C))) ∧ W.cell? ⟨w.heap.size, 0, none⟩ = some (.int .i64 a) ∧ W.cell? ⟨w.heap.size, 1, none⟩ = some (.int .i64 b) ∧ W.cell? ⟨b1_0, 0, none⟩ = some (.int .i64 (wh (u))) ∧ W.cell? ⟨b1_0, 1, none⟩ = some (.int .u64 (wl (u)))) (first | (go_keep; done) | (simp (maxDischargeDepth := 9) [*, World.cell?_alloc_some, World.cell?_setCell_far]; done) | (simp (maxDischargeDepth := 9) [go_sem, *]; done)) (first | (go_at_call 49; with_reducible refine (HO3.out _).mono ?_; rintro e wz ⟨rfl, hk⟩; refine kuse (b := w2.heap.size) hk (by first | with_reducible assumption | (simp; done) | (simp; omega) | omega) ?_; intro hq hg; have hy : w2.heap.size < wz.heap.size := kept_lt hk (by first | with_reducible assumption | (simp; done) | (simp; omega) | omega); have ff := (hq 0).trans (show _ = some (.int .i64 l) by first | with_reducible assumption | (simp (maxDischargeDepth := 5) [go_sem]; done) | (simp (maxDischargeDepth := 5) [go_sem, *]; done)); have ff := (hq 1).trans (show _ = some (.int .i64 g) by first | with_reducible assumption | (simp (maxDischargeDepth := 5) [go_sem]; done) | (simp (maxDischargeDepth := 5) [go_sem, *]; done)); have gg := fun o => (hg o).trans (show _ = false by first | (with_reducible apply_assumption; done) | (simp (maxDischargeDepth := 5) [go_sem]; done) | (simp (maxDischargeDepth := 5) [go_sem, *]; done)); clear hq hg; refine kuse (b := w10.heap.size) hk (by first | with_reducible assumption | (simp; done) | (simp; omega) | omega) ?_; intro hq hg; have hy : w10.heap.size < wz.heap.size := kept_lt hk (by first | with_reducible assumption | (simp; done) | (simp; omega) | omega); have ff := (hq 0).trans (show _ = some (.int .i64 (wh (D))) by first | with_reducible assumption | (simp (maxDischargeDepth := 5) [go_sem]; done) | (simp (maxDischargeDepth := 5) [go_sem, *]; done)); have ff := (hq 1).trans (show _ = some (.int .u64 (wl (D))) by first | with_reducible assumption | (simp (maxDischargeDepth := 5) [go_sem]; done) | (simp (maxDischargeDepth := 5) [go_sem, *]; done)); have gg := fun o => (hg o).trans (show _ = false by first | (with_reducible apply_assumption; done) | (simp (maxDischargeDepth := 5) [go_sem]; done) | (simp (maxDischargeDepth := 5) [go_sem, *]; done)); clear hq hg; refine kuse (b := w11.heap.size) hk (by first | with_reducible assumption | (simp; done) | (simp; omega) | omega) ?_; intro hq hg; have hy : w11.heap.size < wz.heap.size := kept_lt hk (by first | with_reducible assumption | (simp; done) | (simp; omega) | omega); have ff := (hq 0).trans (show _ = some (.int .i64 (wh (C))) by first | with_reducible assumption | (simp (maxDischargeDepth := 5) [go_sem]; done) | (simp (maxDischargeDepth := 5) [go_sem, *]; done)); have ff := (hq 1).trans (show _ = some (.int .u64 (wl (C))) by first | with_reducible assumption | (simp (maxDischargeDepth := 5) [go_sem]; done) | (simp (maxDischargeDepth := 5) [go_sem, *]; done)); have gg := fun o => (hg o).trans (show _ = false by first | (with_reducible apply_assumption; done) | (simp (maxDischargeDepth := 5) [go_sem]; done) | (simp (maxDischargeDepth := 5) [go_sem, *]; done)); clear hq hg; refine kuse (b := w.heap.size) hk (by first | with_reducible assumption | (simp; done) | (simp; omega) | omega) ?_; intro hq hg; have hy : w.heap.size < wz.heap.size := kept_lt hk (by first | with_reducible assumption | (simp; done) | (simp; omega) | omega); have ff := (hq 0).trans (show _ = some (.int .i64 a) by first | with_reducible assumption | (simp (maxDischargeDepth := 5) [go_sem]; done) | (simp (maxDischargeDepth := 5) [go_sem, *]; done)); have ff := (hq 1).trans (show _ = some (.int .i64 b) by first | with_reducible assumption | (simp (maxDischargeDepth := 5) [go_sem]; done) | (simp (maxDischargeDepth := 5) [go_sem, *]; done)); have gg := fun o => (hg o).trans (show _ = false by first | (with_reducible apply_assumption; done) | (simp (maxDischargeDepth := 5) [go_sem]; done) | (simp (maxDischargeDepth := 5) [go_sem, *]; done)); clear hq hg; refine kuse (b := b1_0) hk (by first | with_reducible assumption | (simp; done) | (simp; omega) | omega) ?_; intro hq hg; have hy : b1_0 < wz.heap.size := kept_lt hk (by first | with_reducible assumption | (simp; done) | (simp; omega) | omega); have ff := (hq 0).trans (show _ = some (.int .i64 (wh (u))) by first | with_reducible assumption | (simp (maxDischargeDepth := 5) [go_sem]; done) | (simp (maxDischargeDepth := 5) [go_sem, *]; done)); have ff := (hq 1).trans (show _ = some (.int .u64 (wl (u))) by first | with_reducible assumption | (simp (maxDischargeDepth := 5) [go_sem]; done) | (simp (maxDischargeDepth := 5) [go_sem, *]; done)); have gg := fun o => (hg o).trans (show _ = false by first | (with_reducible apply_assumption; done) | (simp (maxDischargeDepth := 5) [go_sem]; done) | (simp (maxDischargeDepth := 5) [go_sem, *]; done)); clear hq hg) | (go_at_call 49; with_reducible refine (HO4.out _).mono ?_; rintro e wz ⟨rfl, hk⟩; refine kuse (b := w2.heap.size) hk (by first | with_reducible assumption | (simp; done) | (simp; omega) | omega) ?_; intro hq hg; have hy : w2.heap.size < wz.heap.size := kept_lt hk (by first | with_reducible assumption | (simp; done) | (simp; omega) | omega); have ff := (hq 0).trans (show _ = some (.int .i64 l) by first | with_reducible assumption | (simp (maxDischargeDepth := 5) [go_sem]; done) | (simp (maxDischargeDepth := 5) [go_sem, *]; done)); have ff := (hq 1).trans (show _ = some (.int .i64 g) by first | with_reducible assumption | (simp (maxDischargeDepth := 5) [go_sem]; done) | (simp (maxDischargeDepth := 5) [go_sem, *]; done)); have gg := fun o => (hg o).trans (show _ = false by first | (with_reducible apply_assumption; done) | (simp (maxDischargeDepth := 5) [go_sem]; done) | (simp (maxDischargeDepth := 5) [go_sem, *]; done)); clear hq hg; refine kuse (b := w10.heap.size) hk (by first | with_reducible assumption | (simp; done) | (simp; omega) | omega) ?_; intro hq hg; have hy : w10.heap.size < wz.heap.size := kept_lt hk (by first | with_reducible assumption | (simp; done) | (simp; omega) | omega); have ff := (hq 0).trans (show _ = some (.int .i64 (wh (D))) by first | with_reducible assumption | (simp (maxDischargeDepth := 5) [go_sem]; done) | (simp (maxDischargeDepth := 5) [go_sem, *]; done)); have ff := (hq 1).trans (show _ = some (.int .u64 (wl (D))) by first | with_reducible assumption | (simp (maxDischargeDepth := 5) [go_sem]; done) | (simp (maxDischargeDepth := 5) [go_sem, *]; done)); have gg := fun o => (hg o).trans (show _ = false by first | (with_reducible apply_assumption; done) | (simp (maxDischargeDepth := 5) [go_sem]; done) | (simp (maxDischargeDepth := 5) [go_sem, *]; done)); clear hq hg; refine kuse (b := w11.heap.size) hk (by first | with_reducible assumption | (simp; done) | (simp; omega) | omega) ?_; intro hq hg; have hy : w11.heap.size < wz.heap.size := kept_lt hk (by first | with_reducible assumption | (simp; done) | (simp; omega) | omega); have ff := (hq 0).trans (show _ = some (.int .i64 (wh (C))) by first | with_reducible assumption | (simp (maxDischargeDepth := 5) [go_sem]; done) | (simp (maxDischargeDepth := 5) [go_sem, *]; done)); have ff := (hq 1).trans (show _ = some (.int .u64 (wl (C))) by first | with_reducible assumption | (simp (maxDischargeDepth := 5) [go_sem]; done) | (simp (maxDischargeDepth := 5) [go_sem, *]; done)); have gg := fun o => (hg o).trans (show _ = false by first | (with_reducible apply_assumption; done) | (simp (maxDischargeDepth := 5) [go_sem]; done) | (simp (maxDischargeDepth := 5) [go_sem, *]; done)); clear hq hg; refine kuse (b := w.heap.size) hk (by first | with_reducible assumption | (simp; done) | (simp; omega) | omega) ?_; intro hq hg; have hy : w.heap.size < wz.heap.size := kept_lt hk (by first | with_reducible assumption | (simp; done) | (simp; omega) | omega); have ff := (hq 0).trans (show _ = some (.int .i64 a) by first | with_reducible assumption | (simp (maxDischargeDepth := 5) [go_sem]; done) | (simp (maxDischargeDepth := 5) [go_sem, *]; done)); have ff := (hq 1).trans (show _ = some (.int .i64 b) by first | with_reducible assumption | (simp (maxDischargeDepth := 5) [go_sem]; done) | (simp (maxDischargeDepth := 5) [go_sem, *]; done)); have gg := fun o => (hg o).trans (show _ = false by first | (with_reducible apply_assumption; done) | (simp (maxDischargeDepth := 5) [go_sem]; done) | (simp (maxDischargeDepth := 5) [go_sem, *]; done)); clear hq hg; refine kuse (b := b1_0) hk (by first | with_reducible assumption | (simp; done) | (simp; omega) | omega) ?_; intro hq hg; have hy : b1_0 < wz.heap.size := kept_lt hk (by first | with_reducible assumption | (simp; done) | (simp; omega) | omega); have ff := (hq 0).trans (show _ = some (.int .i64 (wh (u))) by first | with_reducible assumption | (simp (maxDischargeDepth := 5) [go_sem]; done) | (simp (maxDischargeDepth := 5) [go_sem, *]; done)); have ff := (hq 1).trans (show _ = some (.int .u64 (wl (u))) by first | with_reducible assumption | (simp (maxDischargeDepth := 5) [go_sem]; done) | (simp (maxDischargeDepth := 5) [go_sem, *]; done)); have gg := fun o => (hg o).trans (show _ = false by first | (with_reducible apply_assumption; done) | (simp (maxDischargeDepth := 5) [go_sem]; done) | (simp (maxDischargeDepth := 5) [go_sem, *]; done)); clear hq hg) | (go_at_call 52; with_reducible refine (HC1.out _).mono ?_; rintro e wz ⟨rfl, hk⟩; refine kuse (b := w2.heap.size) hk (by first | with_reducible assumption | (simp; done) | (simp; omega) | omega) ?_; intro hq hg; have hy : w2.heap.size < wz.heap.size := kept_lt hk (by first | with_reducible assumption | (simp; done) | (simp; omega) | omega); have ff := (hq 0).trans (show _ = some (.int .i64 l) by first | with_reducible assumption | (simp (maxDischargeDepth := 5) [go_sem]; done) | (simp (maxDischargeDepth := 5) [go_sem, *]; done)); have ff := (hq 1).trans (show _ = some (.int .i64 g) by first | with_reducible assumption | (simp (maxDischargeDepth := 5) [go_sem]; done) | (simp (maxDischargeDepth := 5) [go_sem, *]; done)); have gg := fun o => (hg o).trans (show _ = false by first | (with_reducible apply_assumption; done) | (simp (maxDischargeDepth := 5) [go_sem]; done) | (simp (maxDischargeDepth := 5) [go_sem, *]; done)); clear hq hg; refine kuse (b := w10.heap.size) hk (by first | with_reducible assumption | (simp; done) | (simp; omega) | omega) ?_; intro hq hg; have hy : w10.heap.size < wz.heap.size := kept_lt hk (by first | with_reducible assumption | (simp; done) | (simp; omega) | omega); have ff := (hq 0).trans (show _ = some (.int .i64 (wh (D))) by first | with_reducible assumption | (simp (maxDischargeDepth := 5) [go_sem]; done) | (simp (maxDischargeDepth := 5) [go_sem, *]; done)); have ff := (hq 1).trans (show _ = some (.int .u64 (wl (D))) by first | with_reducible assumption | (simp (maxDischargeDepth := 5) [go_sem]; done) | (simp (maxDischargeDepth := 5) [go_sem, *]; done)); have gg := fun o => (hg o).trans (show _ = false by first | (with_reducible apply_assumption; done) | (simp (maxDischargeDepth := 5) [go_sem]; done) | (simp (maxDischargeDepth := 5) [go_sem, *]; done)); clear hq hg; refine kuse (b := w11.heap.size) hk (by first | with_reducible assumption | (simp; done) | (simp; omega) | omega) ?_; intro hq hg; have hy : w11.heap.size < wz.heap.size := kept_lt hk (by first | with_reducible assumption | (simp; done) | (simp; omega) | omega); have ff := (hq 0).trans (show _ = some (.int .i64 (wh (C))) by first | with_reducible assumption | (simp (maxDischargeDepth := 5) [go_sem]; done) | (simp (maxDischargeDepth := 5) [go_sem, *]; done)); have ff := (hq 1).trans (show _ = some (.int .u64 (wl (C))) by first | with_reducible assumption | (simp (maxDischargeDepth := 5) [go_sem]; done) | (simp (maxDischargeDepth := 5) [go_sem, *]; done)); have gg := fun o => (hg o).trans (show _ = false by first | (with_reducible apply_assumption; done) | (simp (maxDischargeDepth := 5) [go_sem]; done) | (simp (maxDischargeDepth := 5) [go_sem, *]; done)); clear hq hg; refine kuse (b := w.heap.size) hk (by first | with_reducible assumption | (simp; done) | (simp; omega) | omega) ?_; intro hq hg; have hy : w.heap.size < wz.heap.size := kept_lt hk (by first | with_reducible assumption | (simp; done) | (simp; omega) | omega); have ff := (hq 0).trans (show _ = some (.int .i64 a) by first | with_reducible assumption | (simp (maxDischargeDepth := 5) [go_sem]; done) | (simp (maxDischargeDepth := 5) [go_sem, *]; done)); have ff := (hq 1).trans (show _ = some (.int .i64 b) by first | with_reducible assumption | (simp (maxDischargeDepth := 5) [go_sem]; done) | (simp (maxDischargeDepth := 5) [go_sem, *]; done)); have gg := fun o => (hg o).trans (show _ = false by first | (with_reducible apply_assumption; done) | (simp (maxDischargeDepth := 5) [go_sem]; done) | (simp (maxDischargeDepth := 5) [go_sem, *]; done)); clear hq hg; refine kuse (b := b1_0) hk (by first | with_reducible assumption | (simp; done) | (simp; omega) | omega) ?_; intro hq hg; have hy : b1_0 < wz.heap.size := kept_lt hk (by first | with_reducible assumption | (simp; done) | (simp; omega) | omega); have ff := (hq 0).trans (show _ = some (.int .i64 (wh (u))) by first | with_reducible assumption | (simp (maxDischargeDepth := 5) [go_sem]; done) | (simp (maxDischargeDepth := 5) [go_sem, *]; done)); have ff := (hq 1).trans (show _ = some (.int .u64 (wl (u))) by first | with_reducible assumption | (simp (maxDischargeDepth := 5) [go_sem]; done) | (simp (maxDischargeDepth := 5) [go_sem, *]; done)); have gg := fun o => (hg o).trans (show _ = false by first | (with_reducible apply_assumption; done) | (simp (maxDischargeDepth := 5) [go_sem]; done) | (simp (maxDischargeDepth := 5) [go_sem, *]; done)); clear hq hg) | (go_at_call 52; with_reducible refine (HC2.out _).mono ?_; rintro e wz ⟨rfl, hk⟩; refine kuse (b := w2.heap.size) hk (by first | with_reducible assumption | (simp; done) | (simp; omega) | omega) ?_; intro hq hg; have hy : w2.heap.size < wz.heap.size := kept_lt hk (by first | with_reducible assumption | (simp; done) | (simp; omega) | omega); have ff := (hq 0).trans (show _ = some (.int .i64 l) by first | with_reducible assumption | (simp (maxDischargeDepth := 5) [go_sem]; done) | (simp (maxDischargeDepth := 5) [go_sem, *]; done)); have ff := (hq 1).trans (show _ = some (.int .i64 g) by first | with_reducible assumption | (simp (maxDischargeDepth := 5) [go_sem]; done) | (simp (maxDischargeDepth := 5) [go_sem, *]; done)); have gg := fun o => (hg o).trans (show _ = false by first | (with_reducible apply_assumption; done) | (simp (maxDischargeDepth := 5) [go_sem]; done) | (simp (maxDischargeDepth := 5) [go_sem, *]; done)); clear hq hg; refine kuse (b := w10.heap.size) hk (by first | with_reducible assumption | (simp; done) | (simp; omega) | omega) ?_; intro hq hg; have hy : w10.heap.size < wz.heap.size := kept_lt hk (by first | with_reducible assumption | (simp; done) | (simp; omega) | omega); have ff := (hq 0).trans (show _ = some (.int .i64 (wh (D))) by first | with_reducible assumption | (simp (maxDischargeDepth := 5) [go_sem]; done) | (simp (maxDischargeDepth := 5) [go_sem, *]; done)); have ff := (hq 1).trans (show _ = some (.int .u64 (wl (D))) by first | with_reducible assumption | (simp (maxDischargeDepth := 5) [go_sem]; done) | (simp (maxDischargeDepth := 5) [go_sem, *]; done)); have gg := fun o => (hg o).trans (show _ = false by first | (with_reducible apply_assumption; done) | (simp (maxDischargeDepth := 5) [go_sem]; done) | (simp (maxDischargeDepth := 5) [go_sem, *]; done)); clear hq hg; refine kuse (b := w11.heap.size) hk (by first | with_reducible assumption | (simp; done) | (simp; omega) | omega) ?_; intro hq hg; have hy : w11.heap.size < wz.heap.size := kept_lt hk (by first | with_reducible assumption | (simp; done) | (simp; omega) | omega); have ff := (hq 0).trans (show _ = some (.int .i64 (wh (C))) by first | with_reducible assumption | (simp (maxDischargeDepth := 5) [go_sem]; done) | (simp (maxDischargeDepth := 5) [go_sem, *]; done)); have ff := (hq 1).trans (show _ = some (.int .u64 (wl (C))) by first | with_reducible assumption | (simp (maxDischargeDepth := 5) [go_sem]; done) | (simp (maxDischargeDepth := 5) [go_sem, *]; done)); have gg := fun o => (hg o).trans (show _ = false by first | (with_reducible apply_assumption; done) | (simp (maxDischargeDepth := 5) [go_sem]; done) | (simp (maxDischargeDepth := 5) [go_sem, *]; done)); clear hq hg; refine kuse (b := w.heap.size) hk (by first | with_reducible assumption | (simp; done) | (simp; omega) | omega) ?_; intro hq hg; have hy : w.heap.size < wz.heap.size := kept_lt hk (by first | with_reducible assumption | (simp; done) | (simp; omega) | omega); have ff := (hq 0).trans (show _ = some (.int .i64 a) by first | with_reducible assumption | (simp (maxDischargeDepth := 5) [go_sem]; done) | (simp (maxDischargeDepth := 5) [go_sem, *]; done)); have ff := (hq 1).trans (show _ = some (.int .i64 b) by first | with_reducible assumption | (simp (maxDischargeDepth := 5) [go_sem]; done) | (simp (maxDischargeDepth := 5) [go_sem, *]; done)); have gg := fun o => (hg o).trans (show _ = false by first | (with_reducible apply_assumption; done) | (simp (maxDischargeDepth := 5) [go_sem]; done) | (simp (maxDischargeDepth := 5) [go_sem, *]; done)); clear hq hg; refine kuse (b := b1_0) hk (by first | with_reducible assumption | (simp; done) | (simp; omega) | omega) ?_; intro hq hg; have hy : b1_0 < wz.heap.size := kept_lt hk (by first | with_reducible assumption | (simp; done) | (simp; omega) | omega); have ff := (hq 0).trans (show _ = some (.int .i64 (wh (u))) by first | with_reducible assumption | (simp (maxDischargeDepth := 5) [go_sem]; done) | (simp (maxDischargeDepth := 5) [go_sem, *]; done)); have ff := (hq 1).trans (show _ = some (.int .u64 (wl (u))) by first | with_reducible assumption | (simp (maxDischargeDepth := 5) [go_sem]; done) | (simp (maxDischargeDepth := 5) [go_sem, *]; done)); have gg := fun o => (hg o).trans (show _ = false by first | (with_reducible apply_assumption; done) | (simp (maxDischargeDepth := 5) [go_sem]; done) | (simp (maxDischargeDepth := 5) [go_sem, *]; done)); clear hq hg))) | fail
      all_goals (try go_wp2_with fail)
      try clear oz0 og0 of0_0 of0_1 oz1 og1 of1_0 of1_1 oz2 og2 of2_0 of2_1 oz3 og3 of3_0 of3_1 oz4 og4 of4_0 of4_1 oz5 og5 of5_0 of5_1 oz6 og6 of6_0 of6_1 oz7 og7 of7_0 of7_1
      by_cases s : a < 0
      · have HR := Lib.hid (isqrt_neg a b x1 x2 x3 s)
        obtain ⟨S, hS⟩ : ∃ x, wsq u = x := ⟨_, rfl⟩
        obtain ⟨T, hT⟩ : ∃ x, wsqE u = x := ⟨_, rfl⟩
        rw [hS, hT] at HS
        have HS := Lib.hid HS
        clear hS hT
        with_reducible refine (HR.out _).mono ?_
        rintro e w12 ⟨rfl, hk⟩
        have HO3_0 : Hid (OwnB w12 (b1_0) [.int .i64 (wh (u)), .int .u64 (wl (u))]) := Lib.hid (OwnB.kept hk (by repeat (first | with_reducible exact HO2_0.out | with_reducible refine OwnB.setOther ?_ (by first | with_reducible assumption | omega) | with_reducible refine OwnB.drew ?_ | with_reducible refine OwnB.drewN ?_ _ | with_reducible refine OwnB.alloc ?_ _ | with_reducible refine OwnB.kept (by with_reducible assumption) ?_)))
        have HO3_1 : Hid (OwnB w12 (b1_1) [.int .i64 (wh (v)), .int .u64 (wl (v))]) := Lib.hid (OwnB.kept hk (by repeat (first | with_reducible exact HO2_1.out | with_reducible refine OwnB.setOther ?_ (by first | with_reducible assumption | omega) | with_reducible refine OwnB.drew ?_ | with_reducible refine OwnB.drewN ?_ _ | with_reducible refine OwnB.alloc ?_ _ | with_reducible refine OwnB.kept (by with_reducible assumption) ?_)))
        have HO3_2 : Hid (OwnB w12 (w.heap.size) [.int .i64 a, .int .i64 b]) := Lib.hid (OwnB.kept hk (by repeat (first | with_reducible exact HO2_2.out | with_reducible refine OwnB.setOther ?_ (by first | with_reducible assumption | omega) | with_reducible refine OwnB.drew ?_ | with_reducible refine OwnB.drewN ?_ _ | with_reducible refine OwnB.alloc ?_ _ | with_reducible refine OwnB.kept (by with_reducible assumption) ?_)))
        have HO3_3 : Hid (OwnB w12 (w.heap.size + 1) [.int .i64 c, .int .i64 d]) := Lib.hid (OwnB.kept hk (by repeat (first | with_reducible exact HO2_3.out | with_reducible refine OwnB.setOther ?_ (by first | with_reducible assumption | omega) | with_reducible refine OwnB.drew ?_ | with_reducible refine OwnB.drewN ?_ _ | with_reducible refine OwnB.alloc ?_ _ | with_reducible refine OwnB.kept (by with_reducible assumption) ?_)))
        have HO3_4 : Hid (OwnB w12 (w.heap.size + 2) [.int .u64 n, .int .u64 m]) := Lib.hid (OwnB.kept hk (by repeat (first | with_reducible exact HO2_4.out | with_reducible refine OwnB.setOther ?_ (by first | with_reducible assumption | omega) | with_reducible refine OwnB.drew ?_ | with_reducible refine OwnB.drewN ?_ _ | with_reducible refine OwnB.alloc ?_ _ | with_reducible refine OwnB.kept (by with_reducible assumption) ?_)))
        have HO3_5 : Hid (OwnB w12 (w2.heap.size) [.int .i64 l, .int .i64 g]) := Lib.hid (OwnB.kept hk (by repeat (first | with_reducible exact HO2_5.out | with_reducible refine OwnB.setOther ?_ (by first | with_reducible assumption | omega) | with_reducible refine OwnB.drew ?_ | with_reducible refine OwnB.drewN ?_ _ | with_reducible refine OwnB.alloc ?_ _ | with_reducible refine OwnB.kept (by with_reducible assumption) ?_)))
        have HO3_6 : Hid (OwnB w12 (w10.heap.size) [.int .i64 (wh (D)), .int .u64 (wl (D))]) := Lib.hid (OwnB.kept hk (by repeat (first | with_reducible exact HO2_6.out | with_reducible refine OwnB.setOther ?_ (by first | with_reducible assumption | omega) | with_reducible refine OwnB.drew ?_ | with_reducible refine OwnB.drewN ?_ _ | with_reducible refine OwnB.alloc ?_ _ | with_reducible refine OwnB.kept (by with_reducible assumption) ?_)))
        have HO3_7 : Hid (OwnB w12 (w11.heap.size) [.int .i64 (wh (C)), .int .u64 (wl (C))]) := Lib.hid (OwnB.kept hk (by repeat (first | with_reducible exact HO2_7.out | with_reducible refine OwnB.setOther ?_ (by first | with_reducible assumption | omega) | with_reducible refine OwnB.drew ?_ | with_reducible refine OwnB.drewN ?_ _ | with_reducible refine OwnB.alloc ?_ _ | with_reducible refine OwnB.kept (by with_reducible assumption) ?_)))
        have HK3 : Hid (Kept w w12) := Lib.hid (Kept.trans (by repeat (first | with_reducible exact HK2.out | with_reducible refine Kept.setCell ?_ (by first | with_reducible assumption | omega) _ | with_reducible refine Kept.drew ?_ | with_reducible refine Kept.drewN ?_ _ | with_reducible refine Kept.alloc ?_ _ | with_reducible refine Kept.trans ?_ (by with_reducible assumption))) hk)
        clear hk HO2_0 HO2_1 HO2_2 HO2_3 HO2_4 HO2_5 HO2_6 HO2_7 HK2
        obtain ⟨oz0, og0, of0_0, of0_1, _⟩ := HO3_0.out
        obtain ⟨oz1, og1, of1_0, of1_1, _⟩ := HO3_1.out
        obtain ⟨oz2, og2, of2_0, of2_1, _⟩ := HO3_2.out
        obtain ⟨oz3, og3, of3_0, of3_1, _⟩ := HO3_3.out
        obtain ⟨oz4, og4, of4_0, of4_1, _⟩ := HO3_4.out
        obtain ⟨oz5, og5, of5_0, of5_1, _⟩ := HO3_5.out
        obtain ⟨oz6, og6, of6_0, of6_1, _⟩ := HO3_6.out
        obtain ⟨oz7, og7, of7_0, of7_1, _⟩ := HO3_7.out
        have nb0_8 : ¬ b1_0 = w12.heap.size := by omega
        have nc0_8 : ¬ w12.heap.size = b1_0 := by omega
        have nb1_8 : ¬ b1_1 = w12.heap.size := by omega
        have nc1_8 : ¬ w12.heap.size = b1_1 := by omega
        have nb2_8 : ¬ w.heap.size = w12.heap.size := by omega
        have nc2_8 : ¬ w12.heap.size = w.heap.size := by omega
        have nb3_8 : ¬ w.heap.size + 1 = w12.heap.size := by omega
        have nc3_8 : ¬ w12.heap.size = w.heap.size + 1 := by omega
        have nb4_8 : ¬ w.heap.size + 2 = w12.heap.size := by omega
        have nc4_8 : ¬ w12.heap.size = w.heap.size + 2 := by omega
        have nb5_8 : ¬ w2.heap.size = w12.heap.size := by omega
        have nc5_8 : ¬ w12.heap.size = w2.heap.size := by omega
        have nb6_8 : ¬ w10.heap.size = w12.heap.size := by omega
        have nc6_8 : ¬ w12.heap.size = w10.heap.size := by omega
        have nb7_8 : ¬ w11.heap.size = w12.heap.size := by omega
        have nc7_8 : ¬ w12.heap.size = w11.heap.size := by omega
        have nw8 : w.heap.size ≤ w12.heap.size := HK3.out.size
        go_wp2_with fail
        try clear oz0 og0 of0_0 of0_1 oz1 og1 of1_0 of1_1 oz2 og2 of2_0 of2_1 oz3 og3 of3_0 of3_1 oz4 og4 of4_0 of4_1 oz5 og5 of5_0 of5_1 oz6 og6 of6_0 of6_1 oz7 og7 of7_0 of7_1
        with_reducible refine (HS.out _).mono ?_
        rintro e w13 ⟨rfl, hk⟩
        have HO4_0 : Hid (OwnB w13 (b1_0) [.int .i64 (wh (u)), .int .u64 (wl (u))]) := Lib.hid (OwnB.kept hk (by repeat (first | with_reducible exact HO3_0.out | with_reducible refine OwnB.setOther ?_ (by first | with_reducible assumption | omega) | with_reducible refine OwnB.drew ?_ | with_reducible refine OwnB.drewN ?_ _ | with_reducible refine OwnB.alloc ?_ _ | with_reducible refine OwnB.kept (by with_reducible assumption) ?_)))
        have HO4_1 : Hid (OwnB w13 (b1_1) [.int .i64 (wh (v)), .int .u64 (wl (v))]) := Lib.hid (OwnB.kept hk (by repeat (first | with_reducible exact HO3_1.out | with_reducible refine OwnB.setOther ?_ (by first | with_reducible assumption | omega) | with_reducible refine OwnB.drew ?_ | with_reducible refine OwnB.drewN ?_ _ | with_reducible refine OwnB.alloc ?_ _ | with_reducible refine OwnB.kept (by with_reducible assumption) ?_)))
        have HO4_2 : Hid (OwnB w13 (w.heap.size) [.int .i64 a, .int .i64 b]) := Lib.hid (OwnB.kept hk (by repeat (first | with_reducible exact HO3_2.out | with_reducible refine OwnB.setOther ?_ (by first | with_reducible assumption | omega) | with_reducible refine OwnB.drew ?_ | with_reducible refine OwnB.drewN ?_ _ | with_reducible refine OwnB.alloc ?_ _ | with_reducible refine OwnB.kept (by with_reducible assumption) ?_)))
        have HO4_3 : Hid (OwnB w13 (w.heap.size + 1) [.int .i64 c, .int .i64 d]) := Lib.hid (OwnB.kept hk (by repeat (first | with_reducible exact HO3_3.out | with_reducible refine OwnB.setOther ?_ (by first | with_reducible assumption | omega) | with_reducible refine OwnB.drew ?_ | with_reducible refine OwnB.drewN ?_ _ | with_reducible refine OwnB.alloc ?_ _ | with_reducible refine OwnB.kept (by with_reducible assumption) ?_)))
        have HO4_4 : Hid (OwnB w13 (w.heap.size + 2) [.int .u64 n, .int .u64 m]) := Lib.hid (OwnB.kept hk (by repeat (first | with_reducible exact HO3_4.out | with_reducible refine OwnB.setOther ?_ (by first | with_reducible assumption | omega) | with_reducible refine OwnB.drew ?_ | with_reducible refine OwnB.drewN ?_ _ | with_reducible refine OwnB.alloc ?_ _ | with_reducible refine OwnB.kept (by with_reducible assumption) ?_)))
        have HO4_5 : Hid (OwnB w13 (w2.heap.size) [.int .i64 l, .int .i64 g]) := Lib.hid (OwnB.kept hk (by repeat (first | with_reducible exact HO3_5.out | with_reducible refine OwnB.setOther ?_ (by first | with_reducible assumption | omega) | with_reducible refine OwnB.drew ?_ | with_reducible refine OwnB.drewN ?_ _ | with_reducible refine OwnB.alloc ?_ _ | with_reducible refine OwnB.kept (by with_reducible assumption) ?_)))
        have HO4_6 : Hid (OwnB w13 (w10.heap.size) [.int .i64 (wh (D)), .int .u64 (wl (D))]) := Lib.hid (OwnB.kept hk (by repeat (first | with_reducible exact HO3_6.out | with_reducible refine OwnB.setOther ?_ (by first | with_reducible assumption | omega) | with_reducible refine OwnB.drew ?_ | with_reducible refine OwnB.drewN ?_ _ | with_reducible refine OwnB.alloc ?_ _ | with_reducible refine OwnB.kept (by with_reducible assumption) ?_)))
        have HO4_7 : Hid (OwnB w13 (w11.heap.size) [.int .i64 (wh (C)), .int .u64 (wl (C))]) := Lib.hid (OwnB.kept hk (by repeat (first | with_reducible exact HO3_7.out | with_reducible refine OwnB.setOther ?_ (by first | with_reducible assumption | omega) | with_reducible refine OwnB.drew ?_ | with_reducible refine OwnB.drewN ?_ _ | with_reducible refine OwnB.alloc ?_ _ | with_reducible refine OwnB.kept (by with_reducible assumption) ?_)))
        have HO4_8 : Hid (OwnB w13 (w12.heap.size) [.int .i64 0, .int .i64 0]) := Lib.hid (OwnB.kept hk (by repeat (first | with_reducible exact own_alloc _ [.int .i64 0, .int .i64 0] 23 | with_reducible refine OwnB.setOther ?_ (by first | with_reducible assumption | omega) | with_reducible refine OwnB.drew ?_ | with_reducible refine OwnB.drewN ?_ _ | with_reducible refine OwnB.alloc ?_ _ | with_reducible refine OwnB.kept (by with_reducible assumption) ?_)))
        have HK4 : Hid (Kept w w13) := Lib.hid (Kept.trans (by repeat (first | with_reducible exact HK3.out | with_reducible refine Kept.setCell ?_ (by first | with_reducible assumption | omega) _ | with_reducible refine Kept.drew ?_ | with_reducible refine Kept.drewN ?_ _ | with_reducible refine Kept.alloc ?_ _ | with_reducible refine Kept.trans ?_ (by with_reducible assumption))) hk)
        clear hk HO3_0 HO3_1 HO3_2 HO3_3 HO3_4 HO3_5 HO3_6 HO3_7 HK3
        obtain ⟨oz0, og0, of0_0, of0_1, _⟩ := HO4_0.out
        obtain ⟨oz1, og1, of1_0, of1_1, _⟩ := HO4_1.out
        obtain ⟨oz2, og2, of2_0, of2_1, _⟩ := HO4_2.out
        obtain ⟨oz3, og3, of3_0, of3_1, _⟩ := HO4_3.out
        obtain ⟨oz4, og4, of4_0, of4_1, _⟩ := HO4_4.out
        obtain ⟨oz5, og5, of5_0, of5_1, _⟩ := HO4_5.out
        obtain ⟨oz6, og6, of6_0, of6_1, _⟩ := HO4_6.out
        obtain ⟨oz7, og7, of7_0, of7_1, _⟩ := HO4_7.out
        obtain ⟨oz8, og8, of8_0, of8_1, _⟩ := HO4_8.out
        go_wp2_with fail
        try clear oz0 og0 of0_0 of0_1 oz1 og1 of1_0 of1_1 oz2 og2 of2_0 of2_1 oz3 og3 of3_0 of3_1 oz4 og4 of4_0 of4_1 oz5 og5 of5_0 of5_1 oz6 og6 of6_0 of6_1 oz7 og7 of7_0 of7_1 oz8 og8 of8_0 of8_1
        all_goals go_ret
        all_goals first | exact ⟨rfl, HK4.out⟩ | (refine ⟨?_, HK4.out⟩; simp; omega) | (refine ⟨?_, HK4.out⟩; simp [*]; done)
      · obtain ⟨s0, s1, s2, s3, s4⟩ := sq_in (a := a) (u := u) (b := b) (by omega) u0 u1 x3
        have HR := isqrt_ok a b (isq a) (isqUp b) x1 x2 x3 (by omega) (Lib.hid rfl) (Lib.hid rfl) s4 (by omega) (by omega)
        have E : wsqE u = true := by unfold wsqE; simp; omega
        rw [E] at HS
        obtain ⟨S, hS⟩ : ∃ x, wsq u = x := ⟨_, rfl⟩
        obtain ⟨A1, hA1⟩ : ∃ x, isq a = x := ⟨_, rfl⟩
        obtain ⟨B1, hB1⟩ : ∃ x, isqUp b = x := ⟨_, rfl⟩
        rw [hS] at HS s1 s2
        rw [hA1] at HR s0 s1 s4
        rw [hB1] at HR s2 s3 s4
        have HS := Lib.hid HS
        have HR := Lib.hid HR
        clear hS hA1 hB1 E
        have S0 : 0 ≤ S := by omega
        have wS : IntKind.i64.wrap S = S := IntWalk.i64_in _ (by omega)
        with_reducible refine (HR.out _).mono ?_
        rintro e w12 ⟨rfl, hk⟩
        have HO3_0 : Hid (OwnB w12 (b1_0) [.int .i64 (wh (u)), .int .u64 (wl (u))]) := Lib.hid (OwnB.kept hk (by repeat (first | with_reducible exact HO2_0.out | with_reducible refine OwnB.setOther ?_ (by first | with_reducible assumption | omega) | with_reducible refine OwnB.drew ?_ | with_reducible refine OwnB.drewN ?_ _ | with_reducible refine OwnB.alloc ?_ _ | with_reducible refine OwnB.kept (by with_reducible assumption) ?_)))
        have HO3_1 : Hid (OwnB w12 (b1_1) [.int .i64 (wh (v)), .int .u64 (wl (v))]) := Lib.hid (OwnB.kept hk (by repeat (first | with_reducible exact HO2_1.out | with_reducible refine OwnB.setOther ?_ (by first | with_reducible assumption | omega) | with_reducible refine OwnB.drew ?_ | with_reducible refine OwnB.drewN ?_ _ | with_reducible refine OwnB.alloc ?_ _ | with_reducible refine OwnB.kept (by with_reducible assumption) ?_)))
        have HO3_2 : Hid (OwnB w12 (w.heap.size) [.int .i64 a, .int .i64 b]) := Lib.hid (OwnB.kept hk (by repeat (first | with_reducible exact HO2_2.out | with_reducible refine OwnB.setOther ?_ (by first | with_reducible assumption | omega) | with_reducible refine OwnB.drew ?_ | with_reducible refine OwnB.drewN ?_ _ | with_reducible refine OwnB.alloc ?_ _ | with_reducible refine OwnB.kept (by with_reducible assumption) ?_)))
        have HO3_3 : Hid (OwnB w12 (w.heap.size + 1) [.int .i64 c, .int .i64 d]) := Lib.hid (OwnB.kept hk (by repeat (first | with_reducible exact HO2_3.out | with_reducible refine OwnB.setOther ?_ (by first | with_reducible assumption | omega) | with_reducible refine OwnB.drew ?_ | with_reducible refine OwnB.drewN ?_ _ | with_reducible refine OwnB.alloc ?_ _ | with_reducible refine OwnB.kept (by with_reducible assumption) ?_)))
        have HO3_4 : Hid (OwnB w12 (w.heap.size + 2) [.int .u64 n, .int .u64 m]) := Lib.hid (OwnB.kept hk (by repeat (first | with_reducible exact HO2_4.out | with_reducible refine OwnB.setOther ?_ (by first | with_reducible assumption | omega) | with_reducible refine OwnB.drew ?_ | with_reducible refine OwnB.drewN ?_ _ | with_reducible refine OwnB.alloc ?_ _ | with_reducible refine OwnB.kept (by with_reducible assumption) ?_)))
        have HO3_5 : Hid (OwnB w12 (w2.heap.size) [.int .i64 l, .int .i64 g]) := Lib.hid (OwnB.kept hk (by repeat (first | with_reducible exact HO2_5.out | with_reducible refine OwnB.setOther ?_ (by first | with_reducible assumption | omega) | with_reducible refine OwnB.drew ?_ | with_reducible refine OwnB.drewN ?_ _ | with_reducible refine OwnB.alloc ?_ _ | with_reducible refine OwnB.kept (by with_reducible assumption) ?_)))
        have HO3_6 : Hid (OwnB w12 (w10.heap.size) [.int .i64 (wh (D)), .int .u64 (wl (D))]) := Lib.hid (OwnB.kept hk (by repeat (first | with_reducible exact HO2_6.out | with_reducible refine OwnB.setOther ?_ (by first | with_reducible assumption | omega) | with_reducible refine OwnB.drew ?_ | with_reducible refine OwnB.drewN ?_ _ | with_reducible refine OwnB.alloc ?_ _ | with_reducible refine OwnB.kept (by with_reducible assumption) ?_)))
        have HO3_7 : Hid (OwnB w12 (w11.heap.size) [.int .i64 (wh (C)), .int .u64 (wl (C))]) := Lib.hid (OwnB.kept hk (by repeat (first | with_reducible exact HO2_7.out | with_reducible refine OwnB.setOther ?_ (by first | with_reducible assumption | omega) | with_reducible refine OwnB.drew ?_ | with_reducible refine OwnB.drewN ?_ _ | with_reducible refine OwnB.alloc ?_ _ | with_reducible refine OwnB.kept (by with_reducible assumption) ?_)))
        have HK3 : Hid (Kept w w12) := Lib.hid (Kept.trans (by repeat (first | with_reducible exact HK2.out | with_reducible refine Kept.setCell ?_ (by first | with_reducible assumption | omega) _ | with_reducible refine Kept.drew ?_ | with_reducible refine Kept.drewN ?_ _ | with_reducible refine Kept.alloc ?_ _ | with_reducible refine Kept.trans ?_ (by with_reducible assumption))) hk)
        clear hk HO2_0 HO2_1 HO2_2 HO2_3 HO2_4 HO2_5 HO2_6 HO2_7 HK2
        obtain ⟨oz0, og0, of0_0, of0_1, _⟩ := HO3_0.out
        obtain ⟨oz1, og1, of1_0, of1_1, _⟩ := HO3_1.out
        obtain ⟨oz2, og2, of2_0, of2_1, _⟩ := HO3_2.out
        obtain ⟨oz3, og3, of3_0, of3_1, _⟩ := HO3_3.out
        obtain ⟨oz4, og4, of4_0, of4_1, _⟩ := HO3_4.out
        obtain ⟨oz5, og5, of5_0, of5_1, _⟩ := HO3_5.out
        obtain ⟨oz6, og6, of6_0, of6_1, _⟩ := HO3_6.out
        obtain ⟨oz7, og7, of7_0, of7_1, _⟩ := HO3_7.out
        have nb0_8 : ¬ b1_0 = w12.heap.size := by omega
        have nc0_8 : ¬ w12.heap.size = b1_0 := by omega
        have nb1_8 : ¬ b1_1 = w12.heap.size := by omega
        have nc1_8 : ¬ w12.heap.size = b1_1 := by omega
        have nb2_8 : ¬ w.heap.size = w12.heap.size := by omega
        have nc2_8 : ¬ w12.heap.size = w.heap.size := by omega
        have nb3_8 : ¬ w.heap.size + 1 = w12.heap.size := by omega
        have nc3_8 : ¬ w12.heap.size = w.heap.size + 1 := by omega
        have nb4_8 : ¬ w.heap.size + 2 = w12.heap.size := by omega
        have nc4_8 : ¬ w12.heap.size = w.heap.size + 2 := by omega
        have nb5_8 : ¬ w2.heap.size = w12.heap.size := by omega
        have nc5_8 : ¬ w12.heap.size = w2.heap.size := by omega
        have nb6_8 : ¬ w10.heap.size = w12.heap.size := by omega
        have nc6_8 : ¬ w12.heap.size = w10.heap.size := by omega
        have nb7_8 : ¬ w11.heap.size = w12.heap.size := by omega
        have nc7_8 : ¬ w12.heap.size = w11.heap.size := by omega
        have nw8 : w.heap.size ≤ w12.heap.size := HK3.out.size
        go_wp2_with fail
        try clear oz0 og0 of0_0 of0_1 oz1 og1 of1_0 of1_1 oz2 og2 of2_0 of2_1 oz3 og3 of3_0 of3_1 oz4 og4 of4_0 of4_1 oz5 og5 of5_0 of5_1 oz6 og6 of6_0 of6_1 oz7 og7 of7_0 of7_1
        with_reducible refine (HS.out _).mono ?_
        rintro e w13 ⟨rfl, hk⟩
        have HO4_0 : Hid (OwnB w13 (b1_0) [.int .i64 (wh (u)), .int .u64 (wl (u))]) := Lib.hid (OwnB.kept hk (by repeat (first | with_reducible exact HO3_0.out | with_reducible refine OwnB.setOther ?_ (by first | with_reducible assumption | omega) | with_reducible refine OwnB.drew ?_ | with_reducible refine OwnB.drewN ?_ _ | with_reducible refine OwnB.alloc ?_ _ | with_reducible refine OwnB.kept (by with_reducible assumption) ?_)))
        have HO4_1 : Hid (OwnB w13 (b1_1) [.int .i64 (wh (v)), .int .u64 (wl (v))]) := Lib.hid (OwnB.kept hk (by repeat (first | with_reducible exact HO3_1.out | with_reducible refine OwnB.setOther ?_ (by first | with_reducible assumption | omega) | with_reducible refine OwnB.drew ?_ | with_reducible refine OwnB.drewN ?_ _ | with_reducible refine OwnB.alloc ?_ _ | with_reducible refine OwnB.kept (by with_reducible assumption) ?_)))
        have HO4_2 : Hid (OwnB w13 (w.heap.size) [.int .i64 a, .int .i64 b]) := Lib.hid (OwnB.kept hk (by repeat (first | with_reducible exact HO3_2.out | with_reducible refine OwnB.setOther ?_ (by first | with_reducible assumption | omega) | with_reducible refine OwnB.drew ?_ | with_reducible refine OwnB.drewN ?_ _ | with_reducible refine OwnB.alloc ?_ _ | with_reducible refine OwnB.kept (by with_reducible assumption) ?_)))
        have HO4_3 : Hid (OwnB w13 (w.heap.size + 1) [.int .i64 c, .int .i64 d]) := Lib.hid (OwnB.kept hk (by repeat (first | with_reducible exact HO3_3.out | with_reducible refine OwnB.setOther ?_ (by first | with_reducible assumption | omega) | with_reducible refine OwnB.drew ?_ | with_reducible refine OwnB.drewN ?_ _ | with_reducible refine OwnB.alloc ?_ _ | with_reducible refine OwnB.kept (by with_reducible assumption) ?_)))
        have HO4_4 : Hid (OwnB w13 (w.heap.size + 2) [.int .u64 n, .int .u64 m]) := Lib.hid (OwnB.kept hk (by repeat (first | with_reducible exact HO3_4.out | with_reducible refine OwnB.setOther ?_ (by first | with_reducible assumption | omega) | with_reducible refine OwnB.drew ?_ | with_reducible refine OwnB.drewN ?_ _ | with_reducible refine OwnB.alloc ?_ _ | with_reducible refine OwnB.kept (by with_reducible assumption) ?_)))
        have HO4_5 : Hid (OwnB w13 (w2.heap.size) [.int .i64 l, .int .i64 g]) := Lib.hid (OwnB.kept hk (by repeat (first | with_reducible exact HO3_5.out | with_reducible refine OwnB.setOther ?_ (by first | with_reducible assumption | omega) | with_reducible refine OwnB.drew ?_ | with_reducible refine OwnB.drewN ?_ _ | with_reducible refine OwnB.alloc ?_ _ | with_reducible refine OwnB.kept (by with_reducible assumption) ?_)))
        have HO4_6 : Hid (OwnB w13 (w10.heap.size) [.int .i64 (wh (D)), .int .u64 (wl (D))]) := Lib.hid (OwnB.kept hk (by repeat (first | with_reducible exact HO3_6.out | with_reducible refine OwnB.setOther ?_ (by first | with_reducible assumption | omega) | with_reducible refine OwnB.drew ?_ | with_reducible refine OwnB.drewN ?_ _ | with_reducible refine OwnB.alloc ?_ _ | with_reducible refine OwnB.kept (by with_reducible assumption) ?_)))
        have HO4_7 : Hid (OwnB w13 (w11.heap.size) [.int .i64 (wh (C)), .int .u64 (wl (C))]) := Lib.hid (OwnB.kept hk (by repeat (first | with_reducible exact HO3_7.out | with_reducible refine OwnB.setOther ?_ (by first | with_reducible assumption | omega) | with_reducible refine OwnB.drew ?_ | with_reducible refine OwnB.drewN ?_ _ | with_reducible refine OwnB.alloc ?_ _ | with_reducible refine OwnB.kept (by with_reducible assumption) ?_)))
        have HO4_8 : Hid (OwnB w13 (w12.heap.size) [.int .i64 A1, .int .i64 B1]) := Lib.hid (OwnB.kept hk (by repeat (first | with_reducible exact own_alloc _ [.int .i64 A1, .int .i64 B1] 23 | with_reducible refine OwnB.setOther ?_ (by first | with_reducible assumption | omega) | with_reducible refine OwnB.drew ?_ | with_reducible refine OwnB.drewN ?_ _ | with_reducible refine OwnB.alloc ?_ _ | with_reducible refine OwnB.kept (by with_reducible assumption) ?_)))
        have HK4 : Hid (Kept w w13) := Lib.hid (Kept.trans (by repeat (first | with_reducible exact HK3.out | with_reducible refine Kept.setCell ?_ (by first | with_reducible assumption | omega) _ | with_reducible refine Kept.drew ?_ | with_reducible refine Kept.drewN ?_ _ | with_reducible refine Kept.alloc ?_ _ | with_reducible refine Kept.trans ?_ (by with_reducible assumption))) hk)
        clear hk HO3_0 HO3_1 HO3_2 HO3_3 HO3_4 HO3_5 HO3_6 HO3_7 HK3
        obtain ⟨oz0, og0, of0_0, of0_1, _⟩ := HO4_0.out
        obtain ⟨oz1, og1, of1_0, of1_1, _⟩ := HO4_1.out
        obtain ⟨oz2, og2, of2_0, of2_1, _⟩ := HO4_2.out
        obtain ⟨oz3, og3, of3_0, of3_1, _⟩ := HO4_3.out
        obtain ⟨oz4, og4, of4_0, of4_1, _⟩ := HO4_4.out
        obtain ⟨oz5, og5, of5_0, of5_1, _⟩ := HO4_5.out
        obtain ⟨oz6, og6, of6_0, of6_1, _⟩ := HO4_6.out
        obtain ⟨oz7, og7, of7_0, of7_1, _⟩ := HO4_7.out
        obtain ⟨oz8, og8, of8_0, of8_1, _⟩ := HO4_8.out
        go_wp2_with fail
        try clear oz0 og0 of0_0 of0_1 oz1 og1 of1_0 of1_1 oz2 og2 of2_0 of2_1 oz3 og3 of3_0 of3_1 oz4 og4 of4_0 of4_1 oz5 og5 of5_0 of5_1 oz6 og6 of6_0 of6_1 oz7 og7 of7_0 of7_1 oz8 og8 of8_0 of8_1
        all_goals go_ret
        all_goals first | exact ⟨rfl, HK4.out⟩ | (refine ⟨?_, HK4.out⟩; simp; omega) | (refine ⟨?_, HK4.out⟩; simp [*]; done)
theorem law_quotients (a b c d n m : Int) (a_0 : -9223372036854775808 ≤ a) (a_1 : a ≤ 9223372036854775807) (b_0 : -9223372036854775808 ≤ b) (b_1 : b ≤ 9223372036854775807) (c_0 : -9223372036854775808 ≤ c) (c_1 : c ≤ 9223372036854775807) (d_0 : -9223372036854775808 ≤ d) (d_1 : d ≤ 9223372036854775807) (n0 : 0 ≤ n) (n1 : n ≤ 18446744073709551615) (m0 : 0 ≤ m) (m1 : m ≤ 18446744073709551615) (w : World) : Calls Try.prog 9 #[.agg #[.int .i64 a, .int .i64 b], .agg #[.int .i64 c, .int .i64 d], .agg #[.int .u64 n, .int .u64 m]] w fun e w' => e = .returned (.bool true) ∧ Kept w w' := by
  by_cases h : b < a ∨ a < -4611686018427387904 ∨ 4611686018427387904 < b ∨ d < c ∨ c < -4611686018427387904 ∨ 4611686018427387904 < d ∨ c ≤ 0 ∧ 0 ≤ d
  · exact quo1 a b c d n m h n0 n1 m0 m1 w
  · exact quo2 a b c d n m (by omega) (by omega) (by omega) (by omega) (by omega) (by omega) (by omega) n0 n1 m0 m1 w
end Go.Proofs.Ytinpmooihjdbgaa
