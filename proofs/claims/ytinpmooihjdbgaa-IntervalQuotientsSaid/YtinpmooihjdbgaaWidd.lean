/-
  Own contracts: package wide: the division of magnitudes.
-/
import Derived.Test.YtinpmooihjdbgaaWidc
import Derived.Test.YtinpmooihjdbgaaRow
import Derived.WalkKit
import Derived.ProofKit
import Derived.OpenShut
import Derived.WalkLawsBesides
import Derived.WalkSpells
import Derived.Lib.Hide
import Derived.Deep.DeepCutAuto
import Derived.Deep.CutBlock
import Derived.Deep.QuietTactic
import Derived.BigQuiet
import Derived.Handy
import Derived.StillTailTactics
import Derived.IntWalk
import Derived.LoopN
import Derived.Deep.RegionHeld3
namespace Go.Proofs.Ytinpmooihjdbgaa
open Go.ChangeShapes Go.WideShapes Go.ChangeAt Go.RowKit
set_option linter.unusedVariables false
set_option linter.unusedSimpArgs false

theorem tupm {a b c d a' b' c' d' : Int} (h : a = a' ∧ b = b' ∧ c = c' ∧ d = d') : Ending.returned (.tuple #[.agg #[.int .u64 a, .int .u64 b], .agg #[.int .u64 c, .int .u64 d]]) = .returned (.tuple #[.agg #[.int .u64 a', .int .u64 b'], .agg #[.int .u64 c', .int .u64 d']]) := by rw [h.1, h.2.1, h.2.2.1, h.2.2.2]
theorem div64_n (a b c q r : Int) (a0 : 0 ≤ a) (b0 : 0 ≤ b) (b1 : b ≤ 18446744073709551615) (c1 : c ≤ 18446744073709551615) (h : a < c) (hq : (a * 18446744073709551616 + b) / c = q) (hr : (a * 18446744073709551616 + b) % c = r) (w : World) :
    Calls Try.prog 91 #[.int .u64 a, .int .u64 b, .int .u64 c] w fun e w' => e = .returned (.tuple #[.int .u64 q, .int .u64 r]) ∧ Kept w w' := by
  subst hq hr
  by_cases z : a = 0
  · subst z
    rw [Int.zero_mul, Int.zero_add]
    exact (div64_lo b c b0 b1 h c1 w).mono fun _ _ k => ⟨k.1, k.2.kept⟩
  · exact (div64_hi a b c (by omega) b0 b1 c1 h w).mono fun _ _ k => ⟨k.1, k.2.kept⟩
set_option maxHeartbeats 2000000 in
set_option maxRecDepth 100000 in
theorem divide_lo (m d : Int) (m0 : 0 ≤ m) (m1 : m < 340282366920938463463374607431768211456) (d0 : 0 < d) (d1 : d ≤ 18446744073709551615) (w : World) : Calls Try.prog 85 #[.agg #[.int .u64 (wh (m)), .int .u64 (wl (m))], .agg #[.int .u64 (wh (d)), .int .u64 (wl (d))]] w fun e w' => e = .returned (.tuple #[.agg #[.int .u64 (wh (m / d)), .int .u64 (wl (m / d))], .agg #[.int .u64 (wh (m % d)), .int .u64 (wl (m % d))]]) ∧ Kept w w' := by
  obtain ⟨em, a0, a1⟩ := wv m
  obtain ⟨ed, b0, b1⟩ := wv d
  have A0 : 0 ≤ wh m := (by unfold wh; omega)
  have A1 : wh m ≤ 18446744073709551615 := (by unfold wh; omega)
  have B0 : 0 ≤ wh d := (by unfold wh; omega)
  have B1 : wh d ≤ 18446744073709551615 := (by unfold wh; omega)
  have c : wh d = 0 := by unfold wh; omega
  have c2 : wl d = d := by unfold wl; omega
  obtain ⟨x1, x2, x3, x4, x5, x6⟩ := div_words m d m0 m1 d0 d1
  have y0 : 0 ≤ wh (m / d) ∧ wh (m / d) ≤ 18446744073709551615 := by
    have := Int.ediv_nonneg m0 (show 0 ≤ d by omega)
    have h2 := Int.ediv_le_self d m0
    unfold wh; omega
  obtain ⟨y0, y1⟩ := y0
  rw [x1] at y0 y1
  rw [x1, x2, ← x3, c, c2]
  have HD1 := Lib.hid (div64_n 0 (wh m) d (wh m / d) (wh m % d) (by omega) A0 A1 d1 d0 (by rw [Int.zero_mul, Int.zero_add]) (by rw [Int.zero_mul, Int.zero_add]))
  have HD2 := Lib.hid (div64_n (wh m % d) (wl m) d _ _ x5 a0 a1 d1 x4 rfl rfl)
  have z1 : wh ((wh m % d * 18446744073709551616 + wl m) % d) = 0 ∧ wl ((wh m % d * 18446744073709551616 + wl m) % d) = (wh m % d * 18446744073709551616 + wl m) % d := by
    have h1 := Int.emod_nonneg (wh m % d * 18446744073709551616 + wl m) (show d ≠ 0 by omega)
    have h2 := Int.emod_lt_of_pos (wh m % d * 18446744073709551616 + wl m) d0
    unfold wh wl at *
    constructor <;> omega
  rw [z1.1, z1.2]
  clear z1 x1 x2 x3 em ed c c2
  generalize (wh m % d * 18446744073709551616 + wl m) / d = Q2 at *
  generalize (wh m % d * 18446744073709551616 + wl m) % d = R2 at *
  generalize wh m / d = Q1 at *
  generalize wh m % d = R1 at *
  generalize wh m = A at *
  generalize wl m = a at *
  clear m0 m1
  go_enter Try.func85, Try.ntmps85
  go_wp2_with fail
  with_reducible refine (HD1.out _).mono ?_
  rintro e w1 ⟨rfl, hk1⟩
  refine kuse (b := w.heap.size) hk1 (by first | (simp; done) | (simp; omega) | omega) ?_
  intro ha hb
  have hz1_0 : w.heap.size < w1.heap.size := by have := hk1.size; (try simp at this); omega
  have hn1_0 : ¬ w.heap.size = w1.heap.size := by omega
  have hm1_0 : ¬ w1.heap.size = w.heap.size := by omega
  have hf1_0_0 : w1.cell? ⟨w.heap.size, 0, none⟩ = some (.int .u64 A) := by first | (rw [ha]; with_reducible assumption) | (simp (maxDischargeDepth := 7) [go_sem, ha]; done) | (rw [ha]; assumption) | (simp (maxDischargeDepth := 7) [go_sem, ha, *]; done)
  have hf1_0_1 : w1.cell? ⟨w.heap.size, 1, none⟩ = some (.int .u64 a) := by first | (rw [ha]; with_reducible assumption) | (simp (maxDischargeDepth := 7) [go_sem, ha]; done) | (rw [ha]; assumption) | (simp (maxDischargeDepth := 7) [go_sem, ha, *]; done)
  try have hg1_0 : ∀ o, w1.frozen? ⟨w.heap.size, o, none⟩ = false := by intro o; first | (simp (maxDischargeDepth := 7) [go_sem, hb]; done) | (rw [hb]; simp (maxDischargeDepth := 7) [go_sem, *]; done)
  clear ha hb
  refine kuse (b := w.heap.size + 1) hk1 (by first | (simp; done) | (simp; omega) | omega) ?_
  intro ha hb
  have hz1_1 : w.heap.size + 1 < w1.heap.size := by have := hk1.size; (try simp at this); omega
  have hn1_1 : ¬ w.heap.size + 1 = w1.heap.size := by omega
  have hm1_1 : ¬ w1.heap.size = w.heap.size + 1 := by omega
  have hf1_1_0 : w1.cell? ⟨w.heap.size + 1, 0, none⟩ = some (.int .u64 0) := by first | (rw [ha]; with_reducible assumption) | (simp (maxDischargeDepth := 7) [go_sem, ha]; done) | (rw [ha]; assumption) | (simp (maxDischargeDepth := 7) [go_sem, ha, *]; done)
  have hf1_1_1 : w1.cell? ⟨w.heap.size + 1, 1, none⟩ = some (.int .u64 d) := by first | (rw [ha]; with_reducible assumption) | (simp (maxDischargeDepth := 7) [go_sem, ha]; done) | (rw [ha]; assumption) | (simp (maxDischargeDepth := 7) [go_sem, ha, *]; done)
  try have hg1_1 : ∀ o, w1.frozen? ⟨w.heap.size + 1, o, none⟩ = false := by intro o; first | (simp (maxDischargeDepth := 7) [go_sem, hb]; done) | (rw [hb]; simp (maxDischargeDepth := 7) [go_sem, *]; done)
  clear ha hb
  refine kuse (b := w.heap.size + 2) hk1 (by first | (simp; done) | (simp; omega) | omega) ?_
  intro ha hb
  have hz1_2 : w.heap.size + 2 < w1.heap.size := by have := hk1.size; (try simp at this); omega
  have hn1_2 : ¬ w.heap.size + 2 = w1.heap.size := by omega
  have hm1_2 : ¬ w1.heap.size = w.heap.size + 2 := by omega
  have hf1_2_0 : w1.cell? ⟨w.heap.size + 2, 0, none⟩ = some (.int .u64 0) := by first | (rw [ha]; with_reducible assumption) | (simp (maxDischargeDepth := 7) [go_sem, ha]; done) | (rw [ha]; assumption) | (simp (maxDischargeDepth := 7) [go_sem, ha, *]; done)
  have hf1_2_1 : w1.cell? ⟨w.heap.size + 2, 1, none⟩ = some (.int .u64 0) := by first | (rw [ha]; with_reducible assumption) | (simp (maxDischargeDepth := 7) [go_sem, ha]; done) | (rw [ha]; assumption) | (simp (maxDischargeDepth := 7) [go_sem, ha, *]; done)
  try have hg1_2 : ∀ o, w1.frozen? ⟨w.heap.size + 2, o, none⟩ = false := by intro o; first | (simp (maxDischargeDepth := 7) [go_sem, hb]; done) | (rw [hb]; simp (maxDischargeDepth := 7) [go_sem, *]; done)
  clear ha hb
  refine kuse (b := w.heap.size + 3) hk1 (by first | (simp; done) | (simp; omega) | omega) ?_
  intro ha hb
  have hz1_3 : w.heap.size + 3 < w1.heap.size := by have := hk1.size; (try simp at this); omega
  have hn1_3 : ¬ w.heap.size + 3 = w1.heap.size := by omega
  have hm1_3 : ¬ w1.heap.size = w.heap.size + 3 := by omega
  have hf1_3_0 : w1.cell? ⟨w.heap.size + 3, 0, none⟩ = some (.int .u64 0) := by first | (rw [ha]; with_reducible assumption) | (simp (maxDischargeDepth := 7) [go_sem, ha]; done) | (rw [ha]; assumption) | (simp (maxDischargeDepth := 7) [go_sem, ha, *]; done)
  have hf1_3_1 : w1.cell? ⟨w.heap.size + 3, 1, none⟩ = some (.int .u64 0) := by first | (rw [ha]; with_reducible assumption) | (simp (maxDischargeDepth := 7) [go_sem, ha]; done) | (rw [ha]; assumption) | (simp (maxDischargeDepth := 7) [go_sem, ha, *]; done)
  try have hg1_3 : ∀ o, w1.frozen? ⟨w.heap.size + 3, o, none⟩ = false := by intro o; first | (simp (maxDischargeDepth := 7) [go_sem, hb]; done) | (rw [hb]; simp (maxDischargeDepth := 7) [go_sem, *]; done)
  clear ha hb
  go_wp2_with fail
  with_reducible refine (HD2.out _).mono ?_
  rintro e w2 ⟨rfl, hk2⟩
  refine kuse (b := w.heap.size) hk2 (by first | (simp; done) | (simp; omega) | omega) ?_
  intro ha hb
  have hz2_0 : w.heap.size < w2.heap.size := by have := hk2.size; (try simp at this); omega
  have hn2_0 : ¬ w.heap.size = w2.heap.size := by omega
  have hm2_0 : ¬ w2.heap.size = w.heap.size := by omega
  have hf2_0_0 : w2.cell? ⟨w.heap.size, 0, none⟩ = some (.int .u64 A) := by first | (rw [ha]; with_reducible assumption) | (simp (maxDischargeDepth := 7) [go_sem, ha]; done) | (rw [ha]; assumption) | (simp (maxDischargeDepth := 7) [go_sem, ha, *]; done)
  have hf2_0_1 : w2.cell? ⟨w.heap.size, 1, none⟩ = some (.int .u64 a) := by first | (rw [ha]; with_reducible assumption) | (simp (maxDischargeDepth := 7) [go_sem, ha]; done) | (rw [ha]; assumption) | (simp (maxDischargeDepth := 7) [go_sem, ha, *]; done)
  try have hg2_0 : ∀ o, w2.frozen? ⟨w.heap.size, o, none⟩ = false := by intro o; first | (simp (maxDischargeDepth := 7) [go_sem, hb]; done) | (rw [hb]; simp (maxDischargeDepth := 7) [go_sem, *]; done)
  clear ha hb
  refine kuse (b := w.heap.size + 1) hk2 (by first | (simp; done) | (simp; omega) | omega) ?_
  intro ha hb
  have hz2_1 : w.heap.size + 1 < w2.heap.size := by have := hk2.size; (try simp at this); omega
  have hn2_1 : ¬ w.heap.size + 1 = w2.heap.size := by omega
  have hm2_1 : ¬ w2.heap.size = w.heap.size + 1 := by omega
  have hf2_1_0 : w2.cell? ⟨w.heap.size + 1, 0, none⟩ = some (.int .u64 0) := by first | (rw [ha]; with_reducible assumption) | (simp (maxDischargeDepth := 7) [go_sem, ha]; done) | (rw [ha]; assumption) | (simp (maxDischargeDepth := 7) [go_sem, ha, *]; done)
  have hf2_1_1 : w2.cell? ⟨w.heap.size + 1, 1, none⟩ = some (.int .u64 d) := by first | (rw [ha]; with_reducible assumption) | (simp (maxDischargeDepth := 7) [go_sem, ha]; done) | (rw [ha]; assumption) | (simp (maxDischargeDepth := 7) [go_sem, ha, *]; done)
  try have hg2_1 : ∀ o, w2.frozen? ⟨w.heap.size + 1, o, none⟩ = false := by intro o; first | (simp (maxDischargeDepth := 7) [go_sem, hb]; done) | (rw [hb]; simp (maxDischargeDepth := 7) [go_sem, *]; done)
  clear ha hb
  refine kuse (b := w.heap.size + 2) hk2 (by first | (simp; done) | (simp; omega) | omega) ?_
  intro ha hb
  have hz2_2 : w.heap.size + 2 < w2.heap.size := by have := hk2.size; (try simp at this); omega
  have hn2_2 : ¬ w.heap.size + 2 = w2.heap.size := by omega
  have hm2_2 : ¬ w2.heap.size = w.heap.size + 2 := by omega
  have hf2_2_0 : w2.cell? ⟨w.heap.size + 2, 0, none⟩ = some (.int .u64 Q1) := by first | (rw [ha]; with_reducible assumption) | (simp (maxDischargeDepth := 7) [go_sem, ha]; done) | (rw [ha]; assumption) | (simp (maxDischargeDepth := 7) [go_sem, ha, *]; done)
  have hf2_2_1 : w2.cell? ⟨w.heap.size + 2, 1, none⟩ = some (.int .u64 0) := by first | (rw [ha]; with_reducible assumption) | (simp (maxDischargeDepth := 7) [go_sem, ha]; done) | (rw [ha]; assumption) | (simp (maxDischargeDepth := 7) [go_sem, ha, *]; done)
  try have hg2_2 : ∀ o, w2.frozen? ⟨w.heap.size + 2, o, none⟩ = false := by intro o; first | (simp (maxDischargeDepth := 7) [go_sem, hb]; done) | (rw [hb]; simp (maxDischargeDepth := 7) [go_sem, *]; done)
  clear ha hb
  refine kuse (b := w.heap.size + 3) hk2 (by first | (simp; done) | (simp; omega) | omega) ?_
  intro ha hb
  have hz2_3 : w.heap.size + 3 < w2.heap.size := by have := hk2.size; (try simp at this); omega
  have hn2_3 : ¬ w.heap.size + 3 = w2.heap.size := by omega
  have hm2_3 : ¬ w2.heap.size = w.heap.size + 3 := by omega
  have hf2_3_0 : w2.cell? ⟨w.heap.size + 3, 0, none⟩ = some (.int .u64 0) := by first | (rw [ha]; with_reducible assumption) | (simp (maxDischargeDepth := 7) [go_sem, ha]; done) | (rw [ha]; assumption) | (simp (maxDischargeDepth := 7) [go_sem, ha, *]; done)
  have hf2_3_1 : w2.cell? ⟨w.heap.size + 3, 1, none⟩ = some (.int .u64 R1) := by first | (rw [ha]; with_reducible assumption) | (simp (maxDischargeDepth := 7) [go_sem, ha]; done) | (rw [ha]; assumption) | (simp (maxDischargeDepth := 7) [go_sem, ha, *]; done)
  try have hg2_3 : ∀ o, w2.frozen? ⟨w.heap.size + 3, o, none⟩ = false := by intro o; first | (simp (maxDischargeDepth := 7) [go_sem, hb]; done) | (rw [hb]; simp (maxDischargeDepth := 7) [go_sem, *]; done)
  clear ha hb
  try clear hf1_0_0
  try clear hf1_0_1
  try clear hf1_1_0
  try clear hf1_1_1
  try clear hf1_2_0
  try clear hf1_2_1
  try clear hf1_3_0
  try clear hf1_3_1
  try clear hg1_0
  try clear hg1_1
  try clear hg1_2
  try clear hg1_3
  try clear hz1_1
  try clear hz1_2
  try clear hz1_3
  go_wp2_with fail
  go_region
  all_goals go_wp2_with fail
  all_goals (exact bodyPost_ret (v := .tuple #[.agg #[.int .u64 Q1, .int .u64 Q2], .agg #[.int .u64 0, .int .u64 R2]]) (by first | (simp [results, Try.results85, go_sem]; done) | (simp (maxDischargeDepth := 7) [results, Try.results85, go_sem, *]; done)) rfl ⟨rfl, (by repeat (first | with_reducible exact Kept.refl _ | with_reducible assumption | with_reducible refine Kept.setCell ?_ (by first | (simp; done) | (simp; omega) | omega) _ | with_reducible refine Kept.alloc ?_ _ | with_reducible refine Kept.drewN ?_ _ | with_reducible refine Kept.drew ?_ | with_reducible refine Kept.trans ?_ (by with_reducible assumption) | with_reducible refine Kept.dr ?_ (by with_reducible assumption)))⟩)
set_option maxHeartbeats 2000000 in
set_option maxRecDepth 100000 in
theorem divide_hi (m d : Int) (m0 : 0 ≤ m) (m1 : m < 340282366920938463463374607431768211456) (d0 : 0 ≤ d) (d1 : d < 340282366920938463463374607431768211456) (hd : 18446744073709551616 ≤ d) (w : World) : Calls Try.prog 85 #[.agg #[.int .u64 (wh (m)), .int .u64 (wl (m))], .agg #[.int .u64 (wh (d)), .int .u64 (wl (d))]] w fun e w' => e = .returned (.tuple #[.agg #[.int .u64 (wh (m / d)), .int .u64 (wl (m / d))], .agg #[.int .u64 (wh (m % d)), .int .u64 (wl (m % d))]]) ∧ Kept w w' := by
  obtain ⟨em, a0, a1⟩ := wv m
  obtain ⟨ed, b0, b1⟩ := wv d
  have A0 : 0 ≤ wh m := (by unfold wh; omega)
  have A1 : wh m ≤ 18446744073709551615 := (by unfold wh; omega)
  have B0 : 0 < wh d := (by unfold wh; omega)
  have B1 : wh d ≤ 18446744073709551615 := (by unfold wh; omega)
  have c : (wh d == 0) = false := by rw [beq_eq_false_iff_ne]; omega
  obtain ⟨s, hs, hbl, hy, hy'⟩ := blen_bd (wh d) B0 B1
  have es : (64 - blen (wh d)).toNat = s := by omega
  have es' : (64 - (64 - blen (wh d))).toNat = 64 - s := by omega
  have es'' : (63 - (64 - blen (wh d))).toNat = 63 - s := by omega
  have hbb : 0 ≤ 64 - blen (wh d) ∧ 64 - blen (wh d) ≤ 63 := by omega
  obtain ⟨hb0, hb1⟩ := hbb
  have LZ := Lib.hid (lz64_w (wh d) (by omega) B1)
  generalize 64 - blen (wh d) = S at *
  clear hbl
  obtain ⟨l, x, g, j1, l0, l1, j2, x0, x1, ex, xl, xh, G00, G01, eg, g0, g1, glo, ghi⟩ := guess_all m (wh d) (wl d) s hs m0 m1 B0 hy hy' b0 b1
  rw [← ed] at glo ghi
  have HD := Lib.hid (div64_n (wh m / 2) x l (m / 2 / l) (m / 2 % l) xh x0 x1 l1 xl (by rw [ex]) (by rw [ex]))
  generalize m / 2 / l = G0 at *
  generalize m / 2 % l = R0 at *
  clear ex hy hy'
  by_cases cg : 0 < g
  · obtain ⟨G, hG⟩ : ∃ G, g - 1 = G := ⟨_, rfl⟩
    have wG : IntKind.u64.wrap (g - 1) = G := by rw [IntKind.wrap_u64]; omega
    have Ga : G * d ≤ m := by rw [← hG]; exact glo (by omega)
    have Gb : 0 ≤ G := by omega
    have Gc : G ≤ 18446744073709551615 := by omega
    have Gd : 0 ≤ G * d := Int.mul_nonneg Gb (by omega)
    have wm := word_mul G (wh d) (wl d) Gb (by omega) b0 (by rw [← ed]; omega)
    rw [← ed] at wm
    obtain ⟨R, hR⟩ : ∃ R, m - G * d = R := ⟨_, rfl⟩
    have HM' := mul64_w G (wl d) Gb Gc b0 b1
    obtain ⟨H1, hH1⟩ : ∃ z, G * wl d / 18446744073709551616 = z := ⟨_, rfl⟩
    obtain ⟨L1, hL1⟩ : ∃ z, G * wl d % 18446744073709551616 = z := ⟨_, rfl⟩
    simp only [hH1, hL1] at HM'
    rw [hH1, hL1] at wm
    have HM := Lib.hid HM'
    clear HM'
    have wU : ∃ z, IntKind.u64.wrap (G * wh d) = z := ⟨_, rfl⟩
    obtain ⟨GB, hGB⟩ := wU
    have kGB : GB = G * wh d % 18446744073709551616 := by rw [← hGB, IntKind.wrap_u64]
    rw [← kGB] at wm
    have wH : IntKind.u64.wrap (H1 + GB) = wh (G * d) := by rw [IntKind.wrap_u64]; exact wm.1
    have wL : L1 = wl (G * d) := wm.2
    have ep := wv (G * d)
    obtain ⟨HH, hHH⟩ : ∃ z, wh (G * d) = z := ⟨_, rfl⟩
    rw [hHH] at wH
    have HH0 : 0 ≤ HH := by rw [← hHH]; unfold wh; omega
    have HH1 : HH ≤ 18446744073709551615 := by rw [← hHH]; unfold wh; omega
    have L10 : 0 ≤ L1 := by omega
    have L11 : L1 ≤ 18446744073709551615 := by omega
    have GB0 : 0 ≤ GB := by omega
    have H10 : 0 ≤ H1 := by rw [← hH1]; exact Int.ediv_nonneg (Int.mul_nonneg Gb b0) (by omega)
    have MN := Lib.hid (minus_c (wh m) (wl m) HH L1 R A0 A1 a0 a1 HH0 HH1 L10 L11 (by omega))
    have HR := Lib.hid hR
    have HHG := Lib.hid hG
    have Hed := Lib.hid ed
    have Hem := Lib.hid em

    clear hR hH1 hL1 wm kGB ep hHH wL ed em hG glo
    have MA : Hid (wh m = wh m) := Lib.hid rfl
    generalize hA : wh m = A at *
    generalize ha : wl m = a at *
    generalize hB : wh d = B at *
    generalize hb : wl d = b at *
    have HHA := Lib.hid (And.intro (And.intro hA ha) (And.intro hB hb))
    clear hA ha hB hb MA
    go_enter Try.func85, Try.ntmps85
    go_wp2_with fail
    with_reducible refine (LZ.out _).mono ?_
    rintro e w' ⟨rfl, rfl⟩
    go_wp2_with fail
    with_reducible refine (HD.out _).mono ?_
    rintro e w1 ⟨rfl, hk1⟩
    refine kuse (b := w.heap.size) hk1 (by first | (simp; done) | (simp; omega) | omega) ?_
    intro ha hb
    have hz1_0 : w.heap.size < w1.heap.size := by have := hk1.size; (try simp at this); omega
    have hn1_0 : ¬ w.heap.size = w1.heap.size := by omega
    have hm1_0 : ¬ w1.heap.size = w.heap.size := by omega
    have hf1_0_0 : w1.cell? ⟨w.heap.size, 0, none⟩ = some (.int .u64 A) := by first | (rw [ha]; with_reducible assumption) | (simp (maxDischargeDepth := 7) [go_sem, ha]; done) | (rw [ha]; assumption) | (simp (maxDischargeDepth := 7) [go_sem, ha, *]; done)
    have hf1_0_1 : w1.cell? ⟨w.heap.size, 1, none⟩ = some (.int .u64 a) := by first | (rw [ha]; with_reducible assumption) | (simp (maxDischargeDepth := 7) [go_sem, ha]; done) | (rw [ha]; assumption) | (simp (maxDischargeDepth := 7) [go_sem, ha, *]; done)
    try have hg1_0 : ∀ o, w1.frozen? ⟨w.heap.size, o, none⟩ = false := by intro o; first | (simp (maxDischargeDepth := 7) [go_sem, hb]; done) | (rw [hb]; simp (maxDischargeDepth := 7) [go_sem, *]; done)
    clear ha hb
    refine kuse (b := w.heap.size + 1) hk1 (by first | (simp; done) | (simp; omega) | omega) ?_
    intro ha hb
    have hz1_1 : w.heap.size + 1 < w1.heap.size := by have := hk1.size; (try simp at this); omega
    have hn1_1 : ¬ w.heap.size + 1 = w1.heap.size := by omega
    have hm1_1 : ¬ w1.heap.size = w.heap.size + 1 := by omega
    have hf1_1_0 : w1.cell? ⟨w.heap.size + 1, 0, none⟩ = some (.int .u64 B) := by first | (rw [ha]; with_reducible assumption) | (simp (maxDischargeDepth := 7) [go_sem, ha]; done) | (rw [ha]; assumption) | (simp (maxDischargeDepth := 7) [go_sem, ha, *]; done)
    have hf1_1_1 : w1.cell? ⟨w.heap.size + 1, 1, none⟩ = some (.int .u64 b) := by first | (rw [ha]; with_reducible assumption) | (simp (maxDischargeDepth := 7) [go_sem, ha]; done) | (rw [ha]; assumption) | (simp (maxDischargeDepth := 7) [go_sem, ha, *]; done)
    try have hg1_1 : ∀ o, w1.frozen? ⟨w.heap.size + 1, o, none⟩ = false := by intro o; first | (simp (maxDischargeDepth := 7) [go_sem, hb]; done) | (rw [hb]; simp (maxDischargeDepth := 7) [go_sem, *]; done)
    clear ha hb
    refine kuse (b := w.heap.size + 2) hk1 (by first | (simp; done) | (simp; omega) | omega) ?_
    intro ha hb
    have hz1_2 : w.heap.size + 2 < w1.heap.size := by have := hk1.size; (try simp at this); omega
    have hn1_2 : ¬ w.heap.size + 2 = w1.heap.size := by omega
    have hm1_2 : ¬ w1.heap.size = w.heap.size + 2 := by omega
    have hf1_2_0 : w1.cell? ⟨w.heap.size + 2, 0, none⟩ = some (.int .u64 0) := by first | (rw [ha]; with_reducible assumption) | (simp (maxDischargeDepth := 7) [go_sem, ha]; done) | (rw [ha]; assumption) | (simp (maxDischargeDepth := 7) [go_sem, ha, *]; done)
    have hf1_2_1 : w1.cell? ⟨w.heap.size + 2, 1, none⟩ = some (.int .u64 0) := by first | (rw [ha]; with_reducible assumption) | (simp (maxDischargeDepth := 7) [go_sem, ha]; done) | (rw [ha]; assumption) | (simp (maxDischargeDepth := 7) [go_sem, ha, *]; done)
    try have hg1_2 : ∀ o, w1.frozen? ⟨w.heap.size + 2, o, none⟩ = false := by intro o; first | (simp (maxDischargeDepth := 7) [go_sem, hb]; done) | (rw [hb]; simp (maxDischargeDepth := 7) [go_sem, *]; done)
    clear ha hb
    refine kuse (b := w.heap.size + 3) hk1 (by first | (simp; done) | (simp; omega) | omega) ?_
    intro ha hb
    have hz1_3 : w.heap.size + 3 < w1.heap.size := by have := hk1.size; (try simp at this); omega
    have hn1_3 : ¬ w.heap.size + 3 = w1.heap.size := by omega
    have hm1_3 : ¬ w1.heap.size = w.heap.size + 3 := by omega
    have hf1_3_0 : w1.cell? ⟨w.heap.size + 3, 0, none⟩ = some (.int .u64 0) := by first | (rw [ha]; with_reducible assumption) | (simp (maxDischargeDepth := 7) [go_sem, ha]; done) | (rw [ha]; assumption) | (simp (maxDischargeDepth := 7) [go_sem, ha, *]; done)
    have hf1_3_1 : w1.cell? ⟨w.heap.size + 3, 1, none⟩ = some (.int .u64 0) := by first | (rw [ha]; with_reducible assumption) | (simp (maxDischargeDepth := 7) [go_sem, ha]; done) | (rw [ha]; assumption) | (simp (maxDischargeDepth := 7) [go_sem, ha, *]; done)
    try have hg1_3 : ∀ o, w1.frozen? ⟨w.heap.size + 3, o, none⟩ = false := by intro o; first | (simp (maxDischargeDepth := 7) [go_sem, hb]; done) | (rw [hb]; simp (maxDischargeDepth := 7) [go_sem, *]; done)
    clear ha hb
    go_wp2_with fail
    with_reducible refine (HM.out _).mono ?_
    rintro e w' ⟨rfl, rfl⟩
    go_wp2_with fail
    with_reducible refine (MN.out _).mono ?_
    rintro e w2 ⟨rfl, hk2⟩
    refine kuse (b := w.heap.size) hk2 (by first | (simp; done) | (simp; omega) | omega) ?_
    intro ha hb
    have hz2_0 : w.heap.size < w2.heap.size := by have := hk2.size; (try simp at this); omega
    have hn2_0 : ¬ w.heap.size = w2.heap.size := by omega
    have hm2_0 : ¬ w2.heap.size = w.heap.size := by omega
    have hf2_0_0 : w2.cell? ⟨w.heap.size, 0, none⟩ = some (.int .u64 A) := by first | (rw [ha]; with_reducible assumption) | (simp (maxDischargeDepth := 7) [go_sem, ha]; done) | (rw [ha]; assumption) | (simp (maxDischargeDepth := 7) [go_sem, ha, *]; done)
    have hf2_0_1 : w2.cell? ⟨w.heap.size, 1, none⟩ = some (.int .u64 a) := by first | (rw [ha]; with_reducible assumption) | (simp (maxDischargeDepth := 7) [go_sem, ha]; done) | (rw [ha]; assumption) | (simp (maxDischargeDepth := 7) [go_sem, ha, *]; done)
    try have hg2_0 : ∀ o, w2.frozen? ⟨w.heap.size, o, none⟩ = false := by intro o; first | (simp (maxDischargeDepth := 7) [go_sem, hb]; done) | (rw [hb]; simp (maxDischargeDepth := 7) [go_sem, *]; done)
    clear ha hb
    refine kuse (b := w.heap.size + 1) hk2 (by first | (simp; done) | (simp; omega) | omega) ?_
    intro ha hb
    have hz2_1 : w.heap.size + 1 < w2.heap.size := by have := hk2.size; (try simp at this); omega
    have hn2_1 : ¬ w.heap.size + 1 = w2.heap.size := by omega
    have hm2_1 : ¬ w2.heap.size = w.heap.size + 1 := by omega
    have hf2_1_0 : w2.cell? ⟨w.heap.size + 1, 0, none⟩ = some (.int .u64 B) := by first | (rw [ha]; with_reducible assumption) | (simp (maxDischargeDepth := 7) [go_sem, ha]; done) | (rw [ha]; assumption) | (simp (maxDischargeDepth := 7) [go_sem, ha, *]; done)
    have hf2_1_1 : w2.cell? ⟨w.heap.size + 1, 1, none⟩ = some (.int .u64 b) := by first | (rw [ha]; with_reducible assumption) | (simp (maxDischargeDepth := 7) [go_sem, ha]; done) | (rw [ha]; assumption) | (simp (maxDischargeDepth := 7) [go_sem, ha, *]; done)
    try have hg2_1 : ∀ o, w2.frozen? ⟨w.heap.size + 1, o, none⟩ = false := by intro o; first | (simp (maxDischargeDepth := 7) [go_sem, hb]; done) | (rw [hb]; simp (maxDischargeDepth := 7) [go_sem, *]; done)
    clear ha hb
    refine kuse (b := w.heap.size + 2) hk2 (by first | (simp; done) | (simp; omega) | omega) ?_
    intro ha hb
    have hz2_2 : w.heap.size + 2 < w2.heap.size := by have := hk2.size; (try simp at this); omega
    have hn2_2 : ¬ w.heap.size + 2 = w2.heap.size := by omega
    have hm2_2 : ¬ w2.heap.size = w.heap.size + 2 := by omega
    have hf2_2_0 : w2.cell? ⟨w.heap.size + 2, 0, none⟩ = some (.int .u64 0) := by first | (rw [ha]; with_reducible assumption) | (simp (maxDischargeDepth := 7) [go_sem, ha]; done) | (rw [ha]; assumption) | (simp (maxDischargeDepth := 7) [go_sem, ha, *]; done)
    have hf2_2_1 : w2.cell? ⟨w.heap.size + 2, 1, none⟩ = some (.int .u64 0) := by first | (rw [ha]; with_reducible assumption) | (simp (maxDischargeDepth := 7) [go_sem, ha]; done) | (rw [ha]; assumption) | (simp (maxDischargeDepth := 7) [go_sem, ha, *]; done)
    try have hg2_2 : ∀ o, w2.frozen? ⟨w.heap.size + 2, o, none⟩ = false := by intro o; first | (simp (maxDischargeDepth := 7) [go_sem, hb]; done) | (rw [hb]; simp (maxDischargeDepth := 7) [go_sem, *]; done)
    clear ha hb
    refine kuse (b := w.heap.size + 3) hk2 (by first | (simp; done) | (simp; omega) | omega) ?_
    intro ha hb
    have hz2_3 : w.heap.size + 3 < w2.heap.size := by have := hk2.size; (try simp at this); omega
    have hn2_3 : ¬ w.heap.size + 3 = w2.heap.size := by omega
    have hm2_3 : ¬ w2.heap.size = w.heap.size + 3 := by omega
    have hf2_3_0 : w2.cell? ⟨w.heap.size + 3, 0, none⟩ = some (.int .u64 0) := by first | (rw [ha]; with_reducible assumption) | (simp (maxDischargeDepth := 7) [go_sem, ha]; done) | (rw [ha]; assumption) | (simp (maxDischargeDepth := 7) [go_sem, ha, *]; done)
    have hf2_3_1 : w2.cell? ⟨w.heap.size + 3, 1, none⟩ = some (.int .u64 0) := by first | (rw [ha]; with_reducible assumption) | (simp (maxDischargeDepth := 7) [go_sem, ha]; done) | (rw [ha]; assumption) | (simp (maxDischargeDepth := 7) [go_sem, ha, *]; done)
    try have hg2_3 : ∀ o, w2.frozen? ⟨w.heap.size + 3, o, none⟩ = false := by intro o; first | (simp (maxDischargeDepth := 7) [go_sem, hb]; done) | (rw [hb]; simp (maxDischargeDepth := 7) [go_sem, *]; done)
    clear ha hb
    try clear hf1_0_0
    try clear hf1_0_1
    try clear hf1_1_0
    try clear hf1_1_1
    try clear hf1_2_0
    try clear hf1_2_1
    try clear hf1_3_0
    try clear hf1_3_1
    try clear hg1_0
    try clear hg1_1
    try clear hg1_2
    try clear hg1_3
    try clear hz1_1
    try clear hz1_2
    try clear hz1_3
    go_wp2_with fail
    go_loopw [8] (fun t wr => Kept w wr ∧ ∃ z : Int, 0 ≤ z ∧ z * d ≤ m ∧ t = .int .u64 z ∧ OwnB wr (w.heap.size) [.int .u64 A, .int .u64 a] ∧ OwnB wr (w.heap.size + 1) [.int .u64 B, .int .u64 b] ∧ OwnB wr (w.heap.size + 2) [.int .u64 0, .int .u64 0] ∧ OwnB wr (w.heap.size + 3) [.int .u64 (wh (m - z * d)), .int .u64 (wl (m - z * d))]) (fun t _ => (m / d - intOf t).toNat)
    case atStart =>
      have S0 : OwnB w2 (w.heap.size) [.int .u64 A, .int .u64 a] := ⟨hz2_0, hg2_0, hf2_0_0, hf2_0_1, trivial⟩
      have S1 : OwnB w2 (w.heap.size + 1) [.int .u64 B, .int .u64 b] := ⟨hz2_1, hg2_1, hf2_1_0, hf2_1_1, trivial⟩
      have S2 : OwnB w2 (w.heap.size + 2) [.int .u64 0, .int .u64 0] := ⟨hz2_2, hg2_2, hf2_2_0, hf2_2_1, trivial⟩
      have S3 : OwnB w2 (w.heap.size + 3) [.int .u64 0, .int .u64 0] := ⟨hz2_3, hg2_3, hf2_3_0, hf2_3_1, trivial⟩
      refine ⟨(by repeat (first | with_reducible exact Kept.refl _ | with_reducible assumption | with_reducible refine Kept.setCell ?_ (by first | (simp; done) | (simp; omega) | omega) _ | with_reducible refine Kept.alloc ?_ _ | with_reducible refine Kept.drewN ?_ _ | with_reducible refine Kept.drew ?_ | with_reducible refine Kept.trans ?_ (by with_reducible assumption) | with_reducible refine Kept.dr ?_ (by with_reducible assumption))), G, Gb, Ga, rfl, (by repeat (first | with_reducible exact S0 | with_reducible refine OwnB.other2 ?_ (by first | with_reducible assumption | omega | (simp; done) | (simp; omega)) | with_reducible refine OwnB.kept (by with_reducible assumption) ?_)), (by repeat (first | with_reducible exact S1 | with_reducible refine OwnB.other2 ?_ (by first | with_reducible assumption | omega | (simp; done) | (simp; omega)) | with_reducible refine OwnB.kept (by with_reducible assumption) ?_)), (by repeat (first | with_reducible exact S2 | with_reducible refine OwnB.other2 ?_ (by first | with_reducible assumption | omega | (simp; done) | (simp; omega)) | with_reducible refine OwnB.kept (by with_reducible assumption) ?_)), (by rw [HR.out]; exact (by repeat (first | with_reducible exact S3 | with_reducible refine own_set2 (us := [.int .u64 0, .int .u64 0]) ?_ rfl | with_reducible refine OwnB.other2 ?_ (by first | with_reducible assumption | omega | (simp; done) | (simp; omega)) | with_reducible refine OwnB.kept (by with_reducible assumption) ?_)))⟩
    case round =>
      clear es es' es'' hb0 hb1 HD HM MN HR HHG LZ
      try clear nG
      try clear wG
      clear wH GB0 H10 L10 L11 HH0 HH1 Ga Gb Gc Gd eg g0 g1 x0 x1 l0 l1 G00 G01 xl xh j1 j2 hGB
      obtain ⟨hk, z, z0, zm, rfl, O0, O1, O2, O3⟩ := hrel
      obtain ⟨R, hR⟩ : ∃ R, m - z * d = R := ⟨_, rfl⟩
      rw [hR] at O3
      have R0' : 0 ≤ R := by omega
      have R1' : R < 340282366920938463463374607431768211456 := by have := Int.mul_nonneg z0 (show 0 ≤ d by omega); omega
      have hzb : z ≤ 18446744073709551615 := by
        have h1 := Int.mul_le_mul_of_nonneg_left hd z0
        omega
      have HO0 := Lib.hid O0
      have HO1 := Lib.hid O1
      have HO2 := Lib.hid O2
      have HO3 := Lib.hid O3
      obtain ⟨hz_0, hg_0, hf_0_0, hf_0_1, _⟩ := O0
      obtain ⟨hz_1, hg_1, hf_1_0, hf_1_1, _⟩ := O1
      obtain ⟨hz_2, hg_2, hf_2_0, hf_2_1, _⟩ := O2
      obtain ⟨hz_3, hg_3, hf_3_0, hf_3_1, _⟩ := O3
      have W0 : 0 ≤ wh R := (by unfold wh; omega)
      have W1 : wh R ≤ 18446744073709551615 := (by unfold wh; omega)
      obtain ⟨eR, w0, w1_⟩ := wv R
      obtain ⟨hA, hB, hb⟩ := HHA.out
      have dd := Hed.out
      by_cases cz : d ≤ R
      · have LN' := less_no R d cz
        rw [hB, hb] at LN'
        have LN := Lib.hid LN'
        have MN2 := Lib.hid (minus_c (wh R) (wl R) B b (R - d) W0 W1 w0 w1_ (by omega) B1 b0 b1 (by omega))
        have HK := Lib.hid hk
        have HR2 := Lib.hid hR
        have HHB := Lib.hid (And.intro hB hb)
        have z1 : z + 1 ≤ 18446744073709551615 := by
          have h1 : (z + 1) * d ≤ m := by rw [Int.add_mul]; omega
          have h2 := Int.mul_le_mul_of_nonneg_left hd (show 0 ≤ z + 1 by omega)
          omega
        have zm1 : (z + 1) * d ≤ m := by rw [Int.add_mul]; omega
        have zq : z + 1 ≤ m / d := (Int.le_ediv_iff_mul_le (show 0 < d by omega)).2 zm1
        have hn : m - (z + 1) * d = R - d := by rw [Int.add_mul]; omega
        have HN := Lib.hid hn
        have ZQ := Lib.hid zq
        clear LN' hA hB hb dd hR hk eR hn zq HHA
        go_wp2_with fail
        with_reducible refine (LN.out _).mono ?_
        rintro e w1 ⟨rfl, hk1⟩
        refine kuse (b := w.heap.size) hk1 (by first | (simp; done) | (simp; omega) | omega) ?_
        intro ha hb
        have hz1_0 : w.heap.size < w1.heap.size := by have := hk1.size; (try simp at this); omega
        have hn1_0 : ¬ w.heap.size = w1.heap.size := by omega
        have hm1_0 : ¬ w1.heap.size = w.heap.size := by omega
        have hf1_0_0 : w1.cell? ⟨w.heap.size, 0, none⟩ = some (.int .u64 A) := by first | (rw [ha]; with_reducible assumption) | (simp (maxDischargeDepth := 7) [go_sem, ha]; done) | (rw [ha]; assumption) | (simp (maxDischargeDepth := 7) [go_sem, ha, *]; done)
        have hf1_0_1 : w1.cell? ⟨w.heap.size, 1, none⟩ = some (.int .u64 a) := by first | (rw [ha]; with_reducible assumption) | (simp (maxDischargeDepth := 7) [go_sem, ha]; done) | (rw [ha]; assumption) | (simp (maxDischargeDepth := 7) [go_sem, ha, *]; done)
        try have hg1_0 : ∀ o, w1.frozen? ⟨w.heap.size, o, none⟩ = false := by intro o; first | (simp (maxDischargeDepth := 7) [go_sem, hb]; done) | (rw [hb]; simp (maxDischargeDepth := 7) [go_sem, *]; done)
        clear ha hb
        refine kuse (b := w.heap.size + 1) hk1 (by first | (simp; done) | (simp; omega) | omega) ?_
        intro ha hb
        have hz1_1 : w.heap.size + 1 < w1.heap.size := by have := hk1.size; (try simp at this); omega
        have hn1_1 : ¬ w.heap.size + 1 = w1.heap.size := by omega
        have hm1_1 : ¬ w1.heap.size = w.heap.size + 1 := by omega
        have hf1_1_0 : w1.cell? ⟨w.heap.size + 1, 0, none⟩ = some (.int .u64 B) := by first | (rw [ha]; with_reducible assumption) | (simp (maxDischargeDepth := 7) [go_sem, ha]; done) | (rw [ha]; assumption) | (simp (maxDischargeDepth := 7) [go_sem, ha, *]; done)
        have hf1_1_1 : w1.cell? ⟨w.heap.size + 1, 1, none⟩ = some (.int .u64 b) := by first | (rw [ha]; with_reducible assumption) | (simp (maxDischargeDepth := 7) [go_sem, ha]; done) | (rw [ha]; assumption) | (simp (maxDischargeDepth := 7) [go_sem, ha, *]; done)
        try have hg1_1 : ∀ o, w1.frozen? ⟨w.heap.size + 1, o, none⟩ = false := by intro o; first | (simp (maxDischargeDepth := 7) [go_sem, hb]; done) | (rw [hb]; simp (maxDischargeDepth := 7) [go_sem, *]; done)
        clear ha hb
        refine kuse (b := w.heap.size + 2) hk1 (by first | (simp; done) | (simp; omega) | omega) ?_
        intro ha hb
        have hz1_2 : w.heap.size + 2 < w1.heap.size := by have := hk1.size; (try simp at this); omega
        have hn1_2 : ¬ w.heap.size + 2 = w1.heap.size := by omega
        have hm1_2 : ¬ w1.heap.size = w.heap.size + 2 := by omega
        have hf1_2_0 : w1.cell? ⟨w.heap.size + 2, 0, none⟩ = some (.int .u64 0) := by first | (rw [ha]; with_reducible assumption) | (simp (maxDischargeDepth := 7) [go_sem, ha]; done) | (rw [ha]; assumption) | (simp (maxDischargeDepth := 7) [go_sem, ha, *]; done)
        have hf1_2_1 : w1.cell? ⟨w.heap.size + 2, 1, none⟩ = some (.int .u64 0) := by first | (rw [ha]; with_reducible assumption) | (simp (maxDischargeDepth := 7) [go_sem, ha]; done) | (rw [ha]; assumption) | (simp (maxDischargeDepth := 7) [go_sem, ha, *]; done)
        try have hg1_2 : ∀ o, w1.frozen? ⟨w.heap.size + 2, o, none⟩ = false := by intro o; first | (simp (maxDischargeDepth := 7) [go_sem, hb]; done) | (rw [hb]; simp (maxDischargeDepth := 7) [go_sem, *]; done)
        clear ha hb
        refine kuse (b := w.heap.size + 3) hk1 (by first | (simp; done) | (simp; omega) | omega) ?_
        intro ha hb
        have hz1_3 : w.heap.size + 3 < w1.heap.size := by have := hk1.size; (try simp at this); omega
        have hn1_3 : ¬ w.heap.size + 3 = w1.heap.size := by omega
        have hm1_3 : ¬ w1.heap.size = w.heap.size + 3 := by omega
        have hf1_3_0 : w1.cell? ⟨w.heap.size + 3, 0, none⟩ = some (.int .u64 (wh R)) := by first | (rw [ha]; with_reducible assumption) | (simp (maxDischargeDepth := 7) [go_sem, ha]; done) | (rw [ha]; assumption) | (simp (maxDischargeDepth := 7) [go_sem, ha, *]; done)
        have hf1_3_1 : w1.cell? ⟨w.heap.size + 3, 1, none⟩ = some (.int .u64 (wl R)) := by first | (rw [ha]; with_reducible assumption) | (simp (maxDischargeDepth := 7) [go_sem, ha]; done) | (rw [ha]; assumption) | (simp (maxDischargeDepth := 7) [go_sem, ha, *]; done)
        try have hg1_3 : ∀ o, w1.frozen? ⟨w.heap.size + 3, o, none⟩ = false := by intro o; first | (simp (maxDischargeDepth := 7) [go_sem, hb]; done) | (rw [hb]; simp (maxDischargeDepth := 7) [go_sem, *]; done)
        clear ha hb
        go_wp2_with fail
        with_reducible refine (MN2.out _).mono ?_
        rintro e w2 ⟨rfl, hk2⟩
        refine kuse (b := w.heap.size) hk2 (by first | (simp; done) | (simp; omega) | omega) ?_
        intro ha hb
        have hz2_0 : w.heap.size < w2.heap.size := by have := hk2.size; (try simp at this); omega
        have hn2_0 : ¬ w.heap.size = w2.heap.size := by omega
        have hm2_0 : ¬ w2.heap.size = w.heap.size := by omega
        have hf2_0_0 : w2.cell? ⟨w.heap.size, 0, none⟩ = some (.int .u64 A) := by first | (rw [ha]; with_reducible assumption) | (simp (maxDischargeDepth := 7) [go_sem, ha]; done) | (rw [ha]; assumption) | (simp (maxDischargeDepth := 7) [go_sem, ha, *]; done)
        have hf2_0_1 : w2.cell? ⟨w.heap.size, 1, none⟩ = some (.int .u64 a) := by first | (rw [ha]; with_reducible assumption) | (simp (maxDischargeDepth := 7) [go_sem, ha]; done) | (rw [ha]; assumption) | (simp (maxDischargeDepth := 7) [go_sem, ha, *]; done)
        try have hg2_0 : ∀ o, w2.frozen? ⟨w.heap.size, o, none⟩ = false := by intro o; first | (simp (maxDischargeDepth := 7) [go_sem, hb]; done) | (rw [hb]; simp (maxDischargeDepth := 7) [go_sem, *]; done)
        clear ha hb
        refine kuse (b := w.heap.size + 1) hk2 (by first | (simp; done) | (simp; omega) | omega) ?_
        intro ha hb
        have hz2_1 : w.heap.size + 1 < w2.heap.size := by have := hk2.size; (try simp at this); omega
        have hn2_1 : ¬ w.heap.size + 1 = w2.heap.size := by omega
        have hm2_1 : ¬ w2.heap.size = w.heap.size + 1 := by omega
        have hf2_1_0 : w2.cell? ⟨w.heap.size + 1, 0, none⟩ = some (.int .u64 B) := by first | (rw [ha]; with_reducible assumption) | (simp (maxDischargeDepth := 7) [go_sem, ha]; done) | (rw [ha]; assumption) | (simp (maxDischargeDepth := 7) [go_sem, ha, *]; done)
        have hf2_1_1 : w2.cell? ⟨w.heap.size + 1, 1, none⟩ = some (.int .u64 b) := by first | (rw [ha]; with_reducible assumption) | (simp (maxDischargeDepth := 7) [go_sem, ha]; done) | (rw [ha]; assumption) | (simp (maxDischargeDepth := 7) [go_sem, ha, *]; done)
        try have hg2_1 : ∀ o, w2.frozen? ⟨w.heap.size + 1, o, none⟩ = false := by intro o; first | (simp (maxDischargeDepth := 7) [go_sem, hb]; done) | (rw [hb]; simp (maxDischargeDepth := 7) [go_sem, *]; done)
        clear ha hb
        refine kuse (b := w.heap.size + 2) hk2 (by first | (simp; done) | (simp; omega) | omega) ?_
        intro ha hb
        have hz2_2 : w.heap.size + 2 < w2.heap.size := by have := hk2.size; (try simp at this); omega
        have hn2_2 : ¬ w.heap.size + 2 = w2.heap.size := by omega
        have hm2_2 : ¬ w2.heap.size = w.heap.size + 2 := by omega
        have hf2_2_0 : w2.cell? ⟨w.heap.size + 2, 0, none⟩ = some (.int .u64 0) := by first | (rw [ha]; with_reducible assumption) | (simp (maxDischargeDepth := 7) [go_sem, ha]; done) | (rw [ha]; assumption) | (simp (maxDischargeDepth := 7) [go_sem, ha, *]; done)
        have hf2_2_1 : w2.cell? ⟨w.heap.size + 2, 1, none⟩ = some (.int .u64 0) := by first | (rw [ha]; with_reducible assumption) | (simp (maxDischargeDepth := 7) [go_sem, ha]; done) | (rw [ha]; assumption) | (simp (maxDischargeDepth := 7) [go_sem, ha, *]; done)
        try have hg2_2 : ∀ o, w2.frozen? ⟨w.heap.size + 2, o, none⟩ = false := by intro o; first | (simp (maxDischargeDepth := 7) [go_sem, hb]; done) | (rw [hb]; simp (maxDischargeDepth := 7) [go_sem, *]; done)
        clear ha hb
        refine kuse (b := w.heap.size + 3) hk2 (by first | (simp; done) | (simp; omega) | omega) ?_
        intro ha hb
        have hz2_3 : w.heap.size + 3 < w2.heap.size := by have := hk2.size; (try simp at this); omega
        have hn2_3 : ¬ w.heap.size + 3 = w2.heap.size := by omega
        have hm2_3 : ¬ w2.heap.size = w.heap.size + 3 := by omega
        have hf2_3_0 : w2.cell? ⟨w.heap.size + 3, 0, none⟩ = some (.int .u64 (wh R)) := by first | (rw [ha]; with_reducible assumption) | (simp (maxDischargeDepth := 7) [go_sem, ha]; done) | (rw [ha]; assumption) | (simp (maxDischargeDepth := 7) [go_sem, ha, *]; done)
        have hf2_3_1 : w2.cell? ⟨w.heap.size + 3, 1, none⟩ = some (.int .u64 (wl R)) := by first | (rw [ha]; with_reducible assumption) | (simp (maxDischargeDepth := 7) [go_sem, ha]; done) | (rw [ha]; assumption) | (simp (maxDischargeDepth := 7) [go_sem, ha, *]; done)
        try have hg2_3 : ∀ o, w2.frozen? ⟨w.heap.size + 3, o, none⟩ = false := by intro o; first | (simp (maxDischargeDepth := 7) [go_sem, hb]; done) | (rw [hb]; simp (maxDischargeDepth := 7) [go_sem, *]; done)
        clear ha hb
        try clear hf1_0_0
        try clear hf1_0_1
        try clear hf1_1_0
        try clear hf1_1_1
        try clear hf1_2_0
        try clear hf1_2_1
        try clear hf1_3_0
        try clear hf1_3_1
        try clear hg1_0
        try clear hg1_1
        try clear hg1_2
        try clear hg1_3
        try clear hz1_1
        try clear hz1_2
        try clear hz1_3
        go_wp2_with fail
        have zq := ZQ.out
        have hkw := HK.out
        exact ⟨⟨(by repeat (first | with_reducible exact Kept.refl _ | with_reducible assumption | with_reducible refine Kept.setCell ?_ (by first | (simp; done) | (simp; omega) | omega) _ | with_reducible refine Kept.alloc ?_ _ | with_reducible refine Kept.drewN ?_ _ | with_reducible refine Kept.drew ?_ | with_reducible refine Kept.trans ?_ (by with_reducible assumption) | with_reducible refine Kept.dr ?_ (by with_reducible assumption))), z + 1, by omega, zm1, rfl, (by repeat (first | with_reducible exact HO0.out | with_reducible refine OwnB.other2 ?_ (by first | with_reducible assumption | omega | (simp; done) | (simp; omega)) | with_reducible refine OwnB.kept (by with_reducible assumption) ?_)), (by repeat (first | with_reducible exact HO1.out | with_reducible refine OwnB.other2 ?_ (by first | with_reducible assumption | omega | (simp; done) | (simp; omega)) | with_reducible refine OwnB.kept (by with_reducible assumption) ?_)), (by repeat (first | with_reducible exact HO2.out | with_reducible refine OwnB.other2 ?_ (by first | with_reducible assumption | omega | (simp; done) | (simp; omega)) | with_reducible refine OwnB.kept (by with_reducible assumption) ?_)), (by rw [HN.out]; exact (by repeat (first | with_reducible exact HO3.out | with_reducible refine own_set2 (us := [.int .u64 (wh R), .int .u64 (wl R)]) ?_ rfl | with_reducible refine OwnB.other2 ?_ (by first | with_reducible assumption | omega | (simp; done) | (simp; omega)) | with_reducible refine OwnB.kept (by with_reducible assumption) ?_)))⟩, by simp [intOf]; omega⟩
      · have LY' := less_yes R d (by omega)
        rw [hB, hb] at LY'
        have LY := Lib.hid LY'
        have HK := Lib.hid hk
        have eq := div_uniq m d z (by omega) zm (by omega)
        have em := mod_of m d z eq
        have f1 : wh z = 0 := by unfold wh; omega
        have f2 : wl z = z := by unfold wl; omega
        rw [hR] at em
        have E : Hid (0 = wh (m / d) ∧ z = wl (m / d) ∧ wh R = wh (m % d) ∧ wl R = wl (m % d)) := by rw [eq, em, f1, f2]; exact ⟨rfl, rfl, rfl, rfl⟩
        clear LY' hA hB hb dd hR hk eR eq em f1 f2 HHA
        go_wp2_with fail
        with_reducible refine (LY.out _).mono ?_
        rintro e w1 ⟨rfl, hk1⟩
        refine kuse (b := w.heap.size) hk1 (by first | (simp; done) | (simp; omega) | omega) ?_
        intro ha hb
        have hz1_0 : w.heap.size < w1.heap.size := by have := hk1.size; (try simp at this); omega
        have hn1_0 : ¬ w.heap.size = w1.heap.size := by omega
        have hm1_0 : ¬ w1.heap.size = w.heap.size := by omega
        have hf1_0_0 : w1.cell? ⟨w.heap.size, 0, none⟩ = some (.int .u64 A) := by first | (rw [ha]; with_reducible assumption) | (simp (maxDischargeDepth := 7) [go_sem, ha]; done) | (rw [ha]; assumption) | (simp (maxDischargeDepth := 7) [go_sem, ha, *]; done)
        have hf1_0_1 : w1.cell? ⟨w.heap.size, 1, none⟩ = some (.int .u64 a) := by first | (rw [ha]; with_reducible assumption) | (simp (maxDischargeDepth := 7) [go_sem, ha]; done) | (rw [ha]; assumption) | (simp (maxDischargeDepth := 7) [go_sem, ha, *]; done)
        try have hg1_0 : ∀ o, w1.frozen? ⟨w.heap.size, o, none⟩ = false := by intro o; first | (simp (maxDischargeDepth := 7) [go_sem, hb]; done) | (rw [hb]; simp (maxDischargeDepth := 7) [go_sem, *]; done)
        clear ha hb
        refine kuse (b := w.heap.size + 1) hk1 (by first | (simp; done) | (simp; omega) | omega) ?_
        intro ha hb
        have hz1_1 : w.heap.size + 1 < w1.heap.size := by have := hk1.size; (try simp at this); omega
        have hn1_1 : ¬ w.heap.size + 1 = w1.heap.size := by omega
        have hm1_1 : ¬ w1.heap.size = w.heap.size + 1 := by omega
        have hf1_1_0 : w1.cell? ⟨w.heap.size + 1, 0, none⟩ = some (.int .u64 B) := by first | (rw [ha]; with_reducible assumption) | (simp (maxDischargeDepth := 7) [go_sem, ha]; done) | (rw [ha]; assumption) | (simp (maxDischargeDepth := 7) [go_sem, ha, *]; done)
        have hf1_1_1 : w1.cell? ⟨w.heap.size + 1, 1, none⟩ = some (.int .u64 b) := by first | (rw [ha]; with_reducible assumption) | (simp (maxDischargeDepth := 7) [go_sem, ha]; done) | (rw [ha]; assumption) | (simp (maxDischargeDepth := 7) [go_sem, ha, *]; done)
        try have hg1_1 : ∀ o, w1.frozen? ⟨w.heap.size + 1, o, none⟩ = false := by intro o; first | (simp (maxDischargeDepth := 7) [go_sem, hb]; done) | (rw [hb]; simp (maxDischargeDepth := 7) [go_sem, *]; done)
        clear ha hb
        refine kuse (b := w.heap.size + 2) hk1 (by first | (simp; done) | (simp; omega) | omega) ?_
        intro ha hb
        have hz1_2 : w.heap.size + 2 < w1.heap.size := by have := hk1.size; (try simp at this); omega
        have hn1_2 : ¬ w.heap.size + 2 = w1.heap.size := by omega
        have hm1_2 : ¬ w1.heap.size = w.heap.size + 2 := by omega
        have hf1_2_0 : w1.cell? ⟨w.heap.size + 2, 0, none⟩ = some (.int .u64 0) := by first | (rw [ha]; with_reducible assumption) | (simp (maxDischargeDepth := 7) [go_sem, ha]; done) | (rw [ha]; assumption) | (simp (maxDischargeDepth := 7) [go_sem, ha, *]; done)
        have hf1_2_1 : w1.cell? ⟨w.heap.size + 2, 1, none⟩ = some (.int .u64 0) := by first | (rw [ha]; with_reducible assumption) | (simp (maxDischargeDepth := 7) [go_sem, ha]; done) | (rw [ha]; assumption) | (simp (maxDischargeDepth := 7) [go_sem, ha, *]; done)
        try have hg1_2 : ∀ o, w1.frozen? ⟨w.heap.size + 2, o, none⟩ = false := by intro o; first | (simp (maxDischargeDepth := 7) [go_sem, hb]; done) | (rw [hb]; simp (maxDischargeDepth := 7) [go_sem, *]; done)
        clear ha hb
        refine kuse (b := w.heap.size + 3) hk1 (by first | (simp; done) | (simp; omega) | omega) ?_
        intro ha hb
        have hz1_3 : w.heap.size + 3 < w1.heap.size := by have := hk1.size; (try simp at this); omega
        have hn1_3 : ¬ w.heap.size + 3 = w1.heap.size := by omega
        have hm1_3 : ¬ w1.heap.size = w.heap.size + 3 := by omega
        have hf1_3_0 : w1.cell? ⟨w.heap.size + 3, 0, none⟩ = some (.int .u64 (wh R)) := by first | (rw [ha]; with_reducible assumption) | (simp (maxDischargeDepth := 7) [go_sem, ha]; done) | (rw [ha]; assumption) | (simp (maxDischargeDepth := 7) [go_sem, ha, *]; done)
        have hf1_3_1 : w1.cell? ⟨w.heap.size + 3, 1, none⟩ = some (.int .u64 (wl R)) := by first | (rw [ha]; with_reducible assumption) | (simp (maxDischargeDepth := 7) [go_sem, ha]; done) | (rw [ha]; assumption) | (simp (maxDischargeDepth := 7) [go_sem, ha, *]; done)
        try have hg1_3 : ∀ o, w1.frozen? ⟨w.heap.size + 3, o, none⟩ = false := by intro o; first | (simp (maxDischargeDepth := 7) [go_sem, hb]; done) | (rw [hb]; simp (maxDischargeDepth := 7) [go_sem, *]; done)
        clear ha hb
        go_wp2_with fail
        have hkw := HK.out
        go_region
        all_goals go_wp2_with fail
        all_goals (exact bodyPost_ret (v := .tuple #[.agg #[.int .u64 0, .int .u64 z], .agg #[.int .u64 (wh R), .int .u64 (wl R)]]) (by first | (simp [results, Try.results85, go_sem]; done) | (simp (maxDischargeDepth := 7) [results, Try.results85, go_sem, *]; done)) rfl ⟨tupm E.out, (by repeat (first | with_reducible exact Kept.refl _ | with_reducible assumption | with_reducible refine Kept.setCell ?_ (by first | (simp; done) | (simp; omega) | omega) _ | with_reducible refine Kept.alloc ?_ _ | with_reducible refine Kept.drewN ?_ _ | with_reducible refine Kept.drew ?_ | with_reducible refine Kept.trans ?_ (by with_reducible assumption) | with_reducible refine Kept.dr ?_ (by with_reducible assumption)))⟩)

  · obtain rfl : g = 0 := by omega
    obtain ⟨G, hG⟩ : ∃ G : Int, 0 = G := ⟨_, rfl⟩
    have Ga : G * d ≤ m := by rw [← hG]; omega
    have nG : ¬ 0 < G := by omega
    have Gb : 0 ≤ G := by omega
    have Gc : G ≤ 18446744073709551615 := by omega
    have Gd : 0 ≤ G * d := Int.mul_nonneg Gb (by omega)
    have wm := word_mul G (wh d) (wl d) Gb (by omega) b0 (by rw [← ed]; omega)
    rw [← ed] at wm
    obtain ⟨R, hR⟩ : ∃ R, m - G * d = R := ⟨_, rfl⟩
    have HM' := mul64_w G (wl d) Gb Gc b0 b1
    obtain ⟨H1, hH1⟩ : ∃ z, G * wl d / 18446744073709551616 = z := ⟨_, rfl⟩
    obtain ⟨L1, hL1⟩ : ∃ z, G * wl d % 18446744073709551616 = z := ⟨_, rfl⟩
    simp only [hH1, hL1] at HM'
    rw [hH1, hL1] at wm
    have HM := Lib.hid HM'
    clear HM'
    have wU : ∃ z, IntKind.u64.wrap (G * wh d) = z := ⟨_, rfl⟩
    obtain ⟨GB, hGB⟩ := wU
    have kGB : GB = G * wh d % 18446744073709551616 := by rw [← hGB, IntKind.wrap_u64]
    rw [← kGB] at wm
    have wH : IntKind.u64.wrap (H1 + GB) = wh (G * d) := by rw [IntKind.wrap_u64]; exact wm.1
    have wL : L1 = wl (G * d) := wm.2
    have ep := wv (G * d)
    obtain ⟨HH, hHH⟩ : ∃ z, wh (G * d) = z := ⟨_, rfl⟩
    rw [hHH] at wH
    have HH0 : 0 ≤ HH := by rw [← hHH]; unfold wh; omega
    have HH1 : HH ≤ 18446744073709551615 := by rw [← hHH]; unfold wh; omega
    have L10 : 0 ≤ L1 := by omega
    have L11 : L1 ≤ 18446744073709551615 := by omega
    have GB0 : 0 ≤ GB := by omega
    have H10 : 0 ≤ H1 := by rw [← hH1]; exact Int.ediv_nonneg (Int.mul_nonneg Gb b0) (by omega)
    have MN := Lib.hid (minus_c (wh m) (wl m) HH L1 R A0 A1 a0 a1 HH0 HH1 L10 L11 (by omega))
    have HR := Lib.hid hR
    have HHG := Lib.hid hG
    have Hed := Lib.hid ed
    have Hem := Lib.hid em
    rw [hG] at eg
    clear hR hH1 hL1 wm kGB ep hHH wL ed em hG 
    have MA : Hid (wh m = wh m) := Lib.hid rfl
    generalize hA : wh m = A at *
    generalize ha : wl m = a at *
    generalize hB : wh d = B at *
    generalize hb : wl d = b at *
    have HHA := Lib.hid (And.intro (And.intro hA ha) (And.intro hB hb))
    clear hA ha hB hb MA
    go_enter Try.func85, Try.ntmps85
    go_wp2_with fail
    with_reducible refine (LZ.out _).mono ?_
    rintro e w' ⟨rfl, rfl⟩
    go_wp2_with fail
    with_reducible refine (HD.out _).mono ?_
    rintro e w1 ⟨rfl, hk1⟩
    refine kuse (b := w.heap.size) hk1 (by first | (simp; done) | (simp; omega) | omega) ?_
    intro ha hb
    have hz1_0 : w.heap.size < w1.heap.size := by have := hk1.size; (try simp at this); omega
    have hn1_0 : ¬ w.heap.size = w1.heap.size := by omega
    have hm1_0 : ¬ w1.heap.size = w.heap.size := by omega
    have hf1_0_0 : w1.cell? ⟨w.heap.size, 0, none⟩ = some (.int .u64 A) := by first | (rw [ha]; with_reducible assumption) | (simp (maxDischargeDepth := 7) [go_sem, ha]; done) | (rw [ha]; assumption) | (simp (maxDischargeDepth := 7) [go_sem, ha, *]; done)
    have hf1_0_1 : w1.cell? ⟨w.heap.size, 1, none⟩ = some (.int .u64 a) := by first | (rw [ha]; with_reducible assumption) | (simp (maxDischargeDepth := 7) [go_sem, ha]; done) | (rw [ha]; assumption) | (simp (maxDischargeDepth := 7) [go_sem, ha, *]; done)
    try have hg1_0 : ∀ o, w1.frozen? ⟨w.heap.size, o, none⟩ = false := by intro o; first | (simp (maxDischargeDepth := 7) [go_sem, hb]; done) | (rw [hb]; simp (maxDischargeDepth := 7) [go_sem, *]; done)
    clear ha hb
    refine kuse (b := w.heap.size + 1) hk1 (by first | (simp; done) | (simp; omega) | omega) ?_
    intro ha hb
    have hz1_1 : w.heap.size + 1 < w1.heap.size := by have := hk1.size; (try simp at this); omega
    have hn1_1 : ¬ w.heap.size + 1 = w1.heap.size := by omega
    have hm1_1 : ¬ w1.heap.size = w.heap.size + 1 := by omega
    have hf1_1_0 : w1.cell? ⟨w.heap.size + 1, 0, none⟩ = some (.int .u64 B) := by first | (rw [ha]; with_reducible assumption) | (simp (maxDischargeDepth := 7) [go_sem, ha]; done) | (rw [ha]; assumption) | (simp (maxDischargeDepth := 7) [go_sem, ha, *]; done)
    have hf1_1_1 : w1.cell? ⟨w.heap.size + 1, 1, none⟩ = some (.int .u64 b) := by first | (rw [ha]; with_reducible assumption) | (simp (maxDischargeDepth := 7) [go_sem, ha]; done) | (rw [ha]; assumption) | (simp (maxDischargeDepth := 7) [go_sem, ha, *]; done)
    try have hg1_1 : ∀ o, w1.frozen? ⟨w.heap.size + 1, o, none⟩ = false := by intro o; first | (simp (maxDischargeDepth := 7) [go_sem, hb]; done) | (rw [hb]; simp (maxDischargeDepth := 7) [go_sem, *]; done)
    clear ha hb
    refine kuse (b := w.heap.size + 2) hk1 (by first | (simp; done) | (simp; omega) | omega) ?_
    intro ha hb
    have hz1_2 : w.heap.size + 2 < w1.heap.size := by have := hk1.size; (try simp at this); omega
    have hn1_2 : ¬ w.heap.size + 2 = w1.heap.size := by omega
    have hm1_2 : ¬ w1.heap.size = w.heap.size + 2 := by omega
    have hf1_2_0 : w1.cell? ⟨w.heap.size + 2, 0, none⟩ = some (.int .u64 0) := by first | (rw [ha]; with_reducible assumption) | (simp (maxDischargeDepth := 7) [go_sem, ha]; done) | (rw [ha]; assumption) | (simp (maxDischargeDepth := 7) [go_sem, ha, *]; done)
    have hf1_2_1 : w1.cell? ⟨w.heap.size + 2, 1, none⟩ = some (.int .u64 0) := by first | (rw [ha]; with_reducible assumption) | (simp (maxDischargeDepth := 7) [go_sem, ha]; done) | (rw [ha]; assumption) | (simp (maxDischargeDepth := 7) [go_sem, ha, *]; done)
    try have hg1_2 : ∀ o, w1.frozen? ⟨w.heap.size + 2, o, none⟩ = false := by intro o; first | (simp (maxDischargeDepth := 7) [go_sem, hb]; done) | (rw [hb]; simp (maxDischargeDepth := 7) [go_sem, *]; done)
    clear ha hb
    refine kuse (b := w.heap.size + 3) hk1 (by first | (simp; done) | (simp; omega) | omega) ?_
    intro ha hb
    have hz1_3 : w.heap.size + 3 < w1.heap.size := by have := hk1.size; (try simp at this); omega
    have hn1_3 : ¬ w.heap.size + 3 = w1.heap.size := by omega
    have hm1_3 : ¬ w1.heap.size = w.heap.size + 3 := by omega
    have hf1_3_0 : w1.cell? ⟨w.heap.size + 3, 0, none⟩ = some (.int .u64 0) := by first | (rw [ha]; with_reducible assumption) | (simp (maxDischargeDepth := 7) [go_sem, ha]; done) | (rw [ha]; assumption) | (simp (maxDischargeDepth := 7) [go_sem, ha, *]; done)
    have hf1_3_1 : w1.cell? ⟨w.heap.size + 3, 1, none⟩ = some (.int .u64 0) := by first | (rw [ha]; with_reducible assumption) | (simp (maxDischargeDepth := 7) [go_sem, ha]; done) | (rw [ha]; assumption) | (simp (maxDischargeDepth := 7) [go_sem, ha, *]; done)
    try have hg1_3 : ∀ o, w1.frozen? ⟨w.heap.size + 3, o, none⟩ = false := by intro o; first | (simp (maxDischargeDepth := 7) [go_sem, hb]; done) | (rw [hb]; simp (maxDischargeDepth := 7) [go_sem, *]; done)
    clear ha hb
    go_wp2_with fail
    with_reducible refine (HM.out _).mono ?_
    rintro e w' ⟨rfl, rfl⟩
    go_wp2_with fail
    with_reducible refine (MN.out _).mono ?_
    rintro e w2 ⟨rfl, hk2⟩
    refine kuse (b := w.heap.size) hk2 (by first | (simp; done) | (simp; omega) | omega) ?_
    intro ha hb
    have hz2_0 : w.heap.size < w2.heap.size := by have := hk2.size; (try simp at this); omega
    have hn2_0 : ¬ w.heap.size = w2.heap.size := by omega
    have hm2_0 : ¬ w2.heap.size = w.heap.size := by omega
    have hf2_0_0 : w2.cell? ⟨w.heap.size, 0, none⟩ = some (.int .u64 A) := by first | (rw [ha]; with_reducible assumption) | (simp (maxDischargeDepth := 7) [go_sem, ha]; done) | (rw [ha]; assumption) | (simp (maxDischargeDepth := 7) [go_sem, ha, *]; done)
    have hf2_0_1 : w2.cell? ⟨w.heap.size, 1, none⟩ = some (.int .u64 a) := by first | (rw [ha]; with_reducible assumption) | (simp (maxDischargeDepth := 7) [go_sem, ha]; done) | (rw [ha]; assumption) | (simp (maxDischargeDepth := 7) [go_sem, ha, *]; done)
    try have hg2_0 : ∀ o, w2.frozen? ⟨w.heap.size, o, none⟩ = false := by intro o; first | (simp (maxDischargeDepth := 7) [go_sem, hb]; done) | (rw [hb]; simp (maxDischargeDepth := 7) [go_sem, *]; done)
    clear ha hb
    refine kuse (b := w.heap.size + 1) hk2 (by first | (simp; done) | (simp; omega) | omega) ?_
    intro ha hb
    have hz2_1 : w.heap.size + 1 < w2.heap.size := by have := hk2.size; (try simp at this); omega
    have hn2_1 : ¬ w.heap.size + 1 = w2.heap.size := by omega
    have hm2_1 : ¬ w2.heap.size = w.heap.size + 1 := by omega
    have hf2_1_0 : w2.cell? ⟨w.heap.size + 1, 0, none⟩ = some (.int .u64 B) := by first | (rw [ha]; with_reducible assumption) | (simp (maxDischargeDepth := 7) [go_sem, ha]; done) | (rw [ha]; assumption) | (simp (maxDischargeDepth := 7) [go_sem, ha, *]; done)
    have hf2_1_1 : w2.cell? ⟨w.heap.size + 1, 1, none⟩ = some (.int .u64 b) := by first | (rw [ha]; with_reducible assumption) | (simp (maxDischargeDepth := 7) [go_sem, ha]; done) | (rw [ha]; assumption) | (simp (maxDischargeDepth := 7) [go_sem, ha, *]; done)
    try have hg2_1 : ∀ o, w2.frozen? ⟨w.heap.size + 1, o, none⟩ = false := by intro o; first | (simp (maxDischargeDepth := 7) [go_sem, hb]; done) | (rw [hb]; simp (maxDischargeDepth := 7) [go_sem, *]; done)
    clear ha hb
    refine kuse (b := w.heap.size + 2) hk2 (by first | (simp; done) | (simp; omega) | omega) ?_
    intro ha hb
    have hz2_2 : w.heap.size + 2 < w2.heap.size := by have := hk2.size; (try simp at this); omega
    have hn2_2 : ¬ w.heap.size + 2 = w2.heap.size := by omega
    have hm2_2 : ¬ w2.heap.size = w.heap.size + 2 := by omega
    have hf2_2_0 : w2.cell? ⟨w.heap.size + 2, 0, none⟩ = some (.int .u64 0) := by first | (rw [ha]; with_reducible assumption) | (simp (maxDischargeDepth := 7) [go_sem, ha]; done) | (rw [ha]; assumption) | (simp (maxDischargeDepth := 7) [go_sem, ha, *]; done)
    have hf2_2_1 : w2.cell? ⟨w.heap.size + 2, 1, none⟩ = some (.int .u64 0) := by first | (rw [ha]; with_reducible assumption) | (simp (maxDischargeDepth := 7) [go_sem, ha]; done) | (rw [ha]; assumption) | (simp (maxDischargeDepth := 7) [go_sem, ha, *]; done)
    try have hg2_2 : ∀ o, w2.frozen? ⟨w.heap.size + 2, o, none⟩ = false := by intro o; first | (simp (maxDischargeDepth := 7) [go_sem, hb]; done) | (rw [hb]; simp (maxDischargeDepth := 7) [go_sem, *]; done)
    clear ha hb
    refine kuse (b := w.heap.size + 3) hk2 (by first | (simp; done) | (simp; omega) | omega) ?_
    intro ha hb
    have hz2_3 : w.heap.size + 3 < w2.heap.size := by have := hk2.size; (try simp at this); omega
    have hn2_3 : ¬ w.heap.size + 3 = w2.heap.size := by omega
    have hm2_3 : ¬ w2.heap.size = w.heap.size + 3 := by omega
    have hf2_3_0 : w2.cell? ⟨w.heap.size + 3, 0, none⟩ = some (.int .u64 0) := by first | (rw [ha]; with_reducible assumption) | (simp (maxDischargeDepth := 7) [go_sem, ha]; done) | (rw [ha]; assumption) | (simp (maxDischargeDepth := 7) [go_sem, ha, *]; done)
    have hf2_3_1 : w2.cell? ⟨w.heap.size + 3, 1, none⟩ = some (.int .u64 0) := by first | (rw [ha]; with_reducible assumption) | (simp (maxDischargeDepth := 7) [go_sem, ha]; done) | (rw [ha]; assumption) | (simp (maxDischargeDepth := 7) [go_sem, ha, *]; done)
    try have hg2_3 : ∀ o, w2.frozen? ⟨w.heap.size + 3, o, none⟩ = false := by intro o; first | (simp (maxDischargeDepth := 7) [go_sem, hb]; done) | (rw [hb]; simp (maxDischargeDepth := 7) [go_sem, *]; done)
    clear ha hb
    try clear hf1_0_0
    try clear hf1_0_1
    try clear hf1_1_0
    try clear hf1_1_1
    try clear hf1_2_0
    try clear hf1_2_1
    try clear hf1_3_0
    try clear hf1_3_1
    try clear hg1_0
    try clear hg1_1
    try clear hg1_2
    try clear hg1_3
    try clear hz1_1
    try clear hz1_2
    try clear hz1_3
    go_wp2_with fail
    go_loopw [8] (fun t wr => Kept w wr ∧ ∃ z : Int, 0 ≤ z ∧ z * d ≤ m ∧ t = .int .u64 z ∧ OwnB wr (w.heap.size) [.int .u64 A, .int .u64 a] ∧ OwnB wr (w.heap.size + 1) [.int .u64 B, .int .u64 b] ∧ OwnB wr (w.heap.size + 2) [.int .u64 0, .int .u64 0] ∧ OwnB wr (w.heap.size + 3) [.int .u64 (wh (m - z * d)), .int .u64 (wl (m - z * d))]) (fun t _ => (m / d - intOf t).toNat)
    case atStart =>
      have S0 : OwnB w2 (w.heap.size) [.int .u64 A, .int .u64 a] := ⟨hz2_0, hg2_0, hf2_0_0, hf2_0_1, trivial⟩
      have S1 : OwnB w2 (w.heap.size + 1) [.int .u64 B, .int .u64 b] := ⟨hz2_1, hg2_1, hf2_1_0, hf2_1_1, trivial⟩
      have S2 : OwnB w2 (w.heap.size + 2) [.int .u64 0, .int .u64 0] := ⟨hz2_2, hg2_2, hf2_2_0, hf2_2_1, trivial⟩
      have S3 : OwnB w2 (w.heap.size + 3) [.int .u64 0, .int .u64 0] := ⟨hz2_3, hg2_3, hf2_3_0, hf2_3_1, trivial⟩
      refine ⟨(by repeat (first | with_reducible exact Kept.refl _ | with_reducible assumption | with_reducible refine Kept.setCell ?_ (by first | (simp; done) | (simp; omega) | omega) _ | with_reducible refine Kept.alloc ?_ _ | with_reducible refine Kept.drewN ?_ _ | with_reducible refine Kept.drew ?_ | with_reducible refine Kept.trans ?_ (by with_reducible assumption) | with_reducible refine Kept.dr ?_ (by with_reducible assumption))), G, Gb, Ga, rfl, (by repeat (first | with_reducible exact S0 | with_reducible refine OwnB.other2 ?_ (by first | with_reducible assumption | omega | (simp; done) | (simp; omega)) | with_reducible refine OwnB.kept (by with_reducible assumption) ?_)), (by repeat (first | with_reducible exact S1 | with_reducible refine OwnB.other2 ?_ (by first | with_reducible assumption | omega | (simp; done) | (simp; omega)) | with_reducible refine OwnB.kept (by with_reducible assumption) ?_)), (by repeat (first | with_reducible exact S2 | with_reducible refine OwnB.other2 ?_ (by first | with_reducible assumption | omega | (simp; done) | (simp; omega)) | with_reducible refine OwnB.kept (by with_reducible assumption) ?_)), (by rw [HR.out]; exact (by repeat (first | with_reducible exact S3 | with_reducible refine own_set2 (us := [.int .u64 0, .int .u64 0]) ?_ rfl | with_reducible refine OwnB.other2 ?_ (by first | with_reducible assumption | omega | (simp; done) | (simp; omega)) | with_reducible refine OwnB.kept (by with_reducible assumption) ?_)))⟩
    case round =>
      clear es es' es'' hb0 hb1 HD HM MN HR HHG LZ
      try clear nG
      try clear wG
      clear wH GB0 H10 L10 L11 HH0 HH1 Ga Gb Gc Gd eg g0 g1 x0 x1 l0 l1 G00 G01 xl xh j1 j2 hGB
      obtain ⟨hk, z, z0, zm, rfl, O0, O1, O2, O3⟩ := hrel
      obtain ⟨R, hR⟩ : ∃ R, m - z * d = R := ⟨_, rfl⟩
      rw [hR] at O3
      have R0' : 0 ≤ R := by omega
      have R1' : R < 340282366920938463463374607431768211456 := by have := Int.mul_nonneg z0 (show 0 ≤ d by omega); omega
      have hzb : z ≤ 18446744073709551615 := by
        have h1 := Int.mul_le_mul_of_nonneg_left hd z0
        omega
      have HO0 := Lib.hid O0
      have HO1 := Lib.hid O1
      have HO2 := Lib.hid O2
      have HO3 := Lib.hid O3
      obtain ⟨hz_0, hg_0, hf_0_0, hf_0_1, _⟩ := O0
      obtain ⟨hz_1, hg_1, hf_1_0, hf_1_1, _⟩ := O1
      obtain ⟨hz_2, hg_2, hf_2_0, hf_2_1, _⟩ := O2
      obtain ⟨hz_3, hg_3, hf_3_0, hf_3_1, _⟩ := O3
      have W0 : 0 ≤ wh R := (by unfold wh; omega)
      have W1 : wh R ≤ 18446744073709551615 := (by unfold wh; omega)
      obtain ⟨eR, w0, w1_⟩ := wv R
      obtain ⟨hA, hB, hb⟩ := HHA.out
      have dd := Hed.out
      by_cases cz : d ≤ R
      · have LN' := less_no R d cz
        rw [hB, hb] at LN'
        have LN := Lib.hid LN'
        have MN2 := Lib.hid (minus_c (wh R) (wl R) B b (R - d) W0 W1 w0 w1_ (by omega) B1 b0 b1 (by omega))
        have HK := Lib.hid hk
        have HR2 := Lib.hid hR
        have HHB := Lib.hid (And.intro hB hb)
        have z1 : z + 1 ≤ 18446744073709551615 := by
          have h1 : (z + 1) * d ≤ m := by rw [Int.add_mul]; omega
          have h2 := Int.mul_le_mul_of_nonneg_left hd (show 0 ≤ z + 1 by omega)
          omega
        have zm1 : (z + 1) * d ≤ m := by rw [Int.add_mul]; omega
        have zq : z + 1 ≤ m / d := (Int.le_ediv_iff_mul_le (show 0 < d by omega)).2 zm1
        have hn : m - (z + 1) * d = R - d := by rw [Int.add_mul]; omega
        have HN := Lib.hid hn
        have ZQ := Lib.hid zq
        clear LN' hA hB hb dd hR hk eR hn zq HHA
        go_wp2_with fail
        with_reducible refine (LN.out _).mono ?_
        rintro e w1 ⟨rfl, hk1⟩
        refine kuse (b := w.heap.size) hk1 (by first | (simp; done) | (simp; omega) | omega) ?_
        intro ha hb
        have hz1_0 : w.heap.size < w1.heap.size := by have := hk1.size; (try simp at this); omega
        have hn1_0 : ¬ w.heap.size = w1.heap.size := by omega
        have hm1_0 : ¬ w1.heap.size = w.heap.size := by omega
        have hf1_0_0 : w1.cell? ⟨w.heap.size, 0, none⟩ = some (.int .u64 A) := by first | (rw [ha]; with_reducible assumption) | (simp (maxDischargeDepth := 7) [go_sem, ha]; done) | (rw [ha]; assumption) | (simp (maxDischargeDepth := 7) [go_sem, ha, *]; done)
        have hf1_0_1 : w1.cell? ⟨w.heap.size, 1, none⟩ = some (.int .u64 a) := by first | (rw [ha]; with_reducible assumption) | (simp (maxDischargeDepth := 7) [go_sem, ha]; done) | (rw [ha]; assumption) | (simp (maxDischargeDepth := 7) [go_sem, ha, *]; done)
        try have hg1_0 : ∀ o, w1.frozen? ⟨w.heap.size, o, none⟩ = false := by intro o; first | (simp (maxDischargeDepth := 7) [go_sem, hb]; done) | (rw [hb]; simp (maxDischargeDepth := 7) [go_sem, *]; done)
        clear ha hb
        refine kuse (b := w.heap.size + 1) hk1 (by first | (simp; done) | (simp; omega) | omega) ?_
        intro ha hb
        have hz1_1 : w.heap.size + 1 < w1.heap.size := by have := hk1.size; (try simp at this); omega
        have hn1_1 : ¬ w.heap.size + 1 = w1.heap.size := by omega
        have hm1_1 : ¬ w1.heap.size = w.heap.size + 1 := by omega
        have hf1_1_0 : w1.cell? ⟨w.heap.size + 1, 0, none⟩ = some (.int .u64 B) := by first | (rw [ha]; with_reducible assumption) | (simp (maxDischargeDepth := 7) [go_sem, ha]; done) | (rw [ha]; assumption) | (simp (maxDischargeDepth := 7) [go_sem, ha, *]; done)
        have hf1_1_1 : w1.cell? ⟨w.heap.size + 1, 1, none⟩ = some (.int .u64 b) := by first | (rw [ha]; with_reducible assumption) | (simp (maxDischargeDepth := 7) [go_sem, ha]; done) | (rw [ha]; assumption) | (simp (maxDischargeDepth := 7) [go_sem, ha, *]; done)
        try have hg1_1 : ∀ o, w1.frozen? ⟨w.heap.size + 1, o, none⟩ = false := by intro o; first | (simp (maxDischargeDepth := 7) [go_sem, hb]; done) | (rw [hb]; simp (maxDischargeDepth := 7) [go_sem, *]; done)
        clear ha hb
        refine kuse (b := w.heap.size + 2) hk1 (by first | (simp; done) | (simp; omega) | omega) ?_
        intro ha hb
        have hz1_2 : w.heap.size + 2 < w1.heap.size := by have := hk1.size; (try simp at this); omega
        have hn1_2 : ¬ w.heap.size + 2 = w1.heap.size := by omega
        have hm1_2 : ¬ w1.heap.size = w.heap.size + 2 := by omega
        have hf1_2_0 : w1.cell? ⟨w.heap.size + 2, 0, none⟩ = some (.int .u64 0) := by first | (rw [ha]; with_reducible assumption) | (simp (maxDischargeDepth := 7) [go_sem, ha]; done) | (rw [ha]; assumption) | (simp (maxDischargeDepth := 7) [go_sem, ha, *]; done)
        have hf1_2_1 : w1.cell? ⟨w.heap.size + 2, 1, none⟩ = some (.int .u64 0) := by first | (rw [ha]; with_reducible assumption) | (simp (maxDischargeDepth := 7) [go_sem, ha]; done) | (rw [ha]; assumption) | (simp (maxDischargeDepth := 7) [go_sem, ha, *]; done)
        try have hg1_2 : ∀ o, w1.frozen? ⟨w.heap.size + 2, o, none⟩ = false := by intro o; first | (simp (maxDischargeDepth := 7) [go_sem, hb]; done) | (rw [hb]; simp (maxDischargeDepth := 7) [go_sem, *]; done)
        clear ha hb
        refine kuse (b := w.heap.size + 3) hk1 (by first | (simp; done) | (simp; omega) | omega) ?_
        intro ha hb
        have hz1_3 : w.heap.size + 3 < w1.heap.size := by have := hk1.size; (try simp at this); omega
        have hn1_3 : ¬ w.heap.size + 3 = w1.heap.size := by omega
        have hm1_3 : ¬ w1.heap.size = w.heap.size + 3 := by omega
        have hf1_3_0 : w1.cell? ⟨w.heap.size + 3, 0, none⟩ = some (.int .u64 (wh R)) := by first | (rw [ha]; with_reducible assumption) | (simp (maxDischargeDepth := 7) [go_sem, ha]; done) | (rw [ha]; assumption) | (simp (maxDischargeDepth := 7) [go_sem, ha, *]; done)
        have hf1_3_1 : w1.cell? ⟨w.heap.size + 3, 1, none⟩ = some (.int .u64 (wl R)) := by first | (rw [ha]; with_reducible assumption) | (simp (maxDischargeDepth := 7) [go_sem, ha]; done) | (rw [ha]; assumption) | (simp (maxDischargeDepth := 7) [go_sem, ha, *]; done)
        try have hg1_3 : ∀ o, w1.frozen? ⟨w.heap.size + 3, o, none⟩ = false := by intro o; first | (simp (maxDischargeDepth := 7) [go_sem, hb]; done) | (rw [hb]; simp (maxDischargeDepth := 7) [go_sem, *]; done)
        clear ha hb
        go_wp2_with fail
        with_reducible refine (MN2.out _).mono ?_
        rintro e w2 ⟨rfl, hk2⟩
        refine kuse (b := w.heap.size) hk2 (by first | (simp; done) | (simp; omega) | omega) ?_
        intro ha hb
        have hz2_0 : w.heap.size < w2.heap.size := by have := hk2.size; (try simp at this); omega
        have hn2_0 : ¬ w.heap.size = w2.heap.size := by omega
        have hm2_0 : ¬ w2.heap.size = w.heap.size := by omega
        have hf2_0_0 : w2.cell? ⟨w.heap.size, 0, none⟩ = some (.int .u64 A) := by first | (rw [ha]; with_reducible assumption) | (simp (maxDischargeDepth := 7) [go_sem, ha]; done) | (rw [ha]; assumption) | (simp (maxDischargeDepth := 7) [go_sem, ha, *]; done)
        have hf2_0_1 : w2.cell? ⟨w.heap.size, 1, none⟩ = some (.int .u64 a) := by first | (rw [ha]; with_reducible assumption) | (simp (maxDischargeDepth := 7) [go_sem, ha]; done) | (rw [ha]; assumption) | (simp (maxDischargeDepth := 7) [go_sem, ha, *]; done)
        try have hg2_0 : ∀ o, w2.frozen? ⟨w.heap.size, o, none⟩ = false := by intro o; first | (simp (maxDischargeDepth := 7) [go_sem, hb]; done) | (rw [hb]; simp (maxDischargeDepth := 7) [go_sem, *]; done)
        clear ha hb
        refine kuse (b := w.heap.size + 1) hk2 (by first | (simp; done) | (simp; omega) | omega) ?_
        intro ha hb
        have hz2_1 : w.heap.size + 1 < w2.heap.size := by have := hk2.size; (try simp at this); omega
        have hn2_1 : ¬ w.heap.size + 1 = w2.heap.size := by omega
        have hm2_1 : ¬ w2.heap.size = w.heap.size + 1 := by omega
        have hf2_1_0 : w2.cell? ⟨w.heap.size + 1, 0, none⟩ = some (.int .u64 B) := by first | (rw [ha]; with_reducible assumption) | (simp (maxDischargeDepth := 7) [go_sem, ha]; done) | (rw [ha]; assumption) | (simp (maxDischargeDepth := 7) [go_sem, ha, *]; done)
        have hf2_1_1 : w2.cell? ⟨w.heap.size + 1, 1, none⟩ = some (.int .u64 b) := by first | (rw [ha]; with_reducible assumption) | (simp (maxDischargeDepth := 7) [go_sem, ha]; done) | (rw [ha]; assumption) | (simp (maxDischargeDepth := 7) [go_sem, ha, *]; done)
        try have hg2_1 : ∀ o, w2.frozen? ⟨w.heap.size + 1, o, none⟩ = false := by intro o; first | (simp (maxDischargeDepth := 7) [go_sem, hb]; done) | (rw [hb]; simp (maxDischargeDepth := 7) [go_sem, *]; done)
        clear ha hb
        refine kuse (b := w.heap.size + 2) hk2 (by first | (simp; done) | (simp; omega) | omega) ?_
        intro ha hb
        have hz2_2 : w.heap.size + 2 < w2.heap.size := by have := hk2.size; (try simp at this); omega
        have hn2_2 : ¬ w.heap.size + 2 = w2.heap.size := by omega
        have hm2_2 : ¬ w2.heap.size = w.heap.size + 2 := by omega
        have hf2_2_0 : w2.cell? ⟨w.heap.size + 2, 0, none⟩ = some (.int .u64 0) := by first | (rw [ha]; with_reducible assumption) | (simp (maxDischargeDepth := 7) [go_sem, ha]; done) | (rw [ha]; assumption) | (simp (maxDischargeDepth := 7) [go_sem, ha, *]; done)
        have hf2_2_1 : w2.cell? ⟨w.heap.size + 2, 1, none⟩ = some (.int .u64 0) := by first | (rw [ha]; with_reducible assumption) | (simp (maxDischargeDepth := 7) [go_sem, ha]; done) | (rw [ha]; assumption) | (simp (maxDischargeDepth := 7) [go_sem, ha, *]; done)
        try have hg2_2 : ∀ o, w2.frozen? ⟨w.heap.size + 2, o, none⟩ = false := by intro o; first | (simp (maxDischargeDepth := 7) [go_sem, hb]; done) | (rw [hb]; simp (maxDischargeDepth := 7) [go_sem, *]; done)
        clear ha hb
        refine kuse (b := w.heap.size + 3) hk2 (by first | (simp; done) | (simp; omega) | omega) ?_
        intro ha hb
        have hz2_3 : w.heap.size + 3 < w2.heap.size := by have := hk2.size; (try simp at this); omega
        have hn2_3 : ¬ w.heap.size + 3 = w2.heap.size := by omega
        have hm2_3 : ¬ w2.heap.size = w.heap.size + 3 := by omega
        have hf2_3_0 : w2.cell? ⟨w.heap.size + 3, 0, none⟩ = some (.int .u64 (wh R)) := by first | (rw [ha]; with_reducible assumption) | (simp (maxDischargeDepth := 7) [go_sem, ha]; done) | (rw [ha]; assumption) | (simp (maxDischargeDepth := 7) [go_sem, ha, *]; done)
        have hf2_3_1 : w2.cell? ⟨w.heap.size + 3, 1, none⟩ = some (.int .u64 (wl R)) := by first | (rw [ha]; with_reducible assumption) | (simp (maxDischargeDepth := 7) [go_sem, ha]; done) | (rw [ha]; assumption) | (simp (maxDischargeDepth := 7) [go_sem, ha, *]; done)
        try have hg2_3 : ∀ o, w2.frozen? ⟨w.heap.size + 3, o, none⟩ = false := by intro o; first | (simp (maxDischargeDepth := 7) [go_sem, hb]; done) | (rw [hb]; simp (maxDischargeDepth := 7) [go_sem, *]; done)
        clear ha hb
        try clear hf1_0_0
        try clear hf1_0_1
        try clear hf1_1_0
        try clear hf1_1_1
        try clear hf1_2_0
        try clear hf1_2_1
        try clear hf1_3_0
        try clear hf1_3_1
        try clear hg1_0
        try clear hg1_1
        try clear hg1_2
        try clear hg1_3
        try clear hz1_1
        try clear hz1_2
        try clear hz1_3
        go_wp2_with fail
        have zq := ZQ.out
        have hkw := HK.out
        exact ⟨⟨(by repeat (first | with_reducible exact Kept.refl _ | with_reducible assumption | with_reducible refine Kept.setCell ?_ (by first | (simp; done) | (simp; omega) | omega) _ | with_reducible refine Kept.alloc ?_ _ | with_reducible refine Kept.drewN ?_ _ | with_reducible refine Kept.drew ?_ | with_reducible refine Kept.trans ?_ (by with_reducible assumption) | with_reducible refine Kept.dr ?_ (by with_reducible assumption))), z + 1, by omega, zm1, rfl, (by repeat (first | with_reducible exact HO0.out | with_reducible refine OwnB.other2 ?_ (by first | with_reducible assumption | omega | (simp; done) | (simp; omega)) | with_reducible refine OwnB.kept (by with_reducible assumption) ?_)), (by repeat (first | with_reducible exact HO1.out | with_reducible refine OwnB.other2 ?_ (by first | with_reducible assumption | omega | (simp; done) | (simp; omega)) | with_reducible refine OwnB.kept (by with_reducible assumption) ?_)), (by repeat (first | with_reducible exact HO2.out | with_reducible refine OwnB.other2 ?_ (by first | with_reducible assumption | omega | (simp; done) | (simp; omega)) | with_reducible refine OwnB.kept (by with_reducible assumption) ?_)), (by rw [HN.out]; exact (by repeat (first | with_reducible exact HO3.out | with_reducible refine own_set2 (us := [.int .u64 (wh R), .int .u64 (wl R)]) ?_ rfl | with_reducible refine OwnB.other2 ?_ (by first | with_reducible assumption | omega | (simp; done) | (simp; omega)) | with_reducible refine OwnB.kept (by with_reducible assumption) ?_)))⟩, by simp [intOf]; omega⟩
      · have LY' := less_yes R d (by omega)
        rw [hB, hb] at LY'
        have LY := Lib.hid LY'
        have HK := Lib.hid hk
        have eq := div_uniq m d z (by omega) zm (by omega)
        have em := mod_of m d z eq
        have f1 : wh z = 0 := by unfold wh; omega
        have f2 : wl z = z := by unfold wl; omega
        rw [hR] at em
        have E : Hid (0 = wh (m / d) ∧ z = wl (m / d) ∧ wh R = wh (m % d) ∧ wl R = wl (m % d)) := by rw [eq, em, f1, f2]; exact ⟨rfl, rfl, rfl, rfl⟩
        clear LY' hA hB hb dd hR hk eR eq em f1 f2 HHA
        go_wp2_with fail
        with_reducible refine (LY.out _).mono ?_
        rintro e w1 ⟨rfl, hk1⟩
        refine kuse (b := w.heap.size) hk1 (by first | (simp; done) | (simp; omega) | omega) ?_
        intro ha hb
        have hz1_0 : w.heap.size < w1.heap.size := by have := hk1.size; (try simp at this); omega
        have hn1_0 : ¬ w.heap.size = w1.heap.size := by omega
        have hm1_0 : ¬ w1.heap.size = w.heap.size := by omega
        have hf1_0_0 : w1.cell? ⟨w.heap.size, 0, none⟩ = some (.int .u64 A) := by first | (rw [ha]; with_reducible assumption) | (simp (maxDischargeDepth := 7) [go_sem, ha]; done) | (rw [ha]; assumption) | (simp (maxDischargeDepth := 7) [go_sem, ha, *]; done)
        have hf1_0_1 : w1.cell? ⟨w.heap.size, 1, none⟩ = some (.int .u64 a) := by first | (rw [ha]; with_reducible assumption) | (simp (maxDischargeDepth := 7) [go_sem, ha]; done) | (rw [ha]; assumption) | (simp (maxDischargeDepth := 7) [go_sem, ha, *]; done)
        try have hg1_0 : ∀ o, w1.frozen? ⟨w.heap.size, o, none⟩ = false := by intro o; first | (simp (maxDischargeDepth := 7) [go_sem, hb]; done) | (rw [hb]; simp (maxDischargeDepth := 7) [go_sem, *]; done)
        clear ha hb
        refine kuse (b := w.heap.size + 1) hk1 (by first | (simp; done) | (simp; omega) | omega) ?_
        intro ha hb
        have hz1_1 : w.heap.size + 1 < w1.heap.size := by have := hk1.size; (try simp at this); omega
        have hn1_1 : ¬ w.heap.size + 1 = w1.heap.size := by omega
        have hm1_1 : ¬ w1.heap.size = w.heap.size + 1 := by omega
        have hf1_1_0 : w1.cell? ⟨w.heap.size + 1, 0, none⟩ = some (.int .u64 B) := by first | (rw [ha]; with_reducible assumption) | (simp (maxDischargeDepth := 7) [go_sem, ha]; done) | (rw [ha]; assumption) | (simp (maxDischargeDepth := 7) [go_sem, ha, *]; done)
        have hf1_1_1 : w1.cell? ⟨w.heap.size + 1, 1, none⟩ = some (.int .u64 b) := by first | (rw [ha]; with_reducible assumption) | (simp (maxDischargeDepth := 7) [go_sem, ha]; done) | (rw [ha]; assumption) | (simp (maxDischargeDepth := 7) [go_sem, ha, *]; done)
        try have hg1_1 : ∀ o, w1.frozen? ⟨w.heap.size + 1, o, none⟩ = false := by intro o; first | (simp (maxDischargeDepth := 7) [go_sem, hb]; done) | (rw [hb]; simp (maxDischargeDepth := 7) [go_sem, *]; done)
        clear ha hb
        refine kuse (b := w.heap.size + 2) hk1 (by first | (simp; done) | (simp; omega) | omega) ?_
        intro ha hb
        have hz1_2 : w.heap.size + 2 < w1.heap.size := by have := hk1.size; (try simp at this); omega
        have hn1_2 : ¬ w.heap.size + 2 = w1.heap.size := by omega
        have hm1_2 : ¬ w1.heap.size = w.heap.size + 2 := by omega
        have hf1_2_0 : w1.cell? ⟨w.heap.size + 2, 0, none⟩ = some (.int .u64 0) := by first | (rw [ha]; with_reducible assumption) | (simp (maxDischargeDepth := 7) [go_sem, ha]; done) | (rw [ha]; assumption) | (simp (maxDischargeDepth := 7) [go_sem, ha, *]; done)
        have hf1_2_1 : w1.cell? ⟨w.heap.size + 2, 1, none⟩ = some (.int .u64 0) := by first | (rw [ha]; with_reducible assumption) | (simp (maxDischargeDepth := 7) [go_sem, ha]; done) | (rw [ha]; assumption) | (simp (maxDischargeDepth := 7) [go_sem, ha, *]; done)
        try have hg1_2 : ∀ o, w1.frozen? ⟨w.heap.size + 2, o, none⟩ = false := by intro o; first | (simp (maxDischargeDepth := 7) [go_sem, hb]; done) | (rw [hb]; simp (maxDischargeDepth := 7) [go_sem, *]; done)
        clear ha hb
        refine kuse (b := w.heap.size + 3) hk1 (by first | (simp; done) | (simp; omega) | omega) ?_
        intro ha hb
        have hz1_3 : w.heap.size + 3 < w1.heap.size := by have := hk1.size; (try simp at this); omega
        have hn1_3 : ¬ w.heap.size + 3 = w1.heap.size := by omega
        have hm1_3 : ¬ w1.heap.size = w.heap.size + 3 := by omega
        have hf1_3_0 : w1.cell? ⟨w.heap.size + 3, 0, none⟩ = some (.int .u64 (wh R)) := by first | (rw [ha]; with_reducible assumption) | (simp (maxDischargeDepth := 7) [go_sem, ha]; done) | (rw [ha]; assumption) | (simp (maxDischargeDepth := 7) [go_sem, ha, *]; done)
        have hf1_3_1 : w1.cell? ⟨w.heap.size + 3, 1, none⟩ = some (.int .u64 (wl R)) := by first | (rw [ha]; with_reducible assumption) | (simp (maxDischargeDepth := 7) [go_sem, ha]; done) | (rw [ha]; assumption) | (simp (maxDischargeDepth := 7) [go_sem, ha, *]; done)
        try have hg1_3 : ∀ o, w1.frozen? ⟨w.heap.size + 3, o, none⟩ = false := by intro o; first | (simp (maxDischargeDepth := 7) [go_sem, hb]; done) | (rw [hb]; simp (maxDischargeDepth := 7) [go_sem, *]; done)
        clear ha hb
        go_wp2_with fail
        have hkw := HK.out
        go_region
        all_goals go_wp2_with fail
        all_goals (exact bodyPost_ret (v := .tuple #[.agg #[.int .u64 0, .int .u64 z], .agg #[.int .u64 (wh R), .int .u64 (wl R)]]) (by first | (simp [results, Try.results85, go_sem]; done) | (simp (maxDischargeDepth := 7) [results, Try.results85, go_sem, *]; done)) rfl ⟨tupm E.out, (by repeat (first | with_reducible exact Kept.refl _ | with_reducible assumption | with_reducible refine Kept.setCell ?_ (by first | (simp; done) | (simp; omega) | omega) _ | with_reducible refine Kept.alloc ?_ _ | with_reducible refine Kept.drewN ?_ _ | with_reducible refine Kept.drew ?_ | with_reducible refine Kept.trans ?_ (by with_reducible assumption) | with_reducible refine Kept.dr ?_ (by with_reducible assumption)))⟩)
end Go.Proofs.Ytinpmooihjdbgaa
