/-
  Own contracts: package wide: quotients and their rounding.
-/
import Derived.Test.YtinpmooihjdbgaaWidd
import Derived.WalkKit
import Derived.ProofKit
import Derived.OpenShut
import Derived.WalkLawsBesides
import Derived.WalkSpells
import Derived.Lib.Hide
import Derived.Deep.DeepCutAuto
import Derived.Deep.CutBlock
import Derived.Deep.QuietTactic
import Derived.BigQuiet
import Derived.Handy
import Derived.StillTailTactics
import Derived.IntWalk
import Derived.LoopN
import Derived.Deep.RegionHeld3
namespace Go.Proofs.Ytinpmooihjdbgaa
open Go.ChangeShapes Go.WideShapes Go.ChangeAt Go.RowKit
set_option linter.unusedVariables false
set_option linter.unusedSimpArgs false

theorem divide_w (m d : Int) (m0 : 0 ≤ m) (m1 : m < 340282366920938463463374607431768211456) (d0 : 0 ≤ d) (d1 : d < 340282366920938463463374607431768211456) (dp : 0 < d) (w : World) : Calls Try.prog 85 #[.agg #[.int .u64 (wh (m)), .int .u64 (wl (m))], .agg #[.int .u64 (wh (d)), .int .u64 (wl (d))]] w fun e w' => e = .returned (.tuple #[.agg #[.int .u64 (wh (m / d)), .int .u64 (wl (m / d))], .agg #[.int .u64 (wh (m % d)), .int .u64 (wl (m % d))]]) ∧ Kept w w' := by
  by_cases h : d ≤ 18446744073709551615
  · exact divide_lo m d m0 m1 dp h w
  · exact divide_hi m d m0 m1 d0 d1 (by omega) w
theorem signed_w (m : Int) (m0 : 0 ≤ m) (m1 : m < 340282366920938463463374607431768211456) (n : Bool) (w : World) : Calls Try.prog 87 #[.agg #[.int .u64 (wh (m)), .int .u64 (wl (m))], .bool n] w fun e w' => e = .returned (.tuple #[.agg #[.int .i64 (wh (wval (sgd n m))), .int .u64 (wl (wval (sgd n m)))], .bool (wfit (sgd n m))]) ∧ Kept w w' := by
  cases n
  · exact signed_0 m m0 m1 w
  · exact signed_1 m m0 m1 w
theorem nz_words (r : Int) (h : r ≠ 0) : (wh r == 0 && wl r == 0) = false := by
  have := wv r
  rw [Bool.and_eq_false_iff]
  by_cases c : wh r = 0
  · right; rw [beq_eq_false_iff_ne]; omega
  · left; rw [beq_eq_false_iff_ne]; exact c
theorem nz_words2 (r : Int) (h : r ≠ 0) : ¬ (wh r = 0 ∧ wl r = 0) := by
  have := wv r
  omega
theorem eqW (A a B b : Int) (w : World) : (Op.equalIn 10000 45 (.agg #[.int .i64 A, .int .u64 a]) (.agg #[.int .i64 B, .int .u64 b])).run Try.prog w = .ok (A == B && a == b) w := by
  go_simp
  by_cases h1 : A = B <;> by_cases h2 : a = b <;> simp [h1, h2]
theorem eqM (A a B b : Int) (w : World) : (Op.equalIn 10000 71 (.agg #[.int .u64 A, .int .u64 a]) (.agg #[.int .u64 B, .int .u64 b])).run Try.prog w = .ok (A == B && a == b) w := by
  go_simp
  by_cases h1 : A = B <;> by_cases h2 : a = b <;> simp [h1, h2]
theorem quotient_0 (u : Int) (u0 : -170141183460469231731687303715884105728 ≤ u) (u1 : u < 170141183460469231731687303715884105728) (FN : FuncId) (w : World) : Calls Try.prog 72 #[.agg #[.int .i64 (wh (u)), .int .u64 (wl (u))], .agg #[.int .i64 0, .int .u64 0], .func (.func FN) #[] #[]] w fun e w' => e = .returned (.tuple #[.agg #[.int .i64 0, .int .u64 0], .bool false]) ∧ Kept w w' := by
  go_enter Try.func72, Try.ntmps72
  go_wp2_with fail
  exact bodyPost_ret (v := .tuple #[.agg #[.int .i64 0, .int .u64 0], .bool false]) (by first | (simp [results, Try.results72, go_sem]; done) | (simp (maxDischargeDepth := 7) [results, Try.results72, go_sem, *]; done)) rfl ⟨rfl, (by repeat (first | with_reducible exact Kept.refl _ | with_reducible assumption | with_reducible refine Kept.setCell ?_ (by first | (simp; done) | (simp; omega) | omega) _ | with_reducible refine Kept.alloc ?_ _ | with_reducible refine Kept.drewN ?_ _ | with_reducible refine Kept.drew ?_ | with_reducible refine Kept.trans ?_ (by with_reducible assumption) | with_reducible refine Kept.dr ?_ (by with_reducible assumption)))⟩
set_option maxHeartbeats 2000000 in
set_option maxRecDepth 100000 in
theorem quotient_e (u v : Int) (u0 : -170141183460469231731687303715884105728 ≤ u) (u1 : u < 170141183460469231731687303715884105728) (v0 : -170141183460469231731687303715884105728 ≤ v) (v1 : v < 170141183460469231731687303715884105728) (hv : v ≠ 0) (N : Bool) (hn : wqn u v = N) (hr : wmag u % wmag v = 0) (FN : FuncId) (w : World) : Calls Try.prog 72 #[.agg #[.int .i64 (wh (u)), .int .u64 (wl (u))], .agg #[.int .i64 (wh (v)), .int .u64 (wl (v))], .func (.func FN) #[] #[]] w fun e w' => e = .returned (.tuple #[.agg #[.int .i64 (wh (wval (sgd N (wmag u / wmag v)))), .int .u64 (wl (wval (sgd N (wmag u / wmag v))))], .bool (wfit (sgd N (wmag u / wmag v)))]) ∧ Kept w w' := by
  obtain ⟨eu, a0, a1⟩ := wv u
  obtain ⟨ev, b0, b1⟩ := wv v
  have n0 := nz_words v hv
  have n0' := nz_words2 v hv
  have A0 : -9223372036854775808 ≤ wh u := (by unfold wh; omega)
  have A1 : wh u ≤ 9223372036854775807 := (by unfold wh; omega)
  have B0 : -9223372036854775808 ≤ wh v := (by unfold wh; omega)
  have B1 : wh v ≤ 9223372036854775807 := (by unfold wh; omega)
  have HSu := Lib.hid (size_w u u0 u1)
  have HSv := Lib.hid (size_w v v0 v1)
  obtain ⟨m0, m1⟩ := wmag_bd u u0 u1
  obtain ⟨d0', d1⟩ := wmag_bd v v0 v1
  have d0 : 0 < wmag v := by unfold wmag; split <;> omega
  have HDv := Lib.hid (divide_w (wmag u) (wmag v) m0 (by omega) d0' (by omega) d0)
  have q0 : 0 ≤ wmag u / wmag v := Int.ediv_nonneg m0 d0'
  have q1 : wmag u / wmag v ≤ 170141183460469231731687303715884105728 := by
    have := Int.ediv_le_self (a := wmag u) (wmag v) m0
    omega
  have hN : (!(decide (wh u < 0) == decide (wh v < 0))) = N := by
    rw [← hn]; unfold wqn
    have x1 : decide (wh u < 0) = decide (u < 0) := by rw [decide_eq_decide]; unfold wh; omega
    have x2 : decide (wh v < 0) = decide (v < 0) := by rw [decide_eq_decide]; unfold wh; omega
    rw [x1, x2]; rfl
  generalize wmag u / wmag v = Q at *
  rw [hr] at HDv
  have w00 : wh 0 = 0 := by decide
  have w01 : wl 0 = 0 := by decide
  rw [w00, w01] at HDv
  clear w00 w01
  have HF := Lib.hid (signed_w (Q) (by omega) (by omega) N)
  obtain ⟨V, hV⟩ : ∃ V, wval (sgd N (Q)) = V := ⟨_, rfl⟩
  obtain ⟨O, hO⟩ : ∃ O, wfit (sgd N (Q)) = O := ⟨_, rfl⟩
  rw [hV, hO] at HF
  rw [hV, hO]
  clear hV hO
  generalize hD : wmag v = D at *
  generalize hM : wmag u = M at *
  generalize wh u = A at *; generalize wl u = a at *; generalize hvB : wh v = B at *; generalize hvb : wl v = b at *
  clear eu ev hvB hvb hn hD hM u0 u1 v0 v1 hv n0'
  have eqzfW : ∀ w, (Op.equalIn 10000 45 (.agg #[.int .i64 (B), .int .u64 (b)]) (.agg #[.int .i64 0, .int .u64 0])).run Try.prog w = .ok false w := fun w => by rw [eqW, n0]
  clear n0
  have eqzt : ∀ w, (Op.equalIn 10000 71 (.agg #[.int .u64 0, .int .u64 0]) (.agg #[.int .u64 0, .int .u64 0])).run Try.prog w = .ok true w := fun w => by rw [eqM]; rfl
  go_enter Try.func72, Try.ntmps72
  go_wp2_with fail
  with_reducible refine (HSv.out _).mono ?_
  rintro e w1 ⟨rfl, hk1⟩
  refine kuse (b := w.heap.size) hk1 (by first | (simp; done) | (simp; omega) | omega) ?_
  intro ha hb
  have hz1_0 : w.heap.size < w1.heap.size := by have := hk1.size; (try simp at this); omega
  have hn1_0 : ¬ w.heap.size = w1.heap.size := by omega
  have hm1_0 : ¬ w1.heap.size = w.heap.size := by omega
  have hf1_0_0 : w1.cell? ⟨w.heap.size, 0, none⟩ = some (.int .i64 A) := by first | (rw [ha]; with_reducible assumption) | (simp (maxDischargeDepth := 7) [go_sem, ha]; done) | (rw [ha]; assumption) | (simp (maxDischargeDepth := 7) [go_sem, ha, *]; done)
  have hf1_0_1 : w1.cell? ⟨w.heap.size, 1, none⟩ = some (.int .u64 a) := by first | (rw [ha]; with_reducible assumption) | (simp (maxDischargeDepth := 7) [go_sem, ha]; done) | (rw [ha]; assumption) | (simp (maxDischargeDepth := 7) [go_sem, ha, *]; done)
  try have hg1_0 : ∀ o, w1.frozen? ⟨w.heap.size, o, none⟩ = false := by intro o; first | (simp (maxDischargeDepth := 7) [go_sem, hb]; done) | (rw [hb]; simp (maxDischargeDepth := 7) [go_sem, *]; done)
  clear ha hb
  refine kuse (b := w.heap.size + 1) hk1 (by first | (simp; done) | (simp; omega) | omega) ?_
  intro ha hb
  have hz1_1 : w.heap.size + 1 < w1.heap.size := by have := hk1.size; (try simp at this); omega
  have hn1_1 : ¬ w.heap.size + 1 = w1.heap.size := by omega
  have hm1_1 : ¬ w1.heap.size = w.heap.size + 1 := by omega
  have hf1_1_0 : w1.cell? ⟨w.heap.size + 1, 0, none⟩ = some (.int .i64 B) := by first | (rw [ha]; with_reducible assumption) | (simp (maxDischargeDepth := 7) [go_sem, ha]; done) | (rw [ha]; assumption) | (simp (maxDischargeDepth := 7) [go_sem, ha, *]; done)
  have hf1_1_1 : w1.cell? ⟨w.heap.size + 1, 1, none⟩ = some (.int .u64 b) := by first | (rw [ha]; with_reducible assumption) | (simp (maxDischargeDepth := 7) [go_sem, ha]; done) | (rw [ha]; assumption) | (simp (maxDischargeDepth := 7) [go_sem, ha, *]; done)
  try have hg1_1 : ∀ o, w1.frozen? ⟨w.heap.size + 1, o, none⟩ = false := by intro o; first | (simp (maxDischargeDepth := 7) [go_sem, hb]; done) | (rw [hb]; simp (maxDischargeDepth := 7) [go_sem, *]; done)
  clear ha hb
  refine kuse (b := w.heap.size + 2) hk1 (by first | (simp; done) | (simp; omega) | omega) ?_
  intro ha hb
  have hz1_2 : w.heap.size + 2 < w1.heap.size := by have := hk1.size; (try simp at this); omega
  have hn1_2 : ¬ w.heap.size + 2 = w1.heap.size := by omega
  have hm1_2 : ¬ w1.heap.size = w.heap.size + 2 := by omega
  have hf1_2_0 : w1.cell? ⟨w.heap.size + 2, 0, none⟩ = some (.int .i64 0) := by first | (rw [ha]; with_reducible assumption) | (simp (maxDischargeDepth := 7) [go_sem, ha]; done) | (rw [ha]; assumption) | (simp (maxDischargeDepth := 7) [go_sem, ha, *]; done)
  have hf1_2_1 : w1.cell? ⟨w.heap.size + 2, 1, none⟩ = some (.int .u64 0) := by first | (rw [ha]; with_reducible assumption) | (simp (maxDischargeDepth := 7) [go_sem, ha]; done) | (rw [ha]; assumption) | (simp (maxDischargeDepth := 7) [go_sem, ha, *]; done)
  try have hg1_2 : ∀ o, w1.frozen? ⟨w.heap.size + 2, o, none⟩ = false := by intro o; first | (simp (maxDischargeDepth := 7) [go_sem, hb]; done) | (rw [hb]; simp (maxDischargeDepth := 7) [go_sem, *]; done)
  clear ha hb
  go_wp2_with fail
  have B0 : OwnB (w1.alloc (.cells #[.int .u64 (wh D), .int .u64 (wl D)] 71)) (w.heap.size) [.int .i64 A, .int .u64 a] := OwnB.alloc (show OwnB w1 (w.heap.size) [.int .i64 A, .int .u64 a] from ⟨hz1_0, hg1_0, hf1_0_0, hf1_0_1, trivial⟩) _
  have HB0_0 := Lib.hid B0
  clear B0
  have B1 : OwnB (w1.alloc (.cells #[.int .u64 (wh D), .int .u64 (wl D)] 71)) (w.heap.size + 1) [.int .i64 B, .int .u64 b] := OwnB.alloc (show OwnB w1 (w.heap.size + 1) [.int .i64 B, .int .u64 b] from ⟨hz1_1, hg1_1, hf1_1_0, hf1_1_1, trivial⟩) _
  have HB0_1 := Lib.hid B1
  clear B1
  have B2 : OwnB (w1.alloc (.cells #[.int .u64 (wh D), .int .u64 (wl D)] 71)) (w.heap.size + 2) [.int .i64 0, .int .u64 0] := OwnB.alloc (show OwnB w1 (w.heap.size + 2) [.int .i64 0, .int .u64 0] from ⟨hz1_2, hg1_2, hf1_2_0, hf1_2_1, trivial⟩) _
  have HB0_2 := Lib.hid B2
  clear B2
  have B3 : OwnB (w1.alloc (.cells #[.int .u64 (wh D), .int .u64 (wl D)] 71)) (w1.heap.size) [.int .u64 (wh D), .int .u64 (wl D)] := own_alloc _ [.int .u64 (wh D), .int .u64 (wl D)] 71
  have HB0_3 := Lib.hid B3
  clear B3
  go_upto_region 5 with (fail)
  go_cut [10, 11] (fun p0 p1 wx => ∃ b0 b1 : Nat, p0 = .pointer (some ⟨b0, 0, none⟩) ∧ p1 = .pointer (some ⟨b1, 0, none⟩) ∧ w1.heap.size < b0 ∧ w1.heap.size < b1 ∧ b1 ≠ b0 ∧ OwnB wx (b0) [.int .u64 (wh Q), .int .u64 (wl Q)] ∧ OwnB wx (b1) [.int .u64 0, .int .u64 0] ∧ OwnB wx (w.heap.size) [.int .i64 A, .int .u64 a] ∧ OwnB wx (w.heap.size + 1) [.int .i64 B, .int .u64 b] ∧ OwnB wx (w.heap.size + 2) [.int .i64 0, .int .u64 0] ∧ OwnB wx (w1.heap.size) [.int .u64 (wh D), .int .u64 (wl D)] ∧ Kept (w1.alloc (.cells #[.int .u64 (wh D), .int .u64 (wl D)] 71)) wx)
  case first =>
    go_region_held3 (fun W => W.cell? ⟨w.heap.size, 0, none⟩ = some (.int .i64 A) ∧ W.cell? ⟨w.heap.size, 1, none⟩ = some (.int .u64 a) ∧ W.cell? ⟨w1.heap.size, 0, none⟩ = some (.int .u64 (wh D)) ∧ W.cell? ⟨w1.heap.size, 1, none⟩ = some (.int .u64 (wl D))) (first | (go_keep; done) | (simp (maxDischargeDepth := 9) [*, World.cell?_alloc_some, World.cell?_setCell_far]; done) | (simp (maxDischargeDepth := 9) [go_sem, *]; done)) (first | (go_at_call 76; (with_reducible refine (HSu.out _).mono ?_); rintro e v0 ⟨rfl, hk⟩; have hz := hk.size; (try (refine kuse (b := w.heap.size) hk (by first | (simp; done) | (simp; omega) | omega) ?_; intro hq hg; have hy : w.heap.size < v0.heap.size := (by (try simp at hz); omega); have hn : ¬ w.heap.size = v0.heap.size := (by omega); have hm : ¬ w.heap.size = v0.heap.size + 1 := (by omega); have hn' : ¬ v0.heap.size = w.heap.size := (by omega); have hm' : ¬ v0.heap.size + 1 = w.heap.size := (by omega))); (try (refine kuse (b := w.heap.size + 1) hk (by first | (simp; done) | (simp; omega) | omega) ?_; intro hq hg; have hy : w.heap.size + 1 < v0.heap.size := (by (try simp at hz); omega); have hn : ¬ w.heap.size + 1 = v0.heap.size := (by omega); have hm : ¬ w.heap.size + 1 = v0.heap.size + 1 := (by omega); have hn' : ¬ v0.heap.size = w.heap.size + 1 := (by omega); have hm' : ¬ v0.heap.size + 1 = w.heap.size + 1 := (by omega))); (try (refine kuse (b := w.heap.size + 2) hk (by first | (simp; done) | (simp; omega) | omega) ?_; intro hq hg; have hy : w.heap.size + 2 < v0.heap.size := (by (try simp at hz); omega); have hn : ¬ w.heap.size + 2 = v0.heap.size := (by omega); have hm : ¬ w.heap.size + 2 = v0.heap.size + 1 := (by omega); have hn' : ¬ v0.heap.size = w.heap.size + 2 := (by omega); have hm' : ¬ v0.heap.size + 1 = w.heap.size + 2 := (by omega))); (try (refine kuse (b := w1.heap.size) hk (by first | (simp; done) | (simp; omega) | omega) ?_; intro hq hg; have hy : w1.heap.size < v0.heap.size := (by (try simp at hz); omega); have hn : ¬ w1.heap.size = v0.heap.size := (by omega); have hm : ¬ w1.heap.size = v0.heap.size + 1 := (by omega); have hn' : ¬ v0.heap.size = w1.heap.size := (by omega); have hm' : ¬ v0.heap.size + 1 = w1.heap.size := (by omega))); (try (have hle : w1.heap.size ≤ v0.heap.size := (by (try simp at hz); omega))); (try (refine kuse (b := w1.heap.size + 1) hk (by first | (simp; done) | (simp; omega) | omega) ?_; intro hq hg; have hy : w1.heap.size + 1 < v0.heap.size := (by (try simp at hz); omega))); (try (refine kuse (b := w1.heap.size + 2) hk (by first | (simp; done) | (simp; omega) | omega) ?_; intro hq hg; have hy : w1.heap.size + 2 < v0.heap.size := (by (try simp at hz); omega))); (try (refine withF (p := v0.cell? ⟨w.heap.size, 0, none⟩ = some (.int .i64 A)) (by first | (simp (maxDischargeDepth := 7) [go_sem, *]; done) | fail) ?_; intro ff)); (try (refine withF (p := v0.cell? ⟨w.heap.size, 1, none⟩ = some (.int .u64 a)) (by first | (simp (maxDischargeDepth := 7) [go_sem, *]; done) | fail) ?_; intro ff)); (try (refine withF (p := v0.cell? ⟨w1.heap.size, 0, none⟩ = some (.int .u64 (wh D))) (by first | (simp (maxDischargeDepth := 7) [go_sem, *]; done) | fail) ?_; intro ff)); (try (refine withF (p := v0.cell? ⟨w1.heap.size, 1, none⟩ = some (.int .u64 (wl D))) (by first | (simp (maxDischargeDepth := 7) [go_sem, *]; done) | fail) ?_; intro ff))) | (go_at_call 85; (with_reducible refine (HDv.out _).mono ?_); rintro e v1 ⟨rfl, hk⟩; have hz := hk.size; (try (refine kuse (b := w.heap.size) hk (by first | (simp; done) | (simp; omega) | omega) ?_; intro hq hg; have hy : w.heap.size < v1.heap.size := (by (try simp at hz); omega); have hn : ¬ w.heap.size = v1.heap.size := (by omega); have hm : ¬ w.heap.size = v1.heap.size + 1 := (by omega); have hn' : ¬ v1.heap.size = w.heap.size := (by omega); have hm' : ¬ v1.heap.size + 1 = w.heap.size := (by omega))); (try (refine kuse (b := w.heap.size + 1) hk (by first | (simp; done) | (simp; omega) | omega) ?_; intro hq hg; have hy : w.heap.size + 1 < v1.heap.size := (by (try simp at hz); omega); have hn : ¬ w.heap.size + 1 = v1.heap.size := (by omega); have hm : ¬ w.heap.size + 1 = v1.heap.size + 1 := (by omega); have hn' : ¬ v1.heap.size = w.heap.size + 1 := (by omega); have hm' : ¬ v1.heap.size + 1 = w.heap.size + 1 := (by omega))); (try (refine kuse (b := w.heap.size + 2) hk (by first | (simp; done) | (simp; omega) | omega) ?_; intro hq hg; have hy : w.heap.size + 2 < v1.heap.size := (by (try simp at hz); omega); have hn : ¬ w.heap.size + 2 = v1.heap.size := (by omega); have hm : ¬ w.heap.size + 2 = v1.heap.size + 1 := (by omega); have hn' : ¬ v1.heap.size = w.heap.size + 2 := (by omega); have hm' : ¬ v1.heap.size + 1 = w.heap.size + 2 := (by omega))); (try (refine kuse (b := w1.heap.size) hk (by first | (simp; done) | (simp; omega) | omega) ?_; intro hq hg; have hy : w1.heap.size < v1.heap.size := (by (try simp at hz); omega); have hn : ¬ w1.heap.size = v1.heap.size := (by omega); have hm : ¬ w1.heap.size = v1.heap.size + 1 := (by omega); have hn' : ¬ v1.heap.size = w1.heap.size := (by omega); have hm' : ¬ v1.heap.size + 1 = w1.heap.size := (by omega))); (try (have hle : w1.heap.size ≤ v1.heap.size := (by (try simp at hz); omega))); (try (have hle : v0.heap.size ≤ v1.heap.size := (by (try simp at hz); omega))); (try (refine kuse (b := v0.heap.size) hk (by first | (simp; done) | (simp; omega) | omega) ?_; intro hq hg; have hy : v0.heap.size < v1.heap.size := (by (try simp at hz); omega))); (try (refine kuse (b := v0.heap.size + 1) hk (by first | (simp; done) | (simp; omega) | omega) ?_; intro hq hg; have hy : v0.heap.size + 1 < v1.heap.size := (by (try simp at hz); omega))); (try (refine kuse (b := w1.heap.size + 1) hk (by first | (simp; done) | (simp; omega) | omega) ?_; intro hq hg; have hy : w1.heap.size + 1 < v1.heap.size := (by (try simp at hz); omega))); (try (refine kuse (b := w1.heap.size + 2) hk (by first | (simp; done) | (simp; omega) | omega) ?_; intro hq hg; have hy : w1.heap.size + 2 < v1.heap.size := (by (try simp at hz); omega))); (try (refine withF (p := v1.cell? ⟨w.heap.size, 0, none⟩ = some (.int .i64 A)) (by first | (simp (maxDischargeDepth := 7) [go_sem, *]; done) | fail) ?_; intro ff)); (try (refine withF (p := v1.cell? ⟨w.heap.size, 1, none⟩ = some (.int .u64 a)) (by first | (simp (maxDischargeDepth := 7) [go_sem, *]; done) | fail) ?_; intro ff)); (try (refine withF (p := v1.cell? ⟨w1.heap.size, 0, none⟩ = some (.int .u64 (wh D))) (by first | (simp (maxDischargeDepth := 7) [go_sem, *]; done) | fail) ?_; intro ff)); (try (refine withF (p := v1.cell? ⟨w1.heap.size, 1, none⟩ = some (.int .u64 (wl D))) (by first | (simp (maxDischargeDepth := 7) [go_sem, *]; done) | fail) ?_; intro ff))))
    all_goals (try go_wp2_with fail)
    all_goals (go_meet; case rel => refine (fun (hkx : Kept (w1.alloc (.cells #[.int .u64 (wh D), .int .u64 (wl D)] 71)) _) => ⟨_, _, rfl, rfl, (by first | with_reducible assumption | omega | (simp; omega)), (by first | with_reducible assumption | omega | (simp; omega)), (by first | with_reducible assumption | omega | (simp; omega)), (by repeat (first | with_reducible exact own_alloc _ [.int .u64 (wh Q), .int .u64 (wl Q)] 71 | with_reducible exact own_alloc _ [.int .u64 0, .int .u64 0] 71 | ((with_reducible refine own_allocE _ [.int .u64 (wh Q), .int .u64 (wl Q)] 71 _ ?_); (simp; done)) | ((with_reducible refine own_allocE _ [.int .u64 0, .int .u64 0] 71 _ ?_); (simp; done)) | with_reducible refine own_set2 (us := [.int .u64 0, .int .u64 0]) ?_ rfl | with_reducible refine OwnB.other2 ?_ (by first | with_reducible assumption | omega | (simp; done) | (simp; omega)) | with_reducible refine OwnB.alloc ?_ _ | with_reducible refine OwnB.drew ?_ | with_reducible refine OwnB.drewN ?_ _ | with_reducible refine OwnB.kept (by with_reducible assumption) ?_)), (by repeat (first | with_reducible exact own_alloc _ [.int .u64 0, .int .u64 0] 71 | with_reducible exact own_alloc _ [.int .u64 0, .int .u64 0] 71 | ((with_reducible refine own_allocE _ [.int .u64 0, .int .u64 0] 71 _ ?_); (simp; done)) | ((with_reducible refine own_allocE _ [.int .u64 0, .int .u64 0] 71 _ ?_); (simp; done)) | with_reducible refine own_set2 (us := [.int .u64 0, .int .u64 0]) ?_ rfl | with_reducible refine OwnB.other2 ?_ (by first | with_reducible assumption | omega | (simp; done) | (simp; omega)) | with_reducible refine OwnB.alloc ?_ _ | with_reducible refine OwnB.drew ?_ | with_reducible refine OwnB.drewN ?_ _ | with_reducible refine OwnB.kept (by with_reducible assumption) ?_)), OwnB.kept hkx HB0_0.out, OwnB.kept hkx HB0_1.out, OwnB.kept hkx HB0_2.out, OwnB.kept hkx HB0_3.out, hkx⟩) ?_; exact (by repeat (first | with_reducible exact Kept.refl _ | with_reducible assumption | with_reducible refine Kept.set12 ?_ (by first | with_reducible assumption | omega | (simp; done) | (simp; omega)) | with_reducible refine Kept.set11 ?_ (by first | with_reducible assumption | omega | (simp; done) | (simp; omega)) | with_reducible refine Kept.set10 ?_ (by first | with_reducible assumption | omega | (simp; done) | (simp; omega)) | with_reducible refine Kept.set9 ?_ (by first | with_reducible assumption | omega | (simp; done) | (simp; omega)) | with_reducible refine Kept.set8 ?_ (by first | with_reducible assumption | omega | (simp; done) | (simp; omega)) | with_reducible refine Kept.set7 ?_ (by first | with_reducible assumption | omega | (simp; done) | (simp; omega)) | with_reducible refine Kept.set6 ?_ (by first | with_reducible assumption | omega | (simp; done) | (simp; omega)) | with_reducible refine Kept.set5 ?_ (by first | with_reducible assumption | omega | (simp; done) | (simp; omega)) | with_reducible refine Kept.set4 ?_ (by first | with_reducible assumption | omega | (simp; done) | (simp; omega)) | with_reducible refine Kept.set3 ?_ (by first | with_reducible assumption | omega | (simp; done) | (simp; omega)) | with_reducible refine Kept.set2 ?_ (by first | with_reducible assumption | omega | (simp; done) | (simp; omega)) | with_reducible refine Kept.setCell ?_ (by first | with_reducible assumption | omega | (simp; done) | (simp; omega)) _ | with_reducible refine Kept.alloc ?_ _ | with_reducible refine Kept.drewN ?_ _ | with_reducible refine Kept.drew ?_ | with_reducible refine Kept.trans ?_ (by with_reducible assumption) | with_reducible refine Kept.dr ?_ (by with_reducible assumption))))
  case rest =>
  obtain ⟨b1_0, b1_1, rfl, rfl, lt1_0, lt1_1, ne1_1_0, O1_0, O1_1, O1_2, O1_3, O1_4, O1_5, hkc1⟩ := hcut
  obtain ⟨hz_c1_0, hg_c1_0, hf_c1_0_0, hf_c1_0_1, _⟩ := O1_0
  obtain ⟨hz_c1_1, hg_c1_1, hf_c1_1_0, hf_c1_1_1, _⟩ := O1_1
  obtain ⟨hz_c1_2, hg_c1_2, hf_c1_2_0, hf_c1_2_1, _⟩ := O1_2
  obtain ⟨hz_c1_3, hg_c1_3, hf_c1_3_0, hf_c1_3_1, _⟩ := O1_3
  obtain ⟨hz_c1_4, hg_c1_4, hf_c1_4_0, hf_c1_4_1, _⟩ := O1_4
  obtain ⟨hz_c1_5, hg_c1_5, hf_c1_5_0, hf_c1_5_1, _⟩ := O1_5
  try clear hf1_0_0
  try clear hf1_0_1
  try clear hf1_1_0
  try clear hf1_1_1
  try clear hf1_2_0
  try clear hf1_2_1
  try clear hg1_0
  try clear hg1_1
  try clear hg1_2
  try clear hz1_1
  try clear hz1_2
  go_wp2_with fail
  with_reducible refine (HF.out _).mono ?_
  rintro e w2 ⟨rfl, hk2⟩
  refine kuse (b := b1_0) hk2 (by first | (simp; done) | (simp; omega) | omega) ?_
  intro ha hb
  have hz2_0 : b1_0 < w2.heap.size := by have := hk2.size; (try simp at this); omega
  have hn2_0 : ¬ b1_0 = w2.heap.size := by omega
  have hm2_0 : ¬ w2.heap.size = b1_0 := by omega
  have hf2_0_0 : w2.cell? ⟨b1_0, 0, none⟩ = some (.int .u64 (wh Q)) := by first | (rw [ha]; with_reducible assumption) | (simp (maxDischargeDepth := 7) [go_sem, ha]; done) | (rw [ha]; assumption) | (simp (maxDischargeDepth := 7) [go_sem, ha, *]; done)
  have hf2_0_1 : w2.cell? ⟨b1_0, 1, none⟩ = some (.int .u64 (wl Q)) := by first | (rw [ha]; with_reducible assumption) | (simp (maxDischargeDepth := 7) [go_sem, ha]; done) | (rw [ha]; assumption) | (simp (maxDischargeDepth := 7) [go_sem, ha, *]; done)
  try have hg2_0 : ∀ o, w2.frozen? ⟨b1_0, o, none⟩ = false := by intro o; first | (simp (maxDischargeDepth := 7) [go_sem, hb]; done) | (rw [hb]; simp (maxDischargeDepth := 7) [go_sem, *]; done)
  clear ha hb
  refine kuse (b := b1_1) hk2 (by first | (simp; done) | (simp; omega) | omega) ?_
  intro ha hb
  have hz2_1 : b1_1 < w2.heap.size := by have := hk2.size; (try simp at this); omega
  have hn2_1 : ¬ b1_1 = w2.heap.size := by omega
  have hm2_1 : ¬ w2.heap.size = b1_1 := by omega
  have hf2_1_0 : w2.cell? ⟨b1_1, 0, none⟩ = some (.int .u64 0) := by first | (rw [ha]; with_reducible assumption) | (simp (maxDischargeDepth := 7) [go_sem, ha]; done) | (rw [ha]; assumption) | (simp (maxDischargeDepth := 7) [go_sem, ha, *]; done)
  have hf2_1_1 : w2.cell? ⟨b1_1, 1, none⟩ = some (.int .u64 0) := by first | (rw [ha]; with_reducible assumption) | (simp (maxDischargeDepth := 7) [go_sem, ha]; done) | (rw [ha]; assumption) | (simp (maxDischargeDepth := 7) [go_sem, ha, *]; done)
  try have hg2_1 : ∀ o, w2.frozen? ⟨b1_1, o, none⟩ = false := by intro o; first | (simp (maxDischargeDepth := 7) [go_sem, hb]; done) | (rw [hb]; simp (maxDischargeDepth := 7) [go_sem, *]; done)
  clear ha hb
  refine kuse (b := w.heap.size) hk2 (by first | (simp; done) | (simp; omega) | omega) ?_
  intro ha hb
  have hz2_2 : w.heap.size < w2.heap.size := by have := hk2.size; (try simp at this); omega
  have hn2_2 : ¬ w.heap.size = w2.heap.size := by omega
  have hm2_2 : ¬ w2.heap.size = w.heap.size := by omega
  have hf2_2_0 : w2.cell? ⟨w.heap.size, 0, none⟩ = some (.int .i64 A) := by first | (rw [ha]; with_reducible assumption) | (simp (maxDischargeDepth := 7) [go_sem, ha]; done) | (rw [ha]; assumption) | (simp (maxDischargeDepth := 7) [go_sem, ha, *]; done)
  have hf2_2_1 : w2.cell? ⟨w.heap.size, 1, none⟩ = some (.int .u64 a) := by first | (rw [ha]; with_reducible assumption) | (simp (maxDischargeDepth := 7) [go_sem, ha]; done) | (rw [ha]; assumption) | (simp (maxDischargeDepth := 7) [go_sem, ha, *]; done)
  try have hg2_2 : ∀ o, w2.frozen? ⟨w.heap.size, o, none⟩ = false := by intro o; first | (simp (maxDischargeDepth := 7) [go_sem, hb]; done) | (rw [hb]; simp (maxDischargeDepth := 7) [go_sem, *]; done)
  clear ha hb
  refine kuse (b := w.heap.size + 1) hk2 (by first | (simp; done) | (simp; omega) | omega) ?_
  intro ha hb
  have hz2_3 : w.heap.size + 1 < w2.heap.size := by have := hk2.size; (try simp at this); omega
  have hn2_3 : ¬ w.heap.size + 1 = w2.heap.size := by omega
  have hm2_3 : ¬ w2.heap.size = w.heap.size + 1 := by omega
  have hf2_3_0 : w2.cell? ⟨w.heap.size + 1, 0, none⟩ = some (.int .i64 B) := by first | (rw [ha]; with_reducible assumption) | (simp (maxDischargeDepth := 7) [go_sem, ha]; done) | (rw [ha]; assumption) | (simp (maxDischargeDepth := 7) [go_sem, ha, *]; done)
  have hf2_3_1 : w2.cell? ⟨w.heap.size + 1, 1, none⟩ = some (.int .u64 b) := by first | (rw [ha]; with_reducible assumption) | (simp (maxDischargeDepth := 7) [go_sem, ha]; done) | (rw [ha]; assumption) | (simp (maxDischargeDepth := 7) [go_sem, ha, *]; done)
  try have hg2_3 : ∀ o, w2.frozen? ⟨w.heap.size + 1, o, none⟩ = false := by intro o; first | (simp (maxDischargeDepth := 7) [go_sem, hb]; done) | (rw [hb]; simp (maxDischargeDepth := 7) [go_sem, *]; done)
  clear ha hb
  refine kuse (b := w.heap.size + 2) hk2 (by first | (simp; done) | (simp; omega) | omega) ?_
  intro ha hb
  have hz2_4 : w.heap.size + 2 < w2.heap.size := by have := hk2.size; (try simp at this); omega
  have hn2_4 : ¬ w.heap.size + 2 = w2.heap.size := by omega
  have hm2_4 : ¬ w2.heap.size = w.heap.size + 2 := by omega
  have hf2_4_0 : w2.cell? ⟨w.heap.size + 2, 0, none⟩ = some (.int .i64 0) := by first | (rw [ha]; with_reducible assumption) | (simp (maxDischargeDepth := 7) [go_sem, ha]; done) | (rw [ha]; assumption) | (simp (maxDischargeDepth := 7) [go_sem, ha, *]; done)
  have hf2_4_1 : w2.cell? ⟨w.heap.size + 2, 1, none⟩ = some (.int .u64 0) := by first | (rw [ha]; with_reducible assumption) | (simp (maxDischargeDepth := 7) [go_sem, ha]; done) | (rw [ha]; assumption) | (simp (maxDischargeDepth := 7) [go_sem, ha, *]; done)
  try have hg2_4 : ∀ o, w2.frozen? ⟨w.heap.size + 2, o, none⟩ = false := by intro o; first | (simp (maxDischargeDepth := 7) [go_sem, hb]; done) | (rw [hb]; simp (maxDischargeDepth := 7) [go_sem, *]; done)
  clear ha hb
  refine kuse (b := w1.heap.size) hk2 (by first | (simp; done) | (simp; omega) | omega) ?_
  intro ha hb
  have hz2_5 : w1.heap.size < w2.heap.size := by have := hk2.size; (try simp at this); omega
  have hn2_5 : ¬ w1.heap.size = w2.heap.size := by omega
  have hm2_5 : ¬ w2.heap.size = w1.heap.size := by omega
  have hf2_5_0 : w2.cell? ⟨w1.heap.size, 0, none⟩ = some (.int .u64 (wh D)) := by first | (rw [ha]; with_reducible assumption) | (simp (maxDischargeDepth := 7) [go_sem, ha]; done) | (rw [ha]; assumption) | (simp (maxDischargeDepth := 7) [go_sem, ha, *]; done)
  have hf2_5_1 : w2.cell? ⟨w1.heap.size, 1, none⟩ = some (.int .u64 (wl D)) := by first | (rw [ha]; with_reducible assumption) | (simp (maxDischargeDepth := 7) [go_sem, ha]; done) | (rw [ha]; assumption) | (simp (maxDischargeDepth := 7) [go_sem, ha, *]; done)
  try have hg2_5 : ∀ o, w2.frozen? ⟨w1.heap.size, o, none⟩ = false := by intro o; first | (simp (maxDischargeDepth := 7) [go_sem, hb]; done) | (rw [hb]; simp (maxDischargeDepth := 7) [go_sem, *]; done)
  clear ha hb
  try clear hf_c1_0_0
  try clear hf_c1_0_1
  try clear hf_c1_1_0
  try clear hf_c1_1_1
  try clear hf_c1_2_0
  try clear hf_c1_2_1
  try clear hf_c1_3_0
  try clear hf_c1_3_1
  try clear hf_c1_4_0
  try clear hf_c1_4_1
  try clear hf_c1_5_0
  try clear hf_c1_5_1
  try clear hg_c1_0
  try clear hg_c1_1
  try clear hg_c1_2
  try clear hg_c1_3
  try clear hg_c1_4
  try clear hg_c1_5
  go_wp2_with fail
  all_goals exact bodyPost_ret (v := .tuple #[.agg #[.int .i64 (wh (V)), .int .u64 (wl (V))], .bool O]) (by first | (simp [results, Try.results72, go_sem]; done) | (simp (maxDischargeDepth := 7) [results, Try.results72, go_sem, *]; done)) rfl ⟨rfl, (by repeat (first | with_reducible exact Kept.refl _ | with_reducible assumption | with_reducible refine Kept.setCell ?_ (by first | (simp; done) | (simp; omega) | omega) _ | with_reducible refine Kept.alloc ?_ _ | with_reducible refine Kept.drewN ?_ _ | with_reducible refine Kept.drew ?_ | with_reducible refine Kept.trans ?_ (by with_reducible assumption) | with_reducible refine Kept.dr ?_ (by with_reducible assumption)))⟩
set_option maxHeartbeats 2000000 in
set_option maxRecDepth 100000 in
theorem quotient_Div (u v : Int) (u0 : -170141183460469231731687303715884105728 ≤ u) (u1 : u < 170141183460469231731687303715884105728) (v0 : -170141183460469231731687303715884105728 ≤ v) (v1 : v < 170141183460469231731687303715884105728) (hv : v ≠ 0) (N : Bool) (hn : wqn u v = N) (hr : wmag u % wmag v ≠ 0) (g : Bool) (HG : ∀ w, Calls Try.prog 73 #[.agg #[.int .u64 (wh (wmag u % wmag v)), .int .u64 (wl (wmag u % wmag v))], .agg #[.int .u64 (wh (wmag v)), .int .u64 (wl (wmag v))], .bool N] w fun e w' => e = .returned (.bool g) ∧ Kept w w') (w : World) : Calls Try.prog 72 #[.agg #[.int .i64 (wh (u)), .int .u64 (wl (u))], .agg #[.int .i64 (wh (v)), .int .u64 (wl (v))], .func (.func 73) #[] #[]] w fun e w' => e = .returned (.tuple #[.agg #[.int .i64 (wh (wval (sgd N (wmag u / wmag v + bi g)))), .int .u64 (wl (wval (sgd N (wmag u / wmag v + bi g))))], .bool (wfit (sgd N (wmag u / wmag v + bi g)))]) ∧ Kept w w' := by
  obtain ⟨eu, a0, a1⟩ := wv u
  obtain ⟨ev, b0, b1⟩ := wv v
  have n0 := nz_words v hv
  have n0' := nz_words2 v hv
  have A0 : -9223372036854775808 ≤ wh u := (by unfold wh; omega)
  have A1 : wh u ≤ 9223372036854775807 := (by unfold wh; omega)
  have B0 : -9223372036854775808 ≤ wh v := (by unfold wh; omega)
  have B1 : wh v ≤ 9223372036854775807 := (by unfold wh; omega)
  have HSu := Lib.hid (size_w u u0 u1)
  have HSv := Lib.hid (size_w v v0 v1)
  obtain ⟨m0, m1⟩ := wmag_bd u u0 u1
  obtain ⟨d0', d1⟩ := wmag_bd v v0 v1
  have d0 : 0 < wmag v := by unfold wmag; split <;> omega
  have HDv := Lib.hid (divide_w (wmag u) (wmag v) m0 (by omega) d0' (by omega) d0)
  have q0 : 0 ≤ wmag u / wmag v := Int.ediv_nonneg m0 d0'
  have q1 : wmag u / wmag v ≤ 170141183460469231731687303715884105728 := by
    have := Int.ediv_le_self (a := wmag u) (wmag v) m0
    omega
  have hN : (!(decide (wh u < 0) == decide (wh v < 0))) = N := by
    rw [← hn]; unfold wqn
    have x1 : decide (wh u < 0) = decide (u < 0) := by rw [decide_eq_decide]; unfold wh; omega
    have x2 : decide (wh v < 0) = decide (v < 0) := by rw [decide_eq_decide]; unfold wh; omega
    rw [x1, x2]; rfl
  generalize wmag u / wmag v = Q at *
  obtain ⟨R, hR⟩ : ∃ R, wmag u % wmag v = R := ⟨_, rfl⟩
  rw [hR] at HDv hr HG
  have n1 := nz_words R hr
  have n2 := nz_words2 R hr
  have HG' := Lib.hid HG
  clear HG hR
  have gb : 0 ≤ bi g ∧ bi g ≤ 1 := by unfold bi; cases g <;> decide
  have HF := Lib.hid (signed_w (Q + bi g) (by omega) (by omega) N)
  obtain ⟨V, hV⟩ : ∃ V, wval (sgd N (Q + bi g)) = V := ⟨_, rfl⟩
  obtain ⟨O, hO⟩ : ∃ O, wfit (sgd N (Q + bi g)) = O := ⟨_, rfl⟩
  rw [hV, hO] at HF
  rw [hV, hO]
  clear hV hO
  obtain ⟨M1, hM1⟩ : ∃ z : Int, 340282366920938463463374607431768211455 = z := ⟨_, rfl⟩
  have eM := wv M1
  have M10 : 0 ≤ wh M1 := (by unfold wh; omega)
  have M11 : wh M1 ≤ 18446744073709551615 := (by unfold wh; omega)
  obtain ⟨eM, M12, M13⟩ := eM
  have eQ := wv Q
  obtain ⟨eQ, Q2, Q3⟩ := eQ
  have Q0' : 0 ≤ wh Q := (by unfold wh; omega)
  have Q1' : wh Q ≤ 18446744073709551615 := (by unfold wh; omega)
  have MA := Lib.hid (minus_c 0 0 0 1 M1 (by omega) (by omega) (by omega) (by omega) (by omega) (by omega) (by omega) (by omega) (by rw [← hM1]; decide))
  have MB := Lib.hid (minus_c (wh Q) (wl Q) (wh M1) (wl M1) (Q + 1) Q0' Q1' Q2 Q3 M10 M11 M12 M13 (by omega))
  clear eM eQ hM1 gb
  generalize hD : wmag v = D at *
  generalize hM : wmag u = M at *
  generalize wh u = A at *; generalize wl u = a at *; generalize hvB : wh v = B at *; generalize hvb : wl v = b at *
  clear eu ev hvB hvb hn hD hM u0 u1 v0 v1 hv n0'
  have eqzfW : ∀ w, (Op.equalIn 10000 45 (.agg #[.int .i64 (B), .int .u64 (b)]) (.agg #[.int .i64 0, .int .u64 0])).run Try.prog w = .ok false w := fun w => by rw [eqW, n0]
  clear n0
  have eqzfM : ∀ w, (Op.equalIn 10000 71 (.agg #[.int .u64 (wh R), .int .u64 (wl R)]) (.agg #[.int .u64 0, .int .u64 0])).run Try.prog w = .ok false w := fun w => by rw [eqM, n1]
  clear n1 n2
  go_enter Try.func72, Try.ntmps72
  go_wp2_with fail
  with_reducible refine (HSv.out _).mono ?_
  rintro e w1 ⟨rfl, hk1⟩
  refine kuse (b := w.heap.size) hk1 (by first | (simp; done) | (simp; omega) | omega) ?_
  intro ha hb
  have hz1_0 : w.heap.size < w1.heap.size := by have := hk1.size; (try simp at this); omega
  have hn1_0 : ¬ w.heap.size = w1.heap.size := by omega
  have hm1_0 : ¬ w1.heap.size = w.heap.size := by omega
  have hf1_0_0 : w1.cell? ⟨w.heap.size, 0, none⟩ = some (.int .i64 A) := by first | (rw [ha]; with_reducible assumption) | (simp (maxDischargeDepth := 7) [go_sem, ha]; done) | (rw [ha]; assumption) | (simp (maxDischargeDepth := 7) [go_sem, ha, *]; done)
  have hf1_0_1 : w1.cell? ⟨w.heap.size, 1, none⟩ = some (.int .u64 a) := by first | (rw [ha]; with_reducible assumption) | (simp (maxDischargeDepth := 7) [go_sem, ha]; done) | (rw [ha]; assumption) | (simp (maxDischargeDepth := 7) [go_sem, ha, *]; done)
  try have hg1_0 : ∀ o, w1.frozen? ⟨w.heap.size, o, none⟩ = false := by intro o; first | (simp (maxDischargeDepth := 7) [go_sem, hb]; done) | (rw [hb]; simp (maxDischargeDepth := 7) [go_sem, *]; done)
  clear ha hb
  refine kuse (b := w.heap.size + 1) hk1 (by first | (simp; done) | (simp; omega) | omega) ?_
  intro ha hb
  have hz1_1 : w.heap.size + 1 < w1.heap.size := by have := hk1.size; (try simp at this); omega
  have hn1_1 : ¬ w.heap.size + 1 = w1.heap.size := by omega
  have hm1_1 : ¬ w1.heap.size = w.heap.size + 1 := by omega
  have hf1_1_0 : w1.cell? ⟨w.heap.size + 1, 0, none⟩ = some (.int .i64 B) := by first | (rw [ha]; with_reducible assumption) | (simp (maxDischargeDepth := 7) [go_sem, ha]; done) | (rw [ha]; assumption) | (simp (maxDischargeDepth := 7) [go_sem, ha, *]; done)
  have hf1_1_1 : w1.cell? ⟨w.heap.size + 1, 1, none⟩ = some (.int .u64 b) := by first | (rw [ha]; with_reducible assumption) | (simp (maxDischargeDepth := 7) [go_sem, ha]; done) | (rw [ha]; assumption) | (simp (maxDischargeDepth := 7) [go_sem, ha, *]; done)
  try have hg1_1 : ∀ o, w1.frozen? ⟨w.heap.size + 1, o, none⟩ = false := by intro o; first | (simp (maxDischargeDepth := 7) [go_sem, hb]; done) | (rw [hb]; simp (maxDischargeDepth := 7) [go_sem, *]; done)
  clear ha hb
  refine kuse (b := w.heap.size + 2) hk1 (by first | (simp; done) | (simp; omega) | omega) ?_
  intro ha hb
  have hz1_2 : w.heap.size + 2 < w1.heap.size := by have := hk1.size; (try simp at this); omega
  have hn1_2 : ¬ w.heap.size + 2 = w1.heap.size := by omega
  have hm1_2 : ¬ w1.heap.size = w.heap.size + 2 := by omega
  have hf1_2_0 : w1.cell? ⟨w.heap.size + 2, 0, none⟩ = some (.int .i64 0) := by first | (rw [ha]; with_reducible assumption) | (simp (maxDischargeDepth := 7) [go_sem, ha]; done) | (rw [ha]; assumption) | (simp (maxDischargeDepth := 7) [go_sem, ha, *]; done)
  have hf1_2_1 : w1.cell? ⟨w.heap.size + 2, 1, none⟩ = some (.int .u64 0) := by first | (rw [ha]; with_reducible assumption) | (simp (maxDischargeDepth := 7) [go_sem, ha]; done) | (rw [ha]; assumption) | (simp (maxDischargeDepth := 7) [go_sem, ha, *]; done)
  try have hg1_2 : ∀ o, w1.frozen? ⟨w.heap.size + 2, o, none⟩ = false := by intro o; first | (simp (maxDischargeDepth := 7) [go_sem, hb]; done) | (rw [hb]; simp (maxDischargeDepth := 7) [go_sem, *]; done)
  clear ha hb
  go_wp2_with fail
  have B0 : OwnB (w1.alloc (.cells #[.int .u64 (wh D), .int .u64 (wl D)] 71)) (w.heap.size) [.int .i64 A, .int .u64 a] := OwnB.alloc (show OwnB w1 (w.heap.size) [.int .i64 A, .int .u64 a] from ⟨hz1_0, hg1_0, hf1_0_0, hf1_0_1, trivial⟩) _
  have HB0_0 := Lib.hid B0
  clear B0
  have B1 : OwnB (w1.alloc (.cells #[.int .u64 (wh D), .int .u64 (wl D)] 71)) (w.heap.size + 1) [.int .i64 B, .int .u64 b] := OwnB.alloc (show OwnB w1 (w.heap.size + 1) [.int .i64 B, .int .u64 b] from ⟨hz1_1, hg1_1, hf1_1_0, hf1_1_1, trivial⟩) _
  have HB0_1 := Lib.hid B1
  clear B1
  have B2 : OwnB (w1.alloc (.cells #[.int .u64 (wh D), .int .u64 (wl D)] 71)) (w.heap.size + 2) [.int .i64 0, .int .u64 0] := OwnB.alloc (show OwnB w1 (w.heap.size + 2) [.int .i64 0, .int .u64 0] from ⟨hz1_2, hg1_2, hf1_2_0, hf1_2_1, trivial⟩) _
  have HB0_2 := Lib.hid B2
  clear B2
  have B3 : OwnB (w1.alloc (.cells #[.int .u64 (wh D), .int .u64 (wl D)] 71)) (w1.heap.size) [.int .u64 (wh D), .int .u64 (wl D)] := own_alloc _ [.int .u64 (wh D), .int .u64 (wl D)] 71
  have HB0_3 := Lib.hid B3
  clear B3
  go_upto_region 5 with (fail)
  go_cut [10, 11] (fun p0 p1 wx => ∃ b0 b1 : Nat, p0 = .pointer (some ⟨b0, 0, none⟩) ∧ p1 = .pointer (some ⟨b1, 0, none⟩) ∧ w1.heap.size < b0 ∧ w1.heap.size < b1 ∧ b1 ≠ b0 ∧ OwnB wx (b0) [.int .u64 (wh Q), .int .u64 (wl Q)] ∧ OwnB wx (b1) [.int .u64 (wh R), .int .u64 (wl R)] ∧ OwnB wx (w.heap.size) [.int .i64 A, .int .u64 a] ∧ OwnB wx (w.heap.size + 1) [.int .i64 B, .int .u64 b] ∧ OwnB wx (w.heap.size + 2) [.int .i64 0, .int .u64 0] ∧ OwnB wx (w1.heap.size) [.int .u64 (wh D), .int .u64 (wl D)] ∧ Kept (w1.alloc (.cells #[.int .u64 (wh D), .int .u64 (wl D)] 71)) wx)
  case first =>
    go_region_held3 (fun W => W.cell? ⟨w.heap.size, 0, none⟩ = some (.int .i64 A) ∧ W.cell? ⟨w.heap.size, 1, none⟩ = some (.int .u64 a) ∧ W.cell? ⟨w1.heap.size, 0, none⟩ = some (.int .u64 (wh D)) ∧ W.cell? ⟨w1.heap.size, 1, none⟩ = some (.int .u64 (wl D))) (first | (go_keep; done) | (simp (maxDischargeDepth := 9) [*, World.cell?_alloc_some, World.cell?_setCell_far]; done) | (simp (maxDischargeDepth := 9) [go_sem, *]; done)) (first | (go_at_call 76; (with_reducible refine (HSu.out _).mono ?_); rintro e v0 ⟨rfl, hk⟩; have hz := hk.size; (try (refine kuse (b := w.heap.size) hk (by first | (simp; done) | (simp; omega) | omega) ?_; intro hq hg; have hy : w.heap.size < v0.heap.size := (by (try simp at hz); omega); have hn : ¬ w.heap.size = v0.heap.size := (by omega); have hm : ¬ w.heap.size = v0.heap.size + 1 := (by omega); have hn' : ¬ v0.heap.size = w.heap.size := (by omega); have hm' : ¬ v0.heap.size + 1 = w.heap.size := (by omega))); (try (refine kuse (b := w.heap.size + 1) hk (by first | (simp; done) | (simp; omega) | omega) ?_; intro hq hg; have hy : w.heap.size + 1 < v0.heap.size := (by (try simp at hz); omega); have hn : ¬ w.heap.size + 1 = v0.heap.size := (by omega); have hm : ¬ w.heap.size + 1 = v0.heap.size + 1 := (by omega); have hn' : ¬ v0.heap.size = w.heap.size + 1 := (by omega); have hm' : ¬ v0.heap.size + 1 = w.heap.size + 1 := (by omega))); (try (refine kuse (b := w.heap.size + 2) hk (by first | (simp; done) | (simp; omega) | omega) ?_; intro hq hg; have hy : w.heap.size + 2 < v0.heap.size := (by (try simp at hz); omega); have hn : ¬ w.heap.size + 2 = v0.heap.size := (by omega); have hm : ¬ w.heap.size + 2 = v0.heap.size + 1 := (by omega); have hn' : ¬ v0.heap.size = w.heap.size + 2 := (by omega); have hm' : ¬ v0.heap.size + 1 = w.heap.size + 2 := (by omega))); (try (refine kuse (b := w1.heap.size) hk (by first | (simp; done) | (simp; omega) | omega) ?_; intro hq hg; have hy : w1.heap.size < v0.heap.size := (by (try simp at hz); omega); have hn : ¬ w1.heap.size = v0.heap.size := (by omega); have hm : ¬ w1.heap.size = v0.heap.size + 1 := (by omega); have hn' : ¬ v0.heap.size = w1.heap.size := (by omega); have hm' : ¬ v0.heap.size + 1 = w1.heap.size := (by omega))); (try (have hle : w1.heap.size ≤ v0.heap.size := (by (try simp at hz); omega))); (try (refine kuse (b := w1.heap.size + 1) hk (by first | (simp; done) | (simp; omega) | omega) ?_; intro hq hg; have hy : w1.heap.size + 1 < v0.heap.size := (by (try simp at hz); omega))); (try (refine kuse (b := w1.heap.size + 2) hk (by first | (simp; done) | (simp; omega) | omega) ?_; intro hq hg; have hy : w1.heap.size + 2 < v0.heap.size := (by (try simp at hz); omega))); (try (refine withF (p := v0.cell? ⟨w.heap.size, 0, none⟩ = some (.int .i64 A)) (by first | (simp (maxDischargeDepth := 7) [go_sem, *]; done) | fail) ?_; intro ff)); (try (refine withF (p := v0.cell? ⟨w.heap.size, 1, none⟩ = some (.int .u64 a)) (by first | (simp (maxDischargeDepth := 7) [go_sem, *]; done) | fail) ?_; intro ff)); (try (refine withF (p := v0.cell? ⟨w1.heap.size, 0, none⟩ = some (.int .u64 (wh D))) (by first | (simp (maxDischargeDepth := 7) [go_sem, *]; done) | fail) ?_; intro ff)); (try (refine withF (p := v0.cell? ⟨w1.heap.size, 1, none⟩ = some (.int .u64 (wl D))) (by first | (simp (maxDischargeDepth := 7) [go_sem, *]; done) | fail) ?_; intro ff))) | (go_at_call 85; (with_reducible refine (HDv.out _).mono ?_); rintro e v1 ⟨rfl, hk⟩; have hz := hk.size; (try (refine kuse (b := w.heap.size) hk (by first | (simp; done) | (simp; omega) | omega) ?_; intro hq hg; have hy : w.heap.size < v1.heap.size := (by (try simp at hz); omega); have hn : ¬ w.heap.size = v1.heap.size := (by omega); have hm : ¬ w.heap.size = v1.heap.size + 1 := (by omega); have hn' : ¬ v1.heap.size = w.heap.size := (by omega); have hm' : ¬ v1.heap.size + 1 = w.heap.size := (by omega))); (try (refine kuse (b := w.heap.size + 1) hk (by first | (simp; done) | (simp; omega) | omega) ?_; intro hq hg; have hy : w.heap.size + 1 < v1.heap.size := (by (try simp at hz); omega); have hn : ¬ w.heap.size + 1 = v1.heap.size := (by omega); have hm : ¬ w.heap.size + 1 = v1.heap.size + 1 := (by omega); have hn' : ¬ v1.heap.size = w.heap.size + 1 := (by omega); have hm' : ¬ v1.heap.size + 1 = w.heap.size + 1 := (by omega))); (try (refine kuse (b := w.heap.size + 2) hk (by first | (simp; done) | (simp; omega) | omega) ?_; intro hq hg; have hy : w.heap.size + 2 < v1.heap.size := (by (try simp at hz); omega); have hn : ¬ w.heap.size + 2 = v1.heap.size := (by omega); have hm : ¬ w.heap.size + 2 = v1.heap.size + 1 := (by omega); have hn' : ¬ v1.heap.size = w.heap.size + 2 := (by omega); have hm' : ¬ v1.heap.size + 1 = w.heap.size + 2 := (by omega))); (try (refine kuse (b := w1.heap.size) hk (by first | (simp; done) | (simp; omega) | omega) ?_; intro hq hg; have hy : w1.heap.size < v1.heap.size := (by (try simp at hz); omega); have hn : ¬ w1.heap.size = v1.heap.size := (by omega); have hm : ¬ w1.heap.size = v1.heap.size + 1 := (by omega); have hn' : ¬ v1.heap.size = w1.heap.size := (by omega); have hm' : ¬ v1.heap.size + 1 = w1.heap.size := (by omega))); (try (have hle : w1.heap.size ≤ v1.heap.size := (by (try simp at hz); omega))); (try (have hle : v0.heap.size ≤ v1.heap.size := (by (try simp at hz); omega))); (try (refine kuse (b := v0.heap.size) hk (by first | (simp; done) | (simp; omega) | omega) ?_; intro hq hg; have hy : v0.heap.size < v1.heap.size := (by (try simp at hz); omega))); (try (refine kuse (b := v0.heap.size + 1) hk (by first | (simp; done) | (simp; omega) | omega) ?_; intro hq hg; have hy : v0.heap.size + 1 < v1.heap.size := (by (try simp at hz); omega))); (try (refine kuse (b := w1.heap.size + 1) hk (by first | (simp; done) | (simp; omega) | omega) ?_; intro hq hg; have hy : w1.heap.size + 1 < v1.heap.size := (by (try simp at hz); omega))); (try (refine kuse (b := w1.heap.size + 2) hk (by first | (simp; done) | (simp; omega) | omega) ?_; intro hq hg; have hy : w1.heap.size + 2 < v1.heap.size := (by (try simp at hz); omega))); (try (refine withF (p := v1.cell? ⟨w.heap.size, 0, none⟩ = some (.int .i64 A)) (by first | (simp (maxDischargeDepth := 7) [go_sem, *]; done) | fail) ?_; intro ff)); (try (refine withF (p := v1.cell? ⟨w.heap.size, 1, none⟩ = some (.int .u64 a)) (by first | (simp (maxDischargeDepth := 7) [go_sem, *]; done) | fail) ?_; intro ff)); (try (refine withF (p := v1.cell? ⟨w1.heap.size, 0, none⟩ = some (.int .u64 (wh D))) (by first | (simp (maxDischargeDepth := 7) [go_sem, *]; done) | fail) ?_; intro ff)); (try (refine withF (p := v1.cell? ⟨w1.heap.size, 1, none⟩ = some (.int .u64 (wl D))) (by first | (simp (maxDischargeDepth := 7) [go_sem, *]; done) | fail) ?_; intro ff))))
    all_goals (try go_wp2_with fail)
    all_goals (go_meet; case rel => refine (fun (hkx : Kept (w1.alloc (.cells #[.int .u64 (wh D), .int .u64 (wl D)] 71)) _) => ⟨_, _, rfl, rfl, (by first | with_reducible assumption | omega | (simp; omega)), (by first | with_reducible assumption | omega | (simp; omega)), (by first | with_reducible assumption | omega | (simp; omega)), (by repeat (first | with_reducible exact own_alloc _ [.int .u64 (wh Q), .int .u64 (wl Q)] 71 | with_reducible exact own_alloc _ [.int .u64 0, .int .u64 0] 71 | ((with_reducible refine own_allocE _ [.int .u64 (wh Q), .int .u64 (wl Q)] 71 _ ?_); (simp; done)) | ((with_reducible refine own_allocE _ [.int .u64 0, .int .u64 0] 71 _ ?_); (simp; done)) | with_reducible refine own_set2 (us := [.int .u64 0, .int .u64 0]) ?_ rfl | with_reducible refine OwnB.other2 ?_ (by first | with_reducible assumption | omega | (simp; done) | (simp; omega)) | with_reducible refine OwnB.alloc ?_ _ | with_reducible refine OwnB.drew ?_ | with_reducible refine OwnB.drewN ?_ _ | with_reducible refine OwnB.kept (by with_reducible assumption) ?_)), (by repeat (first | with_reducible exact own_alloc _ [.int .u64 (wh R), .int .u64 (wl R)] 71 | with_reducible exact own_alloc _ [.int .u64 0, .int .u64 0] 71 | ((with_reducible refine own_allocE _ [.int .u64 (wh R), .int .u64 (wl R)] 71 _ ?_); (simp; done)) | ((with_reducible refine own_allocE _ [.int .u64 0, .int .u64 0] 71 _ ?_); (simp; done)) | with_reducible refine own_set2 (us := [.int .u64 0, .int .u64 0]) ?_ rfl | with_reducible refine OwnB.other2 ?_ (by first | with_reducible assumption | omega | (simp; done) | (simp; omega)) | with_reducible refine OwnB.alloc ?_ _ | with_reducible refine OwnB.drew ?_ | with_reducible refine OwnB.drewN ?_ _ | with_reducible refine OwnB.kept (by with_reducible assumption) ?_)), OwnB.kept hkx HB0_0.out, OwnB.kept hkx HB0_1.out, OwnB.kept hkx HB0_2.out, OwnB.kept hkx HB0_3.out, hkx⟩) ?_; exact (by repeat (first | with_reducible exact Kept.refl _ | with_reducible assumption | with_reducible refine Kept.set12 ?_ (by first | with_reducible assumption | omega | (simp; done) | (simp; omega)) | with_reducible refine Kept.set11 ?_ (by first | with_reducible assumption | omega | (simp; done) | (simp; omega)) | with_reducible refine Kept.set10 ?_ (by first | with_reducible assumption | omega | (simp; done) | (simp; omega)) | with_reducible refine Kept.set9 ?_ (by first | with_reducible assumption | omega | (simp; done) | (simp; omega)) | with_reducible refine Kept.set8 ?_ (by first | with_reducible assumption | omega | (simp; done) | (simp; omega)) | with_reducible refine Kept.set7 ?_ (by first | with_reducible assumption | omega | (simp; done) | (simp; omega)) | with_reducible refine Kept.set6 ?_ (by first | with_reducible assumption | omega | (simp; done) | (simp; omega)) | with_reducible refine Kept.set5 ?_ (by first | with_reducible assumption | omega | (simp; done) | (simp; omega)) | with_reducible refine Kept.set4 ?_ (by first | with_reducible assumption | omega | (simp; done) | (simp; omega)) | with_reducible refine Kept.set3 ?_ (by first | with_reducible assumption | omega | (simp; done) | (simp; omega)) | with_reducible refine Kept.set2 ?_ (by first | with_reducible assumption | omega | (simp; done) | (simp; omega)) | with_reducible refine Kept.setCell ?_ (by first | with_reducible assumption | omega | (simp; done) | (simp; omega)) _ | with_reducible refine Kept.alloc ?_ _ | with_reducible refine Kept.drewN ?_ _ | with_reducible refine Kept.drew ?_ | with_reducible refine Kept.trans ?_ (by with_reducible assumption) | with_reducible refine Kept.dr ?_ (by with_reducible assumption))))
  case rest =>
  obtain ⟨b1_0, b1_1, rfl, rfl, lt1_0, lt1_1, ne1_1_0, O1_0, O1_1, O1_2, O1_3, O1_4, O1_5, hkc1⟩ := hcut
  obtain ⟨hz_c1_0, hg_c1_0, hf_c1_0_0, hf_c1_0_1, _⟩ := O1_0
  obtain ⟨hz_c1_1, hg_c1_1, hf_c1_1_0, hf_c1_1_1, _⟩ := O1_1
  obtain ⟨hz_c1_2, hg_c1_2, hf_c1_2_0, hf_c1_2_1, _⟩ := O1_2
  obtain ⟨hz_c1_3, hg_c1_3, hf_c1_3_0, hf_c1_3_1, _⟩ := O1_3
  obtain ⟨hz_c1_4, hg_c1_4, hf_c1_4_0, hf_c1_4_1, _⟩ := O1_4
  obtain ⟨hz_c1_5, hg_c1_5, hf_c1_5_0, hf_c1_5_1, _⟩ := O1_5
  try clear hf1_0_0
  try clear hf1_0_1
  try clear hf1_1_0
  try clear hf1_1_1
  try clear hf1_2_0
  try clear hf1_2_1
  try clear hg1_0
  try clear hg1_1
  try clear hg1_2
  try clear hz1_1
  try clear hz1_2
  go_wp2_with fail
  with_reducible refine (HG'.out _).mono ?_
  rintro e w2 ⟨rfl, hk2⟩
  refine kuse (b := b1_0) hk2 (by first | (simp; done) | (simp; omega) | omega) ?_
  intro ha hb
  have hz2_0 : b1_0 < w2.heap.size := by have := hk2.size; (try simp at this); omega
  have hn2_0 : ¬ b1_0 = w2.heap.size := by omega
  have hm2_0 : ¬ w2.heap.size = b1_0 := by omega
  have hf2_0_0 : w2.cell? ⟨b1_0, 0, none⟩ = some (.int .u64 (wh Q)) := by first | (rw [ha]; with_reducible assumption) | (simp (maxDischargeDepth := 7) [go_sem, ha]; done) | (rw [ha]; assumption) | (simp (maxDischargeDepth := 7) [go_sem, ha, *]; done)
  have hf2_0_1 : w2.cell? ⟨b1_0, 1, none⟩ = some (.int .u64 (wl Q)) := by first | (rw [ha]; with_reducible assumption) | (simp (maxDischargeDepth := 7) [go_sem, ha]; done) | (rw [ha]; assumption) | (simp (maxDischargeDepth := 7) [go_sem, ha, *]; done)
  try have hg2_0 : ∀ o, w2.frozen? ⟨b1_0, o, none⟩ = false := by intro o; first | (simp (maxDischargeDepth := 7) [go_sem, hb]; done) | (rw [hb]; simp (maxDischargeDepth := 7) [go_sem, *]; done)
  clear ha hb
  refine kuse (b := b1_1) hk2 (by first | (simp; done) | (simp; omega) | omega) ?_
  intro ha hb
  have hz2_1 : b1_1 < w2.heap.size := by have := hk2.size; (try simp at this); omega
  have hn2_1 : ¬ b1_1 = w2.heap.size := by omega
  have hm2_1 : ¬ w2.heap.size = b1_1 := by omega
  have hf2_1_0 : w2.cell? ⟨b1_1, 0, none⟩ = some (.int .u64 (wh R)) := by first | (rw [ha]; with_reducible assumption) | (simp (maxDischargeDepth := 7) [go_sem, ha]; done) | (rw [ha]; assumption) | (simp (maxDischargeDepth := 7) [go_sem, ha, *]; done)
  have hf2_1_1 : w2.cell? ⟨b1_1, 1, none⟩ = some (.int .u64 (wl R)) := by first | (rw [ha]; with_reducible assumption) | (simp (maxDischargeDepth := 7) [go_sem, ha]; done) | (rw [ha]; assumption) | (simp (maxDischargeDepth := 7) [go_sem, ha, *]; done)
  try have hg2_1 : ∀ o, w2.frozen? ⟨b1_1, o, none⟩ = false := by intro o; first | (simp (maxDischargeDepth := 7) [go_sem, hb]; done) | (rw [hb]; simp (maxDischargeDepth := 7) [go_sem, *]; done)
  clear ha hb
  refine kuse (b := w.heap.size) hk2 (by first | (simp; done) | (simp; omega) | omega) ?_
  intro ha hb
  have hz2_2 : w.heap.size < w2.heap.size := by have := hk2.size; (try simp at this); omega
  have hn2_2 : ¬ w.heap.size = w2.heap.size := by omega
  have hm2_2 : ¬ w2.heap.size = w.heap.size := by omega
  have hf2_2_0 : w2.cell? ⟨w.heap.size, 0, none⟩ = some (.int .i64 A) := by first | (rw [ha]; with_reducible assumption) | (simp (maxDischargeDepth := 7) [go_sem, ha]; done) | (rw [ha]; assumption) | (simp (maxDischargeDepth := 7) [go_sem, ha, *]; done)
  have hf2_2_1 : w2.cell? ⟨w.heap.size, 1, none⟩ = some (.int .u64 a) := by first | (rw [ha]; with_reducible assumption) | (simp (maxDischargeDepth := 7) [go_sem, ha]; done) | (rw [ha]; assumption) | (simp (maxDischargeDepth := 7) [go_sem, ha, *]; done)
  try have hg2_2 : ∀ o, w2.frozen? ⟨w.heap.size, o, none⟩ = false := by intro o; first | (simp (maxDischargeDepth := 7) [go_sem, hb]; done) | (rw [hb]; simp (maxDischargeDepth := 7) [go_sem, *]; done)
  clear ha hb
  refine kuse (b := w.heap.size + 1) hk2 (by first | (simp; done) | (simp; omega) | omega) ?_
  intro ha hb
  have hz2_3 : w.heap.size + 1 < w2.heap.size := by have := hk2.size; (try simp at this); omega
  have hn2_3 : ¬ w.heap.size + 1 = w2.heap.size := by omega
  have hm2_3 : ¬ w2.heap.size = w.heap.size + 1 := by omega
  have hf2_3_0 : w2.cell? ⟨w.heap.size + 1, 0, none⟩ = some (.int .i64 B) := by first | (rw [ha]; with_reducible assumption) | (simp (maxDischargeDepth := 7) [go_sem, ha]; done) | (rw [ha]; assumption) | (simp (maxDischargeDepth := 7) [go_sem, ha, *]; done)
  have hf2_3_1 : w2.cell? ⟨w.heap.size + 1, 1, none⟩ = some (.int .u64 b) := by first | (rw [ha]; with_reducible assumption) | (simp (maxDischargeDepth := 7) [go_sem, ha]; done) | (rw [ha]; assumption) | (simp (maxDischargeDepth := 7) [go_sem, ha, *]; done)
  try have hg2_3 : ∀ o, w2.frozen? ⟨w.heap.size + 1, o, none⟩ = false := by intro o; first | (simp (maxDischargeDepth := 7) [go_sem, hb]; done) | (rw [hb]; simp (maxDischargeDepth := 7) [go_sem, *]; done)
  clear ha hb
  refine kuse (b := w.heap.size + 2) hk2 (by first | (simp; done) | (simp; omega) | omega) ?_
  intro ha hb
  have hz2_4 : w.heap.size + 2 < w2.heap.size := by have := hk2.size; (try simp at this); omega
  have hn2_4 : ¬ w.heap.size + 2 = w2.heap.size := by omega
  have hm2_4 : ¬ w2.heap.size = w.heap.size + 2 := by omega
  have hf2_4_0 : w2.cell? ⟨w.heap.size + 2, 0, none⟩ = some (.int .i64 0) := by first | (rw [ha]; with_reducible assumption) | (simp (maxDischargeDepth := 7) [go_sem, ha]; done) | (rw [ha]; assumption) | (simp (maxDischargeDepth := 7) [go_sem, ha, *]; done)
  have hf2_4_1 : w2.cell? ⟨w.heap.size + 2, 1, none⟩ = some (.int .u64 0) := by first | (rw [ha]; with_reducible assumption) | (simp (maxDischargeDepth := 7) [go_sem, ha]; done) | (rw [ha]; assumption) | (simp (maxDischargeDepth := 7) [go_sem, ha, *]; done)
  try have hg2_4 : ∀ o, w2.frozen? ⟨w.heap.size + 2, o, none⟩ = false := by intro o; first | (simp (maxDischargeDepth := 7) [go_sem, hb]; done) | (rw [hb]; simp (maxDischargeDepth := 7) [go_sem, *]; done)
  clear ha hb
  refine kuse (b := w1.heap.size) hk2 (by first | (simp; done) | (simp; omega) | omega) ?_
  intro ha hb
  have hz2_5 : w1.heap.size < w2.heap.size := by have := hk2.size; (try simp at this); omega
  have hn2_5 : ¬ w1.heap.size = w2.heap.size := by omega
  have hm2_5 : ¬ w2.heap.size = w1.heap.size := by omega
  have hf2_5_0 : w2.cell? ⟨w1.heap.size, 0, none⟩ = some (.int .u64 (wh D)) := by first | (rw [ha]; with_reducible assumption) | (simp (maxDischargeDepth := 7) [go_sem, ha]; done) | (rw [ha]; assumption) | (simp (maxDischargeDepth := 7) [go_sem, ha, *]; done)
  have hf2_5_1 : w2.cell? ⟨w1.heap.size, 1, none⟩ = some (.int .u64 (wl D)) := by first | (rw [ha]; with_reducible assumption) | (simp (maxDischargeDepth := 7) [go_sem, ha]; done) | (rw [ha]; assumption) | (simp (maxDischargeDepth := 7) [go_sem, ha, *]; done)
  try have hg2_5 : ∀ o, w2.frozen? ⟨w1.heap.size, o, none⟩ = false := by intro o; first | (simp (maxDischargeDepth := 7) [go_sem, hb]; done) | (rw [hb]; simp (maxDischargeDepth := 7) [go_sem, *]; done)
  clear ha hb
  try clear hf_c1_0_0
  try clear hf_c1_0_1
  try clear hf_c1_1_0
  try clear hf_c1_1_1
  try clear hf_c1_2_0
  try clear hf_c1_2_1
  try clear hf_c1_3_0
  try clear hf_c1_3_1
  try clear hf_c1_4_0
  try clear hf_c1_4_1
  try clear hf_c1_5_0
  try clear hf_c1_5_1
  try clear hg_c1_0
  try clear hg_c1_1
  try clear hg_c1_2
  try clear hg_c1_3
  try clear hg_c1_4
  try clear hg_c1_5
  cases g
  · have eb : Q + bi false = Q := Int.add_zero Q
    rw [eb] at HF
    clear eb
    go_wp2_with fail
    with_reducible refine (HF.out _).mono ?_
    rintro e w3 ⟨rfl, hk3⟩
    refine kuse (b := b1_0) hk3 (by first | (simp; done) | (simp; omega) | omega) ?_
    intro ha hb
    have hz3_0 : b1_0 < w3.heap.size := by have := hk3.size; (try simp at this); omega
    have hn3_0 : ¬ b1_0 = w3.heap.size := by omega
    have hm3_0 : ¬ w3.heap.size = b1_0 := by omega
    have hf3_0_0 : w3.cell? ⟨b1_0, 0, none⟩ = some (.int .u64 (wh Q)) := by first | (rw [ha]; with_reducible assumption) | (simp (maxDischargeDepth := 7) [go_sem, ha]; done) | (rw [ha]; assumption) | (simp (maxDischargeDepth := 7) [go_sem, ha, *]; done)
    have hf3_0_1 : w3.cell? ⟨b1_0, 1, none⟩ = some (.int .u64 (wl Q)) := by first | (rw [ha]; with_reducible assumption) | (simp (maxDischargeDepth := 7) [go_sem, ha]; done) | (rw [ha]; assumption) | (simp (maxDischargeDepth := 7) [go_sem, ha, *]; done)
    try have hg3_0 : ∀ o, w3.frozen? ⟨b1_0, o, none⟩ = false := by intro o; first | (simp (maxDischargeDepth := 7) [go_sem, hb]; done) | (rw [hb]; simp (maxDischargeDepth := 7) [go_sem, *]; done)
    clear ha hb
    refine kuse (b := b1_1) hk3 (by first | (simp; done) | (simp; omega) | omega) ?_
    intro ha hb
    have hz3_1 : b1_1 < w3.heap.size := by have := hk3.size; (try simp at this); omega
    have hn3_1 : ¬ b1_1 = w3.heap.size := by omega
    have hm3_1 : ¬ w3.heap.size = b1_1 := by omega
    have hf3_1_0 : w3.cell? ⟨b1_1, 0, none⟩ = some (.int .u64 (wh R)) := by first | (rw [ha]; with_reducible assumption) | (simp (maxDischargeDepth := 7) [go_sem, ha]; done) | (rw [ha]; assumption) | (simp (maxDischargeDepth := 7) [go_sem, ha, *]; done)
    have hf3_1_1 : w3.cell? ⟨b1_1, 1, none⟩ = some (.int .u64 (wl R)) := by first | (rw [ha]; with_reducible assumption) | (simp (maxDischargeDepth := 7) [go_sem, ha]; done) | (rw [ha]; assumption) | (simp (maxDischargeDepth := 7) [go_sem, ha, *]; done)
    try have hg3_1 : ∀ o, w3.frozen? ⟨b1_1, o, none⟩ = false := by intro o; first | (simp (maxDischargeDepth := 7) [go_sem, hb]; done) | (rw [hb]; simp (maxDischargeDepth := 7) [go_sem, *]; done)
    clear ha hb
    refine kuse (b := w.heap.size) hk3 (by first | (simp; done) | (simp; omega) | omega) ?_
    intro ha hb
    have hz3_2 : w.heap.size < w3.heap.size := by have := hk3.size; (try simp at this); omega
    have hn3_2 : ¬ w.heap.size = w3.heap.size := by omega
    have hm3_2 : ¬ w3.heap.size = w.heap.size := by omega
    have hf3_2_0 : w3.cell? ⟨w.heap.size, 0, none⟩ = some (.int .i64 A) := by first | (rw [ha]; with_reducible assumption) | (simp (maxDischargeDepth := 7) [go_sem, ha]; done) | (rw [ha]; assumption) | (simp (maxDischargeDepth := 7) [go_sem, ha, *]; done)
    have hf3_2_1 : w3.cell? ⟨w.heap.size, 1, none⟩ = some (.int .u64 a) := by first | (rw [ha]; with_reducible assumption) | (simp (maxDischargeDepth := 7) [go_sem, ha]; done) | (rw [ha]; assumption) | (simp (maxDischargeDepth := 7) [go_sem, ha, *]; done)
    try have hg3_2 : ∀ o, w3.frozen? ⟨w.heap.size, o, none⟩ = false := by intro o; first | (simp (maxDischargeDepth := 7) [go_sem, hb]; done) | (rw [hb]; simp (maxDischargeDepth := 7) [go_sem, *]; done)
    clear ha hb
    refine kuse (b := w.heap.size + 1) hk3 (by first | (simp; done) | (simp; omega) | omega) ?_
    intro ha hb
    have hz3_3 : w.heap.size + 1 < w3.heap.size := by have := hk3.size; (try simp at this); omega
    have hn3_3 : ¬ w.heap.size + 1 = w3.heap.size := by omega
    have hm3_3 : ¬ w3.heap.size = w.heap.size + 1 := by omega
    have hf3_3_0 : w3.cell? ⟨w.heap.size + 1, 0, none⟩ = some (.int .i64 B) := by first | (rw [ha]; with_reducible assumption) | (simp (maxDischargeDepth := 7) [go_sem, ha]; done) | (rw [ha]; assumption) | (simp (maxDischargeDepth := 7) [go_sem, ha, *]; done)
    have hf3_3_1 : w3.cell? ⟨w.heap.size + 1, 1, none⟩ = some (.int .u64 b) := by first | (rw [ha]; with_reducible assumption) | (simp (maxDischargeDepth := 7) [go_sem, ha]; done) | (rw [ha]; assumption) | (simp (maxDischargeDepth := 7) [go_sem, ha, *]; done)
    try have hg3_3 : ∀ o, w3.frozen? ⟨w.heap.size + 1, o, none⟩ = false := by intro o; first | (simp (maxDischargeDepth := 7) [go_sem, hb]; done) | (rw [hb]; simp (maxDischargeDepth := 7) [go_sem, *]; done)
    clear ha hb
    refine kuse (b := w.heap.size + 2) hk3 (by first | (simp; done) | (simp; omega) | omega) ?_
    intro ha hb
    have hz3_4 : w.heap.size + 2 < w3.heap.size := by have := hk3.size; (try simp at this); omega
    have hn3_4 : ¬ w.heap.size + 2 = w3.heap.size := by omega
    have hm3_4 : ¬ w3.heap.size = w.heap.size + 2 := by omega
    have hf3_4_0 : w3.cell? ⟨w.heap.size + 2, 0, none⟩ = some (.int .i64 0) := by first | (rw [ha]; with_reducible assumption) | (simp (maxDischargeDepth := 7) [go_sem, ha]; done) | (rw [ha]; assumption) | (simp (maxDischargeDepth := 7) [go_sem, ha, *]; done)
    have hf3_4_1 : w3.cell? ⟨w.heap.size + 2, 1, none⟩ = some (.int .u64 0) := by first | (rw [ha]; with_reducible assumption) | (simp (maxDischargeDepth := 7) [go_sem, ha]; done) | (rw [ha]; assumption) | (simp (maxDischargeDepth := 7) [go_sem, ha, *]; done)
    try have hg3_4 : ∀ o, w3.frozen? ⟨w.heap.size + 2, o, none⟩ = false := by intro o; first | (simp (maxDischargeDepth := 7) [go_sem, hb]; done) | (rw [hb]; simp (maxDischargeDepth := 7) [go_sem, *]; done)
    clear ha hb
    refine kuse (b := w1.heap.size) hk3 (by first | (simp; done) | (simp; omega) | omega) ?_
    intro ha hb
    have hz3_5 : w1.heap.size < w3.heap.size := by have := hk3.size; (try simp at this); omega
    have hn3_5 : ¬ w1.heap.size = w3.heap.size := by omega
    have hm3_5 : ¬ w3.heap.size = w1.heap.size := by omega
    have hf3_5_0 : w3.cell? ⟨w1.heap.size, 0, none⟩ = some (.int .u64 (wh D)) := by first | (rw [ha]; with_reducible assumption) | (simp (maxDischargeDepth := 7) [go_sem, ha]; done) | (rw [ha]; assumption) | (simp (maxDischargeDepth := 7) [go_sem, ha, *]; done)
    have hf3_5_1 : w3.cell? ⟨w1.heap.size, 1, none⟩ = some (.int .u64 (wl D)) := by first | (rw [ha]; with_reducible assumption) | (simp (maxDischargeDepth := 7) [go_sem, ha]; done) | (rw [ha]; assumption) | (simp (maxDischargeDepth := 7) [go_sem, ha, *]; done)
    try have hg3_5 : ∀ o, w3.frozen? ⟨w1.heap.size, o, none⟩ = false := by intro o; first | (simp (maxDischargeDepth := 7) [go_sem, hb]; done) | (rw [hb]; simp (maxDischargeDepth := 7) [go_sem, *]; done)
    clear ha hb
    try clear hf2_0_0
    try clear hf2_0_1
    try clear hf2_1_0
    try clear hf2_1_1
    try clear hf2_2_0
    try clear hf2_2_1
    try clear hf2_3_0
    try clear hf2_3_1
    try clear hf2_4_0
    try clear hf2_4_1
    try clear hf2_5_0
    try clear hf2_5_1
    try clear hg2_0
    try clear hg2_1
    try clear hg2_2
    try clear hg2_3
    try clear hg2_4
    try clear hg2_5
    try clear hz2_1
    try clear hz2_2
    try clear hz2_3
    try clear hz2_4
    try clear hz2_5
    go_wp2_with fail
    all_goals exact bodyPost_ret (v := .tuple #[.agg #[.int .i64 (wh (V)), .int .u64 (wl (V))], .bool O]) (by first | (simp [results, Try.results72, go_sem]; done) | (simp (maxDischargeDepth := 7) [results, Try.results72, go_sem, *]; done)) rfl ⟨rfl, (by repeat (first | with_reducible exact Kept.refl _ | with_reducible assumption | with_reducible refine Kept.setCell ?_ (by first | (simp; done) | (simp; omega) | omega) _ | with_reducible refine Kept.alloc ?_ _ | with_reducible refine Kept.drewN ?_ _ | with_reducible refine Kept.drew ?_ | with_reducible refine Kept.trans ?_ (by with_reducible assumption) | with_reducible refine Kept.dr ?_ (by with_reducible assumption)))⟩
  · have eb : Q + bi true = Q + 1 := rfl
    rw [eb] at HF
    clear eb
    have B0 : OwnB w2 (b1_0) [.int .u64 (wh Q), .int .u64 (wl Q)] := ⟨hz2_0, hg2_0, hf2_0_0, hf2_0_1, trivial⟩
    have HC2_0 := Lib.hid B0
    clear B0
    have B1 : OwnB w2 (b1_1) [.int .u64 (wh R), .int .u64 (wl R)] := ⟨hz2_1, hg2_1, hf2_1_0, hf2_1_1, trivial⟩
    have HC2_1 := Lib.hid B1
    clear B1
    have B2 : OwnB w2 (w.heap.size) [.int .i64 A, .int .u64 a] := ⟨hz2_2, hg2_2, hf2_2_0, hf2_2_1, trivial⟩
    have HC2_2 := Lib.hid B2
    clear B2
    have B3 : OwnB w2 (w.heap.size + 1) [.int .i64 B, .int .u64 b] := ⟨hz2_3, hg2_3, hf2_3_0, hf2_3_1, trivial⟩
    have HC2_3 := Lib.hid B3
    clear B3
    have B4 : OwnB w2 (w.heap.size + 2) [.int .i64 0, .int .u64 0] := ⟨hz2_4, hg2_4, hf2_4_0, hf2_4_1, trivial⟩
    have HC2_4 := Lib.hid B4
    clear B4
    have B5 : OwnB w2 (w1.heap.size) [.int .u64 (wh D), .int .u64 (wl D)] := ⟨hz2_5, hg2_5, hf2_5_0, hf2_5_1, trivial⟩
    have HC2_5 := Lib.hid B5
    clear B5
    go_upto_region 7 with (fail)
    go_cut [] (fun wx => OwnB wx (b1_0) [.int .u64 (wh (Q + 1)), .int .u64 (wl (Q + 1))] ∧ OwnB wx (b1_1) [.int .u64 (wh R), .int .u64 (wl R)] ∧ OwnB wx (w.heap.size) [.int .i64 A, .int .u64 a] ∧ OwnB wx (w.heap.size + 1) [.int .i64 B, .int .u64 b] ∧ OwnB wx (w.heap.size + 2) [.int .i64 0, .int .u64 0] ∧ OwnB wx (w1.heap.size) [.int .u64 (wh D), .int .u64 (wl D)] ∧ Kept w wx)
    case first =>
      go_region_with (first | (go_at_call 86; (first | with_reducible refine (MA.out _).mono ?_); rintro e w' ⟨rfl, hk⟩; have hz := hk.size; (try (refine kuse (b := b1_0) hk (by first | (simp; done) | (simp; omega) | omega) ?_; intro hq0 hg0; have hy0 : b1_0 < w'.heap.size := (by (try simp at hz); omega); have hn0 : ¬ b1_0 = w'.heap.size := (by omega); have hm0 : ¬ b1_0 = w'.heap.size + 1 := (by omega); refine withF (p := w'.cell? ⟨b1_0, 0, none⟩ = some (.int .u64 (wh Q))) (by first | (rw [hq0]; with_reducible assumption) | (simp (maxDischargeDepth := 7) [go_sem, hq0]; done) | (simp (maxDischargeDepth := 7) [go_sem, hq0, *]; done) | fail) ?_; intro ff00; refine withF (p := w'.cell? ⟨b1_0, 1, none⟩ = some (.int .u64 (wl Q))) (by first | (rw [hq0]; with_reducible assumption) | (simp (maxDischargeDepth := 7) [go_sem, hq0]; done) | (simp (maxDischargeDepth := 7) [go_sem, hq0, *]; done) | fail) ?_; intro ff01)); (try (refine kuse (b := b1_1) hk (by first | (simp; done) | (simp; omega) | omega) ?_; intro hq1 hg1; have hy1 : b1_1 < w'.heap.size := (by (try simp at hz); omega); have hn1 : ¬ b1_1 = w'.heap.size := (by omega); have hm1 : ¬ b1_1 = w'.heap.size + 1 := (by omega); refine withF (p := w'.cell? ⟨b1_1, 0, none⟩ = some (.int .u64 (wh R))) (by first | (rw [hq1]; with_reducible assumption) | (simp (maxDischargeDepth := 7) [go_sem, hq1]; done) | (simp (maxDischargeDepth := 7) [go_sem, hq1, *]; done) | fail) ?_; intro ff10; refine withF (p := w'.cell? ⟨b1_1, 1, none⟩ = some (.int .u64 (wl R))) (by first | (rw [hq1]; with_reducible assumption) | (simp (maxDischargeDepth := 7) [go_sem, hq1]; done) | (simp (maxDischargeDepth := 7) [go_sem, hq1, *]; done) | fail) ?_; intro ff11)); (try (refine kuse (b := w.heap.size) hk (by first | (simp; done) | (simp; omega) | omega) ?_; intro hq2 hg2; have hy2 : w.heap.size < w'.heap.size := (by (try simp at hz); omega); have hn2 : ¬ w.heap.size = w'.heap.size := (by omega); have hm2 : ¬ w.heap.size = w'.heap.size + 1 := (by omega); refine withF (p := w'.cell? ⟨w.heap.size, 0, none⟩ = some (.int .i64 A)) (by first | (rw [hq2]; with_reducible assumption) | (simp (maxDischargeDepth := 7) [go_sem, hq2]; done) | (simp (maxDischargeDepth := 7) [go_sem, hq2, *]; done) | fail) ?_; intro ff20; refine withF (p := w'.cell? ⟨w.heap.size, 1, none⟩ = some (.int .u64 a)) (by first | (rw [hq2]; with_reducible assumption) | (simp (maxDischargeDepth := 7) [go_sem, hq2]; done) | (simp (maxDischargeDepth := 7) [go_sem, hq2, *]; done) | fail) ?_; intro ff21)); (try (refine kuse (b := w.heap.size + 1) hk (by first | (simp; done) | (simp; omega) | omega) ?_; intro hq3 hg3; have hy3 : w.heap.size + 1 < w'.heap.size := (by (try simp at hz); omega); have hn3 : ¬ w.heap.size + 1 = w'.heap.size := (by omega); have hm3 : ¬ w.heap.size + 1 = w'.heap.size + 1 := (by omega); refine withF (p := w'.cell? ⟨w.heap.size + 1, 0, none⟩ = some (.int .i64 B)) (by first | (rw [hq3]; with_reducible assumption) | (simp (maxDischargeDepth := 7) [go_sem, hq3]; done) | (simp (maxDischargeDepth := 7) [go_sem, hq3, *]; done) | fail) ?_; intro ff30; refine withF (p := w'.cell? ⟨w.heap.size + 1, 1, none⟩ = some (.int .u64 b)) (by first | (rw [hq3]; with_reducible assumption) | (simp (maxDischargeDepth := 7) [go_sem, hq3]; done) | (simp (maxDischargeDepth := 7) [go_sem, hq3, *]; done) | fail) ?_; intro ff31)); (try (refine kuse (b := w.heap.size + 2) hk (by first | (simp; done) | (simp; omega) | omega) ?_; intro hq4 hg4; have hy4 : w.heap.size + 2 < w'.heap.size := (by (try simp at hz); omega); have hn4 : ¬ w.heap.size + 2 = w'.heap.size := (by omega); have hm4 : ¬ w.heap.size + 2 = w'.heap.size + 1 := (by omega); refine withF (p := w'.cell? ⟨w.heap.size + 2, 0, none⟩ = some (.int .i64 0)) (by first | (rw [hq4]; with_reducible assumption) | (simp (maxDischargeDepth := 7) [go_sem, hq4]; done) | (simp (maxDischargeDepth := 7) [go_sem, hq4, *]; done) | fail) ?_; intro ff40; refine withF (p := w'.cell? ⟨w.heap.size + 2, 1, none⟩ = some (.int .u64 0)) (by first | (rw [hq4]; with_reducible assumption) | (simp (maxDischargeDepth := 7) [go_sem, hq4]; done) | (simp (maxDischargeDepth := 7) [go_sem, hq4, *]; done) | fail) ?_; intro ff41)); (try (refine kuse (b := w1.heap.size) hk (by first | (simp; done) | (simp; omega) | omega) ?_; intro hq5 hg5; have hy5 : w1.heap.size < w'.heap.size := (by (try simp at hz); omega); have hn5 : ¬ w1.heap.size = w'.heap.size := (by omega); have hm5 : ¬ w1.heap.size = w'.heap.size + 1 := (by omega); refine withF (p := w'.cell? ⟨w1.heap.size, 0, none⟩ = some (.int .u64 (wh D))) (by first | (rw [hq5]; with_reducible assumption) | (simp (maxDischargeDepth := 7) [go_sem, hq5]; done) | (simp (maxDischargeDepth := 7) [go_sem, hq5, *]; done) | fail) ?_; intro ff50; refine withF (p := w'.cell? ⟨w1.heap.size, 1, none⟩ = some (.int .u64 (wl D))) (by first | (rw [hq5]; with_reducible assumption) | (simp (maxDischargeDepth := 7) [go_sem, hq5]; done) | (simp (maxDischargeDepth := 7) [go_sem, hq5, *]; done) | fail) ?_; intro ff51))) | (go_at_call 86; (first | with_reducible refine (MB.out _).mono ?_); rintro e w' ⟨rfl, hk⟩; have hz := hk.size; (try (refine kuse (b := b1_0) hk (by first | (simp; done) | (simp; omega) | omega) ?_; intro hq0 hg0; have hy0 : b1_0 < w'.heap.size := (by (try simp at hz); omega); have hn0 : ¬ b1_0 = w'.heap.size := (by omega); have hm0 : ¬ b1_0 = w'.heap.size + 1 := (by omega); refine withF (p := w'.cell? ⟨b1_0, 0, none⟩ = some (.int .u64 (wh Q))) (by first | (rw [hq0]; with_reducible assumption) | (simp (maxDischargeDepth := 7) [go_sem, hq0]; done) | (simp (maxDischargeDepth := 7) [go_sem, hq0, *]; done) | fail) ?_; intro ff00; refine withF (p := w'.cell? ⟨b1_0, 1, none⟩ = some (.int .u64 (wl Q))) (by first | (rw [hq0]; with_reducible assumption) | (simp (maxDischargeDepth := 7) [go_sem, hq0]; done) | (simp (maxDischargeDepth := 7) [go_sem, hq0, *]; done) | fail) ?_; intro ff01)); (try (refine kuse (b := b1_1) hk (by first | (simp; done) | (simp; omega) | omega) ?_; intro hq1 hg1; have hy1 : b1_1 < w'.heap.size := (by (try simp at hz); omega); have hn1 : ¬ b1_1 = w'.heap.size := (by omega); have hm1 : ¬ b1_1 = w'.heap.size + 1 := (by omega); refine withF (p := w'.cell? ⟨b1_1, 0, none⟩ = some (.int .u64 (wh R))) (by first | (rw [hq1]; with_reducible assumption) | (simp (maxDischargeDepth := 7) [go_sem, hq1]; done) | (simp (maxDischargeDepth := 7) [go_sem, hq1, *]; done) | fail) ?_; intro ff10; refine withF (p := w'.cell? ⟨b1_1, 1, none⟩ = some (.int .u64 (wl R))) (by first | (rw [hq1]; with_reducible assumption) | (simp (maxDischargeDepth := 7) [go_sem, hq1]; done) | (simp (maxDischargeDepth := 7) [go_sem, hq1, *]; done) | fail) ?_; intro ff11)); (try (refine kuse (b := w.heap.size) hk (by first | (simp; done) | (simp; omega) | omega) ?_; intro hq2 hg2; have hy2 : w.heap.size < w'.heap.size := (by (try simp at hz); omega); have hn2 : ¬ w.heap.size = w'.heap.size := (by omega); have hm2 : ¬ w.heap.size = w'.heap.size + 1 := (by omega); refine withF (p := w'.cell? ⟨w.heap.size, 0, none⟩ = some (.int .i64 A)) (by first | (rw [hq2]; with_reducible assumption) | (simp (maxDischargeDepth := 7) [go_sem, hq2]; done) | (simp (maxDischargeDepth := 7) [go_sem, hq2, *]; done) | fail) ?_; intro ff20; refine withF (p := w'.cell? ⟨w.heap.size, 1, none⟩ = some (.int .u64 a)) (by first | (rw [hq2]; with_reducible assumption) | (simp (maxDischargeDepth := 7) [go_sem, hq2]; done) | (simp (maxDischargeDepth := 7) [go_sem, hq2, *]; done) | fail) ?_; intro ff21)); (try (refine kuse (b := w.heap.size + 1) hk (by first | (simp; done) | (simp; omega) | omega) ?_; intro hq3 hg3; have hy3 : w.heap.size + 1 < w'.heap.size := (by (try simp at hz); omega); have hn3 : ¬ w.heap.size + 1 = w'.heap.size := (by omega); have hm3 : ¬ w.heap.size + 1 = w'.heap.size + 1 := (by omega); refine withF (p := w'.cell? ⟨w.heap.size + 1, 0, none⟩ = some (.int .i64 B)) (by first | (rw [hq3]; with_reducible assumption) | (simp (maxDischargeDepth := 7) [go_sem, hq3]; done) | (simp (maxDischargeDepth := 7) [go_sem, hq3, *]; done) | fail) ?_; intro ff30; refine withF (p := w'.cell? ⟨w.heap.size + 1, 1, none⟩ = some (.int .u64 b)) (by first | (rw [hq3]; with_reducible assumption) | (simp (maxDischargeDepth := 7) [go_sem, hq3]; done) | (simp (maxDischargeDepth := 7) [go_sem, hq3, *]; done) | fail) ?_; intro ff31)); (try (refine kuse (b := w.heap.size + 2) hk (by first | (simp; done) | (simp; omega) | omega) ?_; intro hq4 hg4; have hy4 : w.heap.size + 2 < w'.heap.size := (by (try simp at hz); omega); have hn4 : ¬ w.heap.size + 2 = w'.heap.size := (by omega); have hm4 : ¬ w.heap.size + 2 = w'.heap.size + 1 := (by omega); refine withF (p := w'.cell? ⟨w.heap.size + 2, 0, none⟩ = some (.int .i64 0)) (by first | (rw [hq4]; with_reducible assumption) | (simp (maxDischargeDepth := 7) [go_sem, hq4]; done) | (simp (maxDischargeDepth := 7) [go_sem, hq4, *]; done) | fail) ?_; intro ff40; refine withF (p := w'.cell? ⟨w.heap.size + 2, 1, none⟩ = some (.int .u64 0)) (by first | (rw [hq4]; with_reducible assumption) | (simp (maxDischargeDepth := 7) [go_sem, hq4]; done) | (simp (maxDischargeDepth := 7) [go_sem, hq4, *]; done) | fail) ?_; intro ff41)); (try (refine kuse (b := w1.heap.size) hk (by first | (simp; done) | (simp; omega) | omega) ?_; intro hq5 hg5; have hy5 : w1.heap.size < w'.heap.size := (by (try simp at hz); omega); have hn5 : ¬ w1.heap.size = w'.heap.size := (by omega); have hm5 : ¬ w1.heap.size = w'.heap.size + 1 := (by omega); refine withF (p := w'.cell? ⟨w1.heap.size, 0, none⟩ = some (.int .u64 (wh D))) (by first | (rw [hq5]; with_reducible assumption) | (simp (maxDischargeDepth := 7) [go_sem, hq5]; done) | (simp (maxDischargeDepth := 7) [go_sem, hq5, *]; done) | fail) ?_; intro ff50; refine withF (p := w'.cell? ⟨w1.heap.size, 1, none⟩ = some (.int .u64 (wl D))) (by first | (rw [hq5]; with_reducible assumption) | (simp (maxDischargeDepth := 7) [go_sem, hq5]; done) | (simp (maxDischargeDepth := 7) [go_sem, hq5, *]; done) | fail) ?_; intro ff51))))
      all_goals (try go_wp2_with fail)
      all_goals (go_meet; case rel => exact ⟨(by repeat (first | with_reducible exact HC2_0.out | with_reducible refine own_set2 (us := [.int .u64 (wh Q), .int .u64 (wl Q)]) ?_ rfl | with_reducible refine OwnB.other2 ?_ (by first | with_reducible assumption | omega | (simp; done) | (simp; omega)) | with_reducible refine OwnB.drew ?_ | with_reducible refine OwnB.drewN ?_ _ | with_reducible refine OwnB.kept (by with_reducible assumption) ?_)), (by repeat (first | with_reducible exact HC2_1.out | with_reducible refine OwnB.other2 ?_ (by first | with_reducible assumption | omega | (simp; done) | (simp; omega)) | with_reducible refine OwnB.drew ?_ | with_reducible refine OwnB.drewN ?_ _ | with_reducible refine OwnB.kept (by with_reducible assumption) ?_)), (by repeat (first | with_reducible exact HC2_2.out | with_reducible refine OwnB.other2 ?_ (by first | with_reducible assumption | omega | (simp; done) | (simp; omega)) | with_reducible refine OwnB.drew ?_ | with_reducible refine OwnB.drewN ?_ _ | with_reducible refine OwnB.kept (by with_reducible assumption) ?_)), (by repeat (first | with_reducible exact HC2_3.out | with_reducible refine OwnB.other2 ?_ (by first | with_reducible assumption | omega | (simp; done) | (simp; omega)) | with_reducible refine OwnB.drew ?_ | with_reducible refine OwnB.drewN ?_ _ | with_reducible refine OwnB.kept (by with_reducible assumption) ?_)), (by repeat (first | with_reducible exact HC2_4.out | with_reducible refine OwnB.other2 ?_ (by first | with_reducible assumption | omega | (simp; done) | (simp; omega)) | with_reducible refine OwnB.drew ?_ | with_reducible refine OwnB.drewN ?_ _ | with_reducible refine OwnB.kept (by with_reducible assumption) ?_)), (by repeat (first | with_reducible exact HC2_5.out | with_reducible refine OwnB.other2 ?_ (by first | with_reducible assumption | omega | (simp; done) | (simp; omega)) | with_reducible refine OwnB.drew ?_ | with_reducible refine OwnB.drewN ?_ _ | with_reducible refine OwnB.kept (by with_reducible assumption) ?_)), (by repeat (first | with_reducible exact Kept.refl _ | with_reducible assumption | with_reducible refine Kept.setCell ?_ (by first | (simp; done) | (simp; omega) | omega) _ | with_reducible refine Kept.alloc ?_ _ | with_reducible refine Kept.drewN ?_ _ | with_reducible refine Kept.drew ?_ | with_reducible refine Kept.trans ?_ (by with_reducible assumption) | with_reducible refine Kept.dr ?_ (by with_reducible assumption)))⟩)
    case rest =>
    obtain ⟨O2_0, O2_1, O2_2, O2_3, O2_4, O2_5, hkc2⟩ := hcut
    obtain ⟨hz_c2_0, hg_c2_0, hf_c2_0_0, hf_c2_0_1, _⟩ := O2_0
    obtain ⟨hz_c2_1, hg_c2_1, hf_c2_1_0, hf_c2_1_1, _⟩ := O2_1
    obtain ⟨hz_c2_2, hg_c2_2, hf_c2_2_0, hf_c2_2_1, _⟩ := O2_2
    obtain ⟨hz_c2_3, hg_c2_3, hf_c2_3_0, hf_c2_3_1, _⟩ := O2_3
    obtain ⟨hz_c2_4, hg_c2_4, hf_c2_4_0, hf_c2_4_1, _⟩ := O2_4
    obtain ⟨hz_c2_5, hg_c2_5, hf_c2_5_0, hf_c2_5_1, _⟩ := O2_5
    try clear hf2_0_0
    try clear hf2_0_1
    try clear hf2_1_0
    try clear hf2_1_1
    try clear hf2_2_0
    try clear hf2_2_1
    try clear hf2_3_0
    try clear hf2_3_1
    try clear hf2_4_0
    try clear hf2_4_1
    try clear hf2_5_0
    try clear hf2_5_1
    try clear hg2_0
    try clear hg2_1
    try clear hg2_2
    try clear hg2_3
    try clear hg2_4
    try clear hg2_5
    try clear hz2_1
    try clear hz2_2
    try clear hz2_3
    try clear hz2_4
    try clear hz2_5
    go_wp2_with fail
    with_reducible refine (HF.out _).mono ?_
    rintro e w3 ⟨rfl, hk3⟩
    refine kuse (b := b1_0) hk3 (by first | (simp; done) | (simp; omega) | omega) ?_
    intro ha hb
    have hz3_0 : b1_0 < w3.heap.size := by have := hk3.size; (try simp at this); omega
    have hn3_0 : ¬ b1_0 = w3.heap.size := by omega
    have hm3_0 : ¬ w3.heap.size = b1_0 := by omega
    have hf3_0_0 : w3.cell? ⟨b1_0, 0, none⟩ = some (.int .u64 (wh (Q + 1))) := by first | (rw [ha]; with_reducible assumption) | (simp (maxDischargeDepth := 7) [go_sem, ha]; done) | (rw [ha]; assumption) | (simp (maxDischargeDepth := 7) [go_sem, ha, *]; done)
    have hf3_0_1 : w3.cell? ⟨b1_0, 1, none⟩ = some (.int .u64 (wl (Q + 1))) := by first | (rw [ha]; with_reducible assumption) | (simp (maxDischargeDepth := 7) [go_sem, ha]; done) | (rw [ha]; assumption) | (simp (maxDischargeDepth := 7) [go_sem, ha, *]; done)
    try have hg3_0 : ∀ o, w3.frozen? ⟨b1_0, o, none⟩ = false := by intro o; first | (simp (maxDischargeDepth := 7) [go_sem, hb]; done) | (rw [hb]; simp (maxDischargeDepth := 7) [go_sem, *]; done)
    clear ha hb
    refine kuse (b := b1_1) hk3 (by first | (simp; done) | (simp; omega) | omega) ?_
    intro ha hb
    have hz3_1 : b1_1 < w3.heap.size := by have := hk3.size; (try simp at this); omega
    have hn3_1 : ¬ b1_1 = w3.heap.size := by omega
    have hm3_1 : ¬ w3.heap.size = b1_1 := by omega
    have hf3_1_0 : w3.cell? ⟨b1_1, 0, none⟩ = some (.int .u64 (wh R)) := by first | (rw [ha]; with_reducible assumption) | (simp (maxDischargeDepth := 7) [go_sem, ha]; done) | (rw [ha]; assumption) | (simp (maxDischargeDepth := 7) [go_sem, ha, *]; done)
    have hf3_1_1 : w3.cell? ⟨b1_1, 1, none⟩ = some (.int .u64 (wl R)) := by first | (rw [ha]; with_reducible assumption) | (simp (maxDischargeDepth := 7) [go_sem, ha]; done) | (rw [ha]; assumption) | (simp (maxDischargeDepth := 7) [go_sem, ha, *]; done)
    try have hg3_1 : ∀ o, w3.frozen? ⟨b1_1, o, none⟩ = false := by intro o; first | (simp (maxDischargeDepth := 7) [go_sem, hb]; done) | (rw [hb]; simp (maxDischargeDepth := 7) [go_sem, *]; done)
    clear ha hb
    refine kuse (b := w.heap.size) hk3 (by first | (simp; done) | (simp; omega) | omega) ?_
    intro ha hb
    have hz3_2 : w.heap.size < w3.heap.size := by have := hk3.size; (try simp at this); omega
    have hn3_2 : ¬ w.heap.size = w3.heap.size := by omega
    have hm3_2 : ¬ w3.heap.size = w.heap.size := by omega
    have hf3_2_0 : w3.cell? ⟨w.heap.size, 0, none⟩ = some (.int .i64 A) := by first | (rw [ha]; with_reducible assumption) | (simp (maxDischargeDepth := 7) [go_sem, ha]; done) | (rw [ha]; assumption) | (simp (maxDischargeDepth := 7) [go_sem, ha, *]; done)
    have hf3_2_1 : w3.cell? ⟨w.heap.size, 1, none⟩ = some (.int .u64 a) := by first | (rw [ha]; with_reducible assumption) | (simp (maxDischargeDepth := 7) [go_sem, ha]; done) | (rw [ha]; assumption) | (simp (maxDischargeDepth := 7) [go_sem, ha, *]; done)
    try have hg3_2 : ∀ o, w3.frozen? ⟨w.heap.size, o, none⟩ = false := by intro o; first | (simp (maxDischargeDepth := 7) [go_sem, hb]; done) | (rw [hb]; simp (maxDischargeDepth := 7) [go_sem, *]; done)
    clear ha hb
    refine kuse (b := w.heap.size + 1) hk3 (by first | (simp; done) | (simp; omega) | omega) ?_
    intro ha hb
    have hz3_3 : w.heap.size + 1 < w3.heap.size := by have := hk3.size; (try simp at this); omega
    have hn3_3 : ¬ w.heap.size + 1 = w3.heap.size := by omega
    have hm3_3 : ¬ w3.heap.size = w.heap.size + 1 := by omega
    have hf3_3_0 : w3.cell? ⟨w.heap.size + 1, 0, none⟩ = some (.int .i64 B) := by first | (rw [ha]; with_reducible assumption) | (simp (maxDischargeDepth := 7) [go_sem, ha]; done) | (rw [ha]; assumption) | (simp (maxDischargeDepth := 7) [go_sem, ha, *]; done)
    have hf3_3_1 : w3.cell? ⟨w.heap.size + 1, 1, none⟩ = some (.int .u64 b) := by first | (rw [ha]; with_reducible assumption) | (simp (maxDischargeDepth := 7) [go_sem, ha]; done) | (rw [ha]; assumption) | (simp (maxDischargeDepth := 7) [go_sem, ha, *]; done)
    try have hg3_3 : ∀ o, w3.frozen? ⟨w.heap.size + 1, o, none⟩ = false := by intro o; first | (simp (maxDischargeDepth := 7) [go_sem, hb]; done) | (rw [hb]; simp (maxDischargeDepth := 7) [go_sem, *]; done)
    clear ha hb
    refine kuse (b := w.heap.size + 2) hk3 (by first | (simp; done) | (simp; omega) | omega) ?_
    intro ha hb
    have hz3_4 : w.heap.size + 2 < w3.heap.size := by have := hk3.size; (try simp at this); omega
    have hn3_4 : ¬ w.heap.size + 2 = w3.heap.size := by omega
    have hm3_4 : ¬ w3.heap.size = w.heap.size + 2 := by omega
    have hf3_4_0 : w3.cell? ⟨w.heap.size + 2, 0, none⟩ = some (.int .i64 0) := by first | (rw [ha]; with_reducible assumption) | (simp (maxDischargeDepth := 7) [go_sem, ha]; done) | (rw [ha]; assumption) | (simp (maxDischargeDepth := 7) [go_sem, ha, *]; done)
    have hf3_4_1 : w3.cell? ⟨w.heap.size + 2, 1, none⟩ = some (.int .u64 0) := by first | (rw [ha]; with_reducible assumption) | (simp (maxDischargeDepth := 7) [go_sem, ha]; done) | (rw [ha]; assumption) | (simp (maxDischargeDepth := 7) [go_sem, ha, *]; done)
    try have hg3_4 : ∀ o, w3.frozen? ⟨w.heap.size + 2, o, none⟩ = false := by intro o; first | (simp (maxDischargeDepth := 7) [go_sem, hb]; done) | (rw [hb]; simp (maxDischargeDepth := 7) [go_sem, *]; done)
    clear ha hb
    refine kuse (b := w1.heap.size) hk3 (by first | (simp; done) | (simp; omega) | omega) ?_
    intro ha hb
    have hz3_5 : w1.heap.size < w3.heap.size := by have := hk3.size; (try simp at this); omega
    have hn3_5 : ¬ w1.heap.size = w3.heap.size := by omega
    have hm3_5 : ¬ w3.heap.size = w1.heap.size := by omega
    have hf3_5_0 : w3.cell? ⟨w1.heap.size, 0, none⟩ = some (.int .u64 (wh D)) := by first | (rw [ha]; with_reducible assumption) | (simp (maxDischargeDepth := 7) [go_sem, ha]; done) | (rw [ha]; assumption) | (simp (maxDischargeDepth := 7) [go_sem, ha, *]; done)
    have hf3_5_1 : w3.cell? ⟨w1.heap.size, 1, none⟩ = some (.int .u64 (wl D)) := by first | (rw [ha]; with_reducible assumption) | (simp (maxDischargeDepth := 7) [go_sem, ha]; done) | (rw [ha]; assumption) | (simp (maxDischargeDepth := 7) [go_sem, ha, *]; done)
    try have hg3_5 : ∀ o, w3.frozen? ⟨w1.heap.size, o, none⟩ = false := by intro o; first | (simp (maxDischargeDepth := 7) [go_sem, hb]; done) | (rw [hb]; simp (maxDischargeDepth := 7) [go_sem, *]; done)
    clear ha hb
    try clear hf_c2_0_0
    try clear hf_c2_0_1
    try clear hf_c2_1_0
    try clear hf_c2_1_1
    try clear hf_c2_2_0
    try clear hf_c2_2_1
    try clear hf_c2_3_0
    try clear hf_c2_3_1
    try clear hf_c2_4_0
    try clear hf_c2_4_1
    try clear hf_c2_5_0
    try clear hf_c2_5_1
    try clear hg_c2_0
    try clear hg_c2_1
    try clear hg_c2_2
    try clear hg_c2_3
    try clear hg_c2_4
    try clear hg_c2_5
    go_wp2_with fail
    all_goals exact bodyPost_ret (v := .tuple #[.agg #[.int .i64 (wh (V)), .int .u64 (wl (V))], .bool O]) (by first | (simp [results, Try.results72, go_sem]; done) | (simp (maxDischargeDepth := 7) [results, Try.results72, go_sem, *]; done)) rfl ⟨rfl, (by repeat (first | with_reducible exact Kept.refl _ | with_reducible assumption | with_reducible refine Kept.setCell ?_ (by first | (simp; done) | (simp; omega) | omega) _ | with_reducible refine Kept.alloc ?_ _ | with_reducible refine Kept.drewN ?_ _ | with_reducible refine Kept.drew ?_ | with_reducible refine Kept.trans ?_ (by with_reducible assumption) | with_reducible refine Kept.dr ?_ (by with_reducible assumption)))⟩
set_option maxHeartbeats 2000000 in
set_option maxRecDepth 100000 in
theorem quotient_DivUp (u v : Int) (u0 : -170141183460469231731687303715884105728 ≤ u) (u1 : u < 170141183460469231731687303715884105728) (v0 : -170141183460469231731687303715884105728 ≤ v) (v1 : v < 170141183460469231731687303715884105728) (hv : v ≠ 0) (N : Bool) (hn : wqn u v = N) (hr : wmag u % wmag v ≠ 0) (g : Bool) (HG : ∀ w, Calls Try.prog 74 #[.agg #[.int .u64 (wh (wmag u % wmag v)), .int .u64 (wl (wmag u % wmag v))], .agg #[.int .u64 (wh (wmag v)), .int .u64 (wl (wmag v))], .bool N] w fun e w' => e = .returned (.bool g) ∧ Kept w w') (w : World) : Calls Try.prog 72 #[.agg #[.int .i64 (wh (u)), .int .u64 (wl (u))], .agg #[.int .i64 (wh (v)), .int .u64 (wl (v))], .func (.func 74) #[] #[]] w fun e w' => e = .returned (.tuple #[.agg #[.int .i64 (wh (wval (sgd N (wmag u / wmag v + bi g)))), .int .u64 (wl (wval (sgd N (wmag u / wmag v + bi g))))], .bool (wfit (sgd N (wmag u / wmag v + bi g)))]) ∧ Kept w w' := by
  obtain ⟨eu, a0, a1⟩ := wv u
  obtain ⟨ev, b0, b1⟩ := wv v
  have n0 := nz_words v hv
  have n0' := nz_words2 v hv
  have A0 : -9223372036854775808 ≤ wh u := (by unfold wh; omega)
  have A1 : wh u ≤ 9223372036854775807 := (by unfold wh; omega)
  have B0 : -9223372036854775808 ≤ wh v := (by unfold wh; omega)
  have B1 : wh v ≤ 9223372036854775807 := (by unfold wh; omega)
  have HSu := Lib.hid (size_w u u0 u1)
  have HSv := Lib.hid (size_w v v0 v1)
  obtain ⟨m0, m1⟩ := wmag_bd u u0 u1
  obtain ⟨d0', d1⟩ := wmag_bd v v0 v1
  have d0 : 0 < wmag v := by unfold wmag; split <;> omega
  have HDv := Lib.hid (divide_w (wmag u) (wmag v) m0 (by omega) d0' (by omega) d0)
  have q0 : 0 ≤ wmag u / wmag v := Int.ediv_nonneg m0 d0'
  have q1 : wmag u / wmag v ≤ 170141183460469231731687303715884105728 := by
    have := Int.ediv_le_self (a := wmag u) (wmag v) m0
    omega
  have hN : (!(decide (wh u < 0) == decide (wh v < 0))) = N := by
    rw [← hn]; unfold wqn
    have x1 : decide (wh u < 0) = decide (u < 0) := by rw [decide_eq_decide]; unfold wh; omega
    have x2 : decide (wh v < 0) = decide (v < 0) := by rw [decide_eq_decide]; unfold wh; omega
    rw [x1, x2]; rfl
  generalize wmag u / wmag v = Q at *
  obtain ⟨R, hR⟩ : ∃ R, wmag u % wmag v = R := ⟨_, rfl⟩
  rw [hR] at HDv hr HG
  have n1 := nz_words R hr
  have n2 := nz_words2 R hr
  have HG' := Lib.hid HG
  clear HG hR
  have gb : 0 ≤ bi g ∧ bi g ≤ 1 := by unfold bi; cases g <;> decide
  have HF := Lib.hid (signed_w (Q + bi g) (by omega) (by omega) N)
  obtain ⟨V, hV⟩ : ∃ V, wval (sgd N (Q + bi g)) = V := ⟨_, rfl⟩
  obtain ⟨O, hO⟩ : ∃ O, wfit (sgd N (Q + bi g)) = O := ⟨_, rfl⟩
  rw [hV, hO] at HF
  rw [hV, hO]
  clear hV hO
  obtain ⟨M1, hM1⟩ : ∃ z : Int, 340282366920938463463374607431768211455 = z := ⟨_, rfl⟩
  have eM := wv M1
  have M10 : 0 ≤ wh M1 := (by unfold wh; omega)
  have M11 : wh M1 ≤ 18446744073709551615 := (by unfold wh; omega)
  obtain ⟨eM, M12, M13⟩ := eM
  have eQ := wv Q
  obtain ⟨eQ, Q2, Q3⟩ := eQ
  have Q0' : 0 ≤ wh Q := (by unfold wh; omega)
  have Q1' : wh Q ≤ 18446744073709551615 := (by unfold wh; omega)
  have MA := Lib.hid (minus_c 0 0 0 1 M1 (by omega) (by omega) (by omega) (by omega) (by omega) (by omega) (by omega) (by omega) (by rw [← hM1]; decide))
  have MB := Lib.hid (minus_c (wh Q) (wl Q) (wh M1) (wl M1) (Q + 1) Q0' Q1' Q2 Q3 M10 M11 M12 M13 (by omega))
  clear eM eQ hM1 gb
  generalize hD : wmag v = D at *
  generalize hM : wmag u = M at *
  generalize wh u = A at *; generalize wl u = a at *; generalize hvB : wh v = B at *; generalize hvb : wl v = b at *
  clear eu ev hvB hvb hn hD hM u0 u1 v0 v1 hv n0'
  have eqzfW : ∀ w, (Op.equalIn 10000 45 (.agg #[.int .i64 (B), .int .u64 (b)]) (.agg #[.int .i64 0, .int .u64 0])).run Try.prog w = .ok false w := fun w => by rw [eqW, n0]
  clear n0
  have eqzfM : ∀ w, (Op.equalIn 10000 71 (.agg #[.int .u64 (wh R), .int .u64 (wl R)]) (.agg #[.int .u64 0, .int .u64 0])).run Try.prog w = .ok false w := fun w => by rw [eqM, n1]
  clear n1 n2
  go_enter Try.func72, Try.ntmps72
  go_wp2_with fail
  with_reducible refine (HSv.out _).mono ?_
  rintro e w1 ⟨rfl, hk1⟩
  refine kuse (b := w.heap.size) hk1 (by first | (simp; done) | (simp; omega) | omega) ?_
  intro ha hb
  have hz1_0 : w.heap.size < w1.heap.size := by have := hk1.size; (try simp at this); omega
  have hn1_0 : ¬ w.heap.size = w1.heap.size := by omega
  have hm1_0 : ¬ w1.heap.size = w.heap.size := by omega
  have hf1_0_0 : w1.cell? ⟨w.heap.size, 0, none⟩ = some (.int .i64 A) := by first | (rw [ha]; with_reducible assumption) | (simp (maxDischargeDepth := 7) [go_sem, ha]; done) | (rw [ha]; assumption) | (simp (maxDischargeDepth := 7) [go_sem, ha, *]; done)
  have hf1_0_1 : w1.cell? ⟨w.heap.size, 1, none⟩ = some (.int .u64 a) := by first | (rw [ha]; with_reducible assumption) | (simp (maxDischargeDepth := 7) [go_sem, ha]; done) | (rw [ha]; assumption) | (simp (maxDischargeDepth := 7) [go_sem, ha, *]; done)
  try have hg1_0 : ∀ o, w1.frozen? ⟨w.heap.size, o, none⟩ = false := by intro o; first | (simp (maxDischargeDepth := 7) [go_sem, hb]; done) | (rw [hb]; simp (maxDischargeDepth := 7) [go_sem, *]; done)
  clear ha hb
  refine kuse (b := w.heap.size + 1) hk1 (by first | (simp; done) | (simp; omega) | omega) ?_
  intro ha hb
  have hz1_1 : w.heap.size + 1 < w1.heap.size := by have := hk1.size; (try simp at this); omega
  have hn1_1 : ¬ w.heap.size + 1 = w1.heap.size := by omega
  have hm1_1 : ¬ w1.heap.size = w.heap.size + 1 := by omega
  have hf1_1_0 : w1.cell? ⟨w.heap.size + 1, 0, none⟩ = some (.int .i64 B) := by first | (rw [ha]; with_reducible assumption) | (simp (maxDischargeDepth := 7) [go_sem, ha]; done) | (rw [ha]; assumption) | (simp (maxDischargeDepth := 7) [go_sem, ha, *]; done)
  have hf1_1_1 : w1.cell? ⟨w.heap.size + 1, 1, none⟩ = some (.int .u64 b) := by first | (rw [ha]; with_reducible assumption) | (simp (maxDischargeDepth := 7) [go_sem, ha]; done) | (rw [ha]; assumption) | (simp (maxDischargeDepth := 7) [go_sem, ha, *]; done)
  try have hg1_1 : ∀ o, w1.frozen? ⟨w.heap.size + 1, o, none⟩ = false := by intro o; first | (simp (maxDischargeDepth := 7) [go_sem, hb]; done) | (rw [hb]; simp (maxDischargeDepth := 7) [go_sem, *]; done)
  clear ha hb
  refine kuse (b := w.heap.size + 2) hk1 (by first | (simp; done) | (simp; omega) | omega) ?_
  intro ha hb
  have hz1_2 : w.heap.size + 2 < w1.heap.size := by have := hk1.size; (try simp at this); omega
  have hn1_2 : ¬ w.heap.size + 2 = w1.heap.size := by omega
  have hm1_2 : ¬ w1.heap.size = w.heap.size + 2 := by omega
  have hf1_2_0 : w1.cell? ⟨w.heap.size + 2, 0, none⟩ = some (.int .i64 0) := by first | (rw [ha]; with_reducible assumption) | (simp (maxDischargeDepth := 7) [go_sem, ha]; done) | (rw [ha]; assumption) | (simp (maxDischargeDepth := 7) [go_sem, ha, *]; done)
  have hf1_2_1 : w1.cell? ⟨w.heap.size + 2, 1, none⟩ = some (.int .u64 0) := by first | (rw [ha]; with_reducible assumption) | (simp (maxDischargeDepth := 7) [go_sem, ha]; done) | (rw [ha]; assumption) | (simp (maxDischargeDepth := 7) [go_sem, ha, *]; done)
  try have hg1_2 : ∀ o, w1.frozen? ⟨w.heap.size + 2, o, none⟩ = false := by intro o; first | (simp (maxDischargeDepth := 7) [go_sem, hb]; done) | (rw [hb]; simp (maxDischargeDepth := 7) [go_sem, *]; done)
  clear ha hb
  go_wp2_with fail
  have B0 : OwnB (w1.alloc (.cells #[.int .u64 (wh D), .int .u64 (wl D)] 71)) (w.heap.size) [.int .i64 A, .int .u64 a] := OwnB.alloc (show OwnB w1 (w.heap.size) [.int .i64 A, .int .u64 a] from ⟨hz1_0, hg1_0, hf1_0_0, hf1_0_1, trivial⟩) _
  have HB0_0 := Lib.hid B0
  clear B0
  have B1 : OwnB (w1.alloc (.cells #[.int .u64 (wh D), .int .u64 (wl D)] 71)) (w.heap.size + 1) [.int .i64 B, .int .u64 b] := OwnB.alloc (show OwnB w1 (w.heap.size + 1) [.int .i64 B, .int .u64 b] from ⟨hz1_1, hg1_1, hf1_1_0, hf1_1_1, trivial⟩) _
  have HB0_1 := Lib.hid B1
  clear B1
  have B2 : OwnB (w1.alloc (.cells #[.int .u64 (wh D), .int .u64 (wl D)] 71)) (w.heap.size + 2) [.int .i64 0, .int .u64 0] := OwnB.alloc (show OwnB w1 (w.heap.size + 2) [.int .i64 0, .int .u64 0] from ⟨hz1_2, hg1_2, hf1_2_0, hf1_2_1, trivial⟩) _
  have HB0_2 := Lib.hid B2
  clear B2
  have B3 : OwnB (w1.alloc (.cells #[.int .u64 (wh D), .int .u64 (wl D)] 71)) (w1.heap.size) [.int .u64 (wh D), .int .u64 (wl D)] := own_alloc _ [.int .u64 (wh D), .int .u64 (wl D)] 71
  have HB0_3 := Lib.hid B3
  clear B3
  go_upto_region 5 with (fail)
  go_cut [10, 11] (fun p0 p1 wx => ∃ b0 b1 : Nat, p0 = .pointer (some ⟨b0, 0, none⟩) ∧ p1 = .pointer (some ⟨b1, 0, none⟩) ∧ w1.heap.size < b0 ∧ w1.heap.size < b1 ∧ b1 ≠ b0 ∧ OwnB wx (b0) [.int .u64 (wh Q), .int .u64 (wl Q)] ∧ OwnB wx (b1) [.int .u64 (wh R), .int .u64 (wl R)] ∧ OwnB wx (w.heap.size) [.int .i64 A, .int .u64 a] ∧ OwnB wx (w.heap.size + 1) [.int .i64 B, .int .u64 b] ∧ OwnB wx (w.heap.size + 2) [.int .i64 0, .int .u64 0] ∧ OwnB wx (w1.heap.size) [.int .u64 (wh D), .int .u64 (wl D)] ∧ Kept (w1.alloc (.cells #[.int .u64 (wh D), .int .u64 (wl D)] 71)) wx)
  case first =>
    go_region_held3 (fun W => W.cell? ⟨w.heap.size, 0, none⟩ = some (.int .i64 A) ∧ W.cell? ⟨w.heap.size, 1, none⟩ = some (.int .u64 a) ∧ W.cell? ⟨w1.heap.size, 0, none⟩ = some (.int .u64 (wh D)) ∧ W.cell? ⟨w1.heap.size, 1, none⟩ = some (.int .u64 (wl D))) (first | (go_keep; done) | (simp (maxDischargeDepth := 9) [*, World.cell?_alloc_some, World.cell?_setCell_far]; done) | (simp (maxDischargeDepth := 9) [go_sem, *]; done)) (first | (go_at_call 76; (with_reducible refine (HSu.out _).mono ?_); rintro e v0 ⟨rfl, hk⟩; have hz := hk.size; (try (refine kuse (b := w.heap.size) hk (by first | (simp; done) | (simp; omega) | omega) ?_; intro hq hg; have hy : w.heap.size < v0.heap.size := (by (try simp at hz); omega); have hn : ¬ w.heap.size = v0.heap.size := (by omega); have hm : ¬ w.heap.size = v0.heap.size + 1 := (by omega); have hn' : ¬ v0.heap.size = w.heap.size := (by omega); have hm' : ¬ v0.heap.size + 1 = w.heap.size := (by omega))); (try (refine kuse (b := w.heap.size + 1) hk (by first | (simp; done) | (simp; omega) | omega) ?_; intro hq hg; have hy : w.heap.size + 1 < v0.heap.size := (by (try simp at hz); omega); have hn : ¬ w.heap.size + 1 = v0.heap.size := (by omega); have hm : ¬ w.heap.size + 1 = v0.heap.size + 1 := (by omega); have hn' : ¬ v0.heap.size = w.heap.size + 1 := (by omega); have hm' : ¬ v0.heap.size + 1 = w.heap.size + 1 := (by omega))); (try (refine kuse (b := w.heap.size + 2) hk (by first | (simp; done) | (simp; omega) | omega) ?_; intro hq hg; have hy : w.heap.size + 2 < v0.heap.size := (by (try simp at hz); omega); have hn : ¬ w.heap.size + 2 = v0.heap.size := (by omega); have hm : ¬ w.heap.size + 2 = v0.heap.size + 1 := (by omega); have hn' : ¬ v0.heap.size = w.heap.size + 2 := (by omega); have hm' : ¬ v0.heap.size + 1 = w.heap.size + 2 := (by omega))); (try (refine kuse (b := w1.heap.size) hk (by first | (simp; done) | (simp; omega) | omega) ?_; intro hq hg; have hy : w1.heap.size < v0.heap.size := (by (try simp at hz); omega); have hn : ¬ w1.heap.size = v0.heap.size := (by omega); have hm : ¬ w1.heap.size = v0.heap.size + 1 := (by omega); have hn' : ¬ v0.heap.size = w1.heap.size := (by omega); have hm' : ¬ v0.heap.size + 1 = w1.heap.size := (by omega))); (try (have hle : w1.heap.size ≤ v0.heap.size := (by (try simp at hz); omega))); (try (refine kuse (b := w1.heap.size + 1) hk (by first | (simp; done) | (simp; omega) | omega) ?_; intro hq hg; have hy : w1.heap.size + 1 < v0.heap.size := (by (try simp at hz); omega))); (try (refine kuse (b := w1.heap.size + 2) hk (by first | (simp; done) | (simp; omega) | omega) ?_; intro hq hg; have hy : w1.heap.size + 2 < v0.heap.size := (by (try simp at hz); omega))); (try (refine withF (p := v0.cell? ⟨w.heap.size, 0, none⟩ = some (.int .i64 A)) (by first | (simp (maxDischargeDepth := 7) [go_sem, *]; done) | fail) ?_; intro ff)); (try (refine withF (p := v0.cell? ⟨w.heap.size, 1, none⟩ = some (.int .u64 a)) (by first | (simp (maxDischargeDepth := 7) [go_sem, *]; done) | fail) ?_; intro ff)); (try (refine withF (p := v0.cell? ⟨w1.heap.size, 0, none⟩ = some (.int .u64 (wh D))) (by first | (simp (maxDischargeDepth := 7) [go_sem, *]; done) | fail) ?_; intro ff)); (try (refine withF (p := v0.cell? ⟨w1.heap.size, 1, none⟩ = some (.int .u64 (wl D))) (by first | (simp (maxDischargeDepth := 7) [go_sem, *]; done) | fail) ?_; intro ff))) | (go_at_call 85; (with_reducible refine (HDv.out _).mono ?_); rintro e v1 ⟨rfl, hk⟩; have hz := hk.size; (try (refine kuse (b := w.heap.size) hk (by first | (simp; done) | (simp; omega) | omega) ?_; intro hq hg; have hy : w.heap.size < v1.heap.size := (by (try simp at hz); omega); have hn : ¬ w.heap.size = v1.heap.size := (by omega); have hm : ¬ w.heap.size = v1.heap.size + 1 := (by omega); have hn' : ¬ v1.heap.size = w.heap.size := (by omega); have hm' : ¬ v1.heap.size + 1 = w.heap.size := (by omega))); (try (refine kuse (b := w.heap.size + 1) hk (by first | (simp; done) | (simp; omega) | omega) ?_; intro hq hg; have hy : w.heap.size + 1 < v1.heap.size := (by (try simp at hz); omega); have hn : ¬ w.heap.size + 1 = v1.heap.size := (by omega); have hm : ¬ w.heap.size + 1 = v1.heap.size + 1 := (by omega); have hn' : ¬ v1.heap.size = w.heap.size + 1 := (by omega); have hm' : ¬ v1.heap.size + 1 = w.heap.size + 1 := (by omega))); (try (refine kuse (b := w.heap.size + 2) hk (by first | (simp; done) | (simp; omega) | omega) ?_; intro hq hg; have hy : w.heap.size + 2 < v1.heap.size := (by (try simp at hz); omega); have hn : ¬ w.heap.size + 2 = v1.heap.size := (by omega); have hm : ¬ w.heap.size + 2 = v1.heap.size + 1 := (by omega); have hn' : ¬ v1.heap.size = w.heap.size + 2 := (by omega); have hm' : ¬ v1.heap.size + 1 = w.heap.size + 2 := (by omega))); (try (refine kuse (b := w1.heap.size) hk (by first | (simp; done) | (simp; omega) | omega) ?_; intro hq hg; have hy : w1.heap.size < v1.heap.size := (by (try simp at hz); omega); have hn : ¬ w1.heap.size = v1.heap.size := (by omega); have hm : ¬ w1.heap.size = v1.heap.size + 1 := (by omega); have hn' : ¬ v1.heap.size = w1.heap.size := (by omega); have hm' : ¬ v1.heap.size + 1 = w1.heap.size := (by omega))); (try (have hle : w1.heap.size ≤ v1.heap.size := (by (try simp at hz); omega))); (try (have hle : v0.heap.size ≤ v1.heap.size := (by (try simp at hz); omega))); (try (refine kuse (b := v0.heap.size) hk (by first | (simp; done) | (simp; omega) | omega) ?_; intro hq hg; have hy : v0.heap.size < v1.heap.size := (by (try simp at hz); omega))); (try (refine kuse (b := v0.heap.size + 1) hk (by first | (simp; done) | (simp; omega) | omega) ?_; intro hq hg; have hy : v0.heap.size + 1 < v1.heap.size := (by (try simp at hz); omega))); (try (refine kuse (b := w1.heap.size + 1) hk (by first | (simp; done) | (simp; omega) | omega) ?_; intro hq hg; have hy : w1.heap.size + 1 < v1.heap.size := (by (try simp at hz); omega))); (try (refine kuse (b := w1.heap.size + 2) hk (by first | (simp; done) | (simp; omega) | omega) ?_; intro hq hg; have hy : w1.heap.size + 2 < v1.heap.size := (by (try simp at hz); omega))); (try (refine withF (p := v1.cell? ⟨w.heap.size, 0, none⟩ = some (.int .i64 A)) (by first | (simp (maxDischargeDepth := 7) [go_sem, *]; done) | fail) ?_; intro ff)); (try (refine withF (p := v1.cell? ⟨w.heap.size, 1, none⟩ = some (.int .u64 a)) (by first | (simp (maxDischargeDepth := 7) [go_sem, *]; done) | fail) ?_; intro ff)); (try (refine withF (p := v1.cell? ⟨w1.heap.size, 0, none⟩ = some (.int .u64 (wh D))) (by first | (simp (maxDischargeDepth := 7) [go_sem, *]; done) | fail) ?_; intro ff)); (try (refine withF (p := v1.cell? ⟨w1.heap.size, 1, none⟩ = some (.int .u64 (wl D))) (by first | (simp (maxDischargeDepth := 7) [go_sem, *]; done) | fail) ?_; intro ff))))
    all_goals (try go_wp2_with fail)
    all_goals (go_meet; case rel => refine (fun (hkx : Kept (w1.alloc (.cells #[.int .u64 (wh D), .int .u64 (wl D)] 71)) _) => ⟨_, _, rfl, rfl, (by first | with_reducible assumption | omega | (simp; omega)), (by first | with_reducible assumption | omega | (simp; omega)), (by first | with_reducible assumption | omega | (simp; omega)), (by repeat (first | with_reducible exact own_alloc _ [.int .u64 (wh Q), .int .u64 (wl Q)] 71 | with_reducible exact own_alloc _ [.int .u64 0, .int .u64 0] 71 | ((with_reducible refine own_allocE _ [.int .u64 (wh Q), .int .u64 (wl Q)] 71 _ ?_); (simp; done)) | ((with_reducible refine own_allocE _ [.int .u64 0, .int .u64 0] 71 _ ?_); (simp; done)) | with_reducible refine own_set2 (us := [.int .u64 0, .int .u64 0]) ?_ rfl | with_reducible refine OwnB.other2 ?_ (by first | with_reducible assumption | omega | (simp; done) | (simp; omega)) | with_reducible refine OwnB.alloc ?_ _ | with_reducible refine OwnB.drew ?_ | with_reducible refine OwnB.drewN ?_ _ | with_reducible refine OwnB.kept (by with_reducible assumption) ?_)), (by repeat (first | with_reducible exact own_alloc _ [.int .u64 (wh R), .int .u64 (wl R)] 71 | with_reducible exact own_alloc _ [.int .u64 0, .int .u64 0] 71 | ((with_reducible refine own_allocE _ [.int .u64 (wh R), .int .u64 (wl R)] 71 _ ?_); (simp; done)) | ((with_reducible refine own_allocE _ [.int .u64 0, .int .u64 0] 71 _ ?_); (simp; done)) | with_reducible refine own_set2 (us := [.int .u64 0, .int .u64 0]) ?_ rfl | with_reducible refine OwnB.other2 ?_ (by first | with_reducible assumption | omega | (simp; done) | (simp; omega)) | with_reducible refine OwnB.alloc ?_ _ | with_reducible refine OwnB.drew ?_ | with_reducible refine OwnB.drewN ?_ _ | with_reducible refine OwnB.kept (by with_reducible assumption) ?_)), OwnB.kept hkx HB0_0.out, OwnB.kept hkx HB0_1.out, OwnB.kept hkx HB0_2.out, OwnB.kept hkx HB0_3.out, hkx⟩) ?_; exact (by repeat (first | with_reducible exact Kept.refl _ | with_reducible assumption | with_reducible refine Kept.set12 ?_ (by first | with_reducible assumption | omega | (simp; done) | (simp; omega)) | with_reducible refine Kept.set11 ?_ (by first | with_reducible assumption | omega | (simp; done) | (simp; omega)) | with_reducible refine Kept.set10 ?_ (by first | with_reducible assumption | omega | (simp; done) | (simp; omega)) | with_reducible refine Kept.set9 ?_ (by first | with_reducible assumption | omega | (simp; done) | (simp; omega)) | with_reducible refine Kept.set8 ?_ (by first | with_reducible assumption | omega | (simp; done) | (simp; omega)) | with_reducible refine Kept.set7 ?_ (by first | with_reducible assumption | omega | (simp; done) | (simp; omega)) | with_reducible refine Kept.set6 ?_ (by first | with_reducible assumption | omega | (simp; done) | (simp; omega)) | with_reducible refine Kept.set5 ?_ (by first | with_reducible assumption | omega | (simp; done) | (simp; omega)) | with_reducible refine Kept.set4 ?_ (by first | with_reducible assumption | omega | (simp; done) | (simp; omega)) | with_reducible refine Kept.set3 ?_ (by first | with_reducible assumption | omega | (simp; done) | (simp; omega)) | with_reducible refine Kept.set2 ?_ (by first | with_reducible assumption | omega | (simp; done) | (simp; omega)) | with_reducible refine Kept.setCell ?_ (by first | with_reducible assumption | omega | (simp; done) | (simp; omega)) _ | with_reducible refine Kept.alloc ?_ _ | with_reducible refine Kept.drewN ?_ _ | with_reducible refine Kept.drew ?_ | with_reducible refine Kept.trans ?_ (by with_reducible assumption) | with_reducible refine Kept.dr ?_ (by with_reducible assumption))))
  case rest =>
  obtain ⟨b1_0, b1_1, rfl, rfl, lt1_0, lt1_1, ne1_1_0, O1_0, O1_1, O1_2, O1_3, O1_4, O1_5, hkc1⟩ := hcut
  obtain ⟨hz_c1_0, hg_c1_0, hf_c1_0_0, hf_c1_0_1, _⟩ := O1_0
  obtain ⟨hz_c1_1, hg_c1_1, hf_c1_1_0, hf_c1_1_1, _⟩ := O1_1
  obtain ⟨hz_c1_2, hg_c1_2, hf_c1_2_0, hf_c1_2_1, _⟩ := O1_2
  obtain ⟨hz_c1_3, hg_c1_3, hf_c1_3_0, hf_c1_3_1, _⟩ := O1_3
  obtain ⟨hz_c1_4, hg_c1_4, hf_c1_4_0, hf_c1_4_1, _⟩ := O1_4
  obtain ⟨hz_c1_5, hg_c1_5, hf_c1_5_0, hf_c1_5_1, _⟩ := O1_5
  try clear hf1_0_0
  try clear hf1_0_1
  try clear hf1_1_0
  try clear hf1_1_1
  try clear hf1_2_0
  try clear hf1_2_1
  try clear hg1_0
  try clear hg1_1
  try clear hg1_2
  try clear hz1_1
  try clear hz1_2
  go_wp2_with fail
  with_reducible refine (HG'.out _).mono ?_
  rintro e w2 ⟨rfl, hk2⟩
  refine kuse (b := b1_0) hk2 (by first | (simp; done) | (simp; omega) | omega) ?_
  intro ha hb
  have hz2_0 : b1_0 < w2.heap.size := by have := hk2.size; (try simp at this); omega
  have hn2_0 : ¬ b1_0 = w2.heap.size := by omega
  have hm2_0 : ¬ w2.heap.size = b1_0 := by omega
  have hf2_0_0 : w2.cell? ⟨b1_0, 0, none⟩ = some (.int .u64 (wh Q)) := by first | (rw [ha]; with_reducible assumption) | (simp (maxDischargeDepth := 7) [go_sem, ha]; done) | (rw [ha]; assumption) | (simp (maxDischargeDepth := 7) [go_sem, ha, *]; done)
  have hf2_0_1 : w2.cell? ⟨b1_0, 1, none⟩ = some (.int .u64 (wl Q)) := by first | (rw [ha]; with_reducible assumption) | (simp (maxDischargeDepth := 7) [go_sem, ha]; done) | (rw [ha]; assumption) | (simp (maxDischargeDepth := 7) [go_sem, ha, *]; done)
  try have hg2_0 : ∀ o, w2.frozen? ⟨b1_0, o, none⟩ = false := by intro o; first | (simp (maxDischargeDepth := 7) [go_sem, hb]; done) | (rw [hb]; simp (maxDischargeDepth := 7) [go_sem, *]; done)
  clear ha hb
  refine kuse (b := b1_1) hk2 (by first | (simp; done) | (simp; omega) | omega) ?_
  intro ha hb
  have hz2_1 : b1_1 < w2.heap.size := by have := hk2.size; (try simp at this); omega
  have hn2_1 : ¬ b1_1 = w2.heap.size := by omega
  have hm2_1 : ¬ w2.heap.size = b1_1 := by omega
  have hf2_1_0 : w2.cell? ⟨b1_1, 0, none⟩ = some (.int .u64 (wh R)) := by first | (rw [ha]; with_reducible assumption) | (simp (maxDischargeDepth := 7) [go_sem, ha]; done) | (rw [ha]; assumption) | (simp (maxDischargeDepth := 7) [go_sem, ha, *]; done)
  have hf2_1_1 : w2.cell? ⟨b1_1, 1, none⟩ = some (.int .u64 (wl R)) := by first | (rw [ha]; with_reducible assumption) | (simp (maxDischargeDepth := 7) [go_sem, ha]; done) | (rw [ha]; assumption) | (simp (maxDischargeDepth := 7) [go_sem, ha, *]; done)
  try have hg2_1 : ∀ o, w2.frozen? ⟨b1_1, o, none⟩ = false := by intro o; first | (simp (maxDischargeDepth := 7) [go_sem, hb]; done) | (rw [hb]; simp (maxDischargeDepth := 7) [go_sem, *]; done)
  clear ha hb
  refine kuse (b := w.heap.size) hk2 (by first | (simp; done) | (simp; omega) | omega) ?_
  intro ha hb
  have hz2_2 : w.heap.size < w2.heap.size := by have := hk2.size; (try simp at this); omega
  have hn2_2 : ¬ w.heap.size = w2.heap.size := by omega
  have hm2_2 : ¬ w2.heap.size = w.heap.size := by omega
  have hf2_2_0 : w2.cell? ⟨w.heap.size, 0, none⟩ = some (.int .i64 A) := by first | (rw [ha]; with_reducible assumption) | (simp (maxDischargeDepth := 7) [go_sem, ha]; done) | (rw [ha]; assumption) | (simp (maxDischargeDepth := 7) [go_sem, ha, *]; done)
  have hf2_2_1 : w2.cell? ⟨w.heap.size, 1, none⟩ = some (.int .u64 a) := by first | (rw [ha]; with_reducible assumption) | (simp (maxDischargeDepth := 7) [go_sem, ha]; done) | (rw [ha]; assumption) | (simp (maxDischargeDepth := 7) [go_sem, ha, *]; done)
  try have hg2_2 : ∀ o, w2.frozen? ⟨w.heap.size, o, none⟩ = false := by intro o; first | (simp (maxDischargeDepth := 7) [go_sem, hb]; done) | (rw [hb]; simp (maxDischargeDepth := 7) [go_sem, *]; done)
  clear ha hb
  refine kuse (b := w.heap.size + 1) hk2 (by first | (simp; done) | (simp; omega) | omega) ?_
  intro ha hb
  have hz2_3 : w.heap.size + 1 < w2.heap.size := by have := hk2.size; (try simp at this); omega
  have hn2_3 : ¬ w.heap.size + 1 = w2.heap.size := by omega
  have hm2_3 : ¬ w2.heap.size = w.heap.size + 1 := by omega
  have hf2_3_0 : w2.cell? ⟨w.heap.size + 1, 0, none⟩ = some (.int .i64 B) := by first | (rw [ha]; with_reducible assumption) | (simp (maxDischargeDepth := 7) [go_sem, ha]; done) | (rw [ha]; assumption) | (simp (maxDischargeDepth := 7) [go_sem, ha, *]; done)
  have hf2_3_1 : w2.cell? ⟨w.heap.size + 1, 1, none⟩ = some (.int .u64 b) := by first | (rw [ha]; with_reducible assumption) | (simp (maxDischargeDepth := 7) [go_sem, ha]; done) | (rw [ha]; assumption) | (simp (maxDischargeDepth := 7) [go_sem, ha, *]; done)
  try have hg2_3 : ∀ o, w2.frozen? ⟨w.heap.size + 1, o, none⟩ = false := by intro o; first | (simp (maxDischargeDepth := 7) [go_sem, hb]; done) | (rw [hb]; simp (maxDischargeDepth := 7) [go_sem, *]; done)
  clear ha hb
  refine kuse (b := w.heap.size + 2) hk2 (by first | (simp; done) | (simp; omega) | omega) ?_
  intro ha hb
  have hz2_4 : w.heap.size + 2 < w2.heap.size := by have := hk2.size; (try simp at this); omega
  have hn2_4 : ¬ w.heap.size + 2 = w2.heap.size := by omega
  have hm2_4 : ¬ w2.heap.size = w.heap.size + 2 := by omega
  have hf2_4_0 : w2.cell? ⟨w.heap.size + 2, 0, none⟩ = some (.int .i64 0) := by first | (rw [ha]; with_reducible assumption) | (simp (maxDischargeDepth := 7) [go_sem, ha]; done) | (rw [ha]; assumption) | (simp (maxDischargeDepth := 7) [go_sem, ha, *]; done)
  have hf2_4_1 : w2.cell? ⟨w.heap.size + 2, 1, none⟩ = some (.int .u64 0) := by first | (rw [ha]; with_reducible assumption) | (simp (maxDischargeDepth := 7) [go_sem, ha]; done) | (rw [ha]; assumption) | (simp (maxDischargeDepth := 7) [go_sem, ha, *]; done)
  try have hg2_4 : ∀ o, w2.frozen? ⟨w.heap.size + 2, o, none⟩ = false := by intro o; first | (simp (maxDischargeDepth := 7) [go_sem, hb]; done) | (rw [hb]; simp (maxDischargeDepth := 7) [go_sem, *]; done)
  clear ha hb
  refine kuse (b := w1.heap.size) hk2 (by first | (simp; done) | (simp; omega) | omega) ?_
  intro ha hb
  have hz2_5 : w1.heap.size < w2.heap.size := by have := hk2.size; (try simp at this); omega
  have hn2_5 : ¬ w1.heap.size = w2.heap.size := by omega
  have hm2_5 : ¬ w2.heap.size = w1.heap.size := by omega
  have hf2_5_0 : w2.cell? ⟨w1.heap.size, 0, none⟩ = some (.int .u64 (wh D)) := by first | (rw [ha]; with_reducible assumption) | (simp (maxDischargeDepth := 7) [go_sem, ha]; done) | (rw [ha]; assumption) | (simp (maxDischargeDepth := 7) [go_sem, ha, *]; done)
  have hf2_5_1 : w2.cell? ⟨w1.heap.size, 1, none⟩ = some (.int .u64 (wl D)) := by first | (rw [ha]; with_reducible assumption) | (simp (maxDischargeDepth := 7) [go_sem, ha]; done) | (rw [ha]; assumption) | (simp (maxDischargeDepth := 7) [go_sem, ha, *]; done)
  try have hg2_5 : ∀ o, w2.frozen? ⟨w1.heap.size, o, none⟩ = false := by intro o; first | (simp (maxDischargeDepth := 7) [go_sem, hb]; done) | (rw [hb]; simp (maxDischargeDepth := 7) [go_sem, *]; done)
  clear ha hb
  try clear hf_c1_0_0
  try clear hf_c1_0_1
  try clear hf_c1_1_0
  try clear hf_c1_1_1
  try clear hf_c1_2_0
  try clear hf_c1_2_1
  try clear hf_c1_3_0
  try clear hf_c1_3_1
  try clear hf_c1_4_0
  try clear hf_c1_4_1
  try clear hf_c1_5_0
  try clear hf_c1_5_1
  try clear hg_c1_0
  try clear hg_c1_1
  try clear hg_c1_2
  try clear hg_c1_3
  try clear hg_c1_4
  try clear hg_c1_5
  cases g
  · have eb : Q + bi false = Q := Int.add_zero Q
    rw [eb] at HF
    clear eb
    go_wp2_with fail
    with_reducible refine (HF.out _).mono ?_
    rintro e w3 ⟨rfl, hk3⟩
    refine kuse (b := b1_0) hk3 (by first | (simp; done) | (simp; omega) | omega) ?_
    intro ha hb
    have hz3_0 : b1_0 < w3.heap.size := by have := hk3.size; (try simp at this); omega
    have hn3_0 : ¬ b1_0 = w3.heap.size := by omega
    have hm3_0 : ¬ w3.heap.size = b1_0 := by omega
    have hf3_0_0 : w3.cell? ⟨b1_0, 0, none⟩ = some (.int .u64 (wh Q)) := by first | (rw [ha]; with_reducible assumption) | (simp (maxDischargeDepth := 7) [go_sem, ha]; done) | (rw [ha]; assumption) | (simp (maxDischargeDepth := 7) [go_sem, ha, *]; done)
    have hf3_0_1 : w3.cell? ⟨b1_0, 1, none⟩ = some (.int .u64 (wl Q)) := by first | (rw [ha]; with_reducible assumption) | (simp (maxDischargeDepth := 7) [go_sem, ha]; done) | (rw [ha]; assumption) | (simp (maxDischargeDepth := 7) [go_sem, ha, *]; done)
    try have hg3_0 : ∀ o, w3.frozen? ⟨b1_0, o, none⟩ = false := by intro o; first | (simp (maxDischargeDepth := 7) [go_sem, hb]; done) | (rw [hb]; simp (maxDischargeDepth := 7) [go_sem, *]; done)
    clear ha hb
    refine kuse (b := b1_1) hk3 (by first | (simp; done) | (simp; omega) | omega) ?_
    intro ha hb
    have hz3_1 : b1_1 < w3.heap.size := by have := hk3.size; (try simp at this); omega
    have hn3_1 : ¬ b1_1 = w3.heap.size := by omega
    have hm3_1 : ¬ w3.heap.size = b1_1 := by omega
    have hf3_1_0 : w3.cell? ⟨b1_1, 0, none⟩ = some (.int .u64 (wh R)) := by first | (rw [ha]; with_reducible assumption) | (simp (maxDischargeDepth := 7) [go_sem, ha]; done) | (rw [ha]; assumption) | (simp (maxDischargeDepth := 7) [go_sem, ha, *]; done)
    have hf3_1_1 : w3.cell? ⟨b1_1, 1, none⟩ = some (.int .u64 (wl R)) := by first | (rw [ha]; with_reducible assumption) | (simp (maxDischargeDepth := 7) [go_sem, ha]; done) | (rw [ha]; assumption) | (simp (maxDischargeDepth := 7) [go_sem, ha, *]; done)
    try have hg3_1 : ∀ o, w3.frozen? ⟨b1_1, o, none⟩ = false := by intro o; first | (simp (maxDischargeDepth := 7) [go_sem, hb]; done) | (rw [hb]; simp (maxDischargeDepth := 7) [go_sem, *]; done)
    clear ha hb
    refine kuse (b := w.heap.size) hk3 (by first | (simp; done) | (simp; omega) | omega) ?_
    intro ha hb
    have hz3_2 : w.heap.size < w3.heap.size := by have := hk3.size; (try simp at this); omega
    have hn3_2 : ¬ w.heap.size = w3.heap.size := by omega
    have hm3_2 : ¬ w3.heap.size = w.heap.size := by omega
    have hf3_2_0 : w3.cell? ⟨w.heap.size, 0, none⟩ = some (.int .i64 A) := by first | (rw [ha]; with_reducible assumption) | (simp (maxDischargeDepth := 7) [go_sem, ha]; done) | (rw [ha]; assumption) | (simp (maxDischargeDepth := 7) [go_sem, ha, *]; done)
    have hf3_2_1 : w3.cell? ⟨w.heap.size, 1, none⟩ = some (.int .u64 a) := by first | (rw [ha]; with_reducible assumption) | (simp (maxDischargeDepth := 7) [go_sem, ha]; done) | (rw [ha]; assumption) | (simp (maxDischargeDepth := 7) [go_sem, ha, *]; done)
    try have hg3_2 : ∀ o, w3.frozen? ⟨w.heap.size, o, none⟩ = false := by intro o; first | (simp (maxDischargeDepth := 7) [go_sem, hb]; done) | (rw [hb]; simp (maxDischargeDepth := 7) [go_sem, *]; done)
    clear ha hb
    refine kuse (b := w.heap.size + 1) hk3 (by first | (simp; done) | (simp; omega) | omega) ?_
    intro ha hb
    have hz3_3 : w.heap.size + 1 < w3.heap.size := by have := hk3.size; (try simp at this); omega
    have hn3_3 : ¬ w.heap.size + 1 = w3.heap.size := by omega
    have hm3_3 : ¬ w3.heap.size = w.heap.size + 1 := by omega
    have hf3_3_0 : w3.cell? ⟨w.heap.size + 1, 0, none⟩ = some (.int .i64 B) := by first | (rw [ha]; with_reducible assumption) | (simp (maxDischargeDepth := 7) [go_sem, ha]; done) | (rw [ha]; assumption) | (simp (maxDischargeDepth := 7) [go_sem, ha, *]; done)
    have hf3_3_1 : w3.cell? ⟨w.heap.size + 1, 1, none⟩ = some (.int .u64 b) := by first | (rw [ha]; with_reducible assumption) | (simp (maxDischargeDepth := 7) [go_sem, ha]; done) | (rw [ha]; assumption) | (simp (maxDischargeDepth := 7) [go_sem, ha, *]; done)
    try have hg3_3 : ∀ o, w3.frozen? ⟨w.heap.size + 1, o, none⟩ = false := by intro o; first | (simp (maxDischargeDepth := 7) [go_sem, hb]; done) | (rw [hb]; simp (maxDischargeDepth := 7) [go_sem, *]; done)
    clear ha hb
    refine kuse (b := w.heap.size + 2) hk3 (by first | (simp; done) | (simp; omega) | omega) ?_
    intro ha hb
    have hz3_4 : w.heap.size + 2 < w3.heap.size := by have := hk3.size; (try simp at this); omega
    have hn3_4 : ¬ w.heap.size + 2 = w3.heap.size := by omega
    have hm3_4 : ¬ w3.heap.size = w.heap.size + 2 := by omega
    have hf3_4_0 : w3.cell? ⟨w.heap.size + 2, 0, none⟩ = some (.int .i64 0) := by first | (rw [ha]; with_reducible assumption) | (simp (maxDischargeDepth := 7) [go_sem, ha]; done) | (rw [ha]; assumption) | (simp (maxDischargeDepth := 7) [go_sem, ha, *]; done)
    have hf3_4_1 : w3.cell? ⟨w.heap.size + 2, 1, none⟩ = some (.int .u64 0) := by first | (rw [ha]; with_reducible assumption) | (simp (maxDischargeDepth := 7) [go_sem, ha]; done) | (rw [ha]; assumption) | (simp (maxDischargeDepth := 7) [go_sem, ha, *]; done)
    try have hg3_4 : ∀ o, w3.frozen? ⟨w.heap.size + 2, o, none⟩ = false := by intro o; first | (simp (maxDischargeDepth := 7) [go_sem, hb]; done) | (rw [hb]; simp (maxDischargeDepth := 7) [go_sem, *]; done)
    clear ha hb
    refine kuse (b := w1.heap.size) hk3 (by first | (simp; done) | (simp; omega) | omega) ?_
    intro ha hb
    have hz3_5 : w1.heap.size < w3.heap.size := by have := hk3.size; (try simp at this); omega
    have hn3_5 : ¬ w1.heap.size = w3.heap.size := by omega
    have hm3_5 : ¬ w3.heap.size = w1.heap.size := by omega
    have hf3_5_0 : w3.cell? ⟨w1.heap.size, 0, none⟩ = some (.int .u64 (wh D)) := by first | (rw [ha]; with_reducible assumption) | (simp (maxDischargeDepth := 7) [go_sem, ha]; done) | (rw [ha]; assumption) | (simp (maxDischargeDepth := 7) [go_sem, ha, *]; done)
    have hf3_5_1 : w3.cell? ⟨w1.heap.size, 1, none⟩ = some (.int .u64 (wl D)) := by first | (rw [ha]; with_reducible assumption) | (simp (maxDischargeDepth := 7) [go_sem, ha]; done) | (rw [ha]; assumption) | (simp (maxDischargeDepth := 7) [go_sem, ha, *]; done)
    try have hg3_5 : ∀ o, w3.frozen? ⟨w1.heap.size, o, none⟩ = false := by intro o; first | (simp (maxDischargeDepth := 7) [go_sem, hb]; done) | (rw [hb]; simp (maxDischargeDepth := 7) [go_sem, *]; done)
    clear ha hb
    try clear hf2_0_0
    try clear hf2_0_1
    try clear hf2_1_0
    try clear hf2_1_1
    try clear hf2_2_0
    try clear hf2_2_1
    try clear hf2_3_0
    try clear hf2_3_1
    try clear hf2_4_0
    try clear hf2_4_1
    try clear hf2_5_0
    try clear hf2_5_1
    try clear hg2_0
    try clear hg2_1
    try clear hg2_2
    try clear hg2_3
    try clear hg2_4
    try clear hg2_5
    try clear hz2_1
    try clear hz2_2
    try clear hz2_3
    try clear hz2_4
    try clear hz2_5
    go_wp2_with fail
    all_goals exact bodyPost_ret (v := .tuple #[.agg #[.int .i64 (wh (V)), .int .u64 (wl (V))], .bool O]) (by first | (simp [results, Try.results72, go_sem]; done) | (simp (maxDischargeDepth := 7) [results, Try.results72, go_sem, *]; done)) rfl ⟨rfl, (by repeat (first | with_reducible exact Kept.refl _ | with_reducible assumption | with_reducible refine Kept.setCell ?_ (by first | (simp; done) | (simp; omega) | omega) _ | with_reducible refine Kept.alloc ?_ _ | with_reducible refine Kept.drewN ?_ _ | with_reducible refine Kept.drew ?_ | with_reducible refine Kept.trans ?_ (by with_reducible assumption) | with_reducible refine Kept.dr ?_ (by with_reducible assumption)))⟩
  · have eb : Q + bi true = Q + 1 := rfl
    rw [eb] at HF
    clear eb
    have B0 : OwnB w2 (b1_0) [.int .u64 (wh Q), .int .u64 (wl Q)] := ⟨hz2_0, hg2_0, hf2_0_0, hf2_0_1, trivial⟩
    have HC2_0 := Lib.hid B0
    clear B0
    have B1 : OwnB w2 (b1_1) [.int .u64 (wh R), .int .u64 (wl R)] := ⟨hz2_1, hg2_1, hf2_1_0, hf2_1_1, trivial⟩
    have HC2_1 := Lib.hid B1
    clear B1
    have B2 : OwnB w2 (w.heap.size) [.int .i64 A, .int .u64 a] := ⟨hz2_2, hg2_2, hf2_2_0, hf2_2_1, trivial⟩
    have HC2_2 := Lib.hid B2
    clear B2
    have B3 : OwnB w2 (w.heap.size + 1) [.int .i64 B, .int .u64 b] := ⟨hz2_3, hg2_3, hf2_3_0, hf2_3_1, trivial⟩
    have HC2_3 := Lib.hid B3
    clear B3
    have B4 : OwnB w2 (w.heap.size + 2) [.int .i64 0, .int .u64 0] := ⟨hz2_4, hg2_4, hf2_4_0, hf2_4_1, trivial⟩
    have HC2_4 := Lib.hid B4
    clear B4
    have B5 : OwnB w2 (w1.heap.size) [.int .u64 (wh D), .int .u64 (wl D)] := ⟨hz2_5, hg2_5, hf2_5_0, hf2_5_1, trivial⟩
    have HC2_5 := Lib.hid B5
    clear B5
    go_upto_region 7 with (fail)
    go_cut [] (fun wx => OwnB wx (b1_0) [.int .u64 (wh (Q + 1)), .int .u64 (wl (Q + 1))] ∧ OwnB wx (b1_1) [.int .u64 (wh R), .int .u64 (wl R)] ∧ OwnB wx (w.heap.size) [.int .i64 A, .int .u64 a] ∧ OwnB wx (w.heap.size + 1) [.int .i64 B, .int .u64 b] ∧ OwnB wx (w.heap.size + 2) [.int .i64 0, .int .u64 0] ∧ OwnB wx (w1.heap.size) [.int .u64 (wh D), .int .u64 (wl D)] ∧ Kept w wx)
    case first =>
      go_region_with (first | (go_at_call 86; (first | with_reducible refine (MA.out _).mono ?_); rintro e w' ⟨rfl, hk⟩; have hz := hk.size; (try (refine kuse (b := b1_0) hk (by first | (simp; done) | (simp; omega) | omega) ?_; intro hq0 hg0; have hy0 : b1_0 < w'.heap.size := (by (try simp at hz); omega); have hn0 : ¬ b1_0 = w'.heap.size := (by omega); have hm0 : ¬ b1_0 = w'.heap.size + 1 := (by omega); refine withF (p := w'.cell? ⟨b1_0, 0, none⟩ = some (.int .u64 (wh Q))) (by first | (rw [hq0]; with_reducible assumption) | (simp (maxDischargeDepth := 7) [go_sem, hq0]; done) | (simp (maxDischargeDepth := 7) [go_sem, hq0, *]; done) | fail) ?_; intro ff00; refine withF (p := w'.cell? ⟨b1_0, 1, none⟩ = some (.int .u64 (wl Q))) (by first | (rw [hq0]; with_reducible assumption) | (simp (maxDischargeDepth := 7) [go_sem, hq0]; done) | (simp (maxDischargeDepth := 7) [go_sem, hq0, *]; done) | fail) ?_; intro ff01)); (try (refine kuse (b := b1_1) hk (by first | (simp; done) | (simp; omega) | omega) ?_; intro hq1 hg1; have hy1 : b1_1 < w'.heap.size := (by (try simp at hz); omega); have hn1 : ¬ b1_1 = w'.heap.size := (by omega); have hm1 : ¬ b1_1 = w'.heap.size + 1 := (by omega); refine withF (p := w'.cell? ⟨b1_1, 0, none⟩ = some (.int .u64 (wh R))) (by first | (rw [hq1]; with_reducible assumption) | (simp (maxDischargeDepth := 7) [go_sem, hq1]; done) | (simp (maxDischargeDepth := 7) [go_sem, hq1, *]; done) | fail) ?_; intro ff10; refine withF (p := w'.cell? ⟨b1_1, 1, none⟩ = some (.int .u64 (wl R))) (by first | (rw [hq1]; with_reducible assumption) | (simp (maxDischargeDepth := 7) [go_sem, hq1]; done) | (simp (maxDischargeDepth := 7) [go_sem, hq1, *]; done) | fail) ?_; intro ff11)); (try (refine kuse (b := w.heap.size) hk (by first | (simp; done) | (simp; omega) | omega) ?_; intro hq2 hg2; have hy2 : w.heap.size < w'.heap.size := (by (try simp at hz); omega); have hn2 : ¬ w.heap.size = w'.heap.size := (by omega); have hm2 : ¬ w.heap.size = w'.heap.size + 1 := (by omega); refine withF (p := w'.cell? ⟨w.heap.size, 0, none⟩ = some (.int .i64 A)) (by first | (rw [hq2]; with_reducible assumption) | (simp (maxDischargeDepth := 7) [go_sem, hq2]; done) | (simp (maxDischargeDepth := 7) [go_sem, hq2, *]; done) | fail) ?_; intro ff20; refine withF (p := w'.cell? ⟨w.heap.size, 1, none⟩ = some (.int .u64 a)) (by first | (rw [hq2]; with_reducible assumption) | (simp (maxDischargeDepth := 7) [go_sem, hq2]; done) | (simp (maxDischargeDepth := 7) [go_sem, hq2, *]; done) | fail) ?_; intro ff21)); (try (refine kuse (b := w.heap.size + 1) hk (by first | (simp; done) | (simp; omega) | omega) ?_; intro hq3 hg3; have hy3 : w.heap.size + 1 < w'.heap.size := (by (try simp at hz); omega); have hn3 : ¬ w.heap.size + 1 = w'.heap.size := (by omega); have hm3 : ¬ w.heap.size + 1 = w'.heap.size + 1 := (by omega); refine withF (p := w'.cell? ⟨w.heap.size + 1, 0, none⟩ = some (.int .i64 B)) (by first | (rw [hq3]; with_reducible assumption) | (simp (maxDischargeDepth := 7) [go_sem, hq3]; done) | (simp (maxDischargeDepth := 7) [go_sem, hq3, *]; done) | fail) ?_; intro ff30; refine withF (p := w'.cell? ⟨w.heap.size + 1, 1, none⟩ = some (.int .u64 b)) (by first | (rw [hq3]; with_reducible assumption) | (simp (maxDischargeDepth := 7) [go_sem, hq3]; done) | (simp (maxDischargeDepth := 7) [go_sem, hq3, *]; done) | fail) ?_; intro ff31)); (try (refine kuse (b := w.heap.size + 2) hk (by first | (simp; done) | (simp; omega) | omega) ?_; intro hq4 hg4; have hy4 : w.heap.size + 2 < w'.heap.size := (by (try simp at hz); omega); have hn4 : ¬ w.heap.size + 2 = w'.heap.size := (by omega); have hm4 : ¬ w.heap.size + 2 = w'.heap.size + 1 := (by omega); refine withF (p := w'.cell? ⟨w.heap.size + 2, 0, none⟩ = some (.int .i64 0)) (by first | (rw [hq4]; with_reducible assumption) | (simp (maxDischargeDepth := 7) [go_sem, hq4]; done) | (simp (maxDischargeDepth := 7) [go_sem, hq4, *]; done) | fail) ?_; intro ff40; refine withF (p := w'.cell? ⟨w.heap.size + 2, 1, none⟩ = some (.int .u64 0)) (by first | (rw [hq4]; with_reducible assumption) | (simp (maxDischargeDepth := 7) [go_sem, hq4]; done) | (simp (maxDischargeDepth := 7) [go_sem, hq4, *]; done) | fail) ?_; intro ff41)); (try (refine kuse (b := w1.heap.size) hk (by first | (simp; done) | (simp; omega) | omega) ?_; intro hq5 hg5; have hy5 : w1.heap.size < w'.heap.size := (by (try simp at hz); omega); have hn5 : ¬ w1.heap.size = w'.heap.size := (by omega); have hm5 : ¬ w1.heap.size = w'.heap.size + 1 := (by omega); refine withF (p := w'.cell? ⟨w1.heap.size, 0, none⟩ = some (.int .u64 (wh D))) (by first | (rw [hq5]; with_reducible assumption) | (simp (maxDischargeDepth := 7) [go_sem, hq5]; done) | (simp (maxDischargeDepth := 7) [go_sem, hq5, *]; done) | fail) ?_; intro ff50; refine withF (p := w'.cell? ⟨w1.heap.size, 1, none⟩ = some (.int .u64 (wl D))) (by first | (rw [hq5]; with_reducible assumption) | (simp (maxDischargeDepth := 7) [go_sem, hq5]; done) | (simp (maxDischargeDepth := 7) [go_sem, hq5, *]; done) | fail) ?_; intro ff51))) | (go_at_call 86; (first | with_reducible refine (MB.out _).mono ?_); rintro e w' ⟨rfl, hk⟩; have hz := hk.size; (try (refine kuse (b := b1_0) hk (by first | (simp; done) | (simp; omega) | omega) ?_; intro hq0 hg0; have hy0 : b1_0 < w'.heap.size := (by (try simp at hz); omega); have hn0 : ¬ b1_0 = w'.heap.size := (by omega); have hm0 : ¬ b1_0 = w'.heap.size + 1 := (by omega); refine withF (p := w'.cell? ⟨b1_0, 0, none⟩ = some (.int .u64 (wh Q))) (by first | (rw [hq0]; with_reducible assumption) | (simp (maxDischargeDepth := 7) [go_sem, hq0]; done) | (simp (maxDischargeDepth := 7) [go_sem, hq0, *]; done) | fail) ?_; intro ff00; refine withF (p := w'.cell? ⟨b1_0, 1, none⟩ = some (.int .u64 (wl Q))) (by first | (rw [hq0]; with_reducible assumption) | (simp (maxDischargeDepth := 7) [go_sem, hq0]; done) | (simp (maxDischargeDepth := 7) [go_sem, hq0, *]; done) | fail) ?_; intro ff01)); (try (refine kuse (b := b1_1) hk (by first | (simp; done) | (simp; omega) | omega) ?_; intro hq1 hg1; have hy1 : b1_1 < w'.heap.size := (by (try simp at hz); omega); have hn1 : ¬ b1_1 = w'.heap.size := (by omega); have hm1 : ¬ b1_1 = w'.heap.size + 1 := (by omega); refine withF (p := w'.cell? ⟨b1_1, 0, none⟩ = some (.int .u64 (wh R))) (by first | (rw [hq1]; with_reducible assumption) | (simp (maxDischargeDepth := 7) [go_sem, hq1]; done) | (simp (maxDischargeDepth := 7) [go_sem, hq1, *]; done) | fail) ?_; intro ff10; refine withF (p := w'.cell? ⟨b1_1, 1, none⟩ = some (.int .u64 (wl R))) (by first | (rw [hq1]; with_reducible assumption) | (simp (maxDischargeDepth := 7) [go_sem, hq1]; done) | (simp (maxDischargeDepth := 7) [go_sem, hq1, *]; done) | fail) ?_; intro ff11)); (try (refine kuse (b := w.heap.size) hk (by first | (simp; done) | (simp; omega) | omega) ?_; intro hq2 hg2; have hy2 : w.heap.size < w'.heap.size := (by (try simp at hz); omega); have hn2 : ¬ w.heap.size = w'.heap.size := (by omega); have hm2 : ¬ w.heap.size = w'.heap.size + 1 := (by omega); refine withF (p := w'.cell? ⟨w.heap.size, 0, none⟩ = some (.int .i64 A)) (by first | (rw [hq2]; with_reducible assumption) | (simp (maxDischargeDepth := 7) [go_sem, hq2]; done) | (simp (maxDischargeDepth := 7) [go_sem, hq2, *]; done) | fail) ?_; intro ff20; refine withF (p := w'.cell? ⟨w.heap.size, 1, none⟩ = some (.int .u64 a)) (by first | (rw [hq2]; with_reducible assumption) | (simp (maxDischargeDepth := 7) [go_sem, hq2]; done) | (simp (maxDischargeDepth := 7) [go_sem, hq2, *]; done) | fail) ?_; intro ff21)); (try (refine kuse (b := w.heap.size + 1) hk (by first | (simp; done) | (simp; omega) | omega) ?_; intro hq3 hg3; have hy3 : w.heap.size + 1 < w'.heap.size := (by (try simp at hz); omega); have hn3 : ¬ w.heap.size + 1 = w'.heap.size := (by omega); have hm3 : ¬ w.heap.size + 1 = w'.heap.size + 1 := (by omega); refine withF (p := w'.cell? ⟨w.heap.size + 1, 0, none⟩ = some (.int .i64 B)) (by first | (rw [hq3]; with_reducible assumption) | (simp (maxDischargeDepth := 7) [go_sem, hq3]; done) | (simp (maxDischargeDepth := 7) [go_sem, hq3, *]; done) | fail) ?_; intro ff30; refine withF (p := w'.cell? ⟨w.heap.size + 1, 1, none⟩ = some (.int .u64 b)) (by first | (rw [hq3]; with_reducible assumption) | (simp (maxDischargeDepth := 7) [go_sem, hq3]; done) | (simp (maxDischargeDepth := 7) [go_sem, hq3, *]; done) | fail) ?_; intro ff31)); (try (refine kuse (b := w.heap.size + 2) hk (by first | (simp; done) | (simp; omega) | omega) ?_; intro hq4 hg4; have hy4 : w.heap.size + 2 < w'.heap.size := (by (try simp at hz); omega); have hn4 : ¬ w.heap.size + 2 = w'.heap.size := (by omega); have hm4 : ¬ w.heap.size + 2 = w'.heap.size + 1 := (by omega); refine withF (p := w'.cell? ⟨w.heap.size + 2, 0, none⟩ = some (.int .i64 0)) (by first | (rw [hq4]; with_reducible assumption) | (simp (maxDischargeDepth := 7) [go_sem, hq4]; done) | (simp (maxDischargeDepth := 7) [go_sem, hq4, *]; done) | fail) ?_; intro ff40; refine withF (p := w'.cell? ⟨w.heap.size + 2, 1, none⟩ = some (.int .u64 0)) (by first | (rw [hq4]; with_reducible assumption) | (simp (maxDischargeDepth := 7) [go_sem, hq4]; done) | (simp (maxDischargeDepth := 7) [go_sem, hq4, *]; done) | fail) ?_; intro ff41)); (try (refine kuse (b := w1.heap.size) hk (by first | (simp; done) | (simp; omega) | omega) ?_; intro hq5 hg5; have hy5 : w1.heap.size < w'.heap.size := (by (try simp at hz); omega); have hn5 : ¬ w1.heap.size = w'.heap.size := (by omega); have hm5 : ¬ w1.heap.size = w'.heap.size + 1 := (by omega); refine withF (p := w'.cell? ⟨w1.heap.size, 0, none⟩ = some (.int .u64 (wh D))) (by first | (rw [hq5]; with_reducible assumption) | (simp (maxDischargeDepth := 7) [go_sem, hq5]; done) | (simp (maxDischargeDepth := 7) [go_sem, hq5, *]; done) | fail) ?_; intro ff50; refine withF (p := w'.cell? ⟨w1.heap.size, 1, none⟩ = some (.int .u64 (wl D))) (by first | (rw [hq5]; with_reducible assumption) | (simp (maxDischargeDepth := 7) [go_sem, hq5]; done) | (simp (maxDischargeDepth := 7) [go_sem, hq5, *]; done) | fail) ?_; intro ff51))))
      all_goals (try go_wp2_with fail)
      all_goals (go_meet; case rel => exact ⟨(by repeat (first | with_reducible exact HC2_0.out | with_reducible refine own_set2 (us := [.int .u64 (wh Q), .int .u64 (wl Q)]) ?_ rfl | with_reducible refine OwnB.other2 ?_ (by first | with_reducible assumption | omega | (simp; done) | (simp; omega)) | with_reducible refine OwnB.drew ?_ | with_reducible refine OwnB.drewN ?_ _ | with_reducible refine OwnB.kept (by with_reducible assumption) ?_)), (by repeat (first | with_reducible exact HC2_1.out | with_reducible refine OwnB.other2 ?_ (by first | with_reducible assumption | omega | (simp; done) | (simp; omega)) | with_reducible refine OwnB.drew ?_ | with_reducible refine OwnB.drewN ?_ _ | with_reducible refine OwnB.kept (by with_reducible assumption) ?_)), (by repeat (first | with_reducible exact HC2_2.out | with_reducible refine OwnB.other2 ?_ (by first | with_reducible assumption | omega | (simp; done) | (simp; omega)) | with_reducible refine OwnB.drew ?_ | with_reducible refine OwnB.drewN ?_ _ | with_reducible refine OwnB.kept (by with_reducible assumption) ?_)), (by repeat (first | with_reducible exact HC2_3.out | with_reducible refine OwnB.other2 ?_ (by first | with_reducible assumption | omega | (simp; done) | (simp; omega)) | with_reducible refine OwnB.drew ?_ | with_reducible refine OwnB.drewN ?_ _ | with_reducible refine OwnB.kept (by with_reducible assumption) ?_)), (by repeat (first | with_reducible exact HC2_4.out | with_reducible refine OwnB.other2 ?_ (by first | with_reducible assumption | omega | (simp; done) | (simp; omega)) | with_reducible refine OwnB.drew ?_ | with_reducible refine OwnB.drewN ?_ _ | with_reducible refine OwnB.kept (by with_reducible assumption) ?_)), (by repeat (first | with_reducible exact HC2_5.out | with_reducible refine OwnB.other2 ?_ (by first | with_reducible assumption | omega | (simp; done) | (simp; omega)) | with_reducible refine OwnB.drew ?_ | with_reducible refine OwnB.drewN ?_ _ | with_reducible refine OwnB.kept (by with_reducible assumption) ?_)), (by repeat (first | with_reducible exact Kept.refl _ | with_reducible assumption | with_reducible refine Kept.setCell ?_ (by first | (simp; done) | (simp; omega) | omega) _ | with_reducible refine Kept.alloc ?_ _ | with_reducible refine Kept.drewN ?_ _ | with_reducible refine Kept.drew ?_ | with_reducible refine Kept.trans ?_ (by with_reducible assumption) | with_reducible refine Kept.dr ?_ (by with_reducible assumption)))⟩)
    case rest =>
    obtain ⟨O2_0, O2_1, O2_2, O2_3, O2_4, O2_5, hkc2⟩ := hcut
    obtain ⟨hz_c2_0, hg_c2_0, hf_c2_0_0, hf_c2_0_1, _⟩ := O2_0
    obtain ⟨hz_c2_1, hg_c2_1, hf_c2_1_0, hf_c2_1_1, _⟩ := O2_1
    obtain ⟨hz_c2_2, hg_c2_2, hf_c2_2_0, hf_c2_2_1, _⟩ := O2_2
    obtain ⟨hz_c2_3, hg_c2_3, hf_c2_3_0, hf_c2_3_1, _⟩ := O2_3
    obtain ⟨hz_c2_4, hg_c2_4, hf_c2_4_0, hf_c2_4_1, _⟩ := O2_4
    obtain ⟨hz_c2_5, hg_c2_5, hf_c2_5_0, hf_c2_5_1, _⟩ := O2_5
    try clear hf2_0_0
    try clear hf2_0_1
    try clear hf2_1_0
    try clear hf2_1_1
    try clear hf2_2_0
    try clear hf2_2_1
    try clear hf2_3_0
    try clear hf2_3_1
    try clear hf2_4_0
    try clear hf2_4_1
    try clear hf2_5_0
    try clear hf2_5_1
    try clear hg2_0
    try clear hg2_1
    try clear hg2_2
    try clear hg2_3
    try clear hg2_4
    try clear hg2_5
    try clear hz2_1
    try clear hz2_2
    try clear hz2_3
    try clear hz2_4
    try clear hz2_5
    go_wp2_with fail
    with_reducible refine (HF.out _).mono ?_
    rintro e w3 ⟨rfl, hk3⟩
    refine kuse (b := b1_0) hk3 (by first | (simp; done) | (simp; omega) | omega) ?_
    intro ha hb
    have hz3_0 : b1_0 < w3.heap.size := by have := hk3.size; (try simp at this); omega
    have hn3_0 : ¬ b1_0 = w3.heap.size := by omega
    have hm3_0 : ¬ w3.heap.size = b1_0 := by omega
    have hf3_0_0 : w3.cell? ⟨b1_0, 0, none⟩ = some (.int .u64 (wh (Q + 1))) := by first | (rw [ha]; with_reducible assumption) | (simp (maxDischargeDepth := 7) [go_sem, ha]; done) | (rw [ha]; assumption) | (simp (maxDischargeDepth := 7) [go_sem, ha, *]; done)
    have hf3_0_1 : w3.cell? ⟨b1_0, 1, none⟩ = some (.int .u64 (wl (Q + 1))) := by first | (rw [ha]; with_reducible assumption) | (simp (maxDischargeDepth := 7) [go_sem, ha]; done) | (rw [ha]; assumption) | (simp (maxDischargeDepth := 7) [go_sem, ha, *]; done)
    try have hg3_0 : ∀ o, w3.frozen? ⟨b1_0, o, none⟩ = false := by intro o; first | (simp (maxDischargeDepth := 7) [go_sem, hb]; done) | (rw [hb]; simp (maxDischargeDepth := 7) [go_sem, *]; done)
    clear ha hb
    refine kuse (b := b1_1) hk3 (by first | (simp; done) | (simp; omega) | omega) ?_
    intro ha hb
    have hz3_1 : b1_1 < w3.heap.size := by have := hk3.size; (try simp at this); omega
    have hn3_1 : ¬ b1_1 = w3.heap.size := by omega
    have hm3_1 : ¬ w3.heap.size = b1_1 := by omega
    have hf3_1_0 : w3.cell? ⟨b1_1, 0, none⟩ = some (.int .u64 (wh R)) := by first | (rw [ha]; with_reducible assumption) | (simp (maxDischargeDepth := 7) [go_sem, ha]; done) | (rw [ha]; assumption) | (simp (maxDischargeDepth := 7) [go_sem, ha, *]; done)
    have hf3_1_1 : w3.cell? ⟨b1_1, 1, none⟩ = some (.int .u64 (wl R)) := by first | (rw [ha]; with_reducible assumption) | (simp (maxDischargeDepth := 7) [go_sem, ha]; done) | (rw [ha]; assumption) | (simp (maxDischargeDepth := 7) [go_sem, ha, *]; done)
    try have hg3_1 : ∀ o, w3.frozen? ⟨b1_1, o, none⟩ = false := by intro o; first | (simp (maxDischargeDepth := 7) [go_sem, hb]; done) | (rw [hb]; simp (maxDischargeDepth := 7) [go_sem, *]; done)
    clear ha hb
    refine kuse (b := w.heap.size) hk3 (by first | (simp; done) | (simp; omega) | omega) ?_
    intro ha hb
    have hz3_2 : w.heap.size < w3.heap.size := by have := hk3.size; (try simp at this); omega
    have hn3_2 : ¬ w.heap.size = w3.heap.size := by omega
    have hm3_2 : ¬ w3.heap.size = w.heap.size := by omega
    have hf3_2_0 : w3.cell? ⟨w.heap.size, 0, none⟩ = some (.int .i64 A) := by first | (rw [ha]; with_reducible assumption) | (simp (maxDischargeDepth := 7) [go_sem, ha]; done) | (rw [ha]; assumption) | (simp (maxDischargeDepth := 7) [go_sem, ha, *]; done)
    have hf3_2_1 : w3.cell? ⟨w.heap.size, 1, none⟩ = some (.int .u64 a) := by first | (rw [ha]; with_reducible assumption) | (simp (maxDischargeDepth := 7) [go_sem, ha]; done) | (rw [ha]; assumption) | (simp (maxDischargeDepth := 7) [go_sem, ha, *]; done)
    try have hg3_2 : ∀ o, w3.frozen? ⟨w.heap.size, o, none⟩ = false := by intro o; first | (simp (maxDischargeDepth := 7) [go_sem, hb]; done) | (rw [hb]; simp (maxDischargeDepth := 7) [go_sem, *]; done)
    clear ha hb
    refine kuse (b := w.heap.size + 1) hk3 (by first | (simp; done) | (simp; omega) | omega) ?_
    intro ha hb
    have hz3_3 : w.heap.size + 1 < w3.heap.size := by have := hk3.size; (try simp at this); omega
    have hn3_3 : ¬ w.heap.size + 1 = w3.heap.size := by omega
    have hm3_3 : ¬ w3.heap.size = w.heap.size + 1 := by omega
    have hf3_3_0 : w3.cell? ⟨w.heap.size + 1, 0, none⟩ = some (.int .i64 B) := by first | (rw [ha]; with_reducible assumption) | (simp (maxDischargeDepth := 7) [go_sem, ha]; done) | (rw [ha]; assumption) | (simp (maxDischargeDepth := 7) [go_sem, ha, *]; done)
    have hf3_3_1 : w3.cell? ⟨w.heap.size + 1, 1, none⟩ = some (.int .u64 b) := by first | (rw [ha]; with_reducible assumption) | (simp (maxDischargeDepth := 7) [go_sem, ha]; done) | (rw [ha]; assumption) | (simp (maxDischargeDepth := 7) [go_sem, ha, *]; done)
    try have hg3_3 : ∀ o, w3.frozen? ⟨w.heap.size + 1, o, none⟩ = false := by intro o; first | (simp (maxDischargeDepth := 7) [go_sem, hb]; done) | (rw [hb]; simp (maxDischargeDepth := 7) [go_sem, *]; done)
    clear ha hb
    refine kuse (b := w.heap.size + 2) hk3 (by first | (simp; done) | (simp; omega) | omega) ?_
    intro ha hb
    have hz3_4 : w.heap.size + 2 < w3.heap.size := by have := hk3.size; (try simp at this); omega
    have hn3_4 : ¬ w.heap.size + 2 = w3.heap.size := by omega
    have hm3_4 : ¬ w3.heap.size = w.heap.size + 2 := by omega
    have hf3_4_0 : w3.cell? ⟨w.heap.size + 2, 0, none⟩ = some (.int .i64 0) := by first | (rw [ha]; with_reducible assumption) | (simp (maxDischargeDepth := 7) [go_sem, ha]; done) | (rw [ha]; assumption) | (simp (maxDischargeDepth := 7) [go_sem, ha, *]; done)
    have hf3_4_1 : w3.cell? ⟨w.heap.size + 2, 1, none⟩ = some (.int .u64 0) := by first | (rw [ha]; with_reducible assumption) | (simp (maxDischargeDepth := 7) [go_sem, ha]; done) | (rw [ha]; assumption) | (simp (maxDischargeDepth := 7) [go_sem, ha, *]; done)
    try have hg3_4 : ∀ o, w3.frozen? ⟨w.heap.size + 2, o, none⟩ = false := by intro o; first | (simp (maxDischargeDepth := 7) [go_sem, hb]; done) | (rw [hb]; simp (maxDischargeDepth := 7) [go_sem, *]; done)
    clear ha hb
    refine kuse (b := w1.heap.size) hk3 (by first | (simp; done) | (simp; omega) | omega) ?_
    intro ha hb
    have hz3_5 : w1.heap.size < w3.heap.size := by have := hk3.size; (try simp at this); omega
    have hn3_5 : ¬ w1.heap.size = w3.heap.size := by omega
    have hm3_5 : ¬ w3.heap.size = w1.heap.size := by omega
    have hf3_5_0 : w3.cell? ⟨w1.heap.size, 0, none⟩ = some (.int .u64 (wh D)) := by first | (rw [ha]; with_reducible assumption) | (simp (maxDischargeDepth := 7) [go_sem, ha]; done) | (rw [ha]; assumption) | (simp (maxDischargeDepth := 7) [go_sem, ha, *]; done)
    have hf3_5_1 : w3.cell? ⟨w1.heap.size, 1, none⟩ = some (.int .u64 (wl D)) := by first | (rw [ha]; with_reducible assumption) | (simp (maxDischargeDepth := 7) [go_sem, ha]; done) | (rw [ha]; assumption) | (simp (maxDischargeDepth := 7) [go_sem, ha, *]; done)
    try have hg3_5 : ∀ o, w3.frozen? ⟨w1.heap.size, o, none⟩ = false := by intro o; first | (simp (maxDischargeDepth := 7) [go_sem, hb]; done) | (rw [hb]; simp (maxDischargeDepth := 7) [go_sem, *]; done)
    clear ha hb
    try clear hf_c2_0_0
    try clear hf_c2_0_1
    try clear hf_c2_1_0
    try clear hf_c2_1_1
    try clear hf_c2_2_0
    try clear hf_c2_2_1
    try clear hf_c2_3_0
    try clear hf_c2_3_1
    try clear hf_c2_4_0
    try clear hf_c2_4_1
    try clear hf_c2_5_0
    try clear hf_c2_5_1
    try clear hg_c2_0
    try clear hg_c2_1
    try clear hg_c2_2
    try clear hg_c2_3
    try clear hg_c2_4
    try clear hg_c2_5
    go_wp2_with fail
    all_goals exact bodyPost_ret (v := .tuple #[.agg #[.int .i64 (wh (V)), .int .u64 (wl (V))], .bool O]) (by first | (simp [results, Try.results72, go_sem]; done) | (simp (maxDischargeDepth := 7) [results, Try.results72, go_sem, *]; done)) rfl ⟨rfl, (by repeat (first | with_reducible exact Kept.refl _ | with_reducible assumption | with_reducible refine Kept.setCell ?_ (by first | (simp; done) | (simp; omega) | omega) _ | with_reducible refine Kept.alloc ?_ _ | with_reducible refine Kept.drewN ?_ _ | with_reducible refine Kept.drew ?_ | with_reducible refine Kept.trans ?_ (by with_reducible assumption) | with_reducible refine Kept.dr ?_ (by with_reducible assumption)))⟩
end Go.Proofs.Ytinpmooihjdbgaa
