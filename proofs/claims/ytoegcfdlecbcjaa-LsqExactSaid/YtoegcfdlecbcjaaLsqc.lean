/-
  Own contracts: package lsq: the exact solution.
-/
import Derived.Test.YtoegcfdlecbcjaaLsqb
import Derived.Test.YtoegcfdlecbcjaaLsqm
import Derived.Test.YtoegcfdlecbcjaaWide
import Derived.Test.YtoegcfdlecbcjaaWidc
import Derived.WalkKit
import Derived.ProofKit
import Derived.OpenShut
import Derived.WalkLawsBesides
import Derived.WalkSpells
import Derived.Lib.Hide
import Derived.Deep.DeepCutAuto
import Derived.Deep.CutBlock
import Derived.Deep.QuietTactic
import Derived.BigQuiet
import Derived.Handy
import Derived.StillTailTactics
import Derived.IntWalk
import Derived.LoopN
import Derived.Deep.RegionHeld3
namespace Go.Proofs.Ytoegcfdlecbcjaa
open Go.ChangeShapes Go.WideShapes Go.ChangeAt Go.RowKit
set_option linter.unusedVariables false
set_option linter.unusedSimpArgs false
set_option maxHeartbeats 2000000 in
set_option maxRecDepth 100000 in
theorem minus_w (u v : Int) (u0 : -170141183460469231731687303715884105728 ≤ u) (u1 : u < 170141183460469231731687303715884105728) (v0 : -170141183460469231731687303715884105728 ≤ v) (v1 : v < 170141183460469231731687303715884105728) (f0 : -170141183460469231731687303715884105728 ≤ u - v) (f1 : u - v < 170141183460469231731687303715884105728) (w : World) : Calls Try.prog 47 #[.agg #[.int .i64 (wh (u)), .int .u64 (wl (u))], .agg #[.int .i64 (wh (v)), .int .u64 (wl (v))]] w fun e w' => e = .returned (.agg #[.int .i64 (wh (u - v)), .int .u64 (wl (u - v))]) ∧ Kept w w' := by
  have H0 := wsub_w u v u0 u1 v0 v1
  rw [(wfit_yes f0 f1).1, (wfit_yes f0 f1).2] at H0
  have H := Lib.hid H0
  clear H0
  obtain ⟨V, hV⟩ : ∃ V, u - v = V := ⟨_, rfl⟩
  rw [hV] at H
  rw [hV]
  clear hV f0 f1
  generalize wh u = A at *; generalize wl u = a at *; generalize wh v = B at *; generalize wl v = b at *
  go_enter Try.func47, Try.ntmps47
  go_wp2_with fail
  with_reducible refine (H.out _).mono ?_
  rintro e w1 ⟨rfl, hk1⟩
  refine kuz (b := w.heap.size) hk1 (by first | (simp; done) | (simp; omega) | omega) ?_
  intro ha hb hz1_0 hn1_0 hm1_0
  have hf1_0_0 : w1.cell? ⟨w.heap.size, 0, none⟩ = some (.int .i64 A) := (ha _).trans (by first | with_reducible assumption | (simp (maxDischargeDepth := 7) [go_sem]; done) | (simp (maxDischargeDepth := 7) [go_sem, *]; done))
  have hf1_0_1 : w1.cell? ⟨w.heap.size, 1, none⟩ = some (.int .u64 a) := (ha _).trans (by first | with_reducible assumption | (simp (maxDischargeDepth := 7) [go_sem]; done) | (simp (maxDischargeDepth := 7) [go_sem, *]; done))
  try have hg1_0 : ∀ o, w1.frozen? ⟨w.heap.size, o, none⟩ = false := by intro o; rw [hb]; first | (simp (maxDischargeDepth := 7) [go_sem]; done) | (simp (maxDischargeDepth := 7) [go_sem, *]; done)
  clear ha hb
  refine kuz (b := w.heap.size + 1) hk1 (by first | (simp; done) | (simp; omega) | omega) ?_
  intro ha hb hz1_1 hn1_1 hm1_1
  have hf1_1_0 : w1.cell? ⟨w.heap.size + 1, 0, none⟩ = some (.int .i64 B) := (ha _).trans (by first | with_reducible assumption | (simp (maxDischargeDepth := 7) [go_sem]; done) | (simp (maxDischargeDepth := 7) [go_sem, *]; done))
  have hf1_1_1 : w1.cell? ⟨w.heap.size + 1, 1, none⟩ = some (.int .u64 b) := (ha _).trans (by first | with_reducible assumption | (simp (maxDischargeDepth := 7) [go_sem]; done) | (simp (maxDischargeDepth := 7) [go_sem, *]; done))
  try have hg1_1 : ∀ o, w1.frozen? ⟨w.heap.size + 1, o, none⟩ = false := by intro o; rw [hb]; first | (simp (maxDischargeDepth := 7) [go_sem]; done) | (simp (maxDischargeDepth := 7) [go_sem, *]; done)
  clear ha hb
  refine kuz (b := w.heap.size + 2) hk1 (by first | (simp; done) | (simp; omega) | omega) ?_
  intro ha hb hz1_2 hn1_2 hm1_2
  have hf1_2_0 : w1.cell? ⟨w.heap.size + 2, 0, none⟩ = some (.int .i64 0) := (ha _).trans (by first | with_reducible assumption | (simp (maxDischargeDepth := 7) [go_sem]; done) | (simp (maxDischargeDepth := 7) [go_sem, *]; done))
  have hf1_2_1 : w1.cell? ⟨w.heap.size + 2, 1, none⟩ = some (.int .u64 0) := (ha _).trans (by first | with_reducible assumption | (simp (maxDischargeDepth := 7) [go_sem]; done) | (simp (maxDischargeDepth := 7) [go_sem, *]; done))
  try have hg1_2 : ∀ o, w1.frozen? ⟨w.heap.size + 2, o, none⟩ = false := by intro o; rw [hb]; first | (simp (maxDischargeDepth := 7) [go_sem]; done) | (simp (maxDischargeDepth := 7) [go_sem, *]; done)
  clear ha hb
  go_wp2_with fail
  all_goals exact bodyPost_ret (v := .agg #[.int .i64 (wh (V)), .int .u64 (wl (V))]) (by first | (simp [results, Try.results47, go_sem]; done) | (simp (maxDischargeDepth := 7) [results, Try.results47, go_sem, *]; done)) rfl ⟨rfl, (by repeat (first | with_reducible exact Kept.refl _ | with_reducible assumption | with_reducible refine Kept.setCell ?_ (by first | (simp; done) | (simp; omega) | omega) _ | with_reducible refine Kept.alloc ?_ _ | with_reducible refine Kept.drewN ?_ _ | with_reducible refine Kept.drew ?_ | with_reducible refine Kept.trans ?_ (by with_reducible assumption) | with_reducible refine Kept.dr ?_ (by with_reducible assumption)))⟩
set_option maxHeartbeats 2000000 in
set_option maxRecDepth 100000 in
theorem times1_w (u x : Int) (u0 : -170141183460469231731687303715884105728 ≤ u) (u1 : u < 170141183460469231731687303715884105728) (x0 : -9223372036854775808 ≤ x) (x1 : x ≤ 9223372036854775807) (f0 : -170141183460469231731687303715884105728 ≤ u * x) (f1 : u * x < 170141183460469231731687303715884105728) (w : World) : Calls Try.prog 41 #[.agg #[.int .i64 (wh (u)), .int .u64 (wl (u))], .int .i64 x] w fun e w' => e = .returned (.agg #[.int .i64 (wh (u * x)), .int .u64 (wl (u * x))]) ∧ Kept w w' := by
  have H0 := times_w u x u0 u1 x0 x1
  rw [(wfit_yes f0 f1).1, (wfit_yes f0 f1).2] at H0
  have H := Lib.hid H0
  clear H0
  obtain ⟨V, hV⟩ : ∃ V, u * x = V := ⟨_, rfl⟩
  rw [hV] at H
  rw [hV]
  clear hV f0 f1
  generalize wh u = A at *; generalize wl u = a at *
  go_enter Try.func41, Try.ntmps41
  go_wp2_with fail
  with_reducible refine (H.out _).mono ?_
  rintro e w1 ⟨rfl, hk1⟩
  refine kuz (b := w.heap.size) hk1 (by first | (simp; done) | (simp; omega) | omega) ?_
  intro ha hb hz1_0 hn1_0 hm1_0
  have hf1_0_0 : w1.cell? ⟨w.heap.size, 0, none⟩ = some (.int .i64 A) := (ha _).trans (by first | with_reducible assumption | (simp (maxDischargeDepth := 7) [go_sem]; done) | (simp (maxDischargeDepth := 7) [go_sem, *]; done))
  have hf1_0_1 : w1.cell? ⟨w.heap.size, 1, none⟩ = some (.int .u64 a) := (ha _).trans (by first | with_reducible assumption | (simp (maxDischargeDepth := 7) [go_sem]; done) | (simp (maxDischargeDepth := 7) [go_sem, *]; done))
  try have hg1_0 : ∀ o, w1.frozen? ⟨w.heap.size, o, none⟩ = false := by intro o; rw [hb]; first | (simp (maxDischargeDepth := 7) [go_sem]; done) | (simp (maxDischargeDepth := 7) [go_sem, *]; done)
  clear ha hb
  refine kuz (b := w.heap.size + 1) hk1 (by first | (simp; done) | (simp; omega) | omega) ?_
  intro ha hb hz1_1 hn1_1 hm1_1
  have hf1_1_0 : w1.cell? ⟨w.heap.size + 1, 0, none⟩ = some (.int .i64 0) := (ha _).trans (by first | with_reducible assumption | (simp (maxDischargeDepth := 7) [go_sem]; done) | (simp (maxDischargeDepth := 7) [go_sem, *]; done))
  have hf1_1_1 : w1.cell? ⟨w.heap.size + 1, 1, none⟩ = some (.int .u64 0) := (ha _).trans (by first | with_reducible assumption | (simp (maxDischargeDepth := 7) [go_sem]; done) | (simp (maxDischargeDepth := 7) [go_sem, *]; done))
  try have hg1_1 : ∀ o, w1.frozen? ⟨w.heap.size + 1, o, none⟩ = false := by intro o; rw [hb]; first | (simp (maxDischargeDepth := 7) [go_sem]; done) | (simp (maxDischargeDepth := 7) [go_sem, *]; done)
  clear ha hb
  go_wp2_with fail
  all_goals exact bodyPost_ret (v := .agg #[.int .i64 (wh (V)), .int .u64 (wl (V))]) (by first | (simp [results, Try.results41, go_sem]; done) | (simp (maxDischargeDepth := 7) [results, Try.results41, go_sem, *]; done)) rfl ⟨rfl, (by repeat (first | with_reducible exact Kept.refl _ | with_reducible assumption | with_reducible refine Kept.setCell ?_ (by first | (simp; done) | (simp; omega) | omega) _ | with_reducible refine Kept.alloc ?_ _ | with_reducible refine Kept.drewN ?_ _ | with_reducible refine Kept.drew ?_ | with_reducible refine Kept.trans ?_ (by with_reducible assumption) | with_reducible refine Kept.dr ?_ (by with_reducible assumption)))⟩
set_option maxHeartbeats 2000000 in
set_option maxRecDepth 100000 in
theorem pval_w (x y : Int) (w : World) : Calls Try.prog 30 #[.agg #[.int .i64 x, .int .i64 y]] w fun e w' => e = .returned (.bool (pok x y)) ∧ Kept w w' := by
  go_enter Try.func30, Try.ntmps30
  go_wp2_with fail
  all_goals first | (go_ret; refine ⟨retB ?_, (by repeat (first | with_reducible exact Kept.refl _ | with_reducible assumption | with_reducible refine Kept.setCell ?_ (by first | (simp; done) | (simp; omega) | omega) _ | with_reducible refine Kept.alloc ?_ _ | with_reducible refine Kept.drewN ?_ _ | with_reducible refine Kept.drew ?_ | with_reducible refine Kept.trans ?_ (by with_reducible assumption) | with_reducible refine Kept.dr ?_ (by with_reducible assumption)))⟩; unfold pok; first | (rw [decide_eq_true (by omega)]; done) | (rw [decide_eq_false (by omega)]; done) | (refine decide_eq_decide.2 ?_; omega)) | (exfalso; omega)
set_option maxHeartbeats 2000000 in
set_option maxRecDepth 100000 in
theorem ref_pval_w (x y : Int) (w : World) : Calls Try.prog 38 #[.agg #[.int .i64 x, .int .i64 y]] w fun e w' => e = .returned (.bool (pok x y)) ∧ Kept w w' := by
  go_enter Try.func38, Try.ntmps38
  go_wp2_with fail
  all_goals first | (go_ret; refine ⟨retB ?_, (by repeat (first | with_reducible exact Kept.refl _ | with_reducible assumption | with_reducible refine Kept.setCell ?_ (by first | (simp; done) | (simp; omega) | omega) _ | with_reducible refine Kept.alloc ?_ _ | with_reducible refine Kept.drewN ?_ _ | with_reducible refine Kept.drew ?_ | with_reducible refine Kept.trans ?_ (by with_reducible assumption) | with_reducible refine Kept.dr ?_ (by with_reducible assumption)))⟩; unfold pok; first | (rw [decide_eq_true (by omega)]; done) | (rw [decide_eq_false (by omega)]; done) | (refine decide_eq_decide.2 ?_; omega)) | (exfalso; omega)
set_option maxHeartbeats 2000000 in
set_option maxRecDepth 100000 in
theorem nearest_w (x d : Int) (hd : 0 < d) (d1 : d ≤ 9223372036854775807) (x0 : -85070591730234615865843651857942052864 ≤ x) (x1 : x ≤ 85070591730234615865843651857942052864) (w : World) : Calls Try.prog 35 #[.agg #[.int .i64 (wh (x)), .int .u64 (wl (x))], .int .i64 d] w fun e w' => e = .returned (.int .i64 (nrV (nq x d))) ∧ Kept w w' := by
  obtain ⟨e1, e2, q0, q1⟩ := wq_nq (x := x) hd x0 x1
  have HN := wNearest_w x d (by omega) (by omega) (by omega) (by omega)
  rw [e1, e2] at HN
  have HO := of_w d (by omega) d1
  have Q0 := q0
  clear e1 e2
  obtain ⟨Q, hQ⟩ : ∃ Q, nq x d = Q := ⟨_, rfl⟩
  rw [hQ] at HN q0 q1
  rw [hQ]
  clear hQ Q0
  have HHN := Lib.hid HN
  have HHO := Lib.hid HO
  clear HN HO
  by_cases c : -9223372036854775808 ≤ Q ∧ Q ≤ 9223372036854775807
  · have HI := Lib.hid (int_ok Q c.1 c.2)
    rw [nrV_in c.1 c.2]
    generalize hA : wh x = A at *; generalize ha : wl x = a at *
    generalize wh d = B at *; generalize wl d = b at *
    generalize wh Q = C at *; generalize wl Q = g at *
    clear hA ha
    go_enter Try.func35, Try.ntmps35
    go_wp2_with fail
    have B0 : OwnB (w.alloc (.cells #[.int .i64 A, .int .u64 a] 34)) (w.heap.size) [.int .i64 A, .int .u64 a] := own_alloc _ [.int .i64 A, .int .u64 a] 34
    have HB0_0 := Lib.hid B0
    clear B0
    go_upto_region 1 with (fail)
    go_cut [5, 6] (fun p0 c0 wx => ∃ b0 : Nat, p0 = .pointer (some ⟨b0, 0, none⟩) ∧ c0 = .bool true ∧ w.heap.size < b0 ∧ OwnB wx (b0) [.int .i64 C, .int .u64 g] ∧ OwnB wx (w.heap.size) [.int .i64 A, .int .u64 a] ∧ Kept (w.alloc (.cells #[.int .i64 A, .int .u64 a] 34)) wx)
    case first =>
      go_region_held3 (fun W => W.cell? ⟨w.heap.size, 0, none⟩ = some (.int .i64 A) ∧ W.cell? ⟨w.heap.size, 1, none⟩ = some (.int .u64 a)) (first | (go_keep; done) | (simp (maxDischargeDepth := 9) [*, World.cell?_alloc_some, World.cell?_setCell_far]; done) | (simp (maxDischargeDepth := 9) [go_sem, *]; done)) (first | (go_at_call 31; (with_reducible refine (HHO.out _).mono ?_); rintro e n0 ⟨rfl, hk⟩; have hz := hk.size; (try (refine kuse (b := w.heap.size) hk (by first | (simp; done) | (simp; omega) | omega) ?_; intro hq hg; have hy : w.heap.size < n0.heap.size := (by (try simp at hz); omega); have hn : ¬ w.heap.size = n0.heap.size := (by omega); have hm : ¬ w.heap.size = n0.heap.size + 1 := (by omega); have hn' : ¬ n0.heap.size = w.heap.size := (by omega); have hm' : ¬ n0.heap.size + 1 = w.heap.size := (by omega))); (try (have hle : w.heap.size ≤ n0.heap.size := (by (try simp at hz); omega))); (try (refine kuse (b := w.heap.size + 1) hk (by first | (simp; done) | (simp; omega) | omega) ?_; intro hq hg; have hy : w.heap.size + 1 < n0.heap.size := (by (try simp at hz); omega))); (try (refine withF (p := n0.cell? ⟨w.heap.size, 0, none⟩ = some (.int .i64 A)) (by first | (simp (maxDischargeDepth := 7) [go_sem, *]; done) | fail) ?_; intro ff)); (try (refine withF (p := n0.cell? ⟨w.heap.size, 1, none⟩ = some (.int .u64 a)) (by first | (simp (maxDischargeDepth := 7) [go_sem, *]; done) | fail) ?_; intro ff))) | (go_at_call 55; (with_reducible refine (HHN.out _).mono ?_); rintro e n1 ⟨rfl, hk⟩; have hz := hk.size; (try (refine kuse (b := w.heap.size) hk (by first | (simp; done) | (simp; omega) | omega) ?_; intro hq hg; have hy : w.heap.size < n1.heap.size := (by (try simp at hz); omega); have hn : ¬ w.heap.size = n1.heap.size := (by omega); have hm : ¬ w.heap.size = n1.heap.size + 1 := (by omega); have hn' : ¬ n1.heap.size = w.heap.size := (by omega); have hm' : ¬ n1.heap.size + 1 = w.heap.size := (by omega))); (try (have hle : w.heap.size ≤ n1.heap.size := (by (try simp at hz); omega))); (try (have hle : n0.heap.size ≤ n1.heap.size := (by (try simp at hz); omega))); (try (refine kuse (b := n0.heap.size) hk (by first | (simp; done) | (simp; omega) | omega) ?_; intro hq hg; have hy : n0.heap.size < n1.heap.size := (by (try simp at hz); omega))); (try (refine kuse (b := w.heap.size + 1) hk (by first | (simp; done) | (simp; omega) | omega) ?_; intro hq hg; have hy : w.heap.size + 1 < n1.heap.size := (by (try simp at hz); omega))); (try (refine withF (p := n1.cell? ⟨w.heap.size, 0, none⟩ = some (.int .i64 A)) (by first | (simp (maxDischargeDepth := 7) [go_sem, *]; done) | fail) ?_; intro ff)); (try (refine withF (p := n1.cell? ⟨w.heap.size, 1, none⟩ = some (.int .u64 a)) (by first | (simp (maxDischargeDepth := 7) [go_sem, *]; done) | fail) ?_; intro ff))))
      all_goals (try go_wp2_with fail)
      all_goals (go_meet; case rel => refine (fun (hkx : Kept (w.alloc (.cells #[.int .i64 A, .int .u64 a] 34)) _) => ⟨_, rfl, rfl, (by first | with_reducible assumption | omega | (simp; omega)), (by repeat (first | with_reducible exact own_alloc _ [.int .i64 C, .int .u64 g] 34 | with_reducible exact own_alloc _ [.int .i64 0, .int .u64 0] 34 | ((with_reducible refine own_allocE _ [.int .i64 C, .int .u64 g] 34 _ ?_); (simp; done)) | ((with_reducible refine own_allocE _ [.int .i64 0, .int .u64 0] 34 _ ?_); (simp; done)) | with_reducible refine own_set2 (us := [.int .i64 0, .int .u64 0]) ?_ rfl | with_reducible refine OwnB.other2 ?_ (by first | with_reducible assumption | omega | (simp; done) | (simp; omega)) | with_reducible refine OwnB.alloc ?_ _ | with_reducible refine OwnB.drew ?_ | with_reducible refine OwnB.drewN ?_ _ | with_reducible refine OwnB.kept (by with_reducible assumption) ?_)), OwnB.kept hkx HB0_0.out, hkx⟩) ?_; exact (by repeat (first | with_reducible exact Kept.refl _ | with_reducible assumption | with_reducible refine Kept.set12 ?_ (by first | with_reducible assumption | omega | (simp; done) | (simp; omega)) | with_reducible refine Kept.set11 ?_ (by first | with_reducible assumption | omega | (simp; done) | (simp; omega)) | with_reducible refine Kept.set10 ?_ (by first | with_reducible assumption | omega | (simp; done) | (simp; omega)) | with_reducible refine Kept.set9 ?_ (by first | with_reducible assumption | omega | (simp; done) | (simp; omega)) | with_reducible refine Kept.set8 ?_ (by first | with_reducible assumption | omega | (simp; done) | (simp; omega)) | with_reducible refine Kept.set7 ?_ (by first | with_reducible assumption | omega | (simp; done) | (simp; omega)) | with_reducible refine Kept.set6 ?_ (by first | with_reducible assumption | omega | (simp; done) | (simp; omega)) | with_reducible refine Kept.set5 ?_ (by first | with_reducible assumption | omega | (simp; done) | (simp; omega)) | with_reducible refine Kept.set4 ?_ (by first | with_reducible assumption | omega | (simp; done) | (simp; omega)) | with_reducible refine Kept.set3 ?_ (by first | with_reducible assumption | omega | (simp; done) | (simp; omega)) | with_reducible refine Kept.set2 ?_ (by first | with_reducible assumption | omega | (simp; done) | (simp; omega)) | with_reducible refine Kept.setCell ?_ (by first | with_reducible assumption | omega | (simp; done) | (simp; omega)) _ | with_reducible refine Kept.alloc ?_ _ | with_reducible refine Kept.drewN ?_ _ | with_reducible refine Kept.drew ?_ | with_reducible refine Kept.trans ?_ (by with_reducible assumption) | with_reducible refine Kept.dr ?_ (by with_reducible assumption))))
    case rest =>
    obtain ⟨b1_0, rfl, rfl, lt1_0, O1_0, O1_1, hkc1⟩ := hcut
    obtain ⟨hz_c1_0, hg_c1_0, hf_c1_0_0, hf_c1_0_1, _⟩ := O1_0
    obtain ⟨hz_c1_1, hg_c1_1, hf_c1_1_0, hf_c1_1_1, _⟩ := O1_1
    go_wp2_with fail
    with_reducible refine (HI.out _).mono ?_
    rintro e w1 ⟨rfl, hk1⟩
    refine kuz (b := b1_0) hk1 (by first | (simp; done) | (simp; omega) | omega) ?_
    intro ha hb hz1_0 hn1_0 hm1_0
    have hf1_0_0 : w1.cell? ⟨b1_0, 0, none⟩ = some (.int .i64 C) := (ha _).trans (by first | with_reducible assumption | (simp (maxDischargeDepth := 7) [go_sem]; done) | (simp (maxDischargeDepth := 7) [go_sem, *]; done))
    have hf1_0_1 : w1.cell? ⟨b1_0, 1, none⟩ = some (.int .u64 g) := (ha _).trans (by first | with_reducible assumption | (simp (maxDischargeDepth := 7) [go_sem]; done) | (simp (maxDischargeDepth := 7) [go_sem, *]; done))
    try have hg1_0 : ∀ o, w1.frozen? ⟨b1_0, o, none⟩ = false := by intro o; rw [hb]; first | (simp (maxDischargeDepth := 7) [go_sem]; done) | (simp (maxDischargeDepth := 7) [go_sem, *]; done)
    clear ha hb
    refine kuz (b := w.heap.size) hk1 (by first | (simp; done) | (simp; omega) | omega) ?_
    intro ha hb hz1_1 hn1_1 hm1_1
    have hf1_1_0 : w1.cell? ⟨w.heap.size, 0, none⟩ = some (.int .i64 A) := (ha _).trans (by first | with_reducible assumption | (simp (maxDischargeDepth := 7) [go_sem]; done) | (simp (maxDischargeDepth := 7) [go_sem, *]; done))
    have hf1_1_1 : w1.cell? ⟨w.heap.size, 1, none⟩ = some (.int .u64 a) := (ha _).trans (by first | with_reducible assumption | (simp (maxDischargeDepth := 7) [go_sem]; done) | (simp (maxDischargeDepth := 7) [go_sem, *]; done))
    try have hg1_1 : ∀ o, w1.frozen? ⟨w.heap.size, o, none⟩ = false := by intro o; rw [hb]; first | (simp (maxDischargeDepth := 7) [go_sem]; done) | (simp (maxDischargeDepth := 7) [go_sem, *]; done)
    clear ha hb
    try clear hf_c1_0_0
    try clear hf_c1_0_1
    try clear hf_c1_1_0
    try clear hf_c1_1_1
    try clear hg_c1_0
    try clear hg_c1_1
    go_wp2_with fail
    all_goals (go_ret; exact ⟨rfl, (by repeat (first | with_reducible exact Kept.refl _ | with_reducible assumption | with_reducible refine Kept.setCell ?_ (by first | (simp; done) | (simp; omega) | omega) _ | with_reducible refine Kept.alloc ?_ _ | with_reducible refine Kept.drewN ?_ _ | with_reducible refine Kept.drew ?_ | with_reducible refine Kept.trans ?_ (by with_reducible assumption) | with_reducible refine Kept.dr ?_ (by with_reducible assumption)))⟩)
  · have HI := Lib.hid (int_no Q (by omega))
    rw [nrV_out (by omega)]
    generalize hA : wh x = A at *; generalize ha : wl x = a at *
    generalize wh d = B at *; generalize wl d = b at *
    generalize wh Q = C at *; generalize wl Q = g at *
    clear hA ha
    clear c
    go_enter Try.func35, Try.ntmps35
    go_wp2_with fail
    have B0 : OwnB (w.alloc (.cells #[.int .i64 A, .int .u64 a] 34)) (w.heap.size) [.int .i64 A, .int .u64 a] := own_alloc _ [.int .i64 A, .int .u64 a] 34
    have HB0_0 := Lib.hid B0
    clear B0
    go_upto_region 1 with (fail)
    go_cut [5, 6] (fun p0 c0 wx => ∃ b0 : Nat, p0 = .pointer (some ⟨b0, 0, none⟩) ∧ c0 = .bool true ∧ w.heap.size < b0 ∧ OwnB wx (b0) [.int .i64 C, .int .u64 g] ∧ OwnB wx (w.heap.size) [.int .i64 A, .int .u64 a] ∧ Kept (w.alloc (.cells #[.int .i64 A, .int .u64 a] 34)) wx)
    case first =>
      go_region_held3 (fun W => W.cell? ⟨w.heap.size, 0, none⟩ = some (.int .i64 A) ∧ W.cell? ⟨w.heap.size, 1, none⟩ = some (.int .u64 a)) (first | (go_keep; done) | (simp (maxDischargeDepth := 9) [*, World.cell?_alloc_some, World.cell?_setCell_far]; done) | (simp (maxDischargeDepth := 9) [go_sem, *]; done)) (first | (go_at_call 31; (with_reducible refine (HHO.out _).mono ?_); rintro e n0 ⟨rfl, hk⟩; have hz := hk.size; (try (refine kuse (b := w.heap.size) hk (by first | (simp; done) | (simp; omega) | omega) ?_; intro hq hg; have hy : w.heap.size < n0.heap.size := (by (try simp at hz); omega); have hn : ¬ w.heap.size = n0.heap.size := (by omega); have hm : ¬ w.heap.size = n0.heap.size + 1 := (by omega); have hn' : ¬ n0.heap.size = w.heap.size := (by omega); have hm' : ¬ n0.heap.size + 1 = w.heap.size := (by omega))); (try (have hle : w.heap.size ≤ n0.heap.size := (by (try simp at hz); omega))); (try (refine kuse (b := w.heap.size + 1) hk (by first | (simp; done) | (simp; omega) | omega) ?_; intro hq hg; have hy : w.heap.size + 1 < n0.heap.size := (by (try simp at hz); omega))); (try (refine withF (p := n0.cell? ⟨w.heap.size, 0, none⟩ = some (.int .i64 A)) (by first | (simp (maxDischargeDepth := 7) [go_sem, *]; done) | fail) ?_; intro ff)); (try (refine withF (p := n0.cell? ⟨w.heap.size, 1, none⟩ = some (.int .u64 a)) (by first | (simp (maxDischargeDepth := 7) [go_sem, *]; done) | fail) ?_; intro ff))) | (go_at_call 55; (with_reducible refine (HHN.out _).mono ?_); rintro e n1 ⟨rfl, hk⟩; have hz := hk.size; (try (refine kuse (b := w.heap.size) hk (by first | (simp; done) | (simp; omega) | omega) ?_; intro hq hg; have hy : w.heap.size < n1.heap.size := (by (try simp at hz); omega); have hn : ¬ w.heap.size = n1.heap.size := (by omega); have hm : ¬ w.heap.size = n1.heap.size + 1 := (by omega); have hn' : ¬ n1.heap.size = w.heap.size := (by omega); have hm' : ¬ n1.heap.size + 1 = w.heap.size := (by omega))); (try (have hle : w.heap.size ≤ n1.heap.size := (by (try simp at hz); omega))); (try (have hle : n0.heap.size ≤ n1.heap.size := (by (try simp at hz); omega))); (try (refine kuse (b := n0.heap.size) hk (by first | (simp; done) | (simp; omega) | omega) ?_; intro hq hg; have hy : n0.heap.size < n1.heap.size := (by (try simp at hz); omega))); (try (refine kuse (b := w.heap.size + 1) hk (by first | (simp; done) | (simp; omega) | omega) ?_; intro hq hg; have hy : w.heap.size + 1 < n1.heap.size := (by (try simp at hz); omega))); (try (refine withF (p := n1.cell? ⟨w.heap.size, 0, none⟩ = some (.int .i64 A)) (by first | (simp (maxDischargeDepth := 7) [go_sem, *]; done) | fail) ?_; intro ff)); (try (refine withF (p := n1.cell? ⟨w.heap.size, 1, none⟩ = some (.int .u64 a)) (by first | (simp (maxDischargeDepth := 7) [go_sem, *]; done) | fail) ?_; intro ff))))
      all_goals (try go_wp2_with fail)
      all_goals (go_meet; case rel => refine (fun (hkx : Kept (w.alloc (.cells #[.int .i64 A, .int .u64 a] 34)) _) => ⟨_, rfl, rfl, (by first | with_reducible assumption | omega | (simp; omega)), (by repeat (first | with_reducible exact own_alloc _ [.int .i64 C, .int .u64 g] 34 | with_reducible exact own_alloc _ [.int .i64 0, .int .u64 0] 34 | ((with_reducible refine own_allocE _ [.int .i64 C, .int .u64 g] 34 _ ?_); (simp; done)) | ((with_reducible refine own_allocE _ [.int .i64 0, .int .u64 0] 34 _ ?_); (simp; done)) | with_reducible refine own_set2 (us := [.int .i64 0, .int .u64 0]) ?_ rfl | with_reducible refine OwnB.other2 ?_ (by first | with_reducible assumption | omega | (simp; done) | (simp; omega)) | with_reducible refine OwnB.alloc ?_ _ | with_reducible refine OwnB.drew ?_ | with_reducible refine OwnB.drewN ?_ _ | with_reducible refine OwnB.kept (by with_reducible assumption) ?_)), OwnB.kept hkx HB0_0.out, hkx⟩) ?_; exact (by repeat (first | with_reducible exact Kept.refl _ | with_reducible assumption | with_reducible refine Kept.set12 ?_ (by first | with_reducible assumption | omega | (simp; done) | (simp; omega)) | with_reducible refine Kept.set11 ?_ (by first | with_reducible assumption | omega | (simp; done) | (simp; omega)) | with_reducible refine Kept.set10 ?_ (by first | with_reducible assumption | omega | (simp; done) | (simp; omega)) | with_reducible refine Kept.set9 ?_ (by first | with_reducible assumption | omega | (simp; done) | (simp; omega)) | with_reducible refine Kept.set8 ?_ (by first | with_reducible assumption | omega | (simp; done) | (simp; omega)) | with_reducible refine Kept.set7 ?_ (by first | with_reducible assumption | omega | (simp; done) | (simp; omega)) | with_reducible refine Kept.set6 ?_ (by first | with_reducible assumption | omega | (simp; done) | (simp; omega)) | with_reducible refine Kept.set5 ?_ (by first | with_reducible assumption | omega | (simp; done) | (simp; omega)) | with_reducible refine Kept.set4 ?_ (by first | with_reducible assumption | omega | (simp; done) | (simp; omega)) | with_reducible refine Kept.set3 ?_ (by first | with_reducible assumption | omega | (simp; done) | (simp; omega)) | with_reducible refine Kept.set2 ?_ (by first | with_reducible assumption | omega | (simp; done) | (simp; omega)) | with_reducible refine Kept.setCell ?_ (by first | with_reducible assumption | omega | (simp; done) | (simp; omega)) _ | with_reducible refine Kept.alloc ?_ _ | with_reducible refine Kept.drewN ?_ _ | with_reducible refine Kept.drew ?_ | with_reducible refine Kept.trans ?_ (by with_reducible assumption) | with_reducible refine Kept.dr ?_ (by with_reducible assumption))))
    case rest =>
    obtain ⟨b1_0, rfl, rfl, lt1_0, O1_0, O1_1, hkc1⟩ := hcut
    obtain ⟨hz_c1_0, hg_c1_0, hf_c1_0_0, hf_c1_0_1, _⟩ := O1_0
    obtain ⟨hz_c1_1, hg_c1_1, hf_c1_1_0, hf_c1_1_1, _⟩ := O1_1
    go_wp2_with fail
    with_reducible refine (HI.out _).mono ?_
    rintro e w1 ⟨rfl, hk1⟩
    refine kuz (b := b1_0) hk1 (by first | (simp; done) | (simp; omega) | omega) ?_
    intro ha hb hz1_0 hn1_0 hm1_0
    have hf1_0_0 : w1.cell? ⟨b1_0, 0, none⟩ = some (.int .i64 C) := (ha _).trans (by first | with_reducible assumption | (simp (maxDischargeDepth := 7) [go_sem]; done) | (simp (maxDischargeDepth := 7) [go_sem, *]; done))
    have hf1_0_1 : w1.cell? ⟨b1_0, 1, none⟩ = some (.int .u64 g) := (ha _).trans (by first | with_reducible assumption | (simp (maxDischargeDepth := 7) [go_sem]; done) | (simp (maxDischargeDepth := 7) [go_sem, *]; done))
    try have hg1_0 : ∀ o, w1.frozen? ⟨b1_0, o, none⟩ = false := by intro o; rw [hb]; first | (simp (maxDischargeDepth := 7) [go_sem]; done) | (simp (maxDischargeDepth := 7) [go_sem, *]; done)
    clear ha hb
    refine kuz (b := w.heap.size) hk1 (by first | (simp; done) | (simp; omega) | omega) ?_
    intro ha hb hz1_1 hn1_1 hm1_1
    have hf1_1_0 : w1.cell? ⟨w.heap.size, 0, none⟩ = some (.int .i64 A) := (ha _).trans (by first | with_reducible assumption | (simp (maxDischargeDepth := 7) [go_sem]; done) | (simp (maxDischargeDepth := 7) [go_sem, *]; done))
    have hf1_1_1 : w1.cell? ⟨w.heap.size, 1, none⟩ = some (.int .u64 a) := (ha _).trans (by first | with_reducible assumption | (simp (maxDischargeDepth := 7) [go_sem]; done) | (simp (maxDischargeDepth := 7) [go_sem, *]; done))
    try have hg1_1 : ∀ o, w1.frozen? ⟨w.heap.size, o, none⟩ = false := by intro o; rw [hb]; first | (simp (maxDischargeDepth := 7) [go_sem]; done) | (simp (maxDischargeDepth := 7) [go_sem, *]; done)
    clear ha hb
    try clear hf_c1_0_0
    try clear hf_c1_0_1
    try clear hf_c1_1_0
    try clear hf_c1_1_1
    try clear hg_c1_0
    try clear hg_c1_1
    go_wp2_with fail
    all_goals (go_ret; exact ⟨rfl, (by repeat (first | with_reducible exact Kept.refl _ | with_reducible assumption | with_reducible refine Kept.setCell ?_ (by first | (simp; done) | (simp; omega) | omega) _ | with_reducible refine Kept.alloc ?_ _ | with_reducible refine Kept.drewN ?_ _ | with_reducible refine Kept.drew ?_ | with_reducible refine Kept.trans ?_ (by with_reducible assumption) | with_reducible refine Kept.dr ?_ (by with_reducible assumption)))⟩)
end Go.Proofs.Ytoegcfdlecbcjaa
