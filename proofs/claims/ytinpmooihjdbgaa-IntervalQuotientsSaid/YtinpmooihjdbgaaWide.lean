/-
  Own contracts: package wide: quotients rounded down, up, to the nearest.
-/
import Derived.Test.YtinpmooihjdbgaaWidq
import Derived.WalkKit
import Derived.ProofKit
import Derived.OpenShut
import Derived.WalkLawsBesides
import Derived.WalkSpells
import Derived.Lib.Hide
import Derived.Deep.DeepCutAuto
import Derived.Deep.CutBlock
import Derived.Deep.QuietTactic
import Derived.BigQuiet
import Derived.Handy
import Derived.StillTailTactics
import Derived.IntWalk
import Derived.LoopN
import Derived.Deep.RegionHeld3
namespace Go.Proofs.Ytinpmooihjdbgaa
open Go.ChangeShapes Go.WideShapes Go.ChangeAt Go.RowKit
set_option linter.unusedVariables false
set_option linter.unusedSimpArgs false

set_option maxHeartbeats 2000000 in
set_option maxRecDepth 100000 in
theorem grow_Div (r d : Int) (N : Bool) (w : World) : Calls Try.prog 73 #[.agg #[.int .u64 (wh (r)), .int .u64 (wl (r))], .agg #[.int .u64 (wh (d)), .int .u64 (wl (d))], .bool N] w fun e w' => e = .returned (.bool (N)) ∧ Kept w w' := by
  generalize wh r = A at *; generalize wl r = a at *; generalize wh d = B at *; generalize wl d = b at *
  go_enter Try.func73, Try.ntmps73
  go_wp2_with fail
  go_ret
  exact ⟨rfl, (by repeat (first | with_reducible exact Kept.refl _ | with_reducible assumption | with_reducible refine Kept.setCell ?_ (by first | (simp; done) | (simp; omega) | omega) _ | with_reducible refine Kept.alloc ?_ _ | with_reducible refine Kept.drewN ?_ _ | with_reducible refine Kept.drew ?_ | with_reducible refine Kept.trans ?_ (by with_reducible assumption) | with_reducible refine Kept.dr ?_ (by with_reducible assumption)))⟩
set_option maxHeartbeats 2000000 in
set_option maxRecDepth 100000 in
theorem grow_DivUp (r d : Int) (N : Bool) (w : World) : Calls Try.prog 74 #[.agg #[.int .u64 (wh (r)), .int .u64 (wl (r))], .agg #[.int .u64 (wh (d)), .int .u64 (wl (d))], .bool N] w fun e w' => e = .returned (.bool (!N)) ∧ Kept w w' := by
  generalize wh r = A at *; generalize wl r = a at *; generalize wh d = B at *; generalize wl d = b at *
  go_enter Try.func74, Try.ntmps74
  go_wp2_with fail
  go_ret
  exact ⟨rfl, (by repeat (first | with_reducible exact Kept.refl _ | with_reducible assumption | with_reducible refine Kept.setCell ?_ (by first | (simp; done) | (simp; omega) | omega) _ | with_reducible refine Kept.alloc ?_ _ | with_reducible refine Kept.drewN ?_ _ | with_reducible refine Kept.drew ?_ | with_reducible refine Kept.trans ?_ (by with_reducible assumption) | with_reducible refine Kept.dr ?_ (by with_reducible assumption)))⟩
theorem gr_0 (r d : Int) (N : Bool) (h : r ≠ 0) : gr 0 r d N = N := by unfold gr; rw [if_neg h, if_pos rfl]
theorem gr_1 (r d : Int) (N : Bool) (h : r ≠ 0) : gr 1 r d N = !N := by unfold gr; rw [if_neg h, if_neg (by decide), if_pos rfl]
theorem gr_z (way d : Int) (N : Bool) : gr way 0 d N = false := by unfold gr; rw [if_pos rfl]
theorem wq_z (way u v : Int) (N : Bool) (hn : wqn u v = N) (h : wmag u % wmag v = 0) : wq way u v = sgd N (wmag u / wmag v) := by
  unfold wq wqm; rw [h, gr_z, hn]; unfold bi; simp
theorem wq_g (way u v : Int) (N : Bool) (hn : wqn u v = N) : wq way u v = sgd N (wmag u / wmag v + bi (gr way (wmag u % wmag v) (wmag v) N)) := by
  unfold wq wqm; rw [hn]
theorem wqVE (way u v : Int) (h : v ≠ 0) : wqV way u v = wval (wq way u v) ∧ wqE way u v = wfit (wq way u v) := by
  unfold wqV wqE; rw [if_neg h, if_neg h]; exact ⟨rfl, rfl⟩
theorem wqVE0 (way u : Int) : wqV way u 0 = 0 ∧ wqE way u 0 = false := by unfold wqV wqE; exact ⟨rfl, rfl⟩
theorem quo_Div (u v : Int) (u0 : -170141183460469231731687303715884105728 ≤ u) (u1 : u < 170141183460469231731687303715884105728) (v0 : -170141183460469231731687303715884105728 ≤ v) (v1 : v < 170141183460469231731687303715884105728) (w : World) : Calls Try.prog 72 #[.agg #[.int .i64 (wh (u)), .int .u64 (wl (u))], .agg #[.int .i64 (wh (v)), .int .u64 (wl (v))], .func (.func 73) #[] #[]] w fun e w' => e = .returned (.tuple #[.agg #[.int .i64 (wh (wqV 0 u v)), .int .u64 (wl (wqV 0 u v))], .bool (wqE 0 u v)]) ∧ Kept w w' := by
  by_cases hv : v = 0
  · subst hv
    rw [(wqVE0 0 u).1, (wqVE0 0 u).2]
    have z1 : wh 0 = 0 := by decide
    have z2 : wl 0 = 0 := by decide
    rw [z1, z2]
    exact quotient_0 u u0 u1 73 w
  · rw [(wqVE 0 u v hv).1, (wqVE 0 u v hv).2]
    obtain ⟨N, hN⟩ : ∃ N, wqn u v = N := ⟨_, rfl⟩
    by_cases hr : wmag u % wmag v = 0
    · rw [wq_z 0 u v N hN hr]
      exact quotient_e u v u0 u1 v0 v1 hv N hN hr 73 w
    · rw [wq_g 0 u v N hN]
      have d0 : 0 < wmag v := by unfold wmag; split <;> omega
      have d1 := (wmag_bd v v0 v1).2
      have r0 := Int.emod_nonneg (wmag u) (show wmag v ≠ 0 by omega)
      have r1 := Int.emod_lt_of_pos (wmag u) d0
      refine quotient_Div u v u0 u1 v0 v1 hv N hN hr _ (fun w => ?_) w
      rw [gr_0 _ _ _ hr]; exact grow_Div _ _ _ w
set_option maxHeartbeats 2000000 in
set_option maxRecDepth 100000 in
theorem wDiv_w (u v : Int) (u0 : -170141183460469231731687303715884105728 ≤ u) (u1 : u < 170141183460469231731687303715884105728) (v0 : -170141183460469231731687303715884105728 ≤ v) (v1 : v < 170141183460469231731687303715884105728) (w : World) : Calls Try.prog 50 #[.agg #[.int .i64 (wh (u)), .int .u64 (wl (u))], .agg #[.int .i64 (wh (v)), .int .u64 (wl (v))]] w fun e w' => e = .returned (.tuple #[.agg #[.int .i64 (wh (wqV 0 u v)), .int .u64 (wl (wqV 0 u v))], .bool (wqE 0 u v)]) ∧ Kept w w' := by
  have H := Lib.hid (quo_Div u v u0 u1 v0 v1)
  generalize wqV 0 u v = V at *
  generalize wqE 0 u v = O at *
  generalize wh u = A at *; generalize wl u = a at *; generalize wh v = B at *; generalize wl v = b at *
  clear u0 u1 v0 v1
  go_enter Try.func50, Try.ntmps50
  go_wp2_with fail
  with_reducible refine (H.out _).mono ?_
  rintro e w1 ⟨rfl, hk1⟩
  refine kuse (b := w.heap.size) hk1 (by first | (simp; done) | (simp; omega) | omega) ?_
  intro ha hb
  have hz1_0 : w.heap.size < w1.heap.size := by have := hk1.size; (try simp at this); omega
  have hn1_0 : ¬ w.heap.size = w1.heap.size := by omega
  have hm1_0 : ¬ w1.heap.size = w.heap.size := by omega
  have hf1_0_0 : w1.cell? ⟨w.heap.size, 0, none⟩ = some (.int .i64 A) := by first | (rw [ha]; with_reducible assumption) | (simp (maxDischargeDepth := 7) [go_sem, ha]; done) | (rw [ha]; assumption) | (simp (maxDischargeDepth := 7) [go_sem, ha, *]; done)
  have hf1_0_1 : w1.cell? ⟨w.heap.size, 1, none⟩ = some (.int .u64 a) := by first | (rw [ha]; with_reducible assumption) | (simp (maxDischargeDepth := 7) [go_sem, ha]; done) | (rw [ha]; assumption) | (simp (maxDischargeDepth := 7) [go_sem, ha, *]; done)
  try have hg1_0 : ∀ o, w1.frozen? ⟨w.heap.size, o, none⟩ = false := by intro o; first | (simp (maxDischargeDepth := 7) [go_sem, hb]; done) | (rw [hb]; simp (maxDischargeDepth := 7) [go_sem, *]; done)
  clear ha hb
  refine kuse (b := w.heap.size + 1) hk1 (by first | (simp; done) | (simp; omega) | omega) ?_
  intro ha hb
  have hz1_1 : w.heap.size + 1 < w1.heap.size := by have := hk1.size; (try simp at this); omega
  have hn1_1 : ¬ w.heap.size + 1 = w1.heap.size := by omega
  have hm1_1 : ¬ w1.heap.size = w.heap.size + 1 := by omega
  have hf1_1_0 : w1.cell? ⟨w.heap.size + 1, 0, none⟩ = some (.int .i64 B) := by first | (rw [ha]; with_reducible assumption) | (simp (maxDischargeDepth := 7) [go_sem, ha]; done) | (rw [ha]; assumption) | (simp (maxDischargeDepth := 7) [go_sem, ha, *]; done)
  have hf1_1_1 : w1.cell? ⟨w.heap.size + 1, 1, none⟩ = some (.int .u64 b) := by first | (rw [ha]; with_reducible assumption) | (simp (maxDischargeDepth := 7) [go_sem, ha]; done) | (rw [ha]; assumption) | (simp (maxDischargeDepth := 7) [go_sem, ha, *]; done)
  try have hg1_1 : ∀ o, w1.frozen? ⟨w.heap.size + 1, o, none⟩ = false := by intro o; first | (simp (maxDischargeDepth := 7) [go_sem, hb]; done) | (rw [hb]; simp (maxDischargeDepth := 7) [go_sem, *]; done)
  clear ha hb
  refine kuse (b := w.heap.size + 2) hk1 (by first | (simp; done) | (simp; omega) | omega) ?_
  intro ha hb
  have hz1_2 : w.heap.size + 2 < w1.heap.size := by have := hk1.size; (try simp at this); omega
  have hn1_2 : ¬ w.heap.size + 2 = w1.heap.size := by omega
  have hm1_2 : ¬ w1.heap.size = w.heap.size + 2 := by omega
  have hf1_2_0 : w1.cell? ⟨w.heap.size + 2, 0, none⟩ = some (.int .i64 0) := by first | (rw [ha]; with_reducible assumption) | (simp (maxDischargeDepth := 7) [go_sem, ha]; done) | (rw [ha]; assumption) | (simp (maxDischargeDepth := 7) [go_sem, ha, *]; done)
  have hf1_2_1 : w1.cell? ⟨w.heap.size + 2, 1, none⟩ = some (.int .u64 0) := by first | (rw [ha]; with_reducible assumption) | (simp (maxDischargeDepth := 7) [go_sem, ha]; done) | (rw [ha]; assumption) | (simp (maxDischargeDepth := 7) [go_sem, ha, *]; done)
  try have hg1_2 : ∀ o, w1.frozen? ⟨w.heap.size + 2, o, none⟩ = false := by intro o; first | (simp (maxDischargeDepth := 7) [go_sem, hb]; done) | (rw [hb]; simp (maxDischargeDepth := 7) [go_sem, *]; done)
  clear ha hb
  go_wp2_with fail
  all_goals exact bodyPost_ret (v := .tuple #[.agg #[.int .i64 (wh (V)), .int .u64 (wl (V))], .bool O]) (by first | (simp [results, Try.results50, go_sem]; done) | (simp (maxDischargeDepth := 7) [results, Try.results50, go_sem, *]; done)) rfl ⟨rfl, (by repeat (first | with_reducible exact Kept.refl _ | with_reducible assumption | with_reducible refine Kept.setCell ?_ (by first | (simp; done) | (simp; omega) | omega) _ | with_reducible refine Kept.alloc ?_ _ | with_reducible refine Kept.drewN ?_ _ | with_reducible refine Kept.drew ?_ | with_reducible refine Kept.trans ?_ (by with_reducible assumption) | with_reducible refine Kept.dr ?_ (by with_reducible assumption)))⟩
theorem quo_DivUp (u v : Int) (u0 : -170141183460469231731687303715884105728 ≤ u) (u1 : u < 170141183460469231731687303715884105728) (v0 : -170141183460469231731687303715884105728 ≤ v) (v1 : v < 170141183460469231731687303715884105728) (w : World) : Calls Try.prog 72 #[.agg #[.int .i64 (wh (u)), .int .u64 (wl (u))], .agg #[.int .i64 (wh (v)), .int .u64 (wl (v))], .func (.func 74) #[] #[]] w fun e w' => e = .returned (.tuple #[.agg #[.int .i64 (wh (wqV 1 u v)), .int .u64 (wl (wqV 1 u v))], .bool (wqE 1 u v)]) ∧ Kept w w' := by
  by_cases hv : v = 0
  · subst hv
    rw [(wqVE0 1 u).1, (wqVE0 1 u).2]
    have z1 : wh 0 = 0 := by decide
    have z2 : wl 0 = 0 := by decide
    rw [z1, z2]
    exact quotient_0 u u0 u1 74 w
  · rw [(wqVE 1 u v hv).1, (wqVE 1 u v hv).2]
    obtain ⟨N, hN⟩ : ∃ N, wqn u v = N := ⟨_, rfl⟩
    by_cases hr : wmag u % wmag v = 0
    · rw [wq_z 1 u v N hN hr]
      exact quotient_e u v u0 u1 v0 v1 hv N hN hr 74 w
    · rw [wq_g 1 u v N hN]
      have d0 : 0 < wmag v := by unfold wmag; split <;> omega
      have d1 := (wmag_bd v v0 v1).2
      have r0 := Int.emod_nonneg (wmag u) (show wmag v ≠ 0 by omega)
      have r1 := Int.emod_lt_of_pos (wmag u) d0
      refine quotient_DivUp u v u0 u1 v0 v1 hv N hN hr _ (fun w => ?_) w
      rw [gr_1 _ _ _ hr]; exact grow_DivUp _ _ _ w
set_option maxHeartbeats 2000000 in
set_option maxRecDepth 100000 in
theorem wDivUp_w (u v : Int) (u0 : -170141183460469231731687303715884105728 ≤ u) (u1 : u < 170141183460469231731687303715884105728) (v0 : -170141183460469231731687303715884105728 ≤ v) (v1 : v < 170141183460469231731687303715884105728) (w : World) : Calls Try.prog 51 #[.agg #[.int .i64 (wh (u)), .int .u64 (wl (u))], .agg #[.int .i64 (wh (v)), .int .u64 (wl (v))]] w fun e w' => e = .returned (.tuple #[.agg #[.int .i64 (wh (wqV 1 u v)), .int .u64 (wl (wqV 1 u v))], .bool (wqE 1 u v)]) ∧ Kept w w' := by
  have H := Lib.hid (quo_DivUp u v u0 u1 v0 v1)
  generalize wqV 1 u v = V at *
  generalize wqE 1 u v = O at *
  generalize wh u = A at *; generalize wl u = a at *; generalize wh v = B at *; generalize wl v = b at *
  clear u0 u1 v0 v1
  go_enter Try.func51, Try.ntmps51
  go_wp2_with fail
  with_reducible refine (H.out _).mono ?_
  rintro e w1 ⟨rfl, hk1⟩
  refine kuse (b := w.heap.size) hk1 (by first | (simp; done) | (simp; omega) | omega) ?_
  intro ha hb
  have hz1_0 : w.heap.size < w1.heap.size := by have := hk1.size; (try simp at this); omega
  have hn1_0 : ¬ w.heap.size = w1.heap.size := by omega
  have hm1_0 : ¬ w1.heap.size = w.heap.size := by omega
  have hf1_0_0 : w1.cell? ⟨w.heap.size, 0, none⟩ = some (.int .i64 A) := by first | (rw [ha]; with_reducible assumption) | (simp (maxDischargeDepth := 7) [go_sem, ha]; done) | (rw [ha]; assumption) | (simp (maxDischargeDepth := 7) [go_sem, ha, *]; done)
  have hf1_0_1 : w1.cell? ⟨w.heap.size, 1, none⟩ = some (.int .u64 a) := by first | (rw [ha]; with_reducible assumption) | (simp (maxDischargeDepth := 7) [go_sem, ha]; done) | (rw [ha]; assumption) | (simp (maxDischargeDepth := 7) [go_sem, ha, *]; done)
  try have hg1_0 : ∀ o, w1.frozen? ⟨w.heap.size, o, none⟩ = false := by intro o; first | (simp (maxDischargeDepth := 7) [go_sem, hb]; done) | (rw [hb]; simp (maxDischargeDepth := 7) [go_sem, *]; done)
  clear ha hb
  refine kuse (b := w.heap.size + 1) hk1 (by first | (simp; done) | (simp; omega) | omega) ?_
  intro ha hb
  have hz1_1 : w.heap.size + 1 < w1.heap.size := by have := hk1.size; (try simp at this); omega
  have hn1_1 : ¬ w.heap.size + 1 = w1.heap.size := by omega
  have hm1_1 : ¬ w1.heap.size = w.heap.size + 1 := by omega
  have hf1_1_0 : w1.cell? ⟨w.heap.size + 1, 0, none⟩ = some (.int .i64 B) := by first | (rw [ha]; with_reducible assumption) | (simp (maxDischargeDepth := 7) [go_sem, ha]; done) | (rw [ha]; assumption) | (simp (maxDischargeDepth := 7) [go_sem, ha, *]; done)
  have hf1_1_1 : w1.cell? ⟨w.heap.size + 1, 1, none⟩ = some (.int .u64 b) := by first | (rw [ha]; with_reducible assumption) | (simp (maxDischargeDepth := 7) [go_sem, ha]; done) | (rw [ha]; assumption) | (simp (maxDischargeDepth := 7) [go_sem, ha, *]; done)
  try have hg1_1 : ∀ o, w1.frozen? ⟨w.heap.size + 1, o, none⟩ = false := by intro o; first | (simp (maxDischargeDepth := 7) [go_sem, hb]; done) | (rw [hb]; simp (maxDischargeDepth := 7) [go_sem, *]; done)
  clear ha hb
  refine kuse (b := w.heap.size + 2) hk1 (by first | (simp; done) | (simp; omega) | omega) ?_
  intro ha hb
  have hz1_2 : w.heap.size + 2 < w1.heap.size := by have := hk1.size; (try simp at this); omega
  have hn1_2 : ¬ w.heap.size + 2 = w1.heap.size := by omega
  have hm1_2 : ¬ w1.heap.size = w.heap.size + 2 := by omega
  have hf1_2_0 : w1.cell? ⟨w.heap.size + 2, 0, none⟩ = some (.int .i64 0) := by first | (rw [ha]; with_reducible assumption) | (simp (maxDischargeDepth := 7) [go_sem, ha]; done) | (rw [ha]; assumption) | (simp (maxDischargeDepth := 7) [go_sem, ha, *]; done)
  have hf1_2_1 : w1.cell? ⟨w.heap.size + 2, 1, none⟩ = some (.int .u64 0) := by first | (rw [ha]; with_reducible assumption) | (simp (maxDischargeDepth := 7) [go_sem, ha]; done) | (rw [ha]; assumption) | (simp (maxDischargeDepth := 7) [go_sem, ha, *]; done)
  try have hg1_2 : ∀ o, w1.frozen? ⟨w.heap.size + 2, o, none⟩ = false := by intro o; first | (simp (maxDischargeDepth := 7) [go_sem, hb]; done) | (rw [hb]; simp (maxDischargeDepth := 7) [go_sem, *]; done)
  clear ha hb
  go_wp2_with fail
  all_goals exact bodyPost_ret (v := .tuple #[.agg #[.int .i64 (wh (V)), .int .u64 (wl (V))], .bool O]) (by first | (simp [results, Try.results51, go_sem]; done) | (simp (maxDischargeDepth := 7) [results, Try.results51, go_sem, *]; done)) rfl ⟨rfl, (by repeat (first | with_reducible exact Kept.refl _ | with_reducible assumption | with_reducible refine Kept.setCell ?_ (by first | (simp; done) | (simp; omega) | omega) _ | with_reducible refine Kept.alloc ?_ _ | with_reducible refine Kept.drewN ?_ _ | with_reducible refine Kept.drew ?_ | with_reducible refine Kept.trans ?_ (by with_reducible assumption) | with_reducible refine Kept.dr ?_ (by with_reducible assumption)))⟩
end Go.Proofs.Ytinpmooihjdbgaa
