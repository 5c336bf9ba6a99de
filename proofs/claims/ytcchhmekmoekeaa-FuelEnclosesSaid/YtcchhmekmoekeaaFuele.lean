/-
  Own contracts: package fuel: the errors of burns of intervals, and the law on them.
-/
import Derived.Test.YtcchhmekmoekeaaFuelw
import Derived.Deep.QuietTactic
import Derived.BigQuiet
import Derived.WalkKit
import Derived.ProofKit
import Derived.OpenShut
import Derived.WalkLawsBesides
import Derived.WalkSpells
import Derived.Lib.Hide
import Derived.Deep.DeepCutAuto
import Derived.Deep.CutBlock
import Derived.Deep.QuietTactic
import Derived.BigQuiet
import Derived.Handy
import Derived.StillTailTactics
import Derived.IntWalk
import Derived.LoopN
import Derived.Deep.RegionHeld3
namespace Go.Proofs.Ytcchhmekmoekeaa
open Go.ChangeShapes Go.WideShapes Go.ChangeAt Go.RowKit
set_option linter.unusedVariables false
set_option linter.unusedSimpArgs false
set_option maxHeartbeats 2000000 in
theorem bi_arg (a0 a1 b0 b1 c0 c1 : Int) (a0_0 : -9223372036854775808 ≤ a0) (a0_1 : a0 ≤ 9223372036854775807) (a1_0 : -9223372036854775808 ≤ a1) (a1_1 : a1 ≤ 9223372036854775807) (b0_0 : -9223372036854775808 ≤ b0) (b0_1 : b0 ≤ 9223372036854775807) (b1_0 : -9223372036854775808 ≤ b1) (b1_1 : b1 ≤ 9223372036854775807) (c0_0 : -9223372036854775808 ≤ c0) (c0_1 : c0 ≤ 9223372036854775807) (c1_0 : -9223372036854775808 ≤ c1) (c1_1 : c1 ≤ 9223372036854775807) (h : a1 < a0 ∨ (a0 ≤ a1 ∧ b1 < b0) ∨ (a0 ≤ a1 ∧ b0 ≤ b1 ∧ c1 < c0)) (w : World) : Calls Try.prog 26 #[.agg #[.int .i64 a0, .int .i64 a1], .agg #[.int .i64 b0, .int .i64 b1], .agg #[.int .i64 c0, .int .i64 c1]] w fun en w' => en = .returned (.tuple #[.agg #[.int .i64 0, .int .i64 0], .int .i64 1]) ∧ Kept w w' := by
  have i0 : ∀ w, (Instr.index 37 (.agg #[.int .i64 a0, .int .i64 a1, .int .i64 b0, .int .i64 b1, .int .i64 c0, .int .i64 c1]) (.int .i64 0)).run Try.prog w = .ok (.agg #[.int .i64 a0, .int .i64 a1]) w := fun _ => by kernel_rfl
  have i1 : ∀ w, (Instr.index 37 (.agg #[.int .i64 a0, .int .i64 a1, .int .i64 b0, .int .i64 b1, .int .i64 c0, .int .i64 c1]) (.int .i64 1)).run Try.prog w = .ok (.agg #[.int .i64 b0, .int .i64 b1]) w := fun _ => by kernel_rfl
  have i2 : ∀ w, (Instr.index 37 (.agg #[.int .i64 a0, .int .i64 a1, .int .i64 b0, .int .i64 b1, .int .i64 c0, .int .i64 c1]) (.int .i64 2)).run Try.prog w = .ok (.agg #[.int .i64 c0, .int .i64 c1]) w := fun _ => by kernel_rfl
  rcases h with h | h | h
  all_goals
    go_enter Try.func26, Try.ntmps26
    go_wp2_with fail
    refine wp_loop_rounds 4 ?_
    repeat (rw [rounds_succ]; go_wp2_with (first | (go_at_call 31; (first | refine (vflow_yes _ (by omega) (by omega) _).mono ?_ | refine (vflow_no _ (by omega) _).mono ?_); rintro e w' ⟨rfl, rfl⟩) | (go_at_call 32; (first | refine (vticks_yes _ (by omega) (by omega) _).mono ?_ | refine (vticks_no _ (by omega) _).mono ?_); rintro e w' ⟨rfl, rfl⟩)))
    all_goals first | (exact bodyPost_ret (v := .tuple #[.agg #[.int .i64 0, .int .i64 0], .int .i64 1]) (by first | (simp [results, Try.results26, go_sem]; done) | (simp (maxDischargeDepth := 7) [results, Try.results26, go_sem, *]; done)) rfl ⟨rfl, (by repeat (first | with_reducible exact Kept.refl _ | with_reducible assumption | with_reducible refine Kept.setCell ?_ (by first | (simp; done) | (simp; omega) | omega) _ | with_reducible refine Kept.alloc ?_ _ | with_reducible refine Kept.drewN ?_ _ | with_reducible refine Kept.drew ?_ | with_reducible refine Kept.trans ?_ (by with_reducible assumption) | with_reducible refine Kept.dr ?_ (by with_reducible assumption)))⟩) | (exfalso; omega)
set_option maxHeartbeats 2000000 in
theorem bi_rng (a0 a1 b0 b1 c0 c1 : Int) (a0_0 : -9223372036854775808 ≤ a0) (a0_1 : a0 ≤ 9223372036854775807) (a1_0 : -9223372036854775808 ≤ a1) (a1_1 : a1 ≤ 9223372036854775807) (b0_0 : -9223372036854775808 ≤ b0) (b0_1 : b0 ≤ 9223372036854775807) (b1_0 : -9223372036854775808 ≤ b1) (b1_1 : b1 ≤ 9223372036854775807) (c0_0 : -9223372036854775808 ≤ c0) (c0_1 : c0 ≤ 9223372036854775807) (c1_0 : -9223372036854775808 ≤ c1) (c1_1 : c1 ≤ 9223372036854775807) (o1 : a0 ≤ a1) (o2 : b0 ≤ b1) (o3 : c0 ≤ c1) (h : a0 < 0 ∨ (0 ≤ a0 ∧ 3000000000 < a1) ∨ (0 ≤ a0 ∧ a1 ≤ 3000000000 ∧ (b0 < 0 ∨ 50000 < b0)) ∨ (0 ≤ a0 ∧ a1 ≤ 3000000000 ∧ 0 ≤ b0 ∧ b0 ≤ 50000 ∧ (b1 < 0 ∨ 50000 < b1)) ∨ (0 ≤ a0 ∧ a1 ≤ 3000000000 ∧ 0 ≤ b0 ∧ b0 ≤ 50000 ∧ 0 ≤ b1 ∧ b1 ≤ 50000 ∧ (c0 < 0 ∨ 1099511627776 < c0)) ∨ (0 ≤ a0 ∧ a1 ≤ 3000000000 ∧ 0 ≤ b0 ∧ b0 ≤ 50000 ∧ 0 ≤ b1 ∧ b1 ≤ 50000 ∧ 0 ≤ c0 ∧ c0 ≤ 1099511627776 ∧ (c1 < 0 ∨ 1099511627776 < c1))) (w : World) : Calls Try.prog 26 #[.agg #[.int .i64 a0, .int .i64 a1], .agg #[.int .i64 b0, .int .i64 b1], .agg #[.int .i64 c0, .int .i64 c1]] w fun en w' => en = .returned (.tuple #[.agg #[.int .i64 0, .int .i64 0], .int .i64 2]) ∧ Kept w w' := by
  have i0 : ∀ w, (Instr.index 37 (.agg #[.int .i64 a0, .int .i64 a1, .int .i64 b0, .int .i64 b1, .int .i64 c0, .int .i64 c1]) (.int .i64 0)).run Try.prog w = .ok (.agg #[.int .i64 a0, .int .i64 a1]) w := fun _ => by kernel_rfl
  have i1 : ∀ w, (Instr.index 37 (.agg #[.int .i64 a0, .int .i64 a1, .int .i64 b0, .int .i64 b1, .int .i64 c0, .int .i64 c1]) (.int .i64 1)).run Try.prog w = .ok (.agg #[.int .i64 b0, .int .i64 b1]) w := fun _ => by kernel_rfl
  have i2 : ∀ w, (Instr.index 37 (.agg #[.int .i64 a0, .int .i64 a1, .int .i64 b0, .int .i64 b1, .int .i64 c0, .int .i64 c1]) (.int .i64 2)).run Try.prog w = .ok (.agg #[.int .i64 c0, .int .i64 c1]) w := fun _ => by kernel_rfl
  rcases h with h | h | h | h | h | h
  all_goals
    go_enter Try.func26, Try.ntmps26
    go_wp2_with fail
    refine wp_loop_rounds 4 ?_
    repeat (rw [rounds_succ]; go_wp2_with (first | (go_at_call 31; (first | refine (vflow_yes _ (by omega) (by omega) _).mono ?_ | refine (vflow_no _ (by omega) _).mono ?_); rintro e w' ⟨rfl, rfl⟩) | (go_at_call 32; (first | refine (vticks_yes _ (by omega) (by omega) _).mono ?_ | refine (vticks_no _ (by omega) _).mono ?_); rintro e w' ⟨rfl, rfl⟩)))
    all_goals first | (exact bodyPost_ret (v := .tuple #[.agg #[.int .i64 0, .int .i64 0], .int .i64 2]) (by first | (simp [results, Try.results26, go_sem]; done) | (simp (maxDischargeDepth := 7) [results, Try.results26, go_sem, *]; done)) rfl ⟨rfl, (by repeat (first | with_reducible exact Kept.refl _ | with_reducible assumption | with_reducible refine Kept.setCell ?_ (by first | (simp; done) | (simp; omega) | omega) _ | with_reducible refine Kept.alloc ?_ _ | with_reducible refine Kept.drewN ?_ _ | with_reducible refine Kept.drew ?_ | with_reducible refine Kept.trans ?_ (by with_reducible assumption) | with_reducible refine Kept.dr ?_ (by with_reducible assumption)))⟩) | (exfalso; omega)
set_option maxHeartbeats 2000000 in
theorem bi_over (a0 a1 b0 b1 c0 c1 : Int) (a0_0 : -9223372036854775808 ≤ a0) (a0_1 : a0 ≤ 9223372036854775807) (a1_0 : -9223372036854775808 ≤ a1) (a1_1 : a1 ≤ 9223372036854775807) (b0_0 : -9223372036854775808 ≤ b0) (b0_1 : b0 ≤ 9223372036854775807) (b1_0 : -9223372036854775808 ≤ b1) (b1_1 : b1 ≤ 9223372036854775807) (c0_0 : -9223372036854775808 ≤ c0) (c0_1 : c0 ≤ 9223372036854775807) (c1_0 : -9223372036854775808 ≤ c1) (c1_1 : c1 ≤ 9223372036854775807) (o1 : a0 ≤ a1) (o2 : b0 ≤ b1) (o3 : c0 ≤ c1) (r1 : 0 ≤ a0) (r2 : a1 ≤ 3000000000) (r3 : 0 ≤ b0) (r4 : b1 ≤ 50000) (r5 : 0 ≤ c0) (r6 : c1 ≤ 1099511627776) (k : a0 < b1 * c1) (w : World) : Calls Try.prog 26 #[.agg #[.int .i64 a0, .int .i64 a1], .agg #[.int .i64 b0, .int .i64 b1], .agg #[.int .i64 c0, .int .i64 c1]] w fun en w' => en = .returned (.tuple #[.agg #[.int .i64 0, .int .i64 0], .int .i64 15]) ∧ Kept w w' := by
  have i0 : ∀ w, (Instr.index 37 (.agg #[.int .i64 a0, .int .i64 a1, .int .i64 b0, .int .i64 b1, .int .i64 c0, .int .i64 c1]) (.int .i64 0)).run Try.prog w = .ok (.agg #[.int .i64 a0, .int .i64 a1]) w := fun _ => by kernel_rfl
  have i1 : ∀ w, (Instr.index 37 (.agg #[.int .i64 a0, .int .i64 a1, .int .i64 b0, .int .i64 b1, .int .i64 c0, .int .i64 c1]) (.int .i64 1)).run Try.prog w = .ok (.agg #[.int .i64 b0, .int .i64 b1]) w := fun _ => by kernel_rfl
  have i2 : ∀ w, (Instr.index 37 (.agg #[.int .i64 a0, .int .i64 a1, .int .i64 b0, .int .i64 b1, .int .i64 c0, .int .i64 c1]) (.int .i64 2)).run Try.prog w = .ok (.agg #[.int .i64 c0, .int .i64 c1]) w := fun _ => by kernel_rfl
  have p1 := (FT.prod (f := b1) (t := c1) ⟨by omega, by omega, by omega, by omega⟩)
  have p2 := (FT.prod (f := b0) (t := c0) ⟨by omega, by omega, by omega, by omega⟩)
  go_enter Try.func26, Try.ntmps26
  go_wp2_with fail
  refine wp_loop_rounds 4 ?_
  repeat (rw [rounds_succ]; go_wp2_with (first | (go_at_call 31; (first | refine (vflow_yes _ (by omega) (by omega) _).mono ?_ | refine (vflow_no _ (by omega) _).mono ?_); rintro e w' ⟨rfl, rfl⟩) | (go_at_call 32; (first | refine (vticks_yes _ (by omega) (by omega) _).mono ?_ | refine (vticks_no _ (by omega) _).mono ?_); rintro e w' ⟨rfl, rfl⟩)))
  all_goals first | (exact bodyPost_ret (v := .tuple #[.agg #[.int .i64 0, .int .i64 0], .int .i64 15]) (by first | (simp [results, Try.results26, go_sem]; done) | (simp (maxDischargeDepth := 7) [results, Try.results26, go_sem, *]; done)) rfl ⟨rfl, (by repeat (first | with_reducible exact Kept.refl _ | with_reducible assumption | with_reducible refine Kept.setCell ?_ (by first | (simp; done) | (simp; omega) | omega) _ | with_reducible refine Kept.alloc ?_ _ | with_reducible refine Kept.drewN ?_ _ | with_reducible refine Kept.drew ?_ | with_reducible refine Kept.trans ?_ (by with_reducible assumption) | with_reducible refine Kept.dr ?_ (by with_reducible assumption)))⟩) | (exfalso; omega)
theorem le_prod {a b c d : Int} (h1 : a ≤ b) (h2 : c ≤ d) (h3 : 0 ≤ c) (h4 : 0 ≤ b) : a * c ≤ b * d := by
  by_cases h : 0 ≤ a
  · exact Int.mul_le_mul h1 h2 h3 h4
  · have := Int.mul_nonneg h4 (by omega : 0 ≤ d)
    have h5 : a * c ≤ 0 := Int.mul_nonpos_of_nonpos_of_nonneg (by omega) h3
    omega
set_option maxHeartbeats 4000000 in
theorem law_encloses (a0 a1 b0 b1 c0 c1 u v z : Int) (a0_0 : -9223372036854775808 ≤ a0) (a0_1 : a0 ≤ 9223372036854775807) (a1_0 : -9223372036854775808 ≤ a1) (a1_1 : a1 ≤ 9223372036854775807) (b0_0 : -9223372036854775808 ≤ b0) (b0_1 : b0 ≤ 9223372036854775807) (b1_0 : -9223372036854775808 ≤ b1) (b1_1 : b1 ≤ 9223372036854775807) (c0_0 : -9223372036854775808 ≤ c0) (c0_1 : c0 ≤ 9223372036854775807) (c1_0 : -9223372036854775808 ≤ c1) (c1_1 : c1 ≤ 9223372036854775807) (u_0 : -9223372036854775808 ≤ u) (u_1 : u ≤ 9223372036854775807) (v_0 : -9223372036854775808 ≤ v) (v_1 : v ≤ 9223372036854775807) (z_0 : -9223372036854775808 ≤ z) (z_1 : z ≤ 9223372036854775807) (w : World) : Calls Try.prog 9 #[.agg #[.int .i64 a0, .int .i64 a1, .int .i64 b0, .int .i64 b1, .int .i64 c0, .int .i64 c1], .agg #[.int .i64 u, .int .i64 v, .int .i64 z]] w fun en w' => en = .returned (.bool true) ∧ Kept w w' := by
  by_cases k1 : a1 < a0 ∨ (a0 ≤ a1 ∧ b1 < b0) ∨ (a0 ≤ a1 ∧ b0 ≤ b1 ∧ c1 < c0)
  · go_enter Try.func9, Try.ntmps9
    go_wp2_with fail
    refine (awake_w _).mono ?_
    rintro e w1 ⟨rfl, hk1⟩
    refine kuse (b := w.heap.size) hk1 (by first | (simp; done) | (simp; omega) | omega) ?_
    intro ha1_0 hb1_0
    have hz1_0 : w.heap.size < w1.heap.size := by have := hk1.size; (try simp at this); omega
    refine kuse (b := w.heap.size + 1) hk1 (by first | (simp; done) | (simp; omega) | omega) ?_
    intro ha1_1 hb1_1
    have hz1_1 : w.heap.size + 1 < w1.heap.size := by have := hk1.size; (try simp at this); omega
    go_wp2_with fail
    refine (bi_arg _ _ _ _ _ _ (by omega) (by omega) (by omega) (by omega) (by omega) (by omega) (by omega) (by omega) (by omega) (by omega) (by omega) (by omega) k1 _).mono ?_
    rintro e w2 ⟨rfl, hk2⟩
    refine kuse (b := w.heap.size) hk2 (by first | (simp; done) | (simp; omega) | omega) ?_
    intro ha2_0 hb2_0
    have hz2_0 : w.heap.size < w2.heap.size := by have := hk2.size; (try simp at this); omega
    refine kuse (b := w.heap.size + 1) hk2 (by first | (simp; done) | (simp; omega) | omega) ?_
    intro ha2_1 hb2_1
    have hz2_1 : w.heap.size + 1 < w2.heap.size := by have := hk2.size; (try simp at this); omega
    go_wp2_with fail
    all_goals first | (go_ret; refine ⟨?_, (by repeat (first | with_reducible exact Kept.refl _ | with_reducible assumption | with_reducible refine Kept.setCell ?_ (by first | (simp; done) | (simp; omega) | omega) _ | with_reducible refine Kept.alloc ?_ _ | with_reducible refine Kept.drewN ?_ _ | with_reducible refine Kept.drew ?_ | with_reducible refine Kept.trans ?_ (by with_reducible assumption) | with_reducible refine Kept.dr ?_ (by with_reducible assumption)))⟩; first | rfl | (show Ending.returned (.bool (decide _)) = _; rw [decide_eq_true (by omega)]) | (show Ending.returned (.bool (decide _)) = _; rw [decide_eq_false (by omega)]) | (refine retb ?_; simp; done) | (refine retb ?_; simp; omega)) | (exfalso; omega)
  · have o1 : a0 ≤ a1 := by omega
    have o2 : b0 ≤ b1 := by omega
    have o3 : c0 ≤ c1 := by omega
    clear k1
    by_cases k2 : a0 < 0 ∨ (0 ≤ a0 ∧ 3000000000 < a1) ∨ (0 ≤ a0 ∧ a1 ≤ 3000000000 ∧ (b0 < 0 ∨ 50000 < b0)) ∨ (0 ≤ a0 ∧ a1 ≤ 3000000000 ∧ 0 ≤ b0 ∧ b0 ≤ 50000 ∧ (b1 < 0 ∨ 50000 < b1)) ∨ (0 ≤ a0 ∧ a1 ≤ 3000000000 ∧ 0 ≤ b0 ∧ b0 ≤ 50000 ∧ 0 ≤ b1 ∧ b1 ≤ 50000 ∧ (c0 < 0 ∨ 1099511627776 < c0)) ∨ (0 ≤ a0 ∧ a1 ≤ 3000000000 ∧ 0 ≤ b0 ∧ b0 ≤ 50000 ∧ 0 ≤ b1 ∧ b1 ≤ 50000 ∧ 0 ≤ c0 ∧ c0 ≤ 1099511627776 ∧ (c1 < 0 ∨ 1099511627776 < c1))
    · go_enter Try.func9, Try.ntmps9
      go_wp2_with fail
      refine (awake_w _).mono ?_
      rintro e w1 ⟨rfl, hk1⟩
      refine kuse (b := w.heap.size) hk1 (by first | (simp; done) | (simp; omega) | omega) ?_
      intro ha1_0 hb1_0
      have hz1_0 : w.heap.size < w1.heap.size := by have := hk1.size; (try simp at this); omega
      refine kuse (b := w.heap.size + 1) hk1 (by first | (simp; done) | (simp; omega) | omega) ?_
      intro ha1_1 hb1_1
      have hz1_1 : w.heap.size + 1 < w1.heap.size := by have := hk1.size; (try simp at this); omega
      go_wp2_with fail
      refine (bi_rng _ _ _ _ _ _ (by omega) (by omega) (by omega) (by omega) (by omega) (by omega) (by omega) (by omega) (by omega) (by omega) (by omega) (by omega) (by omega) (by omega) (by omega) k2 _).mono ?_
      rintro e w2 ⟨rfl, hk2⟩
      refine kuse (b := w.heap.size) hk2 (by first | (simp; done) | (simp; omega) | omega) ?_
      intro ha2_0 hb2_0
      have hz2_0 : w.heap.size < w2.heap.size := by have := hk2.size; (try simp at this); omega
      refine kuse (b := w.heap.size + 1) hk2 (by first | (simp; done) | (simp; omega) | omega) ?_
      intro ha2_1 hb2_1
      have hz2_1 : w.heap.size + 1 < w2.heap.size := by have := hk2.size; (try simp at this); omega
      go_wp2_with fail
      all_goals first | (go_ret; refine ⟨?_, (by repeat (first | with_reducible exact Kept.refl _ | with_reducible assumption | with_reducible refine Kept.setCell ?_ (by first | (simp; done) | (simp; omega) | omega) _ | with_reducible refine Kept.alloc ?_ _ | with_reducible refine Kept.drewN ?_ _ | with_reducible refine Kept.drew ?_ | with_reducible refine Kept.trans ?_ (by with_reducible assumption) | with_reducible refine Kept.dr ?_ (by with_reducible assumption)))⟩; first | rfl | (show Ending.returned (.bool (decide _)) = _; rw [decide_eq_true (by omega)]) | (show Ending.returned (.bool (decide _)) = _; rw [decide_eq_false (by omega)]) | (refine retb ?_; simp; done) | (refine retb ?_; simp; omega)) | (exfalso; omega)
    · have r1 : 0 ≤ a0 := by omega
      have r2 : a1 ≤ 3000000000 := by omega
      have r3 : 0 ≤ b0 := by omega
      have r4 : b1 ≤ 50000 := by omega
      have r5 : 0 ≤ c0 := by omega
      have r6 : c1 ≤ 1099511627776 := by omega
      clear k2
      by_cases k3 : a0 < b1 * c1
      · go_enter Try.func9, Try.ntmps9
        go_wp2_with fail
        refine (awake_w _).mono ?_
        rintro e w1 ⟨rfl, hk1⟩
        refine kuse (b := w.heap.size) hk1 (by first | (simp; done) | (simp; omega) | omega) ?_
        intro ha1_0 hb1_0
        have hz1_0 : w.heap.size < w1.heap.size := by have := hk1.size; (try simp at this); omega
        refine kuse (b := w.heap.size + 1) hk1 (by first | (simp; done) | (simp; omega) | omega) ?_
        intro ha1_1 hb1_1
        have hz1_1 : w.heap.size + 1 < w1.heap.size := by have := hk1.size; (try simp at this); omega
        go_wp2_with fail
        refine (bi_over _ _ _ _ _ _ (by omega) (by omega) (by omega) (by omega) (by omega) (by omega) (by omega) (by omega) (by omega) (by omega) (by omega) (by omega) (by omega) (by omega) (by omega) (by omega) (by omega) (by omega) (by omega) (by omega) (by omega) k3 _).mono ?_
        rintro e w2 ⟨rfl, hk2⟩
        refine kuse (b := w.heap.size) hk2 (by first | (simp; done) | (simp; omega) | omega) ?_
        intro ha2_0 hb2_0
        have hz2_0 : w.heap.size < w2.heap.size := by have := hk2.size; (try simp at this); omega
        refine kuse (b := w.heap.size + 1) hk2 (by first | (simp; done) | (simp; omega) | omega) ?_
        intro ha2_1 hb2_1
        have hz2_1 : w.heap.size + 1 < w2.heap.size := by have := hk2.size; (try simp at this); omega
        go_wp2_with fail
        all_goals first | (go_ret; refine ⟨?_, (by repeat (first | with_reducible exact Kept.refl _ | with_reducible assumption | with_reducible refine Kept.setCell ?_ (by first | (simp; done) | (simp; omega) | omega) _ | with_reducible refine Kept.alloc ?_ _ | with_reducible refine Kept.drewN ?_ _ | with_reducible refine Kept.drew ?_ | with_reducible refine Kept.trans ?_ (by with_reducible assumption) | with_reducible refine Kept.dr ?_ (by with_reducible assumption)))⟩; first | rfl | (show Ending.returned (.bool (decide _)) = _; rw [decide_eq_true (by omega)]) | (show Ending.returned (.bool (decide _)) = _; rw [decide_eq_false (by omega)]) | (refine retb ?_; simp; done) | (refine retb ?_; simp; omega)) | (exfalso; omega)
      · have k4 : b1 * c1 ≤ a0 := by omega
        clear k3
        have pa := (FT.prod (f := b1) (t := c1) ⟨by omega, by omega, by omega, by omega⟩)
        have pb := (FT.prod (f := b0) (t := c0) ⟨by omega, by omega, by omega, by omega⟩)
        by_cases lu : u < a0
        · have du : decide (u < a0) = true := decide_eq_true lu
          go_enter Try.func9, Try.ntmps9
          go_wp2_with fail
          refine (awake_w _).mono ?_
          rintro e w1 ⟨rfl, hk1⟩
          refine kuse (b := w.heap.size) hk1 (by first | (simp; done) | (simp; omega) | omega) ?_
          intro ha1_0 hb1_0
          have hz1_0 : w.heap.size < w1.heap.size := by have := hk1.size; (try simp at this); omega
          refine kuse (b := w.heap.size + 1) hk1 (by first | (simp; done) | (simp; omega) | omega) ?_
          intro ha1_1 hb1_1
          have hz1_1 : w.heap.size + 1 < w1.heap.size := by have := hk1.size; (try simp at this); omega
          go_wp2_with fail
          refine (bi_ok _ _ _ _ _ _ (by omega) (by omega) (by omega) (by omega) (by omega) (by omega) (by omega) (by omega) (by omega) k4 _).mono ?_
          rintro e w2 ⟨rfl, hk2⟩
          refine kuse (b := w.heap.size) hk2 (by first | (simp; done) | (simp; omega) | omega) ?_
          intro ha2_0 hb2_0
          have hz2_0 : w.heap.size < w2.heap.size := by have := hk2.size; (try simp at this); omega
          refine kuse (b := w.heap.size + 1) hk2 (by first | (simp; done) | (simp; omega) | omega) ?_
          intro ha2_1 hb2_1
          have hz2_1 : w.heap.size + 1 < w2.heap.size := by have := hk2.size; (try simp at this); omega
          go_wp2_with fail
          refine wp_loop_rounds 4 ?_
          repeat (rw [rounds_succ]; go_wp2_with fail; (try (go_quiet (fail); go_wp2_with fail)))
          all_goals first | (go_ret; refine ⟨?_, (by repeat (first | with_reducible exact Kept.refl _ | with_reducible assumption | with_reducible refine Kept.setCell ?_ (by first | (simp; done) | (simp; omega) | omega) _ | with_reducible refine Kept.alloc ?_ _ | with_reducible refine Kept.drewN ?_ _ | with_reducible refine Kept.drew ?_ | with_reducible refine Kept.trans ?_ (by with_reducible assumption) | with_reducible refine Kept.dr ?_ (by with_reducible assumption)))⟩; first | rfl | (show Ending.returned (.bool (decide _)) = _; rw [decide_eq_true (by omega)]) | (show Ending.returned (.bool (decide _)) = _; rw [decide_eq_false (by omega)]) | (refine retb ?_; simp; done) | (refine retb ?_; simp; omega)) | (exfalso; omega)
        by_cases hu : a1 < u
        · have du : decide (u < a0) = false := decide_eq_false lu
          have fu : decide (a1 < u) = true := decide_eq_true hu
          go_enter Try.func9, Try.ntmps9
          go_wp2_with fail
          refine (awake_w _).mono ?_
          rintro e w1 ⟨rfl, hk1⟩
          refine kuse (b := w.heap.size) hk1 (by first | (simp; done) | (simp; omega) | omega) ?_
          intro ha1_0 hb1_0
          have hz1_0 : w.heap.size < w1.heap.size := by have := hk1.size; (try simp at this); omega
          refine kuse (b := w.heap.size + 1) hk1 (by first | (simp; done) | (simp; omega) | omega) ?_
          intro ha1_1 hb1_1
          have hz1_1 : w.heap.size + 1 < w1.heap.size := by have := hk1.size; (try simp at this); omega
          go_wp2_with fail
          refine (bi_ok _ _ _ _ _ _ (by omega) (by omega) (by omega) (by omega) (by omega) (by omega) (by omega) (by omega) (by omega) k4 _).mono ?_
          rintro e w2 ⟨rfl, hk2⟩
          refine kuse (b := w.heap.size) hk2 (by first | (simp; done) | (simp; omega) | omega) ?_
          intro ha2_0 hb2_0
          have hz2_0 : w.heap.size < w2.heap.size := by have := hk2.size; (try simp at this); omega
          refine kuse (b := w.heap.size + 1) hk2 (by first | (simp; done) | (simp; omega) | omega) ?_
          intro ha2_1 hb2_1
          have hz2_1 : w.heap.size + 1 < w2.heap.size := by have := hk2.size; (try simp at this); omega
          go_wp2_with fail
          refine wp_loop_rounds 4 ?_
          repeat (rw [rounds_succ]; go_wp2_with fail; (try (go_quiet (fail); go_wp2_with fail)))
          all_goals first | (go_ret; refine ⟨?_, (by repeat (first | with_reducible exact Kept.refl _ | with_reducible assumption | with_reducible refine Kept.setCell ?_ (by first | (simp; done) | (simp; omega) | omega) _ | with_reducible refine Kept.alloc ?_ _ | with_reducible refine Kept.drewN ?_ _ | with_reducible refine Kept.drew ?_ | with_reducible refine Kept.trans ?_ (by with_reducible assumption) | with_reducible refine Kept.dr ?_ (by with_reducible assumption)))⟩; first | rfl | (show Ending.returned (.bool (decide _)) = _; rw [decide_eq_true (by omega)]) | (show Ending.returned (.bool (decide _)) = _; rw [decide_eq_false (by omega)]) | (refine retb ?_; simp; done) | (refine retb ?_; simp; omega)) | (exfalso; omega)
        by_cases lv : v < b0
        · have du : decide (u < a0) = false := decide_eq_false (by omega)
          have fu : decide (a1 < u) = false := decide_eq_false (by omega)
          have dv : decide (v < b0) = true := decide_eq_true lv
          go_enter Try.func9, Try.ntmps9
          go_wp2_with fail
          refine (awake_w _).mono ?_
          rintro e w1 ⟨rfl, hk1⟩
          refine kuse (b := w.heap.size) hk1 (by first | (simp; done) | (simp; omega) | omega) ?_
          intro ha1_0 hb1_0
          have hz1_0 : w.heap.size < w1.heap.size := by have := hk1.size; (try simp at this); omega
          refine kuse (b := w.heap.size + 1) hk1 (by first | (simp; done) | (simp; omega) | omega) ?_
          intro ha1_1 hb1_1
          have hz1_1 : w.heap.size + 1 < w1.heap.size := by have := hk1.size; (try simp at this); omega
          go_wp2_with fail
          refine (bi_ok _ _ _ _ _ _ (by omega) (by omega) (by omega) (by omega) (by omega) (by omega) (by omega) (by omega) (by omega) k4 _).mono ?_
          rintro e w2 ⟨rfl, hk2⟩
          refine kuse (b := w.heap.size) hk2 (by first | (simp; done) | (simp; omega) | omega) ?_
          intro ha2_0 hb2_0
          have hz2_0 : w.heap.size < w2.heap.size := by have := hk2.size; (try simp at this); omega
          refine kuse (b := w.heap.size + 1) hk2 (by first | (simp; done) | (simp; omega) | omega) ?_
          intro ha2_1 hb2_1
          have hz2_1 : w.heap.size + 1 < w2.heap.size := by have := hk2.size; (try simp at this); omega
          go_wp2_with fail
          refine wp_loop_rounds 4 ?_
          repeat (rw [rounds_succ]; go_wp2_with fail; (try (go_quiet (fail); go_wp2_with fail)))
          all_goals first | (go_ret; refine ⟨?_, (by repeat (first | with_reducible exact Kept.refl _ | with_reducible assumption | with_reducible refine Kept.setCell ?_ (by first | (simp; done) | (simp; omega) | omega) _ | with_reducible refine Kept.alloc ?_ _ | with_reducible refine Kept.drewN ?_ _ | with_reducible refine Kept.drew ?_ | with_reducible refine Kept.trans ?_ (by with_reducible assumption) | with_reducible refine Kept.dr ?_ (by with_reducible assumption)))⟩; first | rfl | (show Ending.returned (.bool (decide _)) = _; rw [decide_eq_true (by omega)]) | (show Ending.returned (.bool (decide _)) = _; rw [decide_eq_false (by omega)]) | (refine retb ?_; simp; done) | (refine retb ?_; simp; omega)) | (exfalso; omega)
        by_cases hv : b1 < v
        · have du : decide (u < a0) = false := decide_eq_false (by omega)
          have fu : decide (a1 < u) = false := decide_eq_false (by omega)
          have dv : decide (v < b0) = false := decide_eq_false lv
          have fv : decide (b1 < v) = true := decide_eq_true hv
          go_enter Try.func9, Try.ntmps9
          go_wp2_with fail
          refine (awake_w _).mono ?_
          rintro e w1 ⟨rfl, hk1⟩
          refine kuse (b := w.heap.size) hk1 (by first | (simp; done) | (simp; omega) | omega) ?_
          intro ha1_0 hb1_0
          have hz1_0 : w.heap.size < w1.heap.size := by have := hk1.size; (try simp at this); omega
          refine kuse (b := w.heap.size + 1) hk1 (by first | (simp; done) | (simp; omega) | omega) ?_
          intro ha1_1 hb1_1
          have hz1_1 : w.heap.size + 1 < w1.heap.size := by have := hk1.size; (try simp at this); omega
          go_wp2_with fail
          refine (bi_ok _ _ _ _ _ _ (by omega) (by omega) (by omega) (by omega) (by omega) (by omega) (by omega) (by omega) (by omega) k4 _).mono ?_
          rintro e w2 ⟨rfl, hk2⟩
          refine kuse (b := w.heap.size) hk2 (by first | (simp; done) | (simp; omega) | omega) ?_
          intro ha2_0 hb2_0
          have hz2_0 : w.heap.size < w2.heap.size := by have := hk2.size; (try simp at this); omega
          refine kuse (b := w.heap.size + 1) hk2 (by first | (simp; done) | (simp; omega) | omega) ?_
          intro ha2_1 hb2_1
          have hz2_1 : w.heap.size + 1 < w2.heap.size := by have := hk2.size; (try simp at this); omega
          go_wp2_with fail
          refine wp_loop_rounds 4 ?_
          repeat (rw [rounds_succ]; go_wp2_with fail; (try (go_quiet (fail); go_wp2_with fail)))
          all_goals first | (go_ret; refine ⟨?_, (by repeat (first | with_reducible exact Kept.refl _ | with_reducible assumption | with_reducible refine Kept.setCell ?_ (by first | (simp; done) | (simp; omega) | omega) _ | with_reducible refine Kept.alloc ?_ _ | with_reducible refine Kept.drewN ?_ _ | with_reducible refine Kept.drew ?_ | with_reducible refine Kept.trans ?_ (by with_reducible assumption) | with_reducible refine Kept.dr ?_ (by with_reducible assumption)))⟩; first | rfl | (show Ending.returned (.bool (decide _)) = _; rw [decide_eq_true (by omega)]) | (show Ending.returned (.bool (decide _)) = _; rw [decide_eq_false (by omega)]) | (refine retb ?_; simp; done) | (refine retb ?_; simp; omega)) | (exfalso; omega)
        by_cases lz : z < c0
        · have du : decide (u < a0) = false := decide_eq_false (by omega)
          have fu : decide (a1 < u) = false := decide_eq_false (by omega)
          have dv : decide (v < b0) = false := decide_eq_false (by omega)
          have fv : decide (b1 < v) = false := decide_eq_false (by omega)
          have dz : decide (z < c0) = true := decide_eq_true lz
          go_enter Try.func9, Try.ntmps9
          go_wp2_with fail
          refine (awake_w _).mono ?_
          rintro e w1 ⟨rfl, hk1⟩
          refine kuse (b := w.heap.size) hk1 (by first | (simp; done) | (simp; omega) | omega) ?_
          intro ha1_0 hb1_0
          have hz1_0 : w.heap.size < w1.heap.size := by have := hk1.size; (try simp at this); omega
          refine kuse (b := w.heap.size + 1) hk1 (by first | (simp; done) | (simp; omega) | omega) ?_
          intro ha1_1 hb1_1
          have hz1_1 : w.heap.size + 1 < w1.heap.size := by have := hk1.size; (try simp at this); omega
          go_wp2_with fail
          refine (bi_ok _ _ _ _ _ _ (by omega) (by omega) (by omega) (by omega) (by omega) (by omega) (by omega) (by omega) (by omega) k4 _).mono ?_
          rintro e w2 ⟨rfl, hk2⟩
          refine kuse (b := w.heap.size) hk2 (by first | (simp; done) | (simp; omega) | omega) ?_
          intro ha2_0 hb2_0
          have hz2_0 : w.heap.size < w2.heap.size := by have := hk2.size; (try simp at this); omega
          refine kuse (b := w.heap.size + 1) hk2 (by first | (simp; done) | (simp; omega) | omega) ?_
          intro ha2_1 hb2_1
          have hz2_1 : w.heap.size + 1 < w2.heap.size := by have := hk2.size; (try simp at this); omega
          go_wp2_with fail
          refine wp_loop_rounds 4 ?_
          repeat (rw [rounds_succ]; go_wp2_with fail; (try (go_quiet (fail); go_wp2_with fail)))
          all_goals first | (go_ret; refine ⟨?_, (by repeat (first | with_reducible exact Kept.refl _ | with_reducible assumption | with_reducible refine Kept.setCell ?_ (by first | (simp; done) | (simp; omega) | omega) _ | with_reducible refine Kept.alloc ?_ _ | with_reducible refine Kept.drewN ?_ _ | with_reducible refine Kept.drew ?_ | with_reducible refine Kept.trans ?_ (by with_reducible assumption) | with_reducible refine Kept.dr ?_ (by with_reducible assumption)))⟩; first | rfl | (show Ending.returned (.bool (decide _)) = _; rw [decide_eq_true (by omega)]) | (show Ending.returned (.bool (decide _)) = _; rw [decide_eq_false (by omega)]) | (refine retb ?_; simp; done) | (refine retb ?_; simp; omega)) | (exfalso; omega)
        by_cases hz : c1 < z
        · have du : decide (u < a0) = false := decide_eq_false (by omega)
          have fu : decide (a1 < u) = false := decide_eq_false (by omega)
          have dv : decide (v < b0) = false := decide_eq_false (by omega)
          have fv : decide (b1 < v) = false := decide_eq_false (by omega)
          have dz : decide (z < c0) = false := decide_eq_false lz
          have fz : decide (c1 < z) = true := decide_eq_true hz
          go_enter Try.func9, Try.ntmps9
          go_wp2_with fail
          refine (awake_w _).mono ?_
          rintro e w1 ⟨rfl, hk1⟩
          refine kuse (b := w.heap.size) hk1 (by first | (simp; done) | (simp; omega) | omega) ?_
          intro ha1_0 hb1_0
          have hz1_0 : w.heap.size < w1.heap.size := by have := hk1.size; (try simp at this); omega
          refine kuse (b := w.heap.size + 1) hk1 (by first | (simp; done) | (simp; omega) | omega) ?_
          intro ha1_1 hb1_1
          have hz1_1 : w.heap.size + 1 < w1.heap.size := by have := hk1.size; (try simp at this); omega
          go_wp2_with fail
          refine (bi_ok _ _ _ _ _ _ (by omega) (by omega) (by omega) (by omega) (by omega) (by omega) (by omega) (by omega) (by omega) k4 _).mono ?_
          rintro e w2 ⟨rfl, hk2⟩
          refine kuse (b := w.heap.size) hk2 (by first | (simp; done) | (simp; omega) | omega) ?_
          intro ha2_0 hb2_0
          have hz2_0 : w.heap.size < w2.heap.size := by have := hk2.size; (try simp at this); omega
          refine kuse (b := w.heap.size + 1) hk2 (by first | (simp; done) | (simp; omega) | omega) ?_
          intro ha2_1 hb2_1
          have hz2_1 : w.heap.size + 1 < w2.heap.size := by have := hk2.size; (try simp at this); omega
          go_wp2_with fail
          refine wp_loop_rounds 4 ?_
          repeat (rw [rounds_succ]; go_wp2_with fail; (try (go_quiet (fail); go_wp2_with fail)))
          all_goals first | (go_ret; refine ⟨?_, (by repeat (first | with_reducible exact Kept.refl _ | with_reducible assumption | with_reducible refine Kept.setCell ?_ (by first | (simp; done) | (simp; omega) | omega) _ | with_reducible refine Kept.alloc ?_ _ | with_reducible refine Kept.drewN ?_ _ | with_reducible refine Kept.drew ?_ | with_reducible refine Kept.trans ?_ (by with_reducible assumption) | with_reducible refine Kept.dr ?_ (by with_reducible assumption)))⟩; first | rfl | (show Ending.returned (.bool (decide _)) = _; rw [decide_eq_true (by omega)]) | (show Ending.returned (.bool (decide _)) = _; rw [decide_eq_false (by omega)]) | (refine retb ?_; simp; done) | (refine retb ?_; simp; omega)) | (exfalso; omega)
        have m1 : b0 * c0 ≤ v * z := le_prod (by omega) (by omega) (by omega) (by omega)
        have m2 : v * z ≤ b1 * c1 := le_prod (by omega) (by omega) (by omega) (by omega)
        have du : decide (u < a0) = false := decide_eq_false (by omega)
        have fu : decide (a1 < u) = false := decide_eq_false (by omega)
        have dv : decide (v < b0) = false := decide_eq_false (by omega)
        have fv : decide (b1 < v) = false := decide_eq_false (by omega)
        have dz : decide (z < c0) = false := decide_eq_false (by omega)
        have fz : decide (c1 < z) = false := decide_eq_false (by omega)
        go_enter Try.func9, Try.ntmps9
        go_wp2_with fail
        refine (awake_w _).mono ?_
        rintro e w1 ⟨rfl, hk1⟩
        refine kuse (b := w.heap.size) hk1 (by first | (simp; done) | (simp; omega) | omega) ?_
        intro ha1_0 hb1_0
        have hz1_0 : w.heap.size < w1.heap.size := by have := hk1.size; (try simp at this); omega
        refine kuse (b := w.heap.size + 1) hk1 (by first | (simp; done) | (simp; omega) | omega) ?_
        intro ha1_1 hb1_1
        have hz1_1 : w.heap.size + 1 < w1.heap.size := by have := hk1.size; (try simp at this); omega
        go_wp2_with fail
        refine (bi_ok _ _ _ _ _ _ (by omega) (by omega) (by omega) (by omega) (by omega) (by omega) (by omega) (by omega) (by omega) k4 _).mono ?_
        rintro e w2 ⟨rfl, hk2⟩
        refine kuse (b := w.heap.size) hk2 (by first | (simp; done) | (simp; omega) | omega) ?_
        intro ha2_0 hb2_0
        have hz2_0 : w.heap.size < w2.heap.size := by have := hk2.size; (try simp at this); omega
        refine kuse (b := w.heap.size + 1) hk2 (by first | (simp; done) | (simp; omega) | omega) ?_
        intro ha2_1 hb2_1
        have hz2_1 : w.heap.size + 1 < w2.heap.size := by have := hk2.size; (try simp at this); omega
        go_wp2_with fail
        refine wp_loop_rounds 4 ?_
        repeat (rw [rounds_succ]; go_wp2_with fail; (try (go_quiet (fail); go_wp2_with fail)))
        all_goals first | (go_ret; refine ⟨?_, (by repeat (first | with_reducible exact Kept.refl _ | with_reducible assumption | with_reducible refine Kept.setCell ?_ (by first | (simp; done) | (simp; omega) | omega) _ | with_reducible refine Kept.alloc ?_ _ | with_reducible refine Kept.drewN ?_ _ | with_reducible refine Kept.drew ?_ | with_reducible refine Kept.trans ?_ (by with_reducible assumption) | with_reducible refine Kept.dr ?_ (by with_reducible assumption)))⟩; first | rfl | (show Ending.returned (.bool (decide _)) = _; rw [decide_eq_true (by omega)]) | (show Ending.returned (.bool (decide _)) = _; rw [decide_eq_false (by omega)]) | (refine retb ?_; simp; done) | (refine retb ?_; simp; omega)) | (exfalso; omega)
end Go.Proofs.Ytcchhmekmoekeaa
