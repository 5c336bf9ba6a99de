/-
  Own contracts: package fuel: burns of intervals, what is needed, and the chapter's examples.
-/
import Derived.Test.YtcchhmekmoekeaaFuelb
import Derived.WalkKit
import Derived.ProofKit
import Derived.OpenShut
import Derived.WalkLawsBesides
import Derived.WalkSpells
import Derived.Lib.Hide
import Derived.Deep.DeepCutAuto
import Derived.Deep.CutBlock
import Derived.Deep.QuietTactic
import Derived.BigQuiet
import Derived.Handy
import Derived.StillTailTactics
import Derived.IntWalk
import Derived.LoopN
import Derived.Deep.RegionHeld3
namespace Go.Proofs.Ytcchhmekmoekeaa
open Go.ChangeShapes Go.WideShapes Go.ChangeAt Go.RowKit
set_option linter.unusedVariables false
set_option linter.unusedSimpArgs false
set_option maxHeartbeats 1000000 in
theorem bi_ok (a0 a1 b0 b1 c0 c1 : Int) (o1 : a0 ≤ a1) (o2 : b0 ≤ b1) (o3 : c0 ≤ c1) (r1 : 0 ≤ a0) (r2 : a1 ≤ 3000000000) (r3 : 0 ≤ b0) (r4 : b1 ≤ 50000) (r5 : 0 ≤ c0) (r6 : c1 ≤ 1099511627776) (k : b1 * c1 ≤ a0) (w : World) : Calls Try.prog 26 #[.agg #[.int .i64 a0, .int .i64 a1], .agg #[.int .i64 b0, .int .i64 b1], .agg #[.int .i64 c0, .int .i64 c1]] w fun en w' => en = .returned (.tuple #[.agg #[.int .i64 (a0 - b1 * c1), .int .i64 (a1 - b0 * c0)], .int .i64 0]) ∧ Kept w w' := by
  have i0 : ∀ w, (Instr.index 37 (.agg #[.int .i64 a0, .int .i64 a1, .int .i64 b0, .int .i64 b1, .int .i64 c0, .int .i64 c1]) (.int .i64 0)).run Try.prog w = .ok (.agg #[.int .i64 a0, .int .i64 a1]) w := fun _ => by kernel_rfl
  have i1 : ∀ w, (Instr.index 37 (.agg #[.int .i64 a0, .int .i64 a1, .int .i64 b0, .int .i64 b1, .int .i64 c0, .int .i64 c1]) (.int .i64 1)).run Try.prog w = .ok (.agg #[.int .i64 b0, .int .i64 b1]) w := fun _ => by kernel_rfl
  have i2 : ∀ w, (Instr.index 37 (.agg #[.int .i64 a0, .int .i64 a1, .int .i64 b0, .int .i64 b1, .int .i64 c0, .int .i64 c1]) (.int .i64 2)).run Try.prog w = .ok (.agg #[.int .i64 c0, .int .i64 c1]) w := fun _ => by kernel_rfl
  have p1 := (FT.prod (f := b1) (t := c1) ⟨by omega, by omega, by omega, by omega⟩)
  have p2 := (FT.prod (f := b0) (t := c0) ⟨by omega, by omega, by omega, by omega⟩)
  go_enter Try.func26, Try.ntmps26
  go_wp2_with fail
  refine wp_loop_rounds 4 ?_
  repeat (rw [rounds_succ]; go_wp2_with (first | (go_at_call 31; (first | refine (vflow_yes _ (by omega) (by omega) _).mono ?_ | refine (vflow_no _ (by omega) _).mono ?_); rintro e w' ⟨rfl, rfl⟩) | (go_at_call 32; (first | refine (vticks_yes _ (by omega) (by omega) _).mono ?_ | refine (vticks_no _ (by omega) _).mono ?_); rintro e w' ⟨rfl, rfl⟩)))
  exact bodyPost_ret (v := .tuple #[.agg #[.int .i64 (a0 - b1 * c1), .int .i64 (a1 - b0 * c0)], .int .i64 0]) (by first | (simp [results, Try.results26, go_sem]; done) | (simp (maxDischargeDepth := 7) [results, Try.results26, go_sem, *]; done)) rfl ⟨rfl, (by repeat (first | with_reducible exact Kept.refl _ | with_reducible assumption | with_reducible refine Kept.setCell ?_ (by first | (simp; done) | (simp; omega) | omega) _ | with_reducible refine Kept.alloc ?_ _ | with_reducible refine Kept.drewN ?_ _ | with_reducible refine Kept.drew ?_ | with_reducible refine Kept.trans ?_ (by with_reducible assumption) | with_reducible refine Kept.dr ?_ (by with_reducible assumption)))⟩
theorem needed2 (g d : Nat) (w : World) (c0 : w.cell? ⟨g, 0, none⟩ = some (.int .i64 10)) (c1 : w.cell? ⟨g, 1, none⟩ = some (.int .i64 5)) (e0 : w.cell? ⟨d, 0, none⟩ = some (.int .i64 20)) (e1 : w.cell? ⟨d, 1, none⟩ = some (.int .i64 4)) :
    Calls Try.prog 28 #[.slice (some ⟨g, 0, none⟩) 2 2, .slice (some ⟨d, 0, none⟩) 2 2, .int .i64 30] w fun e w' => e = .returned (.tuple #[.int .i64 250, .int .i64 0]) ∧ w = w' := by
  go_enter Try.func28, Try.ntmps28
  go_wp2_with (first | (go_at_call 30; (first | refine (within_yes _ _ _ (by omega) (by omega) _).mono ?_ | refine (within_lo _ _ _ (by omega) _).mono ?_ | refine (within_hi _ _ _ (by omega) _).mono ?_); rintro e w' ⟨rfl, rfl⟩))
  refine wp_loop_rounds 3 ?_
  repeat (rw [rounds_succ]; go_wp2_with (first | (go_at_call 31; (first | refine (vflow_yes _ (by omega) (by omega) _).mono ?_ | refine (vflow_no _ (by omega) _).mono ?_); rintro e w' ⟨rfl, rfl⟩) | (go_at_call 32; (first | refine (vticks_yes _ (by omega) (by omega) _).mono ?_ | refine (vticks_no _ (by omega) _).mono ?_); rintro e w' ⟨rfl, rfl⟩)))
  go_ret2
  exact ⟨rfl, rfl⟩
theorem new_cell (w : World) (cs : Array Value) (t : TypeId) (i : Nat) {v : Value} (h : cs[i]? = some v) : (w.alloc (.cells cs t)).cell? ⟨w.heap.size, i, none⟩ = some v := by
  rw [cell_of_row _ _ _ cs t (0, 0) (heap_alloc_new w _)]; exact h
set_option maxHeartbeats 4000000 in
theorem awake_w (w : World) : Calls Try.prog 11 #[] w fun e w' => e = .returned (.bool true) ∧ Kept w w' := by
  go_enter Try.func11, Try.ntmps11
  go_wp2_with fail
  refine (new_ok 1000 600 100 (by decide) (by decide) (by decide) (by decide) (by decide) (by decide) _).mono ?_
  rintro e w1 ⟨rfl, hk1⟩
  go_wp2_with fail
  refine (burn_ok 1000 600 100 0 10 50 (by decide) (by decide) (by decide) (by decide) (by decide) (by decide) (by decide) (by decide) (by decide) (by decide) (by decide) (by decide) (by decide) _).mono ?_
  rintro e w2 ⟨rfl, hk2⟩
  refine kuse (b := w1.heap.size) hk2 (by first | (simp; done) | (simp; omega) | omega) ?_
  intro ha2_1 hb2_1
  have hz2_1 : w1.heap.size < w2.heap.size := by have := hk2.size; (try simp at this); omega
  go_wp2_with fail
  refine (burn_ok 1000 600 100 500 10 1 (by decide) (by decide) (by decide) (by decide) (by decide) (by decide) (by decide) (by decide) (by decide) (by decide) (by decide) (by decide) (by decide) _).mono ?_
  rintro e w3 ⟨rfl, hk3⟩
  refine kuse (b := w1.heap.size) hk3 (by first | (simp; done) | (simp; omega) | omega) ?_
  intro ha3_1 hb3_1
  have hz3_1 : w1.heap.size < w3.heap.size := by have := hk3.size; (try simp at this); omega
  refine kuse (b := w2.heap.size) hk3 (by first | (simp; done) | (simp; omega) | omega) ?_
  intro ha3_2 hb3_2
  have hz3_2 : w2.heap.size < w3.heap.size := by have := hk3.size; (try simp at this); omega
  go_wp2_with fail
  refine (end_ok 1000 600 100 0 7 (by decide) (by decide) (by decide) (by decide) (by decide) (by decide) (by decide) (by decide) (by decide) (by decide) (by decide) _).mono ?_
  rintro e w4 ⟨rfl, hk4⟩
  refine kuse (b := w1.heap.size) hk4 (by first | (simp; done) | (simp; omega) | omega) ?_
  intro ha4_1 hb4_1
  have hz4_1 : w1.heap.size < w4.heap.size := by have := hk4.size; (try simp at this); omega
  refine kuse (b := w2.heap.size) hk4 (by first | (simp; done) | (simp; omega) | omega) ?_
  intro ha4_2 hb4_2
  have hz4_2 : w2.heap.size < w4.heap.size := by have := hk4.size; (try simp at this); omega
  refine kuse (b := w3.heap.size) hk4 (by first | (simp; done) | (simp; omega) | omega) ?_
  intro ha4_3 hb4_3
  have hz4_3 : w3.heap.size < w4.heap.size := by have := hk4.size; (try simp at this); omega
  go_wp2_with fail
  refine (left_ok 1000 600 100 500 (by decide) (by decide) (by decide) (by decide) (by decide) (by decide) (by decide) (by decide) _).mono ?_
  rintro e w5 ⟨rfl, hk5⟩
  refine kuse (b := w1.heap.size) hk5 (by first | (simp; done) | (simp; omega) | omega) ?_
  intro ha5_1 hb5_1
  have hz5_1 : w1.heap.size < w5.heap.size := by have := hk5.size; (try simp at this); omega
  refine kuse (b := w2.heap.size) hk5 (by first | (simp; done) | (simp; omega) | omega) ?_
  intro ha5_2 hb5_2
  have hz5_2 : w2.heap.size < w5.heap.size := by have := hk5.size; (try simp at this); omega
  refine kuse (b := w3.heap.size) hk5 (by first | (simp; done) | (simp; omega) | omega) ?_
  intro ha5_3 hb5_3
  have hz5_3 : w3.heap.size < w5.heap.size := by have := hk5.size; (try simp at this); omega
  go_wp2_with fail
  refine (low_ok 1000 600 100 500 (by decide) (by decide) (by decide) (by decide) (by decide) (by decide) (by decide) (by decide) _).mono ?_
  rintro e w6 ⟨rfl, hk6⟩
  refine kuse (b := w1.heap.size) hk6 (by first | (simp; done) | (simp; omega) | omega) ?_
  intro ha6_1 hb6_1
  have hz6_1 : w1.heap.size < w6.heap.size := by have := hk6.size; (try simp at this); omega
  refine kuse (b := w2.heap.size) hk6 (by first | (simp; done) | (simp; omega) | omega) ?_
  intro ha6_2 hb6_2
  have hz6_2 : w2.heap.size < w6.heap.size := by have := hk6.size; (try simp at this); omega
  refine kuse (b := w3.heap.size) hk6 (by first | (simp; done) | (simp; omega) | omega) ?_
  intro ha6_3 hb6_3
  have hz6_3 : w3.heap.size < w6.heap.size := by have := hk6.size; (try simp at this); omega
  go_wp2_with fail
  refine (left_ok 1000 600 100 510 (by decide) (by decide) (by decide) (by decide) (by decide) (by decide) (by decide) (by decide) _).mono ?_
  rintro e w7 ⟨rfl, hk7⟩
  refine kuse (b := w1.heap.size) hk7 (by first | (simp; done) | (simp; omega) | omega) ?_
  intro ha7_1 hb7_1
  have hz7_1 : w1.heap.size < w7.heap.size := by have := hk7.size; (try simp at this); omega
  refine kuse (b := w2.heap.size) hk7 (by first | (simp; done) | (simp; omega) | omega) ?_
  intro ha7_2 hb7_2
  have hz7_2 : w2.heap.size < w7.heap.size := by have := hk7.size; (try simp at this); omega
  refine kuse (b := w3.heap.size) hk7 (by first | (simp; done) | (simp; omega) | omega) ?_
  intro ha7_3 hb7_3
  have hz7_3 : w3.heap.size < w7.heap.size := by have := hk7.size; (try simp at this); omega
  go_wp2_with fail
  refine (low_ok 1000 600 100 510 (by decide) (by decide) (by decide) (by decide) (by decide) (by decide) (by decide) (by decide) _).mono ?_
  rintro e w8 ⟨rfl, hk8⟩
  refine kuse (b := w1.heap.size) hk8 (by first | (simp; done) | (simp; omega) | omega) ?_
  intro ha8_1 hb8_1
  have hz8_1 : w1.heap.size < w8.heap.size := by have := hk8.size; (try simp at this); omega
  refine kuse (b := w2.heap.size) hk8 (by first | (simp; done) | (simp; omega) | omega) ?_
  intro ha8_2 hb8_2
  have hz8_2 : w2.heap.size < w8.heap.size := by have := hk8.size; (try simp at this); omega
  refine kuse (b := w3.heap.size) hk8 (by first | (simp; done) | (simp; omega) | omega) ?_
  intro ha8_3 hb8_3
  have hz8_3 : w3.heap.size < w8.heap.size := by have := hk8.size; (try simp at this); omega
  go_wp2_with fail
  refine (bi_ok 500 600 2 3 10 20 (by decide) (by decide) (by decide) (by decide) (by decide) (by decide) (by decide) (by decide) (by decide) (by decide) _).mono ?_
  rintro e w9 ⟨rfl, hk9⟩
  refine kuse (b := w1.heap.size) hk9 (by first | (simp; done) | (simp; omega) | omega) ?_
  intro ha9_1 hb9_1
  have hz9_1 : w1.heap.size < w9.heap.size := by have := hk9.size; (try simp at this); omega
  refine kuse (b := w2.heap.size) hk9 (by first | (simp; done) | (simp; omega) | omega) ?_
  intro ha9_2 hb9_2
  have hz9_2 : w2.heap.size < w9.heap.size := by have := hk9.size; (try simp at this); omega
  refine kuse (b := w3.heap.size) hk9 (by first | (simp; done) | (simp; omega) | omega) ?_
  intro ha9_3 hb9_3
  have hz9_3 : w3.heap.size < w9.heap.size := by have := hk9.size; (try simp at this); omega
  go_wp2_with fail
  refine (needed2 (w9.heap.size + 1) (w9.heap.size + 2) _ (by simp [go_sem]) (by simp [go_sem]) (by simp [go_sem]) (by simp [go_sem])).mono ?_
  rintro e w' ⟨rfl, rfl⟩
  go_wp2_with fail
  all_goals go_ret
  all_goals exact ⟨rfl, (by repeat (first | with_reducible exact Kept.refl _ | with_reducible assumption | with_reducible refine Kept.setCell ?_ (by first | (simp; done) | (simp; omega) | omega) _ | with_reducible refine Kept.alloc ?_ _ | with_reducible refine Kept.drewN ?_ _ | with_reducible refine Kept.drew ?_ | with_reducible refine Kept.trans ?_ (by with_reducible assumption) | with_reducible refine Kept.dr ?_ (by with_reducible assumption)))⟩
end Go.Proofs.Ytcchhmekmoekeaa
