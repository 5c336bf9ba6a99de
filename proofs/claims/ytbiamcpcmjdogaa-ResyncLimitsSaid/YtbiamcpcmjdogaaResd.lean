/-
  The laws of layer 54: the limited targets; a walk.
-/
import Derived.Test.YtbiamcpcmjdogaaResb
import Derived.WalkKit
import Derived.ProofKit
import Derived.OpenShut
import Derived.WalkLawsBesides
import Derived.WalkSpells
import Derived.Lib.Hide
import Derived.Deep.DeepCutAuto
import Derived.Deep.CutBlock
import Derived.Deep.QuietTactic
import Derived.BigQuiet
import Derived.Handy
import Derived.StillTailTactics
import Derived.IntWalk
import Derived.LoopN
import Derived.Deep.RegionHeld3
namespace Go.Proofs.Ytbiamcpcmjdogaa
open Go.ChangeShapes Go.WideShapes Go.ChangeAt Go.RowKit
set_option linter.unusedVariables false
set_option linter.unusedSimpArgs false

theorem tw_self (l r : Int) : tw l l r = l := by unfold tw mr; (repeat' split) <;> omega
set_option maxHeartbeats 2000000 in
set_option maxRecDepth 100000 in
theorem law_limits (l0 l1 l2 l3 l4 l5 l6 v0 v1 v2 v3 v4 v5 v6 r0 r1 r2 r3 : Int) (l0_0 : 0 ≤ l0) (l0_1 : l0 ≤ 255) (l1_0 : 0 ≤ l1) (l1_1 : l1 ≤ 255) (l2_0 : 0 ≤ l2) (l2_1 : l2 ≤ 255) (l3_0 : -9223372036854775808 ≤ l3) (l3_1 : l3 ≤ 9223372036854775807) (l4_0 : -9223372036854775808 ≤ l4) (l4_1 : l4 ≤ 9223372036854775807) (l5_0 : -9223372036854775808 ≤ l5) (l5_1 : l5 ≤ 9223372036854775807) (l6_0 : -9223372036854775808 ≤ l6) (l6_1 : l6 ≤ 9223372036854775807) (v0_0 : 0 ≤ v0) (v0_1 : v0 ≤ 255) (v1_0 : 0 ≤ v1) (v1_1 : v1 ≤ 255) (v2_0 : 0 ≤ v2) (v2_1 : v2 ≤ 255) (v3_0 : -9223372036854775808 ≤ v3) (v3_1 : v3 ≤ 9223372036854775807) (v4_0 : -9223372036854775808 ≤ v4) (v4_1 : v4 ≤ 9223372036854775807) (v5_0 : -9223372036854775808 ≤ v5) (v5_1 : v5 ≤ 9223372036854775807) (v6_0 : -9223372036854775808 ≤ v6) (v6_1 : v6 ≤ 9223372036854775807) (r0_0 : -9223372036854775808 ≤ r0) (r0_1 : r0 ≤ 9223372036854775807) (r1_0 : -9223372036854775808 ≤ r1) (r1_1 : r1 ≤ 9223372036854775807) (r2_0 : -9223372036854775808 ≤ r2) (r2_1 : r2 ≤ 9223372036854775807) (r3_0 : -9223372036854775808 ≤ r3) (r3_1 : r3 ≤ 9223372036854775807) (w : World) : Calls Try.prog 3 #[.agg #[.int .u8 l0, .int .u8 l1, .int .u8 l2, .int .i64 l3, .int .i64 l4, .int .i64 l5, .int .i64 l6], .agg #[.int .u8 v0, .int .u8 v1, .int .u8 v2, .int .i64 v3, .int .i64 v4, .int .i64 v5, .int .i64 v6], .agg #[.int .i64 r0, .int .i64 r1, .int .i64 r2, .int .i64 r3]] w fun en w' => en = .returned (.bool true) ∧ Kept w w' := by
  have d1 := fun w => limit_w l0 v0 l1 v1 l2 v2 l3 v3 l4 v4 l5 v5 l6 v6 r0 r1 r2 r3 (by omega) (by omega) (by omega) (by omega) (by omega) (by omega) (by omega) (by omega) (by omega) (by omega) (by omega) (by omega) (by omega) (by omega) (by omega) (by omega) (by omega) (by omega) (by omega) (by omega) (by omega) (by omega) (by omega) (by omega) w
  have d2 := fun w => ref_limit_w l0 v0 l1 v1 l2 v2 l3 v3 l4 v4 l5 v5 l6 v6 r0 r1 r2 r3 (by omega) (by omega) (by omega) (by omega) (by omega) (by omega) (by omega) (by omega) (by omega) (by omega) (by omega) (by omega) (by omega) (by omega) (by omega) (by omega) (by omega) (by omega) (by omega) (by omega) (by omega) (by omega) (by omega) (by omega) w
  have d3 := fun w => limit_w l0 l0 l1 l1 l2 l2 l3 l3 l4 l4 l5 l5 l6 l6 r0 r1 r2 r3 (by omega) (by omega) (by omega) (by omega) (by omega) (by omega) (by omega) (by omega) (by omega) (by omega) (by omega) (by omega) (by omega) (by omega) (by omega) (by omega) (by omega) (by omega) (by omega) (by omega) (by omega) (by omega) (by omega) (by omega) w
  simp only [tw_self] at d3
  generalize tw l3 v3 r0 = t3 at d1 d2
  generalize tw l4 v4 r1 = t4 at d1 d2
  generalize tw l5 v5 r2 = t5 at d1 d2
  generalize tw l6 v6 r3 = t6 at d1 d2
  go_enter Try.func3, Try.ntmps3
  go_wp2_with fail
  refine (awake_w _).mono ?_
  rintro e w1 ⟨rfl, hk⟩
  obtain ⟨hq, hg⟩ := kcell hk (w.heap.size) (by first | (simp; done) | (simp; omega))
  have q00 : w1.cell? ⟨w.heap.size, 0, none⟩ = some (.int .u8 l0) := by rw [hq]; simp [go_sem]
  have q01 : w1.cell? ⟨w.heap.size, 1, none⟩ = some (.int .u8 l1) := by rw [hq]; simp [go_sem]
  have q02 : w1.cell? ⟨w.heap.size, 2, none⟩ = some (.int .u8 l2) := by rw [hq]; simp [go_sem]
  have q03 : w1.cell? ⟨w.heap.size, 3, none⟩ = some (.int .i64 l3) := by rw [hq]; simp [go_sem]
  have q04 : w1.cell? ⟨w.heap.size, 4, none⟩ = some (.int .i64 l4) := by rw [hq]; simp [go_sem]
  have q05 : w1.cell? ⟨w.heap.size, 5, none⟩ = some (.int .i64 l5) := by rw [hq]; simp [go_sem]
  have q06 : w1.cell? ⟨w.heap.size, 6, none⟩ = some (.int .i64 l6) := by rw [hq]; simp [go_sem]
  clear hq hg
  obtain ⟨hq, hg⟩ := kcell hk (w.heap.size + 1) (by first | (simp; done) | (simp; omega))
  have q10 : w1.cell? ⟨w.heap.size + 1, 0, none⟩ = some (.int .u8 v0) := by rw [hq]; simp [go_sem]
  have q11 : w1.cell? ⟨w.heap.size + 1, 1, none⟩ = some (.int .u8 v1) := by rw [hq]; simp [go_sem]
  have q12 : w1.cell? ⟨w.heap.size + 1, 2, none⟩ = some (.int .u8 v2) := by rw [hq]; simp [go_sem]
  have q13 : w1.cell? ⟨w.heap.size + 1, 3, none⟩ = some (.int .i64 v3) := by rw [hq]; simp [go_sem]
  have q14 : w1.cell? ⟨w.heap.size + 1, 4, none⟩ = some (.int .i64 v4) := by rw [hq]; simp [go_sem]
  have q15 : w1.cell? ⟨w.heap.size + 1, 5, none⟩ = some (.int .i64 v5) := by rw [hq]; simp [go_sem]
  have q16 : w1.cell? ⟨w.heap.size + 1, 6, none⟩ = some (.int .i64 v6) := by rw [hq]; simp [go_sem]
  clear hq hg
  obtain ⟨hq, hg⟩ := kcell hk (w.heap.size + 2) (by first | (simp; done) | (simp; omega))
  have q20 : w1.cell? ⟨w.heap.size + 2, 0, none⟩ = some (.int .i64 r0) := by rw [hq]; simp [go_sem]
  have q21 : w1.cell? ⟨w.heap.size + 2, 1, none⟩ = some (.int .i64 r1) := by rw [hq]; simp [go_sem]
  have q22 : w1.cell? ⟨w.heap.size + 2, 2, none⟩ = some (.int .i64 r2) := by rw [hq]; simp [go_sem]
  have q23 : w1.cell? ⟨w.heap.size + 2, 3, none⟩ = some (.int .i64 r3) := by rw [hq]; simp [go_sem]
  clear hq hg

  have hz := hk.size
  have hl : w.heap.size + 2 < w1.heap.size := by simp at hz; omega
  have K1 := Lib.hid (((((Kept.refl w).alloc _).alloc _).alloc _).trans hk)
  clear hk hz
  go_wp2_with fail
  refine (d1 _).mono ?_
  rintro e w2 ⟨rfl, hk⟩
  obtain ⟨hq, hg⟩ := kcell hk (w.heap.size) (by omega)
  have p00 := (hq 0).trans q00
  have p01 := (hq 1).trans q01
  have p02 := (hq 2).trans q02
  have p03 := (hq 3).trans q03
  have p04 := (hq 4).trans q04
  have p05 := (hq 5).trans q05
  have p06 := (hq 6).trans q06
  clear hq hg
  obtain ⟨hq, hg⟩ := kcell hk (w.heap.size + 1) (by omega)
  have p10 := (hq 0).trans q10
  have p11 := (hq 1).trans q11
  have p12 := (hq 2).trans q12
  have p13 := (hq 3).trans q13
  have p14 := (hq 4).trans q14
  have p15 := (hq 5).trans q15
  have p16 := (hq 6).trans q16
  clear hq hg
  obtain ⟨hq, hg⟩ := kcell hk (w.heap.size + 2) (by omega)
  have p20 := (hq 0).trans q20
  have p21 := (hq 1).trans q21
  have p22 := (hq 2).trans q22
  have p23 := (hq 3).trans q23
  clear hq hg
  have hl2 : w.heap.size + 2 < w2.heap.size := Nat.lt_of_lt_of_le hl hk.size
  have K2 := Lib.hid (K1.out.trans hk)
  clear hk K1 q00 q01 q02 q03 q04 q05 q06 q10 q11 q12 q13 q14 q15 q16 q20 q21 q22 q23 hl
  go_wp2_with fail
  have hn : w2.heap.size ≠ w.heap.size ∧ w2.heap.size ≠ w.heap.size + 1 ∧ w2.heap.size ≠ w.heap.size + 2 := by omega
  go_region_held3 (fun W => W.cell? ⟨w.heap.size, 0, none⟩ = some (.int .u8 l0) ∧ W.cell? ⟨w.heap.size, 1, none⟩ = some (.int .u8 l1) ∧ W.cell? ⟨w.heap.size, 2, none⟩ = some (.int .u8 l2) ∧ W.cell? ⟨w.heap.size, 3, none⟩ = some (.int .i64 l3) ∧ W.cell? ⟨w.heap.size, 4, none⟩ = some (.int .i64 l4) ∧ W.cell? ⟨w.heap.size, 5, none⟩ = some (.int .i64 l5) ∧ W.cell? ⟨w.heap.size, 6, none⟩ = some (.int .i64 l6) ∧ W.cell? ⟨w.heap.size + 1, 0, none⟩ = some (.int .u8 v0) ∧ W.cell? ⟨w.heap.size + 1, 1, none⟩ = some (.int .u8 v1) ∧ W.cell? ⟨w.heap.size + 1, 2, none⟩ = some (.int .u8 v2) ∧ W.cell? ⟨w.heap.size + 1, 3, none⟩ = some (.int .i64 v3) ∧ W.cell? ⟨w.heap.size + 1, 4, none⟩ = some (.int .i64 v4) ∧ W.cell? ⟨w.heap.size + 1, 5, none⟩ = some (.int .i64 v5) ∧ W.cell? ⟨w.heap.size + 1, 6, none⟩ = some (.int .i64 v6) ∧ W.cell? ⟨w.heap.size + 2, 0, none⟩ = some (.int .i64 r0) ∧ W.cell? ⟨w.heap.size + 2, 1, none⟩ = some (.int .i64 r1) ∧ W.cell? ⟨w.heap.size + 2, 2, none⟩ = some (.int .i64 r2) ∧ W.cell? ⟨w.heap.size + 2, 3, none⟩ = some (.int .i64 r3) ∧ W.cell? ⟨w2.heap.size, 0, none⟩ = some (.int .u8 v0) ∧ W.cell? ⟨w2.heap.size, 1, none⟩ = some (.int .u8 v1) ∧ W.cell? ⟨w2.heap.size, 2, none⟩ = some (.int .u8 v2) ∧ W.cell? ⟨w2.heap.size, 3, none⟩ = some (.int .i64 t3) ∧ W.cell? ⟨w2.heap.size, 4, none⟩ = some (.int .i64 t4) ∧ W.cell? ⟨w2.heap.size, 5, none⟩ = some (.int .i64 t5) ∧ W.cell? ⟨w2.heap.size, 6, none⟩ = some (.int .i64 t6)) (go_keep) (first | (go_at_call 7; refine (d2 _).mono ?_; rintro e w' ⟨rfl, hk⟩; refine kuse (b := w.heap.size) hk (by first | (simp; done) | (simp; omega) | omega) ?_; intro hq0 hg0; have hy0 : w.heap.size < w'.heap.size := (by have := hk.size; (try simp at this); omega); refine kuse (b := w.heap.size + 1) hk (by first | (simp; done) | (simp; omega) | omega) ?_; intro hq1 hg1; have hy1 : w.heap.size + 1 < w'.heap.size := (by have := hk.size; (try simp at this); omega); refine kuse (b := w.heap.size + 2) hk (by first | (simp; done) | (simp; omega) | omega) ?_; intro hq2 hg2; have hy2 : w.heap.size + 2 < w'.heap.size := (by have := hk.size; (try simp at this); omega); refine kuse (b := w2.heap.size) hk (by first | (simp; done) | (simp; omega) | omega) ?_; intro hq3 hg3; have hy3 : w2.heap.size < w'.heap.size := (by have := hk.size; (try simp at this); omega)))
  all_goals go_wp2_with fail
  all_goals go_region_held3 (fun W => W.cell? ⟨w.heap.size, 0, none⟩ = some (.int .u8 l0) ∧ W.cell? ⟨w.heap.size, 1, none⟩ = some (.int .u8 l1) ∧ W.cell? ⟨w.heap.size, 2, none⟩ = some (.int .u8 l2) ∧ W.cell? ⟨w.heap.size, 3, none⟩ = some (.int .i64 l3) ∧ W.cell? ⟨w.heap.size, 4, none⟩ = some (.int .i64 l4) ∧ W.cell? ⟨w.heap.size, 5, none⟩ = some (.int .i64 l5) ∧ W.cell? ⟨w.heap.size, 6, none⟩ = some (.int .i64 l6) ∧ W.cell? ⟨w.heap.size + 1, 0, none⟩ = some (.int .u8 v0) ∧ W.cell? ⟨w.heap.size + 1, 1, none⟩ = some (.int .u8 v1) ∧ W.cell? ⟨w.heap.size + 1, 2, none⟩ = some (.int .u8 v2) ∧ W.cell? ⟨w.heap.size + 1, 3, none⟩ = some (.int .i64 v3) ∧ W.cell? ⟨w.heap.size + 1, 4, none⟩ = some (.int .i64 v4) ∧ W.cell? ⟨w.heap.size + 1, 5, none⟩ = some (.int .i64 v5) ∧ W.cell? ⟨w.heap.size + 1, 6, none⟩ = some (.int .i64 v6) ∧ W.cell? ⟨w.heap.size + 2, 0, none⟩ = some (.int .i64 r0) ∧ W.cell? ⟨w.heap.size + 2, 1, none⟩ = some (.int .i64 r1) ∧ W.cell? ⟨w.heap.size + 2, 2, none⟩ = some (.int .i64 r2) ∧ W.cell? ⟨w.heap.size + 2, 3, none⟩ = some (.int .i64 r3) ∧ W.cell? ⟨w2.heap.size, 0, none⟩ = some (.int .u8 v0) ∧ W.cell? ⟨w2.heap.size, 1, none⟩ = some (.int .u8 v1) ∧ W.cell? ⟨w2.heap.size, 2, none⟩ = some (.int .u8 v2) ∧ W.cell? ⟨w2.heap.size, 3, none⟩ = some (.int .i64 t3) ∧ W.cell? ⟨w2.heap.size, 4, none⟩ = some (.int .i64 t4) ∧ W.cell? ⟨w2.heap.size, 5, none⟩ = some (.int .i64 t5) ∧ W.cell? ⟨w2.heap.size, 6, none⟩ = some (.int .i64 t6)) (go_keep) (first | (go_at_call 6; refine (d3 _).mono ?_; rintro e w' ⟨rfl, hk⟩; refine kuse (b := w.heap.size) hk (by first | (simp; done) | (simp; omega) | omega) ?_; intro hq0 hg0; have hy0 : w.heap.size < w'.heap.size := (by have := hk.size; (try simp at this); omega); refine kuse (b := w.heap.size + 1) hk (by first | (simp; done) | (simp; omega) | omega) ?_; intro hq1 hg1; have hy1 : w.heap.size + 1 < w'.heap.size := (by have := hk.size; (try simp at this); omega); refine kuse (b := w.heap.size + 2) hk (by first | (simp; done) | (simp; omega) | omega) ?_; intro hq2 hg2; have hy2 : w.heap.size + 2 < w'.heap.size := (by have := hk.size; (try simp at this); omega); refine kuse (b := w2.heap.size) hk (by first | (simp; done) | (simp; omega) | omega) ?_; intro hq3 hg3; have hy3 : w2.heap.size < w'.heap.size := (by have := hk.size; (try simp at this); omega)))
  all_goals go_wp2_with fail
  all_goals go_ret
  all_goals have K2o := K2.out
  all_goals exact ⟨rfl, (by repeat (first | with_reducible exact Kept.refl _ | with_reducible assumption | with_reducible refine Kept.setCell ?_ (by first | (simp; done) | (simp; omega) | omega) _ | with_reducible refine Kept.alloc ?_ _ | with_reducible refine Kept.drewN ?_ _ | with_reducible refine Kept.drew ?_ | with_reducible refine Kept.trans ?_ (by with_reducible assumption) | with_reducible refine Kept.dr ?_ (by with_reducible assumption)))⟩

end Go.Proofs.Ytbiamcpcmjdogaa
