/-
  Own contracts: flightdecklaw03: awake (the chapter's examples).
-/
import Derived.Test.YtfmijkbmedfcfaaIntd
import Derived.Test.YtfmijkbmedfcfaaIntm
import Derived.Test.YtfmijkbmedfcfaaIntq
import Derived.Test.YtfmijkbmedfcfaaInts
import Derived.WalkKit
import Derived.ProofKit
import Derived.OpenShut
import Derived.WalkLawsBesides
import Derived.WalkSpells
import Derived.Lib.Hide
import Derived.Deep.DeepCutAuto
import Derived.Deep.CutBlock
import Derived.Deep.QuietTactic
import Derived.BigQuiet
import Derived.Handy
import Derived.StillTailTactics
import Derived.IntWalk
import Derived.LoopN
import Derived.Deep.RegionHeld3
namespace Go.Proofs.Ytfmijkbmedfcfaa
open Go.ChangeShapes Go.WideShapes Go.ChangeAt Go.RowKit
set_option linter.unusedVariables false
set_option linter.unusedSimpArgs false

theorem hidi {p : Prop} (h : p) : Hid p := h
theorem aw_mul (w : World) : Calls Try.prog 6 #[.agg #[.int .i64 (-2), .int .i64 3], .agg #[.int .i64 (-5), .int .i64 4]] w fun en w' => en = .returned (.tuple #[.agg #[.int .i64 (-15), .int .i64 12], .int .i64 0]) ∧ Kept w w' := imul_ok (-2) 3 (-5) 4 10 (-8) (-15) 12 (-15) 12 (by omega) (by omega) (by omega) (by omega) (by omega) (by omega) (hidi rfl) (hidi rfl) (hidi rfl) (hidi rfl) (hidi rfl) (hidi rfl) (by omega) (by omega) w
theorem aw_quo (w : World) : Calls Try.prog 9 #[.agg #[.int .i64 1, .int .i64 2], .agg #[.int .i64 3, .int .i64 4]] w fun en w' => en = .returned (.tuple #[.agg #[.int .i64 0, .int .i64 1], .int .i64 0]) ∧ Kept w w' := iquo_ok 1 2 3 4 0 0 0 0 1 1 1 1 0 1 (by omega) (by omega) (by omega) (by omega) (by omega) (by omega) (by omega) (hidi (by decide +kernel)) (hidi (by decide +kernel)) (hidi (by decide +kernel)) (hidi (by decide +kernel)) (hidi (by decide +kernel)) (hidi (by decide +kernel)) (hidi (by decide +kernel)) (hidi (by decide +kernel)) (hidi (by decide +kernel)) (hidi (by decide +kernel)) (hidi (by decide +kernel)) (hidi (by decide +kernel)) (hidi (by decide +kernel)) (hidi (by decide +kernel)) (hidi (by decide +kernel)) (hidi (by decide +kernel)) (hidi rfl) (hidi rfl) (by omega) (by omega) (by omega) w
theorem aw_sc1 (w : World) : Calls Try.prog 10 #[.agg #[.int .i64 7, .int .i64 10], .int .i64 1, .int .i64 3] w fun en w' => en = .returned (.tuple #[.agg #[.int .i64 2, .int .i64 4], .int .i64 0]) ∧ Kept w w' := scalep_ok 7 10 1 3 2 0 4 0 (by omega) (by omega) (by omega) (by omega) (by omega) (by omega) (by omega) (by omega) (hidi (by decide +kernel)) (hidi (by decide +kernel)) (hidi (by decide +kernel)) (hidi (by decide +kernel)) rfl rfl (by omega) (by omega) (by omega) w
theorem aw_sc2 (w : World) : Calls Try.prog 10 #[.agg #[.int .i64 7, .int .i64 10], .int .i64 (-1), .int .i64 3] w fun en w' => en = .returned (.tuple #[.agg #[.int .i64 (-4), .int .i64 (-2)], .int .i64 0]) ∧ Kept w w' := scalen_ok 7 10 (-1) 3 (-4) 0 (-2) 0 (by omega) (by omega) (by omega) (by omega) (by omega) (by omega) (by omega) (by omega) (hidi (by decide +kernel)) (hidi (by decide +kernel)) (hidi (by decide +kernel)) (hidi (by decide +kernel)) rfl rfl (by omega) (by omega) (by omega) w
theorem aw_sqrt (w : World) : Calls Try.prog 11 #[.agg #[.int .i64 8, .int .i64 9]] w fun en w' => en = .returned (.tuple #[.agg #[.int .i64 2, .int .i64 3], .int .i64 0]) ∧ Kept w w' := isqrt_ok 8 9 2 3 (by omega) (by omega) (by omega) (by omega) (hidi (by decide +kernel)) (hidi (by decide +kernel)) (by omega) (by omega) (by omega) w
theorem aw_abs (w : World) : Calls Try.prog 12 #[.agg #[.int .i64 (-2), .int .i64 1]] w fun en w' => en = .returned (.tuple #[.agg #[.int .i64 0, .int .i64 2], .int .i64 0]) ∧ Kept w w' := iabs_mid (-2) 1 (by omega) (by omega) (by omega) (by omega) (by omega) w
theorem aw_meet (w : World) : Calls Try.prog 13 #[.agg #[.int .i64 0, .int .i64 1], .agg #[.int .i64 2, .int .i64 3]] w fun en w' => en = .returned (.tuple #[.agg #[.int .i64 0, .int .i64 0], .int .i64 6]) ∧ Kept w w' := imeet_none 0 1 2 3 (by omega) (by omega) (by omega) (by omega) (by omega) (by omega) (by omega) w
set_option maxHeartbeats 4000000 in
set_option maxRecDepth 100000 in
theorem awake_w (w : World) : Calls Try.prog 4 #[] w fun en w' => en = .returned (.bool true) ∧ Kept w w' := by
  go_enter Try.func4, Try.ntmps4
  go_wp2_with fail
  refine (aw_mul _).mono ?_
  rintro e w1 ⟨rfl, hk1⟩
  go_wp2_with fail
  refine (aw_quo _).mono ?_
  rintro e w2 ⟨rfl, hk2⟩
  refine kuse (b := w1.heap.size) hk2 (by first | (simp; done) | (simp; omega) | omega) ?_
  intro ha2_0 hb2_0
  have hz2_0 : w1.heap.size < w2.heap.size := by have := hk2.size; (try simp at this); omega
  go_wp2_with fail
  refine (aw_sc1 _).mono ?_
  rintro e w3 ⟨rfl, hk3⟩
  refine kuse (b := w1.heap.size) hk3 (by first | (simp; done) | (simp; omega) | omega) ?_
  intro ha3_0 hb3_0
  have hz3_0 : w1.heap.size < w3.heap.size := by have := hk3.size; (try simp at this); omega
  refine kuse (b := w2.heap.size) hk3 (by first | (simp; done) | (simp; omega) | omega) ?_
  intro ha3_1 hb3_1
  have hz3_1 : w2.heap.size < w3.heap.size := by have := hk3.size; (try simp at this); omega
  go_wp2_with fail
  refine (aw_sc2 _).mono ?_
  rintro e w4 ⟨rfl, hk4⟩
  refine kuse (b := w1.heap.size) hk4 (by first | (simp; done) | (simp; omega) | omega) ?_
  intro ha4_0 hb4_0
  have hz4_0 : w1.heap.size < w4.heap.size := by have := hk4.size; (try simp at this); omega
  refine kuse (b := w2.heap.size) hk4 (by first | (simp; done) | (simp; omega) | omega) ?_
  intro ha4_1 hb4_1
  have hz4_1 : w2.heap.size < w4.heap.size := by have := hk4.size; (try simp at this); omega
  refine kuse (b := w3.heap.size) hk4 (by first | (simp; done) | (simp; omega) | omega) ?_
  intro ha4_2 hb4_2
  have hz4_2 : w3.heap.size < w4.heap.size := by have := hk4.size; (try simp at this); omega
  go_wp2_with fail
  refine (aw_sqrt _).mono ?_
  rintro e w5 ⟨rfl, hk5⟩
  refine kuse (b := w1.heap.size) hk5 (by first | (simp; done) | (simp; omega) | omega) ?_
  intro ha5_0 hb5_0
  have hz5_0 : w1.heap.size < w5.heap.size := by have := hk5.size; (try simp at this); omega
  refine kuse (b := w2.heap.size) hk5 (by first | (simp; done) | (simp; omega) | omega) ?_
  intro ha5_1 hb5_1
  have hz5_1 : w2.heap.size < w5.heap.size := by have := hk5.size; (try simp at this); omega
  refine kuse (b := w3.heap.size) hk5 (by first | (simp; done) | (simp; omega) | omega) ?_
  intro ha5_2 hb5_2
  have hz5_2 : w3.heap.size < w5.heap.size := by have := hk5.size; (try simp at this); omega
  refine kuse (b := w4.heap.size) hk5 (by first | (simp; done) | (simp; omega) | omega) ?_
  intro ha5_3 hb5_3
  have hz5_3 : w4.heap.size < w5.heap.size := by have := hk5.size; (try simp at this); omega
  go_wp2_with fail
  refine (aw_abs _).mono ?_
  rintro e w6 ⟨rfl, hk6⟩
  refine kuse (b := w1.heap.size) hk6 (by first | (simp; done) | (simp; omega) | omega) ?_
  intro ha6_0 hb6_0
  have hz6_0 : w1.heap.size < w6.heap.size := by have := hk6.size; (try simp at this); omega
  refine kuse (b := w2.heap.size) hk6 (by first | (simp; done) | (simp; omega) | omega) ?_
  intro ha6_1 hb6_1
  have hz6_1 : w2.heap.size < w6.heap.size := by have := hk6.size; (try simp at this); omega
  refine kuse (b := w3.heap.size) hk6 (by first | (simp; done) | (simp; omega) | omega) ?_
  intro ha6_2 hb6_2
  have hz6_2 : w3.heap.size < w6.heap.size := by have := hk6.size; (try simp at this); omega
  refine kuse (b := w4.heap.size) hk6 (by first | (simp; done) | (simp; omega) | omega) ?_
  intro ha6_3 hb6_3
  have hz6_3 : w4.heap.size < w6.heap.size := by have := hk6.size; (try simp at this); omega
  go_wp2_with fail
  refine (aw_meet _).mono ?_
  rintro e w7 ⟨rfl, hk7⟩
  refine kuse (b := w1.heap.size) hk7 (by first | (simp; done) | (simp; omega) | omega) ?_
  intro ha7_0 hb7_0
  have hz7_0 : w1.heap.size < w7.heap.size := by have := hk7.size; (try simp at this); omega
  refine kuse (b := w2.heap.size) hk7 (by first | (simp; done) | (simp; omega) | omega) ?_
  intro ha7_1 hb7_1
  have hz7_1 : w2.heap.size < w7.heap.size := by have := hk7.size; (try simp at this); omega
  refine kuse (b := w3.heap.size) hk7 (by first | (simp; done) | (simp; omega) | omega) ?_
  intro ha7_2 hb7_2
  have hz7_2 : w3.heap.size < w7.heap.size := by have := hk7.size; (try simp at this); omega
  refine kuse (b := w4.heap.size) hk7 (by first | (simp; done) | (simp; omega) | omega) ?_
  intro ha7_3 hb7_3
  have hz7_3 : w4.heap.size < w7.heap.size := by have := hk7.size; (try simp at this); omega
  go_wp2_with fail
  have t1 := hk1.size
  have t2 := hk2.size
  (try simp at t1)
  (try simp at t2)
  all_goals first | (go_ret; refine ⟨?_, (by repeat (first | with_reducible exact Kept.refl _ | with_reducible assumption | with_reducible refine Kept.setCell ?_ (by first | (simp; done) | (simp; omega) | omega) _ | with_reducible refine Kept.alloc ?_ _ | with_reducible refine Kept.drewN ?_ _ | with_reducible refine Kept.drew ?_ | with_reducible refine Kept.trans ?_ (by with_reducible assumption) | with_reducible refine Kept.dr ?_ (by with_reducible assumption)))⟩; first | rfl | (show Ending.returned (.bool (decide _)) = _; rw [decide_eq_true (by omega)]) | (show Ending.returned (.bool (decide _)) = _; rw [decide_eq_false (by omega)]) | (refine retb ?_; simp; done) | (refine retb ?_; simp; omega)) | (exfalso; omega)
end Go.Proofs.Ytfmijkbmedfcfaa
