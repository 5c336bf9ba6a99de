/-
  Own contracts: the chapter's examples of layer 45.
-/
import Derived.Test.YtgbgiafdhbplhaaInem
import Derived.WalkKit
import Derived.ProofKit
import Derived.OpenShut
import Derived.WalkLawsBesides
import Derived.WalkSpells
import Derived.Lib.Hide
import Derived.Deep.DeepCutAuto
import Derived.Deep.CutBlock
import Derived.Deep.QuietTactic
import Derived.BigQuiet
import Derived.Handy
import Derived.StillTailTactics
import Derived.IntWalk
import Derived.LoopN
import Derived.Deep.RegionHeld3
namespace Go.Proofs.Ytgbgiafdhbplhaa
open Go.ChangeShapes Go.WideShapes Go.ChangeAt Go.RowKit
set_option linter.unusedVariables false
set_option linter.unusedSimpArgs false
set_option maxHeartbeats 4000000 in
theorem awake_w (w : World) : Calls Try.prog 11 #[] w fun e w' => e = .returned (.bool true) ∧ Kept w w' := by
  have m1 : mC 0 10 15 10 = 7 := by decide +kernel
  have m2 : mW 0 10 15 10 = 3 := by decide +kernel
  have m3 : mC 0 10 0 30 = 0 := by decide +kernel
  have m4 : mW 0 10 0 30 = 10 := by decide +kernel
  go_enter Try.func11, Try.ntmps11
  go_wp2_with fail
  refine (coast_ok 0 0 10 20 300 (-400) 2 5 (by decide) (by decide) (by decide) (by decide) (by decide) (by decide) (by decide) (by decide) (by decide) (by decide) (by decide) (by decide) (by decide) (by decide) (by decide) (by decide) (by decide) (by decide) (by decide) (by decide) (by decide) (by decide) _).mono ?_
  rintro e w1 ⟨rfl, hk1⟩
  go_wp2_with fail
  refine (merge_ok 0 0 10 10 15 0 10 30 (by decide) (by decide) (by decide) (by decide) (by decide) (by decide) (by decide) (by decide) (by decide) (by decide) (by decide) (by decide) (by decide) (by decide) (by decide) (by decide) (by decide) (by decide) _).mono ?_
  rintro e w2 ⟨rfl, hk2⟩
  refine kuse (b := w1.heap.size) hk2 (by first | (simp; done) | (simp; omega) | omega) ?_
  intro ha2_0 hb2_0
  have hz2_0 : w1.heap.size < w2.heap.size := by have := hk2.size; (try simp at this); omega
  go_wp2_with fail
  refine (merge_cx0 0 0 10 10 21 0 10 30 (by decide) (by decide) (by decide) (by decide) (by decide) (by decide) (by decide) (by decide) (by decide) (by decide) (by decide) (by decide) (by decide) (by decide) (by decide) (by decide) (by decide) (by decide) _).mono ?_
  rintro e w3 ⟨rfl, hk3⟩
  refine kuse (b := w1.heap.size) hk3 (by first | (simp; done) | (simp; omega) | omega) ?_
  intro ha3_0 hb3_0
  have hz3_0 : w1.heap.size < w3.heap.size := by have := hk3.size; (try simp at this); omega
  refine kuse (b := w2.heap.size) hk3 (by first | (simp; done) | (simp; omega) | omega) ?_
  intro ha3_1 hb3_1
  have hz3_1 : w2.heap.size < w3.heap.size := by have := hk3.size; (try simp at this); omega
  go_wp2_with fail
  refine (reach_ok1 0 0 10 20 3 30 (by decide) (by decide) (by decide) (by decide) (by decide) (by decide) (by decide) (by decide) (by decide) (by decide) (by decide) (by decide) (by decide) (by decide) _).mono ?_
  rintro e w4 ⟨rfl, hk4⟩
  refine kuse (b := w1.heap.size) hk4 (by first | (simp; done) | (simp; omega) | omega) ?_
  intro ha4_0 hb4_0
  have hz4_0 : w1.heap.size < w4.heap.size := by have := hk4.size; (try simp at this); omega
  refine kuse (b := w2.heap.size) hk4 (by first | (simp; done) | (simp; omega) | omega) ?_
  intro ha4_1 hb4_1
  have hz4_1 : w2.heap.size < w4.heap.size := by have := hk4.size; (try simp at this); omega
  go_wp2_with fail
  refine (vel30 _).mono ?_
  rintro e w5 ⟨rfl, hk5⟩
  refine kuse (b := w1.heap.size) hk5 (by first | (simp; done) | (simp; omega) | omega) ?_
  intro ha5_0 hb5_0
  have hz5_0 : w1.heap.size < w5.heap.size := by have := hk5.size; (try simp at this); omega
  refine kuse (b := w2.heap.size) hk5 (by first | (simp; done) | (simp; omega) | omega) ?_
  intro ha5_1 hb5_1
  have hz5_1 : w2.heap.size < w5.heap.size := by have := hk5.size; (try simp at this); omega
  go_wp2_with fail
  all_goals first | (go_ret; refine ⟨?_, (by repeat (first | with_reducible exact Kept.refl _ | with_reducible assumption | with_reducible refine Kept.setCell ?_ (by first | (simp; done) | (simp; omega) | omega) _ | with_reducible refine Kept.alloc ?_ _ | with_reducible refine Kept.drewN ?_ _ | with_reducible refine Kept.drew ?_ | with_reducible refine Kept.trans ?_ (by with_reducible assumption) | with_reducible refine Kept.dr ?_ (by with_reducible assumption)))⟩; first | rfl | (show Ending.returned (.bool (decide _)) = _; rw [decide_eq_true (by omega)]) | (show Ending.returned (.bool (decide _)) = _; rw [decide_eq_false (by omega)]) | (refine retb ?_; simp; done) | (refine retb ?_; simp; omega)) | (exfalso; omega)
end Go.Proofs.Ytgbgiafdhbplhaa
