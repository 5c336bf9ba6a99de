/-
  Own contracts: the laws of layer 32 on burns.
-/
import Derived.Test.YtcchhmekmoekeaaFuelw
import Derived.WalkKit
import Derived.ProofKit
import Derived.OpenShut
import Derived.WalkLawsBesides
import Derived.WalkSpells
import Derived.Lib.Hide
import Derived.Deep.DeepCutAuto
import Derived.Deep.CutBlock
import Derived.Deep.QuietTactic
import Derived.BigQuiet
import Derived.Handy
import Derived.StillTailTactics
import Derived.IntWalk
import Derived.LoopN
import Derived.Deep.RegionHeld3
namespace Go.Proofs.Ytcchhmekmoekeaa
open Go.ChangeShapes Go.WideShapes Go.ChangeAt Go.RowKit
set_option linter.unusedVariables false
set_option linter.unusedSimpArgs false
set_option maxHeartbeats 4000000 in
theorem law_burns (e l r b f t : Int) (e_0 : -9223372036854775808 ≤ e) (e_1 : e ≤ 9223372036854775807) (l_0 : -9223372036854775808 ≤ l) (l_1 : l ≤ 9223372036854775807) (r_0 : -9223372036854775808 ≤ r) (r_1 : r ≤ 9223372036854775807) (b_0 : -9223372036854775808 ≤ b) (b_1 : b ≤ 9223372036854775807) (f_0 : -9223372036854775808 ≤ f) (f_1 : f ≤ 9223372036854775807) (t_0 : -9223372036854775808 ≤ t) (t_1 : t ≤ 9223372036854775807) (w : World) : Calls Try.prog 4 #[.agg #[.int .i64 e, .int .i64 l, .int .i64 r, .int .i64 b], .int .i64 f, .int .i64 t] w fun en w' => en = .returned (.bool true) ∧ Kept w w' := by
  by_cases hA : AV e l r b
  · obtain ⟨h1, h2, h3, h4, h5, h6, h7, h8⟩ := hA
    by_cases c1 : f < 0 ∨ 50000 < f ∨ t < 0 ∨ 1099511627776 < t
    · by_cases k1 : f < 1 ∨ 50000 < f
      · go_enter Try.func4, Try.ntmps4
        go_wp2_with fail
        refine (awake_w _).mono ?_
        rintro e w1 ⟨rfl, hk1⟩
        refine kuse (b := w.heap.size) hk1 (by first | (simp; done) | (simp; omega) | omega) ?_
        intro ha1_0 hb1_0
        have hz1_0 : w.heap.size < w1.heap.size := by have := hk1.size; (try simp at this); omega
        go_wp2_with fail
        refine (burn_out _ _ _ _ _ _ (by omega) (by omega) (by omega) (by omega) (by omega) (by omega) (by omega) (by omega) (by omega) (by omega) (by omega) (by omega) (by omega) _).mono ?_
        rintro e w2 ⟨rfl, hk2⟩
        refine kuse (b := w.heap.size) hk2 (by first | (simp; done) | (simp; omega) | omega) ?_
        intro ha2_0 hb2_0
        have hz2_0 : w.heap.size < w2.heap.size := by have := hk2.size; (try simp at this); omega
        go_wp2_with fail
        refine (ref_burn_out _ _ _ _ _ _ (by omega) (by omega) (by omega) (by omega) (by omega) (by omega) (by omega) (by omega) (by omega) (by omega) (by omega) (by omega) (by omega) _).mono ?_
        rintro e w3 ⟨rfl, hk3⟩
        refine kuse (b := w.heap.size) hk3 (by first | (simp; done) | (simp; omega) | omega) ?_
        intro ha3_0 hb3_0
        have hz3_0 : w.heap.size < w3.heap.size := by have := hk3.size; (try simp at this); omega
        refine kuse (b := w2.heap.size) hk3 (by first | (simp; done) | (simp; omega) | omega) ?_
        intro ha3_1 hb3_1
        have hz3_1 : w2.heap.size < w3.heap.size := by have := hk3.size; (try simp at this); omega
        go_wp2_with fail
        refine (end_out _ _ _ _ _ (by omega) (by omega) (by omega) (by omega) (by omega) (by omega) (by omega) (by omega) (by omega) (by omega) (by omega) _).mono ?_
        rintro e w4 ⟨rfl, hk4⟩
        refine kuse (b := w.heap.size) hk4 (by first | (simp; done) | (simp; omega) | omega) ?_
        intro ha4_0 hb4_0
        have hz4_0 : w.heap.size < w4.heap.size := by have := hk4.size; (try simp at this); omega
        refine kuse (b := w2.heap.size) hk4 (by first | (simp; done) | (simp; omega) | omega) ?_
        intro ha4_1 hb4_1
        have hz4_1 : w2.heap.size < w4.heap.size := by have := hk4.size; (try simp at this); omega
        refine kuse (b := w3.heap.size) hk4 (by first | (simp; done) | (simp; omega) | omega) ?_
        intro ha4_2 hb4_2
        have hz4_2 : w3.heap.size < w4.heap.size := by have := hk4.size; (try simp at this); omega
        go_wp2_with fail
        refine (ref_end_out _ _ _ _ _ (by omega) (by omega) (by omega) (by omega) (by omega) (by omega) (by omega) (by omega) (by omega) (by omega) (by omega) _).mono ?_
        rintro e w5 ⟨rfl, hk5⟩
        refine kuse (b := w.heap.size) hk5 (by first | (simp; done) | (simp; omega) | omega) ?_
        intro ha5_0 hb5_0
        have hz5_0 : w.heap.size < w5.heap.size := by have := hk5.size; (try simp at this); omega
        refine kuse (b := w2.heap.size) hk5 (by first | (simp; done) | (simp; omega) | omega) ?_
        intro ha5_1 hb5_1
        have hz5_1 : w2.heap.size < w5.heap.size := by have := hk5.size; (try simp at this); omega
        refine kuse (b := w3.heap.size) hk5 (by first | (simp; done) | (simp; omega) | omega) ?_
        intro ha5_2 hb5_2
        have hz5_2 : w3.heap.size < w5.heap.size := by have := hk5.size; (try simp at this); omega
        go_wp2_with fail
        all_goals first | (go_ret; refine ⟨?_, (by repeat (first | with_reducible exact Kept.refl _ | with_reducible assumption | with_reducible refine Kept.setCell ?_ (by first | (simp; done) | (simp; omega) | omega) _ | with_reducible refine Kept.alloc ?_ _ | with_reducible refine Kept.drewN ?_ _ | with_reducible refine Kept.drew ?_ | with_reducible refine Kept.trans ?_ (by with_reducible assumption) | with_reducible refine Kept.dr ?_ (by with_reducible assumption)))⟩; first | rfl | (show Ending.returned (.bool (decide _)) = _; rw [decide_eq_true (by omega)]) | (show Ending.returned (.bool (decide _)) = _; rw [decide_eq_false (by omega)]) | (refine retb ?_; simp; done) | (refine retb ?_; simp; omega)) | (exfalso; omega)
      · by_cases k2 : l - b < r
        · go_enter Try.func4, Try.ntmps4
          go_wp2_with fail
          refine (awake_w _).mono ?_
          rintro e w1 ⟨rfl, hk1⟩
          refine kuse (b := w.heap.size) hk1 (by first | (simp; done) | (simp; omega) | omega) ?_
          intro ha1_0 hb1_0
          have hz1_0 : w.heap.size < w1.heap.size := by have := hk1.size; (try simp at this); omega
          go_wp2_with fail
          refine (burn_out _ _ _ _ _ _ (by omega) (by omega) (by omega) (by omega) (by omega) (by omega) (by omega) (by omega) (by omega) (by omega) (by omega) (by omega) (by omega) _).mono ?_
          rintro e w2 ⟨rfl, hk2⟩
          refine kuse (b := w.heap.size) hk2 (by first | (simp; done) | (simp; omega) | omega) ?_
          intro ha2_0 hb2_0
          have hz2_0 : w.heap.size < w2.heap.size := by have := hk2.size; (try simp at this); omega
          go_wp2_with fail
          refine (ref_burn_out _ _ _ _ _ _ (by omega) (by omega) (by omega) (by omega) (by omega) (by omega) (by omega) (by omega) (by omega) (by omega) (by omega) (by omega) (by omega) _).mono ?_
          rintro e w3 ⟨rfl, hk3⟩
          refine kuse (b := w.heap.size) hk3 (by first | (simp; done) | (simp; omega) | omega) ?_
          intro ha3_0 hb3_0
          have hz3_0 : w.heap.size < w3.heap.size := by have := hk3.size; (try simp at this); omega
          refine kuse (b := w2.heap.size) hk3 (by first | (simp; done) | (simp; omega) | omega) ?_
          intro ha3_1 hb3_1
          have hz3_1 : w2.heap.size < w3.heap.size := by have := hk3.size; (try simp at this); omega
          go_wp2_with fail
          refine (end_low _ _ _ _ _ (by omega) (by omega) (by omega) (by omega) (by omega) (by omega) (by omega) (by omega) (by omega) (by omega) (by omega) _).mono ?_
          rintro e w4 ⟨rfl, hk4⟩
          refine kuse (b := w.heap.size) hk4 (by first | (simp; done) | (simp; omega) | omega) ?_
          intro ha4_0 hb4_0
          have hz4_0 : w.heap.size < w4.heap.size := by have := hk4.size; (try simp at this); omega
          refine kuse (b := w2.heap.size) hk4 (by first | (simp; done) | (simp; omega) | omega) ?_
          intro ha4_1 hb4_1
          have hz4_1 : w2.heap.size < w4.heap.size := by have := hk4.size; (try simp at this); omega
          refine kuse (b := w3.heap.size) hk4 (by first | (simp; done) | (simp; omega) | omega) ?_
          intro ha4_2 hb4_2
          have hz4_2 : w3.heap.size < w4.heap.size := by have := hk4.size; (try simp at this); omega
          go_wp2_with fail
          refine (ref_end_low _ _ _ _ _ (by omega) (by omega) (by omega) (by omega) (by omega) (by omega) (by omega) (by omega) (by omega) (by omega) (by omega) _).mono ?_
          rintro e w5 ⟨rfl, hk5⟩
          refine kuse (b := w.heap.size) hk5 (by first | (simp; done) | (simp; omega) | omega) ?_
          intro ha5_0 hb5_0
          have hz5_0 : w.heap.size < w5.heap.size := by have := hk5.size; (try simp at this); omega
          refine kuse (b := w2.heap.size) hk5 (by first | (simp; done) | (simp; omega) | omega) ?_
          intro ha5_1 hb5_1
          have hz5_1 : w2.heap.size < w5.heap.size := by have := hk5.size; (try simp at this); omega
          refine kuse (b := w3.heap.size) hk5 (by first | (simp; done) | (simp; omega) | omega) ?_
          intro ha5_2 hb5_2
          have hz5_2 : w3.heap.size < w5.heap.size := by have := hk5.size; (try simp at this); omega
          go_wp2_with fail
          all_goals first | (go_ret; refine ⟨?_, (by repeat (first | with_reducible exact Kept.refl _ | with_reducible assumption | with_reducible refine Kept.setCell ?_ (by first | (simp; done) | (simp; omega) | omega) _ | with_reducible refine Kept.alloc ?_ _ | with_reducible refine Kept.drewN ?_ _ | with_reducible refine Kept.drew ?_ | with_reducible refine Kept.trans ?_ (by with_reducible assumption) | with_reducible refine Kept.dr ?_ (by with_reducible assumption)))⟩; first | rfl | (show Ending.returned (.bool (decide _)) = _; rw [decide_eq_true (by omega)]) | (show Ending.returned (.bool (decide _)) = _; rw [decide_eq_false (by omega)]) | (refine retb ?_; simp; done) | (refine retb ?_; simp; omega)) | (exfalso; omega)
        · go_enter Try.func4, Try.ntmps4
          go_wp2_with fail
          refine (awake_w _).mono ?_
          rintro e w1 ⟨rfl, hk1⟩
          refine kuse (b := w.heap.size) hk1 (by first | (simp; done) | (simp; omega) | omega) ?_
          intro ha1_0 hb1_0
          have hz1_0 : w.heap.size < w1.heap.size := by have := hk1.size; (try simp at this); omega
          go_wp2_with fail
          refine (burn_out _ _ _ _ _ _ (by omega) (by omega) (by omega) (by omega) (by omega) (by omega) (by omega) (by omega) (by omega) (by omega) (by omega) (by omega) (by omega) _).mono ?_
          rintro e w2 ⟨rfl, hk2⟩
          refine kuse (b := w.heap.size) hk2 (by first | (simp; done) | (simp; omega) | omega) ?_
          intro ha2_0 hb2_0
          have hz2_0 : w.heap.size < w2.heap.size := by have := hk2.size; (try simp at this); omega
          go_wp2_with fail
          refine (ref_burn_out _ _ _ _ _ _ (by omega) (by omega) (by omega) (by omega) (by omega) (by omega) (by omega) (by omega) (by omega) (by omega) (by omega) (by omega) (by omega) _).mono ?_
          rintro e w3 ⟨rfl, hk3⟩
          refine kuse (b := w.heap.size) hk3 (by first | (simp; done) | (simp; omega) | omega) ?_
          intro ha3_0 hb3_0
          have hz3_0 : w.heap.size < w3.heap.size := by have := hk3.size; (try simp at this); omega
          refine kuse (b := w2.heap.size) hk3 (by first | (simp; done) | (simp; omega) | omega) ?_
          intro ha3_1 hb3_1
          have hz3_1 : w2.heap.size < w3.heap.size := by have := hk3.size; (try simp at this); omega
          go_wp2_with fail
          refine (end_ok _ _ _ _ _ (by omega) (by omega) (by omega) (by omega) (by omega) (by omega) (by omega) (by omega) (by omega) (by omega) (by omega) _).mono ?_
          rintro e w4 ⟨rfl, hk4⟩
          refine kuse (b := w.heap.size) hk4 (by first | (simp; done) | (simp; omega) | omega) ?_
          intro ha4_0 hb4_0
          have hz4_0 : w.heap.size < w4.heap.size := by have := hk4.size; (try simp at this); omega
          refine kuse (b := w2.heap.size) hk4 (by first | (simp; done) | (simp; omega) | omega) ?_
          intro ha4_1 hb4_1
          have hz4_1 : w2.heap.size < w4.heap.size := by have := hk4.size; (try simp at this); omega
          refine kuse (b := w3.heap.size) hk4 (by first | (simp; done) | (simp; omega) | omega) ?_
          intro ha4_2 hb4_2
          have hz4_2 : w3.heap.size < w4.heap.size := by have := hk4.size; (try simp at this); omega
          go_wp2_with fail
          refine (ref_end_ok _ _ _ _ _ (by omega) (by omega) (by omega) (by omega) (by omega) (by omega) (by omega) (by omega) (by omega) (by omega) (by omega) _).mono ?_
          rintro e w5 ⟨rfl, hk5⟩
          refine kuse (b := w.heap.size) hk5 (by first | (simp; done) | (simp; omega) | omega) ?_
          intro ha5_0 hb5_0
          have hz5_0 : w.heap.size < w5.heap.size := by have := hk5.size; (try simp at this); omega
          refine kuse (b := w2.heap.size) hk5 (by first | (simp; done) | (simp; omega) | omega) ?_
          intro ha5_1 hb5_1
          have hz5_1 : w2.heap.size < w5.heap.size := by have := hk5.size; (try simp at this); omega
          refine kuse (b := w3.heap.size) hk5 (by first | (simp; done) | (simp; omega) | omega) ?_
          intro ha5_2 hb5_2
          have hz5_2 : w3.heap.size < w5.heap.size := by have := hk5.size; (try simp at this); omega
          go_wp2_with fail
          all_goals first | (go_ret; refine ⟨?_, (by repeat (first | with_reducible exact Kept.refl _ | with_reducible assumption | with_reducible refine Kept.setCell ?_ (by first | (simp; done) | (simp; omega) | omega) _ | with_reducible refine Kept.alloc ?_ _ | with_reducible refine Kept.drewN ?_ _ | with_reducible refine Kept.drew ?_ | with_reducible refine Kept.trans ?_ (by with_reducible assumption) | with_reducible refine Kept.dr ?_ (by with_reducible assumption)))⟩; first | rfl | (show Ending.returned (.bool (decide _)) = _; rw [decide_eq_true (by omega)]) | (show Ending.returned (.bool (decide _)) = _; rw [decide_eq_false (by omega)]) | (refine retb ?_; simp; done) | (refine retb ?_; simp; omega)) | (exfalso; omega)
    · have pp := FT.prod (f := f) (t := t) ⟨by omega, by omega, by omega, by omega⟩
      by_cases c2 : l - b < f * t
      · by_cases k1 : f < 1 ∨ 50000 < f
        · go_enter Try.func4, Try.ntmps4
          go_wp2_with fail
          refine (awake_w _).mono ?_
          rintro e w1 ⟨rfl, hk1⟩
          refine kuse (b := w.heap.size) hk1 (by first | (simp; done) | (simp; omega) | omega) ?_
          intro ha1_0 hb1_0
          have hz1_0 : w.heap.size < w1.heap.size := by have := hk1.size; (try simp at this); omega
          go_wp2_with fail
          refine (burn_over _ _ _ _ _ _ (by omega) (by omega) (by omega) (by omega) (by omega) (by omega) (by omega) (by omega) (by omega) (by omega) (by omega) (by omega) (by omega) _).mono ?_
          rintro e w2 ⟨rfl, hk2⟩
          refine kuse (b := w.heap.size) hk2 (by first | (simp; done) | (simp; omega) | omega) ?_
          intro ha2_0 hb2_0
          have hz2_0 : w.heap.size < w2.heap.size := by have := hk2.size; (try simp at this); omega
          go_wp2_with fail
          refine (ref_burn_over _ _ _ _ _ _ (by omega) (by omega) (by omega) (by omega) (by omega) (by omega) (by omega) (by omega) (by omega) (by omega) (by omega) (by omega) (by omega) _).mono ?_
          rintro e w3 ⟨rfl, hk3⟩
          refine kuse (b := w.heap.size) hk3 (by first | (simp; done) | (simp; omega) | omega) ?_
          intro ha3_0 hb3_0
          have hz3_0 : w.heap.size < w3.heap.size := by have := hk3.size; (try simp at this); omega
          refine kuse (b := w2.heap.size) hk3 (by first | (simp; done) | (simp; omega) | omega) ?_
          intro ha3_1 hb3_1
          have hz3_1 : w2.heap.size < w3.heap.size := by have := hk3.size; (try simp at this); omega
          go_wp2_with fail
          refine (end_out _ _ _ _ _ (by omega) (by omega) (by omega) (by omega) (by omega) (by omega) (by omega) (by omega) (by omega) (by omega) (by omega) _).mono ?_
          rintro e w4 ⟨rfl, hk4⟩
          refine kuse (b := w.heap.size) hk4 (by first | (simp; done) | (simp; omega) | omega) ?_
          intro ha4_0 hb4_0
          have hz4_0 : w.heap.size < w4.heap.size := by have := hk4.size; (try simp at this); omega
          refine kuse (b := w2.heap.size) hk4 (by first | (simp; done) | (simp; omega) | omega) ?_
          intro ha4_1 hb4_1
          have hz4_1 : w2.heap.size < w4.heap.size := by have := hk4.size; (try simp at this); omega
          refine kuse (b := w3.heap.size) hk4 (by first | (simp; done) | (simp; omega) | omega) ?_
          intro ha4_2 hb4_2
          have hz4_2 : w3.heap.size < w4.heap.size := by have := hk4.size; (try simp at this); omega
          go_wp2_with fail
          refine (ref_end_out _ _ _ _ _ (by omega) (by omega) (by omega) (by omega) (by omega) (by omega) (by omega) (by omega) (by omega) (by omega) (by omega) _).mono ?_
          rintro e w5 ⟨rfl, hk5⟩
          refine kuse (b := w.heap.size) hk5 (by first | (simp; done) | (simp; omega) | omega) ?_
          intro ha5_0 hb5_0
          have hz5_0 : w.heap.size < w5.heap.size := by have := hk5.size; (try simp at this); omega
          refine kuse (b := w2.heap.size) hk5 (by first | (simp; done) | (simp; omega) | omega) ?_
          intro ha5_1 hb5_1
          have hz5_1 : w2.heap.size < w5.heap.size := by have := hk5.size; (try simp at this); omega
          refine kuse (b := w3.heap.size) hk5 (by first | (simp; done) | (simp; omega) | omega) ?_
          intro ha5_2 hb5_2
          have hz5_2 : w3.heap.size < w5.heap.size := by have := hk5.size; (try simp at this); omega
          go_wp2_with fail
          all_goals first | (go_ret; refine ⟨?_, (by repeat (first | with_reducible exact Kept.refl _ | with_reducible assumption | with_reducible refine Kept.setCell ?_ (by first | (simp; done) | (simp; omega) | omega) _ | with_reducible refine Kept.alloc ?_ _ | with_reducible refine Kept.drewN ?_ _ | with_reducible refine Kept.drew ?_ | with_reducible refine Kept.trans ?_ (by with_reducible assumption) | with_reducible refine Kept.dr ?_ (by with_reducible assumption)))⟩; first | rfl | (show Ending.returned (.bool (decide _)) = _; rw [decide_eq_true (by omega)]) | (show Ending.returned (.bool (decide _)) = _; rw [decide_eq_false (by omega)]) | (refine retb ?_; simp; done) | (refine retb ?_; simp; omega)) | (exfalso; omega)
        · by_cases k2 : l - b < r
          · go_enter Try.func4, Try.ntmps4
            go_wp2_with fail
            refine (awake_w _).mono ?_
            rintro e w1 ⟨rfl, hk1⟩
            refine kuse (b := w.heap.size) hk1 (by first | (simp; done) | (simp; omega) | omega) ?_
            intro ha1_0 hb1_0
            have hz1_0 : w.heap.size < w1.heap.size := by have := hk1.size; (try simp at this); omega
            go_wp2_with fail
            refine (burn_over _ _ _ _ _ _ (by omega) (by omega) (by omega) (by omega) (by omega) (by omega) (by omega) (by omega) (by omega) (by omega) (by omega) (by omega) (by omega) _).mono ?_
            rintro e w2 ⟨rfl, hk2⟩
            refine kuse (b := w.heap.size) hk2 (by first | (simp; done) | (simp; omega) | omega) ?_
            intro ha2_0 hb2_0
            have hz2_0 : w.heap.size < w2.heap.size := by have := hk2.size; (try simp at this); omega
            go_wp2_with fail
            refine (ref_burn_over _ _ _ _ _ _ (by omega) (by omega) (by omega) (by omega) (by omega) (by omega) (by omega) (by omega) (by omega) (by omega) (by omega) (by omega) (by omega) _).mono ?_
            rintro e w3 ⟨rfl, hk3⟩
            refine kuse (b := w.heap.size) hk3 (by first | (simp; done) | (simp; omega) | omega) ?_
            intro ha3_0 hb3_0
            have hz3_0 : w.heap.size < w3.heap.size := by have := hk3.size; (try simp at this); omega
            refine kuse (b := w2.heap.size) hk3 (by first | (simp; done) | (simp; omega) | omega) ?_
            intro ha3_1 hb3_1
            have hz3_1 : w2.heap.size < w3.heap.size := by have := hk3.size; (try simp at this); omega
            go_wp2_with fail
            refine (end_low _ _ _ _ _ (by omega) (by omega) (by omega) (by omega) (by omega) (by omega) (by omega) (by omega) (by omega) (by omega) (by omega) _).mono ?_
            rintro e w4 ⟨rfl, hk4⟩
            refine kuse (b := w.heap.size) hk4 (by first | (simp; done) | (simp; omega) | omega) ?_
            intro ha4_0 hb4_0
            have hz4_0 : w.heap.size < w4.heap.size := by have := hk4.size; (try simp at this); omega
            refine kuse (b := w2.heap.size) hk4 (by first | (simp; done) | (simp; omega) | omega) ?_
            intro ha4_1 hb4_1
            have hz4_1 : w2.heap.size < w4.heap.size := by have := hk4.size; (try simp at this); omega
            refine kuse (b := w3.heap.size) hk4 (by first | (simp; done) | (simp; omega) | omega) ?_
            intro ha4_2 hb4_2
            have hz4_2 : w3.heap.size < w4.heap.size := by have := hk4.size; (try simp at this); omega
            go_wp2_with fail
            refine (ref_end_low _ _ _ _ _ (by omega) (by omega) (by omega) (by omega) (by omega) (by omega) (by omega) (by omega) (by omega) (by omega) (by omega) _).mono ?_
            rintro e w5 ⟨rfl, hk5⟩
            refine kuse (b := w.heap.size) hk5 (by first | (simp; done) | (simp; omega) | omega) ?_
            intro ha5_0 hb5_0
            have hz5_0 : w.heap.size < w5.heap.size := by have := hk5.size; (try simp at this); omega
            refine kuse (b := w2.heap.size) hk5 (by first | (simp; done) | (simp; omega) | omega) ?_
            intro ha5_1 hb5_1
            have hz5_1 : w2.heap.size < w5.heap.size := by have := hk5.size; (try simp at this); omega
            refine kuse (b := w3.heap.size) hk5 (by first | (simp; done) | (simp; omega) | omega) ?_
            intro ha5_2 hb5_2
            have hz5_2 : w3.heap.size < w5.heap.size := by have := hk5.size; (try simp at this); omega
            go_wp2_with fail
            all_goals first | (go_ret; refine ⟨?_, (by repeat (first | with_reducible exact Kept.refl _ | with_reducible assumption | with_reducible refine Kept.setCell ?_ (by first | (simp; done) | (simp; omega) | omega) _ | with_reducible refine Kept.alloc ?_ _ | with_reducible refine Kept.drewN ?_ _ | with_reducible refine Kept.drew ?_ | with_reducible refine Kept.trans ?_ (by with_reducible assumption) | with_reducible refine Kept.dr ?_ (by with_reducible assumption)))⟩; first | rfl | (show Ending.returned (.bool (decide _)) = _; rw [decide_eq_true (by omega)]) | (show Ending.returned (.bool (decide _)) = _; rw [decide_eq_false (by omega)]) | (refine retb ?_; simp; done) | (refine retb ?_; simp; omega)) | (exfalso; omega)
          · go_enter Try.func4, Try.ntmps4
            go_wp2_with fail
            refine (awake_w _).mono ?_
            rintro e w1 ⟨rfl, hk1⟩
            refine kuse (b := w.heap.size) hk1 (by first | (simp; done) | (simp; omega) | omega) ?_
            intro ha1_0 hb1_0
            have hz1_0 : w.heap.size < w1.heap.size := by have := hk1.size; (try simp at this); omega
            go_wp2_with fail
            refine (burn_over _ _ _ _ _ _ (by omega) (by omega) (by omega) (by omega) (by omega) (by omega) (by omega) (by omega) (by omega) (by omega) (by omega) (by omega) (by omega) _).mono ?_
            rintro e w2 ⟨rfl, hk2⟩
            refine kuse (b := w.heap.size) hk2 (by first | (simp; done) | (simp; omega) | omega) ?_
            intro ha2_0 hb2_0
            have hz2_0 : w.heap.size < w2.heap.size := by have := hk2.size; (try simp at this); omega
            go_wp2_with fail
            refine (ref_burn_over _ _ _ _ _ _ (by omega) (by omega) (by omega) (by omega) (by omega) (by omega) (by omega) (by omega) (by omega) (by omega) (by omega) (by omega) (by omega) _).mono ?_
            rintro e w3 ⟨rfl, hk3⟩
            refine kuse (b := w.heap.size) hk3 (by first | (simp; done) | (simp; omega) | omega) ?_
            intro ha3_0 hb3_0
            have hz3_0 : w.heap.size < w3.heap.size := by have := hk3.size; (try simp at this); omega
            refine kuse (b := w2.heap.size) hk3 (by first | (simp; done) | (simp; omega) | omega) ?_
            intro ha3_1 hb3_1
            have hz3_1 : w2.heap.size < w3.heap.size := by have := hk3.size; (try simp at this); omega
            go_wp2_with fail
            refine (end_ok _ _ _ _ _ (by omega) (by omega) (by omega) (by omega) (by omega) (by omega) (by omega) (by omega) (by omega) (by omega) (by omega) _).mono ?_
            rintro e w4 ⟨rfl, hk4⟩
            refine kuse (b := w.heap.size) hk4 (by first | (simp; done) | (simp; omega) | omega) ?_
            intro ha4_0 hb4_0
            have hz4_0 : w.heap.size < w4.heap.size := by have := hk4.size; (try simp at this); omega
            refine kuse (b := w2.heap.size) hk4 (by first | (simp; done) | (simp; omega) | omega) ?_
            intro ha4_1 hb4_1
            have hz4_1 : w2.heap.size < w4.heap.size := by have := hk4.size; (try simp at this); omega
            refine kuse (b := w3.heap.size) hk4 (by first | (simp; done) | (simp; omega) | omega) ?_
            intro ha4_2 hb4_2
            have hz4_2 : w3.heap.size < w4.heap.size := by have := hk4.size; (try simp at this); omega
            go_wp2_with fail
            refine (ref_end_ok _ _ _ _ _ (by omega) (by omega) (by omega) (by omega) (by omega) (by omega) (by omega) (by omega) (by omega) (by omega) (by omega) _).mono ?_
            rintro e w5 ⟨rfl, hk5⟩
            refine kuse (b := w.heap.size) hk5 (by first | (simp; done) | (simp; omega) | omega) ?_
            intro ha5_0 hb5_0
            have hz5_0 : w.heap.size < w5.heap.size := by have := hk5.size; (try simp at this); omega
            refine kuse (b := w2.heap.size) hk5 (by first | (simp; done) | (simp; omega) | omega) ?_
            intro ha5_1 hb5_1
            have hz5_1 : w2.heap.size < w5.heap.size := by have := hk5.size; (try simp at this); omega
            refine kuse (b := w3.heap.size) hk5 (by first | (simp; done) | (simp; omega) | omega) ?_
            intro ha5_2 hb5_2
            have hz5_2 : w3.heap.size < w5.heap.size := by have := hk5.size; (try simp at this); omega
            go_wp2_with fail
            all_goals first | (go_ret; refine ⟨?_, (by repeat (first | with_reducible exact Kept.refl _ | with_reducible assumption | with_reducible refine Kept.setCell ?_ (by first | (simp; done) | (simp; omega) | omega) _ | with_reducible refine Kept.alloc ?_ _ | with_reducible refine Kept.drewN ?_ _ | with_reducible refine Kept.drew ?_ | with_reducible refine Kept.trans ?_ (by with_reducible assumption) | with_reducible refine Kept.dr ?_ (by with_reducible assumption)))⟩; first | rfl | (show Ending.returned (.bool (decide _)) = _; rw [decide_eq_true (by omega)]) | (show Ending.returned (.bool (decide _)) = _; rw [decide_eq_false (by omega)]) | (refine retb ?_; simp; done) | (refine retb ?_; simp; omega)) | (exfalso; omega)
      · by_cases k1 : f < 1 ∨ 50000 < f
        · go_enter Try.func4, Try.ntmps4
          go_wp2_with fail
          refine (awake_w _).mono ?_
          rintro e w1 ⟨rfl, hk1⟩
          refine kuse (b := w.heap.size) hk1 (by first | (simp; done) | (simp; omega) | omega) ?_
          intro ha1_0 hb1_0
          have hz1_0 : w.heap.size < w1.heap.size := by have := hk1.size; (try simp at this); omega
          go_wp2_with fail
          refine (burn_ok _ _ _ _ _ _ (by omega) (by omega) (by omega) (by omega) (by omega) (by omega) (by omega) (by omega) (by omega) (by omega) (by omega) (by omega) (by omega) _).mono ?_
          rintro e w2 ⟨rfl, hk2⟩
          refine kuse (b := w.heap.size) hk2 (by first | (simp; done) | (simp; omega) | omega) ?_
          intro ha2_0 hb2_0
          have hz2_0 : w.heap.size < w2.heap.size := by have := hk2.size; (try simp at this); omega
          go_wp2_with fail
          refine (ref_burn_ok _ _ _ _ _ _ (by omega) (by omega) (by omega) (by omega) (by omega) (by omega) (by omega) (by omega) (by omega) (by omega) (by omega) (by omega) (by omega) _).mono ?_
          rintro e w3 ⟨rfl, hk3⟩
          refine kuse (b := w.heap.size) hk3 (by first | (simp; done) | (simp; omega) | omega) ?_
          intro ha3_0 hb3_0
          have hz3_0 : w.heap.size < w3.heap.size := by have := hk3.size; (try simp at this); omega
          refine kuse (b := w2.heap.size) hk3 (by first | (simp; done) | (simp; omega) | omega) ?_
          intro ha3_1 hb3_1
          have hz3_1 : w2.heap.size < w3.heap.size := by have := hk3.size; (try simp at this); omega
          go_wp2_with fail
          refine (end_out _ _ _ _ _ (by omega) (by omega) (by omega) (by omega) (by omega) (by omega) (by omega) (by omega) (by omega) (by omega) (by omega) _).mono ?_
          rintro e w4 ⟨rfl, hk4⟩
          refine kuse (b := w.heap.size) hk4 (by first | (simp; done) | (simp; omega) | omega) ?_
          intro ha4_0 hb4_0
          have hz4_0 : w.heap.size < w4.heap.size := by have := hk4.size; (try simp at this); omega
          refine kuse (b := w2.heap.size) hk4 (by first | (simp; done) | (simp; omega) | omega) ?_
          intro ha4_1 hb4_1
          have hz4_1 : w2.heap.size < w4.heap.size := by have := hk4.size; (try simp at this); omega
          refine kuse (b := w3.heap.size) hk4 (by first | (simp; done) | (simp; omega) | omega) ?_
          intro ha4_2 hb4_2
          have hz4_2 : w3.heap.size < w4.heap.size := by have := hk4.size; (try simp at this); omega
          go_wp2_with fail
          refine (ref_end_out _ _ _ _ _ (by omega) (by omega) (by omega) (by omega) (by omega) (by omega) (by omega) (by omega) (by omega) (by omega) (by omega) _).mono ?_
          rintro e w5 ⟨rfl, hk5⟩
          refine kuse (b := w.heap.size) hk5 (by first | (simp; done) | (simp; omega) | omega) ?_
          intro ha5_0 hb5_0
          have hz5_0 : w.heap.size < w5.heap.size := by have := hk5.size; (try simp at this); omega
          refine kuse (b := w2.heap.size) hk5 (by first | (simp; done) | (simp; omega) | omega) ?_
          intro ha5_1 hb5_1
          have hz5_1 : w2.heap.size < w5.heap.size := by have := hk5.size; (try simp at this); omega
          refine kuse (b := w3.heap.size) hk5 (by first | (simp; done) | (simp; omega) | omega) ?_
          intro ha5_2 hb5_2
          have hz5_2 : w3.heap.size < w5.heap.size := by have := hk5.size; (try simp at this); omega
          go_wp2_with fail
          all_goals first | (go_ret; refine ⟨?_, (by repeat (first | with_reducible exact Kept.refl _ | with_reducible assumption | with_reducible refine Kept.setCell ?_ (by first | (simp; done) | (simp; omega) | omega) _ | with_reducible refine Kept.alloc ?_ _ | with_reducible refine Kept.drewN ?_ _ | with_reducible refine Kept.drew ?_ | with_reducible refine Kept.trans ?_ (by with_reducible assumption) | with_reducible refine Kept.dr ?_ (by with_reducible assumption)))⟩; first | rfl | (show Ending.returned (.bool (decide _)) = _; rw [decide_eq_true (by omega)]) | (show Ending.returned (.bool (decide _)) = _; rw [decide_eq_false (by omega)]) | (refine retb ?_; simp; done) | (refine retb ?_; simp; omega)) | (exfalso; omega)
        · by_cases k2 : l - b < r
          · go_enter Try.func4, Try.ntmps4
            go_wp2_with fail
            refine (awake_w _).mono ?_
            rintro e w1 ⟨rfl, hk1⟩
            refine kuse (b := w.heap.size) hk1 (by first | (simp; done) | (simp; omega) | omega) ?_
            intro ha1_0 hb1_0
            have hz1_0 : w.heap.size < w1.heap.size := by have := hk1.size; (try simp at this); omega
            go_wp2_with fail
            refine (burn_ok _ _ _ _ _ _ (by omega) (by omega) (by omega) (by omega) (by omega) (by omega) (by omega) (by omega) (by omega) (by omega) (by omega) (by omega) (by omega) _).mono ?_
            rintro e w2 ⟨rfl, hk2⟩
            refine kuse (b := w.heap.size) hk2 (by first | (simp; done) | (simp; omega) | omega) ?_
            intro ha2_0 hb2_0
            have hz2_0 : w.heap.size < w2.heap.size := by have := hk2.size; (try simp at this); omega
            go_wp2_with fail
            refine (ref_burn_ok _ _ _ _ _ _ (by omega) (by omega) (by omega) (by omega) (by omega) (by omega) (by omega) (by omega) (by omega) (by omega) (by omega) (by omega) (by omega) _).mono ?_
            rintro e w3 ⟨rfl, hk3⟩
            refine kuse (b := w.heap.size) hk3 (by first | (simp; done) | (simp; omega) | omega) ?_
            intro ha3_0 hb3_0
            have hz3_0 : w.heap.size < w3.heap.size := by have := hk3.size; (try simp at this); omega
            refine kuse (b := w2.heap.size) hk3 (by first | (simp; done) | (simp; omega) | omega) ?_
            intro ha3_1 hb3_1
            have hz3_1 : w2.heap.size < w3.heap.size := by have := hk3.size; (try simp at this); omega
            go_wp2_with fail
            refine (end_low _ _ _ _ _ (by omega) (by omega) (by omega) (by omega) (by omega) (by omega) (by omega) (by omega) (by omega) (by omega) (by omega) _).mono ?_
            rintro e w4 ⟨rfl, hk4⟩
            refine kuse (b := w.heap.size) hk4 (by first | (simp; done) | (simp; omega) | omega) ?_
            intro ha4_0 hb4_0
            have hz4_0 : w.heap.size < w4.heap.size := by have := hk4.size; (try simp at this); omega
            refine kuse (b := w2.heap.size) hk4 (by first | (simp; done) | (simp; omega) | omega) ?_
            intro ha4_1 hb4_1
            have hz4_1 : w2.heap.size < w4.heap.size := by have := hk4.size; (try simp at this); omega
            refine kuse (b := w3.heap.size) hk4 (by first | (simp; done) | (simp; omega) | omega) ?_
            intro ha4_2 hb4_2
            have hz4_2 : w3.heap.size < w4.heap.size := by have := hk4.size; (try simp at this); omega
            go_wp2_with fail
            refine (ref_end_low _ _ _ _ _ (by omega) (by omega) (by omega) (by omega) (by omega) (by omega) (by omega) (by omega) (by omega) (by omega) (by omega) _).mono ?_
            rintro e w5 ⟨rfl, hk5⟩
            refine kuse (b := w.heap.size) hk5 (by first | (simp; done) | (simp; omega) | omega) ?_
            intro ha5_0 hb5_0
            have hz5_0 : w.heap.size < w5.heap.size := by have := hk5.size; (try simp at this); omega
            refine kuse (b := w2.heap.size) hk5 (by first | (simp; done) | (simp; omega) | omega) ?_
            intro ha5_1 hb5_1
            have hz5_1 : w2.heap.size < w5.heap.size := by have := hk5.size; (try simp at this); omega
            refine kuse (b := w3.heap.size) hk5 (by first | (simp; done) | (simp; omega) | omega) ?_
            intro ha5_2 hb5_2
            have hz5_2 : w3.heap.size < w5.heap.size := by have := hk5.size; (try simp at this); omega
            go_wp2_with fail
            all_goals first | (go_ret; refine ⟨?_, (by repeat (first | with_reducible exact Kept.refl _ | with_reducible assumption | with_reducible refine Kept.setCell ?_ (by first | (simp; done) | (simp; omega) | omega) _ | with_reducible refine Kept.alloc ?_ _ | with_reducible refine Kept.drewN ?_ _ | with_reducible refine Kept.drew ?_ | with_reducible refine Kept.trans ?_ (by with_reducible assumption) | with_reducible refine Kept.dr ?_ (by with_reducible assumption)))⟩; first | rfl | (show Ending.returned (.bool (decide _)) = _; rw [decide_eq_true (by omega)]) | (show Ending.returned (.bool (decide _)) = _; rw [decide_eq_false (by omega)]) | (refine retb ?_; simp; done) | (refine retb ?_; simp; omega)) | (exfalso; omega)
          · go_enter Try.func4, Try.ntmps4
            go_wp2_with fail
            refine (awake_w _).mono ?_
            rintro e w1 ⟨rfl, hk1⟩
            refine kuse (b := w.heap.size) hk1 (by first | (simp; done) | (simp; omega) | omega) ?_
            intro ha1_0 hb1_0
            have hz1_0 : w.heap.size < w1.heap.size := by have := hk1.size; (try simp at this); omega
            go_wp2_with fail
            refine (burn_ok _ _ _ _ _ _ (by omega) (by omega) (by omega) (by omega) (by omega) (by omega) (by omega) (by omega) (by omega) (by omega) (by omega) (by omega) (by omega) _).mono ?_
            rintro e w2 ⟨rfl, hk2⟩
            refine kuse (b := w.heap.size) hk2 (by first | (simp; done) | (simp; omega) | omega) ?_
            intro ha2_0 hb2_0
            have hz2_0 : w.heap.size < w2.heap.size := by have := hk2.size; (try simp at this); omega
            go_wp2_with fail
            refine (ref_burn_ok _ _ _ _ _ _ (by omega) (by omega) (by omega) (by omega) (by omega) (by omega) (by omega) (by omega) (by omega) (by omega) (by omega) (by omega) (by omega) _).mono ?_
            rintro e w3 ⟨rfl, hk3⟩
            refine kuse (b := w.heap.size) hk3 (by first | (simp; done) | (simp; omega) | omega) ?_
            intro ha3_0 hb3_0
            have hz3_0 : w.heap.size < w3.heap.size := by have := hk3.size; (try simp at this); omega
            refine kuse (b := w2.heap.size) hk3 (by first | (simp; done) | (simp; omega) | omega) ?_
            intro ha3_1 hb3_1
            have hz3_1 : w2.heap.size < w3.heap.size := by have := hk3.size; (try simp at this); omega
            go_wp2_with fail
            refine (end_ok _ _ _ _ _ (by omega) (by omega) (by omega) (by omega) (by omega) (by omega) (by omega) (by omega) (by omega) (by omega) (by omega) _).mono ?_
            rintro e w4 ⟨rfl, hk4⟩
            refine kuse (b := w.heap.size) hk4 (by first | (simp; done) | (simp; omega) | omega) ?_
            intro ha4_0 hb4_0
            have hz4_0 : w.heap.size < w4.heap.size := by have := hk4.size; (try simp at this); omega
            refine kuse (b := w2.heap.size) hk4 (by first | (simp; done) | (simp; omega) | omega) ?_
            intro ha4_1 hb4_1
            have hz4_1 : w2.heap.size < w4.heap.size := by have := hk4.size; (try simp at this); omega
            refine kuse (b := w3.heap.size) hk4 (by first | (simp; done) | (simp; omega) | omega) ?_
            intro ha4_2 hb4_2
            have hz4_2 : w3.heap.size < w4.heap.size := by have := hk4.size; (try simp at this); omega
            go_wp2_with fail
            refine (ref_end_ok _ _ _ _ _ (by omega) (by omega) (by omega) (by omega) (by omega) (by omega) (by omega) (by omega) (by omega) (by omega) (by omega) _).mono ?_
            rintro e w5 ⟨rfl, hk5⟩
            refine kuse (b := w.heap.size) hk5 (by first | (simp; done) | (simp; omega) | omega) ?_
            intro ha5_0 hb5_0
            have hz5_0 : w.heap.size < w5.heap.size := by have := hk5.size; (try simp at this); omega
            refine kuse (b := w2.heap.size) hk5 (by first | (simp; done) | (simp; omega) | omega) ?_
            intro ha5_1 hb5_1
            have hz5_1 : w2.heap.size < w5.heap.size := by have := hk5.size; (try simp at this); omega
            refine kuse (b := w3.heap.size) hk5 (by first | (simp; done) | (simp; omega) | omega) ?_
            intro ha5_2 hb5_2
            have hz5_2 : w3.heap.size < w5.heap.size := by have := hk5.size; (try simp at this); omega
            go_wp2_with fail
            all_goals first | (go_ret; refine ⟨?_, (by repeat (first | with_reducible exact Kept.refl _ | with_reducible assumption | with_reducible refine Kept.setCell ?_ (by first | (simp; done) | (simp; omega) | omega) _ | with_reducible refine Kept.alloc ?_ _ | with_reducible refine Kept.drewN ?_ _ | with_reducible refine Kept.drew ?_ | with_reducible refine Kept.trans ?_ (by with_reducible assumption) | with_reducible refine Kept.dr ?_ (by with_reducible assumption)))⟩; first | rfl | (show Ending.returned (.bool (decide _)) = _; rw [decide_eq_true (by omega)]) | (show Ending.returned (.bool (decide _)) = _; rw [decide_eq_false (by omega)]) | (refine retb ?_; simp; done) | (refine retb ?_; simp; omega)) | (exfalso; omega)
  · have H : Hid (¬ AV e l r b) := Lib.hid hA
    clear hA
    go_enter Try.func4, Try.ntmps4
    go_wp2_with fail
    refine (awake_w _).mono ?_
    rintro e w1 ⟨rfl, hk1⟩
    refine kuse (b := w.heap.size) hk1 (by first | (simp; done) | (simp; omega) | omega) ?_
    intro ha1_0 hb1_0
    have hz1_0 : w.heap.size < w1.heap.size := by have := hk1.size; (try simp at this); omega
    go_wp2_with fail
    refine (burn_bad _ _ _ _ _ _ (by omega) (by omega) (by omega) (by omega) (by omega) (by omega) (by omega) (by omega) (by omega) (by omega) (by omega) (by omega) H.out _).mono ?_
    rintro e w2 ⟨rfl, hk2⟩
    refine kuse (b := w.heap.size) hk2 (by first | (simp; done) | (simp; omega) | omega) ?_
    intro ha2_0 hb2_0
    have hz2_0 : w.heap.size < w2.heap.size := by have := hk2.size; (try simp at this); omega
    go_wp2_with fail
    refine (ref_burn_bad _ _ _ _ _ _ (by omega) (by omega) (by omega) (by omega) (by omega) (by omega) (by omega) (by omega) (by omega) (by omega) (by omega) (by omega) H.out _).mono ?_
    rintro e w3 ⟨rfl, hk3⟩
    refine kuse (b := w.heap.size) hk3 (by first | (simp; done) | (simp; omega) | omega) ?_
    intro ha3_0 hb3_0
    have hz3_0 : w.heap.size < w3.heap.size := by have := hk3.size; (try simp at this); omega
    refine kuse (b := w2.heap.size) hk3 (by first | (simp; done) | (simp; omega) | omega) ?_
    intro ha3_1 hb3_1
    have hz3_1 : w2.heap.size < w3.heap.size := by have := hk3.size; (try simp at this); omega
    go_wp2_with fail
    refine (end_bad _ _ _ _ _ (by omega) (by omega) (by omega) (by omega) (by omega) (by omega) (by omega) (by omega) (by omega) (by omega) H.out _).mono ?_
    rintro e w4 ⟨rfl, hk4⟩
    refine kuse (b := w.heap.size) hk4 (by first | (simp; done) | (simp; omega) | omega) ?_
    intro ha4_0 hb4_0
    have hz4_0 : w.heap.size < w4.heap.size := by have := hk4.size; (try simp at this); omega
    refine kuse (b := w2.heap.size) hk4 (by first | (simp; done) | (simp; omega) | omega) ?_
    intro ha4_1 hb4_1
    have hz4_1 : w2.heap.size < w4.heap.size := by have := hk4.size; (try simp at this); omega
    refine kuse (b := w3.heap.size) hk4 (by first | (simp; done) | (simp; omega) | omega) ?_
    intro ha4_2 hb4_2
    have hz4_2 : w3.heap.size < w4.heap.size := by have := hk4.size; (try simp at this); omega
    go_wp2_with fail
    refine (ref_end_bad _ _ _ _ _ (by omega) (by omega) (by omega) (by omega) (by omega) (by omega) (by omega) (by omega) (by omega) (by omega) H.out _).mono ?_
    rintro e w5 ⟨rfl, hk5⟩
    refine kuse (b := w.heap.size) hk5 (by first | (simp; done) | (simp; omega) | omega) ?_
    intro ha5_0 hb5_0
    have hz5_0 : w.heap.size < w5.heap.size := by have := hk5.size; (try simp at this); omega
    refine kuse (b := w2.heap.size) hk5 (by first | (simp; done) | (simp; omega) | omega) ?_
    intro ha5_1 hb5_1
    have hz5_1 : w2.heap.size < w5.heap.size := by have := hk5.size; (try simp at this); omega
    refine kuse (b := w3.heap.size) hk5 (by first | (simp; done) | (simp; omega) | omega) ?_
    intro ha5_2 hb5_2
    have hz5_2 : w3.heap.size < w5.heap.size := by have := hk5.size; (try simp at this); omega
    go_wp2_with fail
    all_goals first | (go_ret; refine ⟨?_, (by repeat (first | with_reducible exact Kept.refl _ | with_reducible assumption | with_reducible refine Kept.setCell ?_ (by first | (simp; done) | (simp; omega) | omega) _ | with_reducible refine Kept.alloc ?_ _ | with_reducible refine Kept.drewN ?_ _ | with_reducible refine Kept.drew ?_ | with_reducible refine Kept.trans ?_ (by with_reducible assumption) | with_reducible refine Kept.dr ?_ (by with_reducible assumption)))⟩; first | rfl | (show Ending.returned (.bool (decide _)) = _; rw [decide_eq_true (by omega)]) | (show Ending.returned (.bool (decide _)) = _; rw [decide_eq_false (by omega)]) | (refine retb ?_; simp; done) | (refine retb ?_; simp; omega)) | (exfalso; omega)
set_option maxHeartbeats 4000000 in
theorem law_splits (e l r b f t m : Int) (e_0 : -9223372036854775808 ≤ e) (e_1 : e ≤ 9223372036854775807) (l_0 : -9223372036854775808 ≤ l) (l_1 : l ≤ 9223372036854775807) (r_0 : -9223372036854775808 ≤ r) (r_1 : r ≤ 9223372036854775807) (b_0 : -9223372036854775808 ≤ b) (b_1 : b ≤ 9223372036854775807) (f_0 : -9223372036854775808 ≤ f) (f_1 : f ≤ 9223372036854775807) (t_0 : -9223372036854775808 ≤ t) (t_1 : t ≤ 9223372036854775807) (m_0 : -9223372036854775808 ≤ m) (m_1 : m ≤ 9223372036854775807) (w : World) : Calls Try.prog 7 #[.agg #[.int .i64 e, .int .i64 l, .int .i64 r, .int .i64 b], .int .i64 f, .agg #[.int .i64 t, .int .i64 m]] w fun en w' => en = .returned (.bool true) ∧ Kept w w' := by
  by_cases hA : AV e l r b
  · obtain ⟨h1, h2, h3, h4, h5, h6, h7, h8⟩ := hA
    by_cases c1 : f < 0 ∨ 50000 < f ∨ t < 0 ∨ 1099511627776 < t
    · go_enter Try.func7, Try.ntmps7
      go_wp2_with fail
      refine (awake_w _).mono ?_
      rintro e w1 ⟨rfl, hk1⟩
      refine kuse (b := w.heap.size) hk1 (by first | (simp; done) | (simp; omega) | omega) ?_
      intro ha1_0 hb1_0
      have hz1_0 : w.heap.size < w1.heap.size := by have := hk1.size; (try simp at this); omega
      refine kuse (b := w.heap.size + 1) hk1 (by first | (simp; done) | (simp; omega) | omega) ?_
      intro ha1_1 hb1_1
      have hz1_1 : w.heap.size + 1 < w1.heap.size := by have := hk1.size; (try simp at this); omega
      go_wp2_with fail
      refine (burn_out _ _ _ _ _ _ (by omega) (by omega) (by omega) (by omega) (by omega) (by omega) (by omega) (by omega) (by omega) (by omega) (by omega) (by omega) (by omega) _).mono ?_
      rintro e w2 ⟨rfl, hk2⟩
      refine kuse (b := w.heap.size) hk2 (by first | (simp; done) | (simp; omega) | omega) ?_
      intro ha2_0 hb2_0
      have hz2_0 : w.heap.size < w2.heap.size := by have := hk2.size; (try simp at this); omega
      refine kuse (b := w.heap.size + 1) hk2 (by first | (simp; done) | (simp; omega) | omega) ?_
      intro ha2_1 hb2_1
      have hz2_1 : w.heap.size + 1 < w2.heap.size := by have := hk2.size; (try simp at this); omega
      go_wp2_with fail
      all_goals first | (go_ret; refine ⟨?_, (by repeat (first | with_reducible exact Kept.refl _ | with_reducible assumption | with_reducible refine Kept.setCell ?_ (by first | (simp; done) | (simp; omega) | omega) _ | with_reducible refine Kept.alloc ?_ _ | with_reducible refine Kept.drewN ?_ _ | with_reducible refine Kept.drew ?_ | with_reducible refine Kept.trans ?_ (by with_reducible assumption) | with_reducible refine Kept.dr ?_ (by with_reducible assumption)))⟩; first | rfl | (show Ending.returned (.bool (decide _)) = _; rw [decide_eq_true (by omega)]) | (show Ending.returned (.bool (decide _)) = _; rw [decide_eq_false (by omega)]) | (refine retb ?_; simp; done) | (refine retb ?_; simp; omega)) | (exfalso; omega)
    · have pp := FT.prod (f := f) (t := t) ⟨by omega, by omega, by omega, by omega⟩
      by_cases c2 : l - b < f * t
      · go_enter Try.func7, Try.ntmps7
        go_wp2_with fail
        refine (awake_w _).mono ?_
        rintro e w1 ⟨rfl, hk1⟩
        refine kuse (b := w.heap.size) hk1 (by first | (simp; done) | (simp; omega) | omega) ?_
        intro ha1_0 hb1_0
        have hz1_0 : w.heap.size < w1.heap.size := by have := hk1.size; (try simp at this); omega
        refine kuse (b := w.heap.size + 1) hk1 (by first | (simp; done) | (simp; omega) | omega) ?_
        intro ha1_1 hb1_1
        have hz1_1 : w.heap.size + 1 < w1.heap.size := by have := hk1.size; (try simp at this); omega
        go_wp2_with fail
        refine (burn_over _ _ _ _ _ _ (by omega) (by omega) (by omega) (by omega) (by omega) (by omega) (by omega) (by omega) (by omega) (by omega) (by omega) (by omega) (by omega) _).mono ?_
        rintro e w2 ⟨rfl, hk2⟩
        refine kuse (b := w.heap.size) hk2 (by first | (simp; done) | (simp; omega) | omega) ?_
        intro ha2_0 hb2_0
        have hz2_0 : w.heap.size < w2.heap.size := by have := hk2.size; (try simp at this); omega
        refine kuse (b := w.heap.size + 1) hk2 (by first | (simp; done) | (simp; omega) | omega) ?_
        intro ha2_1 hb2_1
        have hz2_1 : w.heap.size + 1 < w2.heap.size := by have := hk2.size; (try simp at this); omega
        go_wp2_with fail
        all_goals first | (go_ret; refine ⟨?_, (by repeat (first | with_reducible exact Kept.refl _ | with_reducible assumption | with_reducible refine Kept.setCell ?_ (by first | (simp; done) | (simp; omega) | omega) _ | with_reducible refine Kept.alloc ?_ _ | with_reducible refine Kept.drewN ?_ _ | with_reducible refine Kept.drew ?_ | with_reducible refine Kept.trans ?_ (by with_reducible assumption) | with_reducible refine Kept.dr ?_ (by with_reducible assumption)))⟩; first | rfl | (show Ending.returned (.bool (decide _)) = _; rw [decide_eq_true (by omega)]) | (show Ending.returned (.bool (decide _)) = _; rw [decide_eq_false (by omega)]) | (refine retb ?_; simp; done) | (refine retb ?_; simp; omega)) | (exfalso; omega)
      · by_cases c3 : m < 0 ∨ 1099511627776 < m
        · rcases c3 with c3 | c3
          all_goals
            go_enter Try.func7, Try.ntmps7
            go_wp2_with fail
            refine (awake_w _).mono ?_
            rintro e w1 ⟨rfl, hk1⟩
            refine kuse (b := w.heap.size) hk1 (by first | (simp; done) | (simp; omega) | omega) ?_
            intro ha1_0 hb1_0
            have hz1_0 : w.heap.size < w1.heap.size := by have := hk1.size; (try simp at this); omega
            refine kuse (b := w.heap.size + 1) hk1 (by first | (simp; done) | (simp; omega) | omega) ?_
            intro ha1_1 hb1_1
            have hz1_1 : w.heap.size + 1 < w1.heap.size := by have := hk1.size; (try simp at this); omega
            go_wp2_with fail
            refine (burn_ok _ _ _ _ _ _ (by omega) (by omega) (by omega) (by omega) (by omega) (by omega) (by omega) (by omega) (by omega) (by omega) (by omega) (by omega) (by omega) _).mono ?_
            rintro e w2 ⟨rfl, hk2⟩
            refine kuse (b := w.heap.size) hk2 (by first | (simp; done) | (simp; omega) | omega) ?_
            intro ha2_0 hb2_0
            have hz2_0 : w.heap.size < w2.heap.size := by have := hk2.size; (try simp at this); omega
            refine kuse (b := w.heap.size + 1) hk2 (by first | (simp; done) | (simp; omega) | omega) ?_
            intro ha2_1 hb2_1
            have hz2_1 : w.heap.size + 1 < w2.heap.size := by have := hk2.size; (try simp at this); omega
            go_wp2_with fail
            refine (burn_out _ _ _ _ _ _ (by omega) (by omega) (by omega) (by omega) (by omega) (by omega) (by omega) (by omega) (by omega) (by omega) (by omega) (by omega) (by omega) _).mono ?_
            rintro e w3 ⟨rfl, hk3⟩
            refine kuse (b := w.heap.size) hk3 (by first | (simp; done) | (simp; omega) | omega) ?_
            intro ha3_0 hb3_0
            have hz3_0 : w.heap.size < w3.heap.size := by have := hk3.size; (try simp at this); omega
            refine kuse (b := w.heap.size + 1) hk3 (by first | (simp; done) | (simp; omega) | omega) ?_
            intro ha3_1 hb3_1
            have hz3_1 : w.heap.size + 1 < w3.heap.size := by have := hk3.size; (try simp at this); omega
            refine kuse (b := w2.heap.size) hk3 (by first | (simp; done) | (simp; omega) | omega) ?_
            intro ha3_2 hb3_2
            have hz3_2 : w2.heap.size < w3.heap.size := by have := hk3.size; (try simp at this); omega
            go_wp2_with fail
            all_goals first | (go_ret; refine ⟨?_, (by repeat (first | with_reducible exact Kept.refl _ | with_reducible assumption | with_reducible refine Kept.setCell ?_ (by first | (simp; done) | (simp; omega) | omega) _ | with_reducible refine Kept.alloc ?_ _ | with_reducible refine Kept.drewN ?_ _ | with_reducible refine Kept.drew ?_ | with_reducible refine Kept.trans ?_ (by with_reducible assumption) | with_reducible refine Kept.dr ?_ (by with_reducible assumption)))⟩; first | rfl | (show Ending.returned (.bool (decide _)) = _; rw [decide_eq_true (by omega)]) | (show Ending.returned (.bool (decide _)) = _; rw [decide_eq_false (by omega)]) | (refine retb ?_; simp; done) | (refine retb ?_; simp; omega)) | (exfalso; omega)
        · have pm := FT.prod (f := f) (t := m) ⟨by omega, by omega, by omega, by omega⟩
          have dist : f * (t + m) = f * t + f * m := Int.mul_add f t m
          by_cases c4 : 1099511627776 - t < m
          · clear dist
            by_cases c5 : l - (b + f * t) < f * m
            · go_enter Try.func7, Try.ntmps7
              go_wp2_with fail
              refine (awake_w _).mono ?_
              rintro e w1 ⟨rfl, hk1⟩
              refine kuse (b := w.heap.size) hk1 (by first | (simp; done) | (simp; omega) | omega) ?_
              intro ha1_0 hb1_0
              have hz1_0 : w.heap.size < w1.heap.size := by have := hk1.size; (try simp at this); omega
              refine kuse (b := w.heap.size + 1) hk1 (by first | (simp; done) | (simp; omega) | omega) ?_
              intro ha1_1 hb1_1
              have hz1_1 : w.heap.size + 1 < w1.heap.size := by have := hk1.size; (try simp at this); omega
              go_wp2_with fail
              refine (burn_ok _ _ _ _ _ _ (by omega) (by omega) (by omega) (by omega) (by omega) (by omega) (by omega) (by omega) (by omega) (by omega) (by omega) (by omega) (by omega) _).mono ?_
              rintro e w2 ⟨rfl, hk2⟩
              refine kuse (b := w.heap.size) hk2 (by first | (simp; done) | (simp; omega) | omega) ?_
              intro ha2_0 hb2_0
              have hz2_0 : w.heap.size < w2.heap.size := by have := hk2.size; (try simp at this); omega
              refine kuse (b := w.heap.size + 1) hk2 (by first | (simp; done) | (simp; omega) | omega) ?_
              intro ha2_1 hb2_1
              have hz2_1 : w.heap.size + 1 < w2.heap.size := by have := hk2.size; (try simp at this); omega
              go_wp2_with fail
              refine (burn_over _ _ _ _ _ _ (by omega) (by omega) (by omega) (by omega) (by omega) (by omega) (by omega) (by omega) (by omega) (by omega) (by omega) (by omega) (by omega) _).mono ?_
              rintro e w3 ⟨rfl, hk3⟩
              refine kuse (b := w.heap.size) hk3 (by first | (simp; done) | (simp; omega) | omega) ?_
              intro ha3_0 hb3_0
              have hz3_0 : w.heap.size < w3.heap.size := by have := hk3.size; (try simp at this); omega
              refine kuse (b := w.heap.size + 1) hk3 (by first | (simp; done) | (simp; omega) | omega) ?_
              intro ha3_1 hb3_1
              have hz3_1 : w.heap.size + 1 < w3.heap.size := by have := hk3.size; (try simp at this); omega
              refine kuse (b := w2.heap.size) hk3 (by first | (simp; done) | (simp; omega) | omega) ?_
              intro ha3_2 hb3_2
              have hz3_2 : w2.heap.size < w3.heap.size := by have := hk3.size; (try simp at this); omega
              go_wp2_with fail
              all_goals first | (go_ret; refine ⟨?_, (by repeat (first | with_reducible exact Kept.refl _ | with_reducible assumption | with_reducible refine Kept.setCell ?_ (by first | (simp; done) | (simp; omega) | omega) _ | with_reducible refine Kept.alloc ?_ _ | with_reducible refine Kept.drewN ?_ _ | with_reducible refine Kept.drew ?_ | with_reducible refine Kept.trans ?_ (by with_reducible assumption) | with_reducible refine Kept.dr ?_ (by with_reducible assumption)))⟩; first | rfl | (show Ending.returned (.bool (decide _)) = _; rw [decide_eq_true (by omega)]) | (show Ending.returned (.bool (decide _)) = _; rw [decide_eq_false (by omega)]) | (refine retb ?_; simp; done) | (refine retb ?_; simp; omega)) | (exfalso; omega)
            · go_enter Try.func7, Try.ntmps7
              go_wp2_with fail
              refine (awake_w _).mono ?_
              rintro e w1 ⟨rfl, hk1⟩
              refine kuse (b := w.heap.size) hk1 (by first | (simp; done) | (simp; omega) | omega) ?_
              intro ha1_0 hb1_0
              have hz1_0 : w.heap.size < w1.heap.size := by have := hk1.size; (try simp at this); omega
              refine kuse (b := w.heap.size + 1) hk1 (by first | (simp; done) | (simp; omega) | omega) ?_
              intro ha1_1 hb1_1
              have hz1_1 : w.heap.size + 1 < w1.heap.size := by have := hk1.size; (try simp at this); omega
              go_wp2_with fail
              refine (burn_ok _ _ _ _ _ _ (by omega) (by omega) (by omega) (by omega) (by omega) (by omega) (by omega) (by omega) (by omega) (by omega) (by omega) (by omega) (by omega) _).mono ?_
              rintro e w2 ⟨rfl, hk2⟩
              refine kuse (b := w.heap.size) hk2 (by first | (simp; done) | (simp; omega) | omega) ?_
              intro ha2_0 hb2_0
              have hz2_0 : w.heap.size < w2.heap.size := by have := hk2.size; (try simp at this); omega
              refine kuse (b := w.heap.size + 1) hk2 (by first | (simp; done) | (simp; omega) | omega) ?_
              intro ha2_1 hb2_1
              have hz2_1 : w.heap.size + 1 < w2.heap.size := by have := hk2.size; (try simp at this); omega
              go_wp2_with fail
              refine (burn_ok _ _ _ _ _ _ (by omega) (by omega) (by omega) (by omega) (by omega) (by omega) (by omega) (by omega) (by omega) (by omega) (by omega) (by omega) (by omega) _).mono ?_
              rintro e w3 ⟨rfl, hk3⟩
              refine kuse (b := w.heap.size) hk3 (by first | (simp; done) | (simp; omega) | omega) ?_
              intro ha3_0 hb3_0
              have hz3_0 : w.heap.size < w3.heap.size := by have := hk3.size; (try simp at this); omega
              refine kuse (b := w.heap.size + 1) hk3 (by first | (simp; done) | (simp; omega) | omega) ?_
              intro ha3_1 hb3_1
              have hz3_1 : w.heap.size + 1 < w3.heap.size := by have := hk3.size; (try simp at this); omega
              refine kuse (b := w2.heap.size) hk3 (by first | (simp; done) | (simp; omega) | omega) ?_
              intro ha3_2 hb3_2
              have hz3_2 : w2.heap.size < w3.heap.size := by have := hk3.size; (try simp at this); omega
              go_wp2_with fail
              all_goals first | (go_ret; refine ⟨?_, (by repeat (first | with_reducible exact Kept.refl _ | with_reducible assumption | with_reducible refine Kept.setCell ?_ (by first | (simp; done) | (simp; omega) | omega) _ | with_reducible refine Kept.alloc ?_ _ | with_reducible refine Kept.drewN ?_ _ | with_reducible refine Kept.drew ?_ | with_reducible refine Kept.trans ?_ (by with_reducible assumption) | with_reducible refine Kept.dr ?_ (by with_reducible assumption)))⟩; first | rfl | (show Ending.returned (.bool (decide _)) = _; rw [decide_eq_true (by omega)]) | (show Ending.returned (.bool (decide _)) = _; rw [decide_eq_false (by omega)]) | (refine retb ?_; simp; done) | (refine retb ?_; simp; omega)) | (exfalso; omega)
          · have pt := FT.prod (f := f) (t := t + m) ⟨by omega, by omega, by omega, by omega⟩
            rw [dist] at pt
            have ass : b + f * t + f * m = b + (f * t + f * m) := by omega
            by_cases c5 : l - (b + f * t) < f * m
            · go_enter Try.func7, Try.ntmps7
              go_wp2_with fail
              refine (awake_w _).mono ?_
              rintro e w1 ⟨rfl, hk1⟩
              refine kuse (b := w.heap.size) hk1 (by first | (simp; done) | (simp; omega) | omega) ?_
              intro ha1_0 hb1_0
              have hz1_0 : w.heap.size < w1.heap.size := by have := hk1.size; (try simp at this); omega
              refine kuse (b := w.heap.size + 1) hk1 (by first | (simp; done) | (simp; omega) | omega) ?_
              intro ha1_1 hb1_1
              have hz1_1 : w.heap.size + 1 < w1.heap.size := by have := hk1.size; (try simp at this); omega
              go_wp2_with fail
              refine (burn_ok _ _ _ _ _ _ (by omega) (by omega) (by omega) (by omega) (by omega) (by omega) (by omega) (by omega) (by omega) (by omega) (by omega) (by omega) (by omega) _).mono ?_
              rintro e w2 ⟨rfl, hk2⟩
              refine kuse (b := w.heap.size) hk2 (by first | (simp; done) | (simp; omega) | omega) ?_
              intro ha2_0 hb2_0
              have hz2_0 : w.heap.size < w2.heap.size := by have := hk2.size; (try simp at this); omega
              refine kuse (b := w.heap.size + 1) hk2 (by first | (simp; done) | (simp; omega) | omega) ?_
              intro ha2_1 hb2_1
              have hz2_1 : w.heap.size + 1 < w2.heap.size := by have := hk2.size; (try simp at this); omega
              go_wp2_with fail
              refine (burn_over _ _ _ _ _ _ (by omega) (by omega) (by omega) (by omega) (by omega) (by omega) (by omega) (by omega) (by omega) (by omega) (by omega) (by omega) (by omega) _).mono ?_
              rintro e w3 ⟨rfl, hk3⟩
              refine kuse (b := w.heap.size) hk3 (by first | (simp; done) | (simp; omega) | omega) ?_
              intro ha3_0 hb3_0
              have hz3_0 : w.heap.size < w3.heap.size := by have := hk3.size; (try simp at this); omega
              refine kuse (b := w.heap.size + 1) hk3 (by first | (simp; done) | (simp; omega) | omega) ?_
              intro ha3_1 hb3_1
              have hz3_1 : w.heap.size + 1 < w3.heap.size := by have := hk3.size; (try simp at this); omega
              refine kuse (b := w2.heap.size) hk3 (by first | (simp; done) | (simp; omega) | omega) ?_
              intro ha3_2 hb3_2
              have hz3_2 : w2.heap.size < w3.heap.size := by have := hk3.size; (try simp at this); omega
              go_wp2_with fail
              refine (burn_over _ _ _ _ _ _ (by omega) (by omega) (by omega) (by omega) (by omega) (by omega) (by omega) (by omega) (by omega) (by omega) (by omega) (by omega) (by omega) _).mono ?_
              rintro e w4 ⟨rfl, hk4⟩
              refine kuse (b := w.heap.size) hk4 (by first | (simp; done) | (simp; omega) | omega) ?_
              intro ha4_0 hb4_0
              have hz4_0 : w.heap.size < w4.heap.size := by have := hk4.size; (try simp at this); omega
              refine kuse (b := w.heap.size + 1) hk4 (by first | (simp; done) | (simp; omega) | omega) ?_
              intro ha4_1 hb4_1
              have hz4_1 : w.heap.size + 1 < w4.heap.size := by have := hk4.size; (try simp at this); omega
              refine kuse (b := w2.heap.size) hk4 (by first | (simp; done) | (simp; omega) | omega) ?_
              intro ha4_2 hb4_2
              have hz4_2 : w2.heap.size < w4.heap.size := by have := hk4.size; (try simp at this); omega
              refine kuse (b := w3.heap.size) hk4 (by first | (simp; done) | (simp; omega) | omega) ?_
              intro ha4_3 hb4_3
              have hz4_3 : w3.heap.size < w4.heap.size := by have := hk4.size; (try simp at this); omega
              go_wp2_with fail
              all_goals first | (go_ret; refine ⟨?_, (by repeat (first | with_reducible exact Kept.refl _ | with_reducible assumption | with_reducible refine Kept.setCell ?_ (by first | (simp; done) | (simp; omega) | omega) _ | with_reducible refine Kept.alloc ?_ _ | with_reducible refine Kept.drewN ?_ _ | with_reducible refine Kept.drew ?_ | with_reducible refine Kept.trans ?_ (by with_reducible assumption) | with_reducible refine Kept.dr ?_ (by with_reducible assumption)))⟩; first | rfl | (show Ending.returned (.bool (decide _)) = _; rw [decide_eq_true (by omega)]) | (show Ending.returned (.bool (decide _)) = _; rw [decide_eq_false (by omega)]) | (refine retb ?_; simp; done) | (refine retb ?_; simp; omega)) | (exfalso; omega)
            · go_enter Try.func7, Try.ntmps7
              go_wp2_with fail
              refine (awake_w _).mono ?_
              rintro e w1 ⟨rfl, hk1⟩
              refine kuse (b := w.heap.size) hk1 (by first | (simp; done) | (simp; omega) | omega) ?_
              intro ha1_0 hb1_0
              have hz1_0 : w.heap.size < w1.heap.size := by have := hk1.size; (try simp at this); omega
              refine kuse (b := w.heap.size + 1) hk1 (by first | (simp; done) | (simp; omega) | omega) ?_
              intro ha1_1 hb1_1
              have hz1_1 : w.heap.size + 1 < w1.heap.size := by have := hk1.size; (try simp at this); omega
              go_wp2_with fail
              refine (burn_ok _ _ _ _ _ _ (by omega) (by omega) (by omega) (by omega) (by omega) (by omega) (by omega) (by omega) (by omega) (by omega) (by omega) (by omega) (by omega) _).mono ?_
              rintro e w2 ⟨rfl, hk2⟩
              refine kuse (b := w.heap.size) hk2 (by first | (simp; done) | (simp; omega) | omega) ?_
              intro ha2_0 hb2_0
              have hz2_0 : w.heap.size < w2.heap.size := by have := hk2.size; (try simp at this); omega
              refine kuse (b := w.heap.size + 1) hk2 (by first | (simp; done) | (simp; omega) | omega) ?_
              intro ha2_1 hb2_1
              have hz2_1 : w.heap.size + 1 < w2.heap.size := by have := hk2.size; (try simp at this); omega
              go_wp2_with fail
              refine (burn_ok _ _ _ _ _ _ (by omega) (by omega) (by omega) (by omega) (by omega) (by omega) (by omega) (by omega) (by omega) (by omega) (by omega) (by omega) (by omega) _).mono ?_
              rintro e w3 ⟨rfl, hk3⟩
              refine kuse (b := w.heap.size) hk3 (by first | (simp; done) | (simp; omega) | omega) ?_
              intro ha3_0 hb3_0
              have hz3_0 : w.heap.size < w3.heap.size := by have := hk3.size; (try simp at this); omega
              refine kuse (b := w.heap.size + 1) hk3 (by first | (simp; done) | (simp; omega) | omega) ?_
              intro ha3_1 hb3_1
              have hz3_1 : w.heap.size + 1 < w3.heap.size := by have := hk3.size; (try simp at this); omega
              refine kuse (b := w2.heap.size) hk3 (by first | (simp; done) | (simp; omega) | omega) ?_
              intro ha3_2 hb3_2
              have hz3_2 : w2.heap.size < w3.heap.size := by have := hk3.size; (try simp at this); omega
              go_wp2_with fail
              refine (burn_ok _ _ _ _ _ _ (by omega) (by omega) (by omega) (by omega) (by omega) (by omega) (by omega) (by omega) (by omega) (by omega) (by omega) (by omega) (by omega) _).mono ?_
              rintro e w4 ⟨rfl, hk4⟩
              refine kuse (b := w.heap.size) hk4 (by first | (simp; done) | (simp; omega) | omega) ?_
              intro ha4_0 hb4_0
              have hz4_0 : w.heap.size < w4.heap.size := by have := hk4.size; (try simp at this); omega
              refine kuse (b := w.heap.size + 1) hk4 (by first | (simp; done) | (simp; omega) | omega) ?_
              intro ha4_1 hb4_1
              have hz4_1 : w.heap.size + 1 < w4.heap.size := by have := hk4.size; (try simp at this); omega
              refine kuse (b := w2.heap.size) hk4 (by first | (simp; done) | (simp; omega) | omega) ?_
              intro ha4_2 hb4_2
              have hz4_2 : w2.heap.size < w4.heap.size := by have := hk4.size; (try simp at this); omega
              refine kuse (b := w3.heap.size) hk4 (by first | (simp; done) | (simp; omega) | omega) ?_
              intro ha4_3 hb4_3
              have hz4_3 : w3.heap.size < w4.heap.size := by have := hk4.size; (try simp at this); omega
              go_wp2_with fail
              all_goals first | (go_ret; refine ⟨?_, (by repeat (first | with_reducible exact Kept.refl _ | with_reducible assumption | with_reducible refine Kept.setCell ?_ (by first | (simp; done) | (simp; omega) | omega) _ | with_reducible refine Kept.alloc ?_ _ | with_reducible refine Kept.drewN ?_ _ | with_reducible refine Kept.drew ?_ | with_reducible refine Kept.trans ?_ (by with_reducible assumption) | with_reducible refine Kept.dr ?_ (by with_reducible assumption)))⟩; first | rfl | (show Ending.returned (.bool (decide _)) = _; rw [decide_eq_true (by omega)]) | (show Ending.returned (.bool (decide _)) = _; rw [decide_eq_false (by omega)]) | (refine retb ?_; simp; done) | (refine retb ?_; simp; omega)) | (exfalso; omega)
  · have H : Hid (¬ AV e l r b) := Lib.hid hA
    clear hA
    go_enter Try.func7, Try.ntmps7
    go_wp2_with fail
    refine (awake_w _).mono ?_
    rintro e w1 ⟨rfl, hk1⟩
    refine kuse (b := w.heap.size) hk1 (by first | (simp; done) | (simp; omega) | omega) ?_
    intro ha1_0 hb1_0
    have hz1_0 : w.heap.size < w1.heap.size := by have := hk1.size; (try simp at this); omega
    refine kuse (b := w.heap.size + 1) hk1 (by first | (simp; done) | (simp; omega) | omega) ?_
    intro ha1_1 hb1_1
    have hz1_1 : w.heap.size + 1 < w1.heap.size := by have := hk1.size; (try simp at this); omega
    go_wp2_with fail
    refine (burn_bad _ _ _ _ _ _ (by omega) (by omega) (by omega) (by omega) (by omega) (by omega) (by omega) (by omega) (by omega) (by omega) (by omega) (by omega) H.out _).mono ?_
    rintro e w2 ⟨rfl, hk2⟩
    refine kuse (b := w.heap.size) hk2 (by first | (simp; done) | (simp; omega) | omega) ?_
    intro ha2_0 hb2_0
    have hz2_0 : w.heap.size < w2.heap.size := by have := hk2.size; (try simp at this); omega
    refine kuse (b := w.heap.size + 1) hk2 (by first | (simp; done) | (simp; omega) | omega) ?_
    intro ha2_1 hb2_1
    have hz2_1 : w.heap.size + 1 < w2.heap.size := by have := hk2.size; (try simp at this); omega
    go_wp2_with fail
    all_goals first | (go_ret; refine ⟨?_, (by repeat (first | with_reducible exact Kept.refl _ | with_reducible assumption | with_reducible refine Kept.setCell ?_ (by first | (simp; done) | (simp; omega) | omega) _ | with_reducible refine Kept.alloc ?_ _ | with_reducible refine Kept.drewN ?_ _ | with_reducible refine Kept.drew ?_ | with_reducible refine Kept.trans ?_ (by with_reducible assumption) | with_reducible refine Kept.dr ?_ (by with_reducible assumption)))⟩; first | rfl | (show Ending.returned (.bool (decide _)) = _; rw [decide_eq_true (by omega)]) | (show Ending.returned (.bool (decide _)) = _; rw [decide_eq_false (by omega)]) | (refine retb ?_; simp; done) | (refine retb ?_; simp; omega)) | (exfalso; omega)
set_option maxHeartbeats 4000000 in
theorem law_lasts (e l r b f : Int) (e_0 : -9223372036854775808 ≤ e) (e_1 : e ≤ 9223372036854775807) (l_0 : -9223372036854775808 ≤ l) (l_1 : l ≤ 9223372036854775807) (r_0 : -9223372036854775808 ≤ r) (r_1 : r ≤ 9223372036854775807) (b_0 : -9223372036854775808 ≤ b) (b_1 : b ≤ 9223372036854775807) (f_0 : -9223372036854775808 ≤ f) (f_1 : f ≤ 9223372036854775807) (w : World) : Calls Try.prog 8 #[.agg #[.int .i64 e, .int .i64 l, .int .i64 r, .int .i64 b], .int .i64 f] w fun en w' => en = .returned (.bool true) ∧ Kept w w' := by
  by_cases hA : AV e l r b
  · obtain ⟨h1, h2, h3, h4, h5, h6, h7, h8⟩ := hA
    by_cases k1 : f < 1 ∨ 50000 < f
    · go_enter Try.func8, Try.ntmps8
      go_wp2_with fail
      refine (awake_w _).mono ?_
      rintro e w1 ⟨rfl, hk1⟩
      refine kuse (b := w.heap.size) hk1 (by first | (simp; done) | (simp; omega) | omega) ?_
      intro ha1_0 hb1_0
      have hz1_0 : w.heap.size < w1.heap.size := by have := hk1.size; (try simp at this); omega
      go_wp2_with fail
      refine (end_out _ _ _ _ _ (by omega) (by omega) (by omega) (by omega) (by omega) (by omega) (by omega) (by omega) (by omega) (by omega) (by omega) _).mono ?_
      rintro e w2 ⟨rfl, hk2⟩
      refine kuse (b := w.heap.size) hk2 (by first | (simp; done) | (simp; omega) | omega) ?_
      intro ha2_0 hb2_0
      have hz2_0 : w.heap.size < w2.heap.size := by have := hk2.size; (try simp at this); omega
      go_wp2_with fail
      all_goals first | (go_ret; refine ⟨?_, (by repeat (first | with_reducible exact Kept.refl _ | with_reducible assumption | with_reducible refine Kept.setCell ?_ (by first | (simp; done) | (simp; omega) | omega) _ | with_reducible refine Kept.alloc ?_ _ | with_reducible refine Kept.drewN ?_ _ | with_reducible refine Kept.drew ?_ | with_reducible refine Kept.trans ?_ (by with_reducible assumption) | with_reducible refine Kept.dr ?_ (by with_reducible assumption)))⟩; first | rfl | (show Ending.returned (.bool (decide _)) = _; rw [decide_eq_true (by omega)]) | (show Ending.returned (.bool (decide _)) = _; rw [decide_eq_false (by omega)]) | (refine retb ?_; simp; done) | (refine retb ?_; simp; omega)) | (exfalso; omega)
    · by_cases k2 : l - b < r
      · go_enter Try.func8, Try.ntmps8
        go_wp2_with fail
        refine (awake_w _).mono ?_
        rintro e w1 ⟨rfl, hk1⟩
        refine kuse (b := w.heap.size) hk1 (by first | (simp; done) | (simp; omega) | omega) ?_
        intro ha1_0 hb1_0
        have hz1_0 : w.heap.size < w1.heap.size := by have := hk1.size; (try simp at this); omega
        go_wp2_with fail
        refine (end_low _ _ _ _ _ (by omega) (by omega) (by omega) (by omega) (by omega) (by omega) (by omega) (by omega) (by omega) (by omega) (by omega) _).mono ?_
        rintro e w2 ⟨rfl, hk2⟩
        refine kuse (b := w.heap.size) hk2 (by first | (simp; done) | (simp; omega) | omega) ?_
        intro ha2_0 hb2_0
        have hz2_0 : w.heap.size < w2.heap.size := by have := hk2.size; (try simp at this); omega
        go_wp2_with fail
        all_goals first | (go_ret; refine ⟨?_, (by repeat (first | with_reducible exact Kept.refl _ | with_reducible assumption | with_reducible refine Kept.setCell ?_ (by first | (simp; done) | (simp; omega) | omega) _ | with_reducible refine Kept.alloc ?_ _ | with_reducible refine Kept.drewN ?_ _ | with_reducible refine Kept.drew ?_ | with_reducible refine Kept.trans ?_ (by with_reducible assumption) | with_reducible refine Kept.dr ?_ (by with_reducible assumption)))⟩; first | rfl | (show Ending.returned (.bool (decide _)) = _; rw [decide_eq_true (by omega)]) | (show Ending.returned (.bool (decide _)) = _; rw [decide_eq_false (by omega)]) | (refine retb ?_; simp; done) | (refine retb ?_; simp; omega)) | (exfalso; omega)
      · obtain ⟨n, hn⟩ : ∃ n, (l - b - r) / f = n := ⟨_, rfl⟩
        have n0 : 0 ≤ n := by rw [← hn]; exact Int.ediv_nonneg (by omega) (by omega)
        have n1 : f * n ≤ l - b - r := by rw [← hn]; exact Int.mul_ediv_self_le (by omega)
        have n2 : l - b - r < f * (n + 1) := by rw [← hn]; have := Int.lt_mul_ediv_self_add (x := l - b - r) (k := f) (by omega); rw [Int.mul_add]; omega
        have n3 : n ≤ 3000000000 := by
          have : 1 * n ≤ f * n := Int.mul_le_mul_of_nonneg_right (by omega) n0
          omega
        have n4 : 0 ≤ f * n := Int.mul_nonneg (by omega) n0
        have n5 : f * (n + 1) ≤ 3000000000 + 50000 := by rw [Int.mul_add]; omega
        have n7 : 0 ≤ f * (n + 1) := Int.mul_nonneg (by omega) (by omega)
        have d1 : decide (l - (b + f * n) < r) = false := decide_eq_false (by omega)
        have d2 : decide (l - (b + f * (n + 1)) < r) = true := decide_eq_true (by omega)
        by_cases c2 : l - b < f * (n + 1)
        · go_enter Try.func8, Try.ntmps8
          go_wp2_with fail
          refine (awake_w _).mono ?_
          rintro e w1 ⟨rfl, hk1⟩
          refine kuse (b := w.heap.size) hk1 (by first | (simp; done) | (simp; omega) | omega) ?_
          intro ha1_0 hb1_0
          have hz1_0 : w.heap.size < w1.heap.size := by have := hk1.size; (try simp at this); omega
          go_wp2_with fail
          refine (end_ok _ _ _ _ _ (by omega) (by omega) (by omega) (by omega) (by omega) (by omega) (by omega) (by omega) (by omega) (by omega) (by omega) _).mono ?_
          rintro e w2 ⟨rfl, hk2⟩
          refine kuse (b := w.heap.size) hk2 (by first | (simp; done) | (simp; omega) | omega) ?_
          intro ha2_0 hb2_0
          have hz2_0 : w.heap.size < w2.heap.size := by have := hk2.size; (try simp at this); omega
          go_wp2_with fail
          refine (burn_ok _ _ _ _ _ _ (by omega) (by omega) (by omega) (by omega) (by omega) (by omega) (by omega) (by omega) (by omega) (by omega) (by omega) (by omega) (by omega) _).mono ?_
          rintro e w3 ⟨rfl, hk3⟩
          refine kuse (b := w.heap.size) hk3 (by first | (simp; done) | (simp; omega) | omega) ?_
          intro ha3_0 hb3_0
          have hz3_0 : w.heap.size < w3.heap.size := by have := hk3.size; (try simp at this); omega
          go_wp2_with fail
          refine (low_ok _ _ _ _ (by omega) (by omega) (by omega) (by omega) (by omega) (by omega) (by omega) (by omega) _).mono ?_
          rintro e w4 ⟨rfl, hk4⟩
          refine kuse (b := w.heap.size) hk4 (by first | (simp; done) | (simp; omega) | omega) ?_
          intro ha4_0 hb4_0
          have hz4_0 : w.heap.size < w4.heap.size := by have := hk4.size; (try simp at this); omega
          refine kuse (b := w3.heap.size) hk4 (by first | (simp; done) | (simp; omega) | omega) ?_
          intro ha4_1 hb4_1
          have hz4_1 : w3.heap.size < w4.heap.size := by have := hk4.size; (try simp at this); omega
          go_wp2_with fail
          refine (burn_over _ _ _ _ _ _ (by omega) (by omega) (by omega) (by omega) (by omega) (by omega) (by omega) (by omega) (by omega) (by omega) (by omega) (by omega) (by omega) _).mono ?_
          rintro e w5 ⟨rfl, hk5⟩
          refine kuse (b := w.heap.size) hk5 (by first | (simp; done) | (simp; omega) | omega) ?_
          intro ha5_0 hb5_0
          have hz5_0 : w.heap.size < w5.heap.size := by have := hk5.size; (try simp at this); omega
          refine kuse (b := w3.heap.size) hk5 (by first | (simp; done) | (simp; omega) | omega) ?_
          intro ha5_1 hb5_1
          have hz5_1 : w3.heap.size < w5.heap.size := by have := hk5.size; (try simp at this); omega
          go_wp2_with fail
          all_goals first | (go_ret; refine ⟨?_, (by repeat (first | with_reducible exact Kept.refl _ | with_reducible assumption | with_reducible refine Kept.setCell ?_ (by first | (simp; done) | (simp; omega) | omega) _ | with_reducible refine Kept.alloc ?_ _ | with_reducible refine Kept.drewN ?_ _ | with_reducible refine Kept.drew ?_ | with_reducible refine Kept.trans ?_ (by with_reducible assumption) | with_reducible refine Kept.dr ?_ (by with_reducible assumption)))⟩; first | rfl | (show Ending.returned (.bool (decide _)) = _; rw [decide_eq_true (by omega)]) | (show Ending.returned (.bool (decide _)) = _; rw [decide_eq_false (by omega)]) | (refine retb ?_; simp; done) | (refine retb ?_; simp; omega)) | (exfalso; omega)
        · go_enter Try.func8, Try.ntmps8
          go_wp2_with fail
          refine (awake_w _).mono ?_
          rintro e w1 ⟨rfl, hk1⟩
          refine kuse (b := w.heap.size) hk1 (by first | (simp; done) | (simp; omega) | omega) ?_
          intro ha1_0 hb1_0
          have hz1_0 : w.heap.size < w1.heap.size := by have := hk1.size; (try simp at this); omega
          go_wp2_with fail
          refine (end_ok _ _ _ _ _ (by omega) (by omega) (by omega) (by omega) (by omega) (by omega) (by omega) (by omega) (by omega) (by omega) (by omega) _).mono ?_
          rintro e w2 ⟨rfl, hk2⟩
          refine kuse (b := w.heap.size) hk2 (by first | (simp; done) | (simp; omega) | omega) ?_
          intro ha2_0 hb2_0
          have hz2_0 : w.heap.size < w2.heap.size := by have := hk2.size; (try simp at this); omega
          go_wp2_with fail
          refine (burn_ok _ _ _ _ _ _ (by omega) (by omega) (by omega) (by omega) (by omega) (by omega) (by omega) (by omega) (by omega) (by omega) (by omega) (by omega) (by omega) _).mono ?_
          rintro e w3 ⟨rfl, hk3⟩
          refine kuse (b := w.heap.size) hk3 (by first | (simp; done) | (simp; omega) | omega) ?_
          intro ha3_0 hb3_0
          have hz3_0 : w.heap.size < w3.heap.size := by have := hk3.size; (try simp at this); omega
          go_wp2_with fail
          refine (low_ok _ _ _ _ (by omega) (by omega) (by omega) (by omega) (by omega) (by omega) (by omega) (by omega) _).mono ?_
          rintro e w4 ⟨rfl, hk4⟩
          refine kuse (b := w.heap.size) hk4 (by first | (simp; done) | (simp; omega) | omega) ?_
          intro ha4_0 hb4_0
          have hz4_0 : w.heap.size < w4.heap.size := by have := hk4.size; (try simp at this); omega
          refine kuse (b := w3.heap.size) hk4 (by first | (simp; done) | (simp; omega) | omega) ?_
          intro ha4_1 hb4_1
          have hz4_1 : w3.heap.size < w4.heap.size := by have := hk4.size; (try simp at this); omega
          go_wp2_with fail
          refine (burn_ok _ _ _ _ _ _ (by omega) (by omega) (by omega) (by omega) (by omega) (by omega) (by omega) (by omega) (by omega) (by omega) (by omega) (by omega) (by omega) _).mono ?_
          rintro e w5 ⟨rfl, hk5⟩
          refine kuse (b := w.heap.size) hk5 (by first | (simp; done) | (simp; omega) | omega) ?_
          intro ha5_0 hb5_0
          have hz5_0 : w.heap.size < w5.heap.size := by have := hk5.size; (try simp at this); omega
          refine kuse (b := w3.heap.size) hk5 (by first | (simp; done) | (simp; omega) | omega) ?_
          intro ha5_1 hb5_1
          have hz5_1 : w3.heap.size < w5.heap.size := by have := hk5.size; (try simp at this); omega
          go_wp2_with fail
          refine (low_ok _ _ _ _ (by omega) (by omega) (by omega) (by omega) (by omega) (by omega) (by omega) (by omega) _).mono ?_
          rintro e w6 ⟨rfl, hk6⟩
          refine kuse (b := w.heap.size) hk6 (by first | (simp; done) | (simp; omega) | omega) ?_
          intro ha6_0 hb6_0
          have hz6_0 : w.heap.size < w6.heap.size := by have := hk6.size; (try simp at this); omega
          refine kuse (b := w3.heap.size) hk6 (by first | (simp; done) | (simp; omega) | omega) ?_
          intro ha6_1 hb6_1
          have hz6_1 : w3.heap.size < w6.heap.size := by have := hk6.size; (try simp at this); omega
          refine kuse (b := w5.heap.size) hk6 (by first | (simp; done) | (simp; omega) | omega) ?_
          intro ha6_2 hb6_2
          have hz6_2 : w5.heap.size < w6.heap.size := by have := hk6.size; (try simp at this); omega
          go_wp2_with fail
          all_goals first | (go_ret; refine ⟨?_, (by repeat (first | with_reducible exact Kept.refl _ | with_reducible assumption | with_reducible refine Kept.setCell ?_ (by first | (simp; done) | (simp; omega) | omega) _ | with_reducible refine Kept.alloc ?_ _ | with_reducible refine Kept.drewN ?_ _ | with_reducible refine Kept.drew ?_ | with_reducible refine Kept.trans ?_ (by with_reducible assumption) | with_reducible refine Kept.dr ?_ (by with_reducible assumption)))⟩; first | rfl | (show Ending.returned (.bool (decide _)) = _; rw [decide_eq_true (by omega)]) | (show Ending.returned (.bool (decide _)) = _; rw [decide_eq_false (by omega)]) | (refine retb ?_; simp; done) | (refine retb ?_; simp; omega)) | (exfalso; omega)
  · have H : Hid (¬ AV e l r b) := Lib.hid hA
    clear hA
    go_enter Try.func8, Try.ntmps8
    go_wp2_with fail
    refine (awake_w _).mono ?_
    rintro e w1 ⟨rfl, hk1⟩
    refine kuse (b := w.heap.size) hk1 (by first | (simp; done) | (simp; omega) | omega) ?_
    intro ha1_0 hb1_0
    have hz1_0 : w.heap.size < w1.heap.size := by have := hk1.size; (try simp at this); omega
    go_wp2_with fail
    refine (end_bad _ _ _ _ _ (by omega) (by omega) (by omega) (by omega) (by omega) (by omega) (by omega) (by omega) (by omega) (by omega) H.out _).mono ?_
    rintro e w2 ⟨rfl, hk2⟩
    refine kuse (b := w.heap.size) hk2 (by first | (simp; done) | (simp; omega) | omega) ?_
    intro ha2_0 hb2_0
    have hz2_0 : w.heap.size < w2.heap.size := by have := hk2.size; (try simp at this); omega
    go_wp2_with fail
    all_goals first | (go_ret; refine ⟨?_, (by repeat (first | with_reducible exact Kept.refl _ | with_reducible assumption | with_reducible refine Kept.setCell ?_ (by first | (simp; done) | (simp; omega) | omega) _ | with_reducible refine Kept.alloc ?_ _ | with_reducible refine Kept.drewN ?_ _ | with_reducible refine Kept.drew ?_ | with_reducible refine Kept.trans ?_ (by with_reducible assumption) | with_reducible refine Kept.dr ?_ (by with_reducible assumption)))⟩; first | rfl | (show Ending.returned (.bool (decide _)) = _; rw [decide_eq_true (by omega)]) | (show Ending.returned (.bool (decide _)) = _; rw [decide_eq_false (by omega)]) | (refine retb ?_; simp; done) | (refine retb ?_; simp; omega)) | (exfalso; omega)
end Go.Proofs.Ytcchhmekmoekeaa
