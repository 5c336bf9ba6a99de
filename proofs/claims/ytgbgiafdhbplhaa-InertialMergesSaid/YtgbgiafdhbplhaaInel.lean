/-
  Own contracts: the laws of layer 45 on merged boxes, and how long a box lasts.
-/
import Derived.Test.YtgbgiafdhbplhaaInez
import Derived.WalkKit
import Derived.ProofKit
import Derived.OpenShut
import Derived.WalkLawsBesides
import Derived.WalkSpells
import Derived.Lib.Hide
import Derived.Deep.DeepCutAuto
import Derived.Deep.CutBlock
import Derived.Deep.QuietTactic
import Derived.BigQuiet
import Derived.Handy
import Derived.StillTailTactics
import Derived.IntWalk
import Derived.LoopN
import Derived.Deep.RegionHeld3
namespace Go.Proofs.Ytgbgiafdhbplhaa
open Go.ChangeShapes Go.WideShapes Go.ChangeAt Go.RowKit
set_option linter.unusedVariables false
set_option linter.unusedSimpArgs false
set_option maxHeartbeats 4000000 in
theorem law_merges (x y u v p q r s : Int) (x_0 : -9223372036854775808 ≤ x) (x_1 : x ≤ 9223372036854775807) (y_0 : -9223372036854775808 ≤ y) (y_1 : y ≤ 9223372036854775807) (u_0 : -9223372036854775808 ≤ u) (u_1 : u ≤ 9223372036854775807) (v_0 : -9223372036854775808 ≤ v) (v_1 : v ≤ 9223372036854775807) (p_0 : -9223372036854775808 ≤ p) (p_1 : p ≤ 9223372036854775807) (q_0 : -9223372036854775808 ≤ q) (q_1 : q ≤ 9223372036854775807) (r_0 : -9223372036854775808 ≤ r) (r_1 : r ≤ 9223372036854775807) (s_0 : -9223372036854775808 ≤ s) (s_1 : s ≤ 9223372036854775807) (w : World) : Calls Try.prog 6 #[.agg #[.int .i64 x, .int .i64 y, .int .i64 u, .int .i64 v], .agg #[.int .i64 p, .int .i64 q, .int .i64 r, .int .i64 s]] w fun en w' => en = .returned (.bool true) ∧ Kept w w' := by
  by_cases badx : x < -2000000 ∨ 2000000 < x ∨ y < -2000000 ∨ 2000000 < y ∨ u < 0 ∨ 2000000 < u ∨ v < 0 ∨ 2000000 < v
  · go_enter Try.func6, Try.ntmps6
    go_wp2_with fail
    refine (awake_w _).mono ?_
    rintro e w1 ⟨rfl, hk1⟩
    refine kuse (b := w.heap.size) hk1 (by first | (simp; done) | (simp; omega) | omega) ?_
    intro ha1_0 hb1_0
    have hz1_0 : w.heap.size < w1.heap.size := by have := hk1.size; (try simp at this); omega
    refine kuse (b := w.heap.size + 1) hk1 (by first | (simp; done) | (simp; omega) | omega) ?_
    intro ha1_1 hb1_1
    have hz1_1 : w.heap.size + 1 < w1.heap.size := by have := hk1.size; (try simp at this); omega
    go_wp2_with fail
    refine (merge_a1 _ _ _ _ _ _ _ _ (by omega) _).mono ?_
    rintro e w2 ⟨rfl, hk2⟩
    refine kuse (b := w.heap.size) hk2 (by first | (simp; done) | (simp; omega) | omega) ?_
    intro ha2_0 hb2_0
    have hz2_0 : w.heap.size < w2.heap.size := by have := hk2.size; (try simp at this); omega
    refine kuse (b := w.heap.size + 1) hk2 (by first | (simp; done) | (simp; omega) | omega) ?_
    intro ha2_1 hb2_1
    have hz2_1 : w.heap.size + 1 < w2.heap.size := by have := hk2.size; (try simp at this); omega
    go_wp2_with fail
    refine (ref_merge_a1 _ _ _ _ _ _ _ _ (by omega) _).mono ?_
    rintro e w3 ⟨rfl, hk3⟩
    refine kuse (b := w.heap.size) hk3 (by first | (simp; done) | (simp; omega) | omega) ?_
    intro ha3_0 hb3_0
    have hz3_0 : w.heap.size < w3.heap.size := by have := hk3.size; (try simp at this); omega
    refine kuse (b := w.heap.size + 1) hk3 (by first | (simp; done) | (simp; omega) | omega) ?_
    intro ha3_1 hb3_1
    have hz3_1 : w.heap.size + 1 < w3.heap.size := by have := hk3.size; (try simp at this); omega
    refine kuse (b := w2.heap.size) hk3 (by first | (simp; done) | (simp; omega) | omega) ?_
    intro ha3_2 hb3_2
    have hz3_2 : w2.heap.size < w3.heap.size := by have := hk3.size; (try simp at this); omega
    go_wp2_with fail
    all_goals first | (go_ret; refine ⟨?_, (by repeat (first | with_reducible exact Kept.refl _ | with_reducible assumption | with_reducible refine Kept.setCell ?_ (by first | (simp; done) | (simp; omega) | omega) _ | with_reducible refine Kept.alloc ?_ _ | with_reducible refine Kept.drewN ?_ _ | with_reducible refine Kept.drew ?_ | with_reducible refine Kept.trans ?_ (by with_reducible assumption) | with_reducible refine Kept.dr ?_ (by with_reducible assumption)))⟩; first | rfl | (show Ending.returned (.bool (decide _)) = _; rw [decide_eq_true (by omega)]) | (show Ending.returned (.bool (decide _)) = _; rw [decide_eq_false (by omega)]) | (refine retb ?_; simp; done) | (refine retb ?_; simp; omega)) | (exfalso; omega)
  · have g0 : -2000000 ≤ x := by omega
    have g1 : x ≤ 2000000 := by omega
    have g2 : -2000000 ≤ y := by omega
    have g3 : y ≤ 2000000 := by omega
    have g4 : 0 ≤ u := by omega
    have g5 : u ≤ 2000000 := by omega
    have g6 : 0 ≤ v := by omega
    have g7 : v ≤ 2000000 := by omega
    clear badx
    by_cases badp : p < -2000000 ∨ 2000000 < p ∨ q < -2000000 ∨ 2000000 < q ∨ r < 0 ∨ 2000000 < r ∨ s < 0 ∨ 2000000 < s
    · go_enter Try.func6, Try.ntmps6
      go_wp2_with fail
      refine (awake_w _).mono ?_
      rintro e w1 ⟨rfl, hk1⟩
      refine kuse (b := w.heap.size) hk1 (by first | (simp; done) | (simp; omega) | omega) ?_
      intro ha1_0 hb1_0
      have hz1_0 : w.heap.size < w1.heap.size := by have := hk1.size; (try simp at this); omega
      refine kuse (b := w.heap.size + 1) hk1 (by first | (simp; done) | (simp; omega) | omega) ?_
      intro ha1_1 hb1_1
      have hz1_1 : w.heap.size + 1 < w1.heap.size := by have := hk1.size; (try simp at this); omega
      go_wp2_with fail
      refine (merge_a2 _ _ _ _ _ _ _ _ (by omega) (by omega) (by omega) (by omega) (by omega) (by omega) (by omega) (by omega) (by omega) _).mono ?_
      rintro e w2 ⟨rfl, hk2⟩
      refine kuse (b := w.heap.size) hk2 (by first | (simp; done) | (simp; omega) | omega) ?_
      intro ha2_0 hb2_0
      have hz2_0 : w.heap.size < w2.heap.size := by have := hk2.size; (try simp at this); omega
      refine kuse (b := w.heap.size + 1) hk2 (by first | (simp; done) | (simp; omega) | omega) ?_
      intro ha2_1 hb2_1
      have hz2_1 : w.heap.size + 1 < w2.heap.size := by have := hk2.size; (try simp at this); omega
      go_wp2_with fail
      refine (ref_merge_a2 _ _ _ _ _ _ _ _ (by omega) (by omega) (by omega) (by omega) (by omega) (by omega) (by omega) (by omega) (by omega) _).mono ?_
      rintro e w3 ⟨rfl, hk3⟩
      refine kuse (b := w.heap.size) hk3 (by first | (simp; done) | (simp; omega) | omega) ?_
      intro ha3_0 hb3_0
      have hz3_0 : w.heap.size < w3.heap.size := by have := hk3.size; (try simp at this); omega
      refine kuse (b := w.heap.size + 1) hk3 (by first | (simp; done) | (simp; omega) | omega) ?_
      intro ha3_1 hb3_1
      have hz3_1 : w.heap.size + 1 < w3.heap.size := by have := hk3.size; (try simp at this); omega
      refine kuse (b := w2.heap.size) hk3 (by first | (simp; done) | (simp; omega) | omega) ?_
      intro ha3_2 hb3_2
      have hz3_2 : w2.heap.size < w3.heap.size := by have := hk3.size; (try simp at this); omega
      go_wp2_with fail
      all_goals first | (go_ret; refine ⟨?_, (by repeat (first | with_reducible exact Kept.refl _ | with_reducible assumption | with_reducible refine Kept.setCell ?_ (by first | (simp; done) | (simp; omega) | omega) _ | with_reducible refine Kept.alloc ?_ _ | with_reducible refine Kept.drewN ?_ _ | with_reducible refine Kept.drew ?_ | with_reducible refine Kept.trans ?_ (by with_reducible assumption) | with_reducible refine Kept.dr ?_ (by with_reducible assumption)))⟩; first | rfl | (show Ending.returned (.bool (decide _)) = _; rw [decide_eq_true (by omega)]) | (show Ending.returned (.bool (decide _)) = _; rw [decide_eq_false (by omega)]) | (refine retb ?_; simp; done) | (refine retb ?_; simp; omega)) | (exfalso; omega)
    · have i0 : -2000000 ≤ p := by omega
      have i1 : p ≤ 2000000 := by omega
      have i2 : -2000000 ≤ q := by omega
      have i3 : q ≤ 2000000 := by omega
      have i4 : 0 ≤ r := by omega
      have i5 : r ≤ 2000000 := by omega
      have i6 : 0 ≤ s := by omega
      have i7 : s ≤ 2000000 := by omega
      clear badp
      by_cases kx : min (x + u) (p + r) < max (x - u) (p - r)
      · by_cases ky : min (y + v) (q + s) < max (y - v) (q - s)
        · go_enter Try.func6, Try.ntmps6
          go_wp2_with fail
          refine (awake_w _).mono ?_
          rintro e w1 ⟨rfl, hk1⟩
          refine kuse (b := w.heap.size) hk1 (by first | (simp; done) | (simp; omega) | omega) ?_
          intro ha1_0 hb1_0
          have hz1_0 : w.heap.size < w1.heap.size := by have := hk1.size; (try simp at this); omega
          refine kuse (b := w.heap.size + 1) hk1 (by first | (simp; done) | (simp; omega) | omega) ?_
          intro ha1_1 hb1_1
          have hz1_1 : w.heap.size + 1 < w1.heap.size := by have := hk1.size; (try simp at this); omega
          go_wp2_with fail
          refine (merge_cx1 _ _ _ _ _ _ _ _ (by omega) (by omega) (by omega) (by omega) (by omega) (by omega) (by omega) (by omega) (by omega) (by omega) (by omega) (by omega) (by omega) (by omega) (by omega) (by omega) (by omega) (by omega) _).mono ?_
          rintro e w2 ⟨rfl, hk2⟩
          refine kuse (b := w.heap.size) hk2 (by first | (simp; done) | (simp; omega) | omega) ?_
          intro ha2_0 hb2_0
          have hz2_0 : w.heap.size < w2.heap.size := by have := hk2.size; (try simp at this); omega
          refine kuse (b := w.heap.size + 1) hk2 (by first | (simp; done) | (simp; omega) | omega) ?_
          intro ha2_1 hb2_1
          have hz2_1 : w.heap.size + 1 < w2.heap.size := by have := hk2.size; (try simp at this); omega
          go_wp2_with fail
          refine (ref_merge_cx1 _ _ _ _ _ _ _ _ (by omega) (by omega) (by omega) (by omega) (by omega) (by omega) (by omega) (by omega) (by omega) (by omega) (by omega) (by omega) (by omega) (by omega) (by omega) (by omega) (by omega) (by omega) _).mono ?_
          rintro e w3 ⟨rfl, hk3⟩
          refine kuse (b := w.heap.size) hk3 (by first | (simp; done) | (simp; omega) | omega) ?_
          intro ha3_0 hb3_0
          have hz3_0 : w.heap.size < w3.heap.size := by have := hk3.size; (try simp at this); omega
          refine kuse (b := w.heap.size + 1) hk3 (by first | (simp; done) | (simp; omega) | omega) ?_
          intro ha3_1 hb3_1
          have hz3_1 : w.heap.size + 1 < w3.heap.size := by have := hk3.size; (try simp at this); omega
          refine kuse (b := w2.heap.size) hk3 (by first | (simp; done) | (simp; omega) | omega) ?_
          intro ha3_2 hb3_2
          have hz3_2 : w2.heap.size < w3.heap.size := by have := hk3.size; (try simp at this); omega
          go_wp2_with fail
          all_goals first | (go_ret; refine ⟨?_, (by repeat (first | with_reducible exact Kept.refl _ | with_reducible assumption | with_reducible refine Kept.setCell ?_ (by first | (simp; done) | (simp; omega) | omega) _ | with_reducible refine Kept.alloc ?_ _ | with_reducible refine Kept.drewN ?_ _ | with_reducible refine Kept.drew ?_ | with_reducible refine Kept.trans ?_ (by with_reducible assumption) | with_reducible refine Kept.dr ?_ (by with_reducible assumption)))⟩; first | rfl | (show Ending.returned (.bool (decide _)) = _; rw [decide_eq_true (by omega)]) | (show Ending.returned (.bool (decide _)) = _; rw [decide_eq_false (by omega)]) | (refine retb ?_; simp; done) | (refine retb ?_; simp; omega)) | (exfalso; omega)
        · go_enter Try.func6, Try.ntmps6
          go_wp2_with fail
          refine (awake_w _).mono ?_
          rintro e w1 ⟨rfl, hk1⟩
          refine kuse (b := w.heap.size) hk1 (by first | (simp; done) | (simp; omega) | omega) ?_
          intro ha1_0 hb1_0
          have hz1_0 : w.heap.size < w1.heap.size := by have := hk1.size; (try simp at this); omega
          refine kuse (b := w.heap.size + 1) hk1 (by first | (simp; done) | (simp; omega) | omega) ?_
          intro ha1_1 hb1_1
          have hz1_1 : w.heap.size + 1 < w1.heap.size := by have := hk1.size; (try simp at this); omega
          go_wp2_with fail
          refine (merge_cx0 _ _ _ _ _ _ _ _ (by omega) (by omega) (by omega) (by omega) (by omega) (by omega) (by omega) (by omega) (by omega) (by omega) (by omega) (by omega) (by omega) (by omega) (by omega) (by omega) (by omega) (by omega) _).mono ?_
          rintro e w2 ⟨rfl, hk2⟩
          refine kuse (b := w.heap.size) hk2 (by first | (simp; done) | (simp; omega) | omega) ?_
          intro ha2_0 hb2_0
          have hz2_0 : w.heap.size < w2.heap.size := by have := hk2.size; (try simp at this); omega
          refine kuse (b := w.heap.size + 1) hk2 (by first | (simp; done) | (simp; omega) | omega) ?_
          intro ha2_1 hb2_1
          have hz2_1 : w.heap.size + 1 < w2.heap.size := by have := hk2.size; (try simp at this); omega
          go_wp2_with fail
          refine (ref_merge_cx0 _ _ _ _ _ _ _ _ (by omega) (by omega) (by omega) (by omega) (by omega) (by omega) (by omega) (by omega) (by omega) (by omega) (by omega) (by omega) (by omega) (by omega) (by omega) (by omega) (by omega) (by omega) _).mono ?_
          rintro e w3 ⟨rfl, hk3⟩
          refine kuse (b := w.heap.size) hk3 (by first | (simp; done) | (simp; omega) | omega) ?_
          intro ha3_0 hb3_0
          have hz3_0 : w.heap.size < w3.heap.size := by have := hk3.size; (try simp at this); omega
          refine kuse (b := w.heap.size + 1) hk3 (by first | (simp; done) | (simp; omega) | omega) ?_
          intro ha3_1 hb3_1
          have hz3_1 : w.heap.size + 1 < w3.heap.size := by have := hk3.size; (try simp at this); omega
          refine kuse (b := w2.heap.size) hk3 (by first | (simp; done) | (simp; omega) | omega) ?_
          intro ha3_2 hb3_2
          have hz3_2 : w2.heap.size < w3.heap.size := by have := hk3.size; (try simp at this); omega
          go_wp2_with fail
          all_goals first | (go_ret; refine ⟨?_, (by repeat (first | with_reducible exact Kept.refl _ | with_reducible assumption | with_reducible refine Kept.setCell ?_ (by first | (simp; done) | (simp; omega) | omega) _ | with_reducible refine Kept.alloc ?_ _ | with_reducible refine Kept.drewN ?_ _ | with_reducible refine Kept.drew ?_ | with_reducible refine Kept.trans ?_ (by with_reducible assumption) | with_reducible refine Kept.dr ?_ (by with_reducible assumption)))⟩; first | rfl | (show Ending.returned (.bool (decide _)) = _; rw [decide_eq_true (by omega)]) | (show Ending.returned (.bool (decide _)) = _; rw [decide_eq_false (by omega)]) | (refine retb ?_; simp; done) | (refine retb ?_; simp; omega)) | (exfalso; omega)
      · by_cases ky : min (y + v) (q + s) < max (y - v) (q - s)
        · go_enter Try.func6, Try.ntmps6
          go_wp2_with fail
          refine (awake_w _).mono ?_
          rintro e w1 ⟨rfl, hk1⟩
          refine kuse (b := w.heap.size) hk1 (by first | (simp; done) | (simp; omega) | omega) ?_
          intro ha1_0 hb1_0
          have hz1_0 : w.heap.size < w1.heap.size := by have := hk1.size; (try simp at this); omega
          refine kuse (b := w.heap.size + 1) hk1 (by first | (simp; done) | (simp; omega) | omega) ?_
          intro ha1_1 hb1_1
          have hz1_1 : w.heap.size + 1 < w1.heap.size := by have := hk1.size; (try simp at this); omega
          go_wp2_with fail
          refine (merge_cy0 _ _ _ _ _ _ _ _ (by omega) (by omega) (by omega) (by omega) (by omega) (by omega) (by omega) (by omega) (by omega) (by omega) (by omega) (by omega) (by omega) (by omega) (by omega) (by omega) (by omega) (by omega) _).mono ?_
          rintro e w2 ⟨rfl, hk2⟩
          refine kuse (b := w.heap.size) hk2 (by first | (simp; done) | (simp; omega) | omega) ?_
          intro ha2_0 hb2_0
          have hz2_0 : w.heap.size < w2.heap.size := by have := hk2.size; (try simp at this); omega
          refine kuse (b := w.heap.size + 1) hk2 (by first | (simp; done) | (simp; omega) | omega) ?_
          intro ha2_1 hb2_1
          have hz2_1 : w.heap.size + 1 < w2.heap.size := by have := hk2.size; (try simp at this); omega
          go_wp2_with fail
          refine (ref_merge_cy0 _ _ _ _ _ _ _ _ (by omega) (by omega) (by omega) (by omega) (by omega) (by omega) (by omega) (by omega) (by omega) (by omega) (by omega) (by omega) (by omega) (by omega) (by omega) (by omega) (by omega) (by omega) _).mono ?_
          rintro e w3 ⟨rfl, hk3⟩
          refine kuse (b := w.heap.size) hk3 (by first | (simp; done) | (simp; omega) | omega) ?_
          intro ha3_0 hb3_0
          have hz3_0 : w.heap.size < w3.heap.size := by have := hk3.size; (try simp at this); omega
          refine kuse (b := w.heap.size + 1) hk3 (by first | (simp; done) | (simp; omega) | omega) ?_
          intro ha3_1 hb3_1
          have hz3_1 : w.heap.size + 1 < w3.heap.size := by have := hk3.size; (try simp at this); omega
          refine kuse (b := w2.heap.size) hk3 (by first | (simp; done) | (simp; omega) | omega) ?_
          intro ha3_2 hb3_2
          have hz3_2 : w2.heap.size < w3.heap.size := by have := hk3.size; (try simp at this); omega
          go_wp2_with fail
          all_goals first | (go_ret; refine ⟨?_, (by repeat (first | with_reducible exact Kept.refl _ | with_reducible assumption | with_reducible refine Kept.setCell ?_ (by first | (simp; done) | (simp; omega) | omega) _ | with_reducible refine Kept.alloc ?_ _ | with_reducible refine Kept.drewN ?_ _ | with_reducible refine Kept.drew ?_ | with_reducible refine Kept.trans ?_ (by with_reducible assumption) | with_reducible refine Kept.dr ?_ (by with_reducible assumption)))⟩; first | rfl | (show Ending.returned (.bool (decide _)) = _; rw [decide_eq_true (by omega)]) | (show Ending.returned (.bool (decide _)) = _; rw [decide_eq_false (by omega)]) | (refine retb ?_; simp; done) | (refine retb ?_; simp; omega)) | (exfalso; omega)
        · go_enter Try.func6, Try.ntmps6
          go_wp2_with fail
          refine (awake_w _).mono ?_
          rintro e w1 ⟨rfl, hk1⟩
          refine kuse (b := w.heap.size) hk1 (by first | (simp; done) | (simp; omega) | omega) ?_
          intro ha1_0 hb1_0
          have hz1_0 : w.heap.size < w1.heap.size := by have := hk1.size; (try simp at this); omega
          refine kuse (b := w.heap.size + 1) hk1 (by first | (simp; done) | (simp; omega) | omega) ?_
          intro ha1_1 hb1_1
          have hz1_1 : w.heap.size + 1 < w1.heap.size := by have := hk1.size; (try simp at this); omega
          go_wp2_with fail
          refine (merge_ok _ _ _ _ _ _ _ _ (by omega) (by omega) (by omega) (by omega) (by omega) (by omega) (by omega) (by omega) (by omega) (by omega) (by omega) (by omega) (by omega) (by omega) (by omega) (by omega) (by omega) (by omega) _).mono ?_
          rintro e w2 ⟨rfl, hk2⟩
          refine kuse (b := w.heap.size) hk2 (by first | (simp; done) | (simp; omega) | omega) ?_
          intro ha2_0 hb2_0
          have hz2_0 : w.heap.size < w2.heap.size := by have := hk2.size; (try simp at this); omega
          refine kuse (b := w.heap.size + 1) hk2 (by first | (simp; done) | (simp; omega) | omega) ?_
          intro ha2_1 hb2_1
          have hz2_1 : w.heap.size + 1 < w2.heap.size := by have := hk2.size; (try simp at this); omega
          go_wp2_with fail
          refine (ref_merge_ok _ _ _ _ _ _ _ _ (by omega) (by omega) (by omega) (by omega) (by omega) (by omega) (by omega) (by omega) (by omega) (by omega) (by omega) (by omega) (by omega) (by omega) (by omega) (by omega) (by omega) (by omega) _).mono ?_
          rintro e w3 ⟨rfl, hk3⟩
          refine kuse (b := w.heap.size) hk3 (by first | (simp; done) | (simp; omega) | omega) ?_
          intro ha3_0 hb3_0
          have hz3_0 : w.heap.size < w3.heap.size := by have := hk3.size; (try simp at this); omega
          refine kuse (b := w.heap.size + 1) hk3 (by first | (simp; done) | (simp; omega) | omega) ?_
          intro ha3_1 hb3_1
          have hz3_1 : w.heap.size + 1 < w3.heap.size := by have := hk3.size; (try simp at this); omega
          refine kuse (b := w2.heap.size) hk3 (by first | (simp; done) | (simp; omega) | omega) ?_
          intro ha3_2 hb3_2
          have hz3_2 : w2.heap.size < w3.heap.size := by have := hk3.size; (try simp at this); omega
          go_wp2_with fail
          all_goals first | (go_ret; refine ⟨?_, (by repeat (first | with_reducible exact Kept.refl _ | with_reducible assumption | with_reducible refine Kept.setCell ?_ (by first | (simp; done) | (simp; omega) | omega) _ | with_reducible refine Kept.alloc ?_ _ | with_reducible refine Kept.drewN ?_ _ | with_reducible refine Kept.drew ?_ | with_reducible refine Kept.trans ?_ (by with_reducible assumption) | with_reducible refine Kept.dr ?_ (by with_reducible assumption)))⟩; first | rfl | (show Ending.returned (.bool (decide _)) = _; rw [decide_eq_true (by omega)]) | (show Ending.returned (.bool (decide _)) = _; rw [decide_eq_false (by omega)]) | (refine retb ?_; simp; done) | (refine retb ?_; simp; omega)) | (exfalso; omega)
set_option maxHeartbeats 4000000 in
theorem law_lasts (x y u v d l : Int) (x_0 : -9223372036854775808 ≤ x) (x_1 : x ≤ 9223372036854775807) (y_0 : -9223372036854775808 ≤ y) (y_1 : y ≤ 9223372036854775807) (u_0 : -9223372036854775808 ≤ u) (u_1 : u ≤ 9223372036854775807) (v_0 : -9223372036854775808 ≤ v) (v_1 : v ≤ 9223372036854775807) (d_0 : -9223372036854775808 ≤ d) (d_1 : d ≤ 9223372036854775807) (l_0 : -9223372036854775808 ≤ l) (l_1 : l ≤ 9223372036854775807) (w : World) : Calls Try.prog 9 #[.agg #[.int .i64 x, .int .i64 y, .int .i64 u, .int .i64 v], .int .i64 d, .int .i64 l] w fun en w' => en = .returned (.bool true) ∧ Kept w w' := by
  by_cases badx : x < -2000000 ∨ 2000000 < x ∨ y < -2000000 ∨ 2000000 < y ∨ u < 0 ∨ 2000000 < u ∨ v < 0 ∨ 2000000 < v
  · go_enter Try.func9, Try.ntmps9
    go_wp2_with fail
    refine (awake_w _).mono ?_
    rintro e w1 ⟨rfl, hk1⟩
    refine kuse (b := w.heap.size) hk1 (by first | (simp; done) | (simp; omega) | omega) ?_
    intro ha1_0 hb1_0
    have hz1_0 : w.heap.size < w1.heap.size := by have := hk1.size; (try simp at this); omega
    go_wp2_with fail
    refine (reach_arg _ _ _ _ _ _ (by omega) (by omega) (by omega) (by omega) (by omega) (by omega) (by omega) (by omega) (by omega) (by omega) (by omega) (by omega) (by omega) _).mono ?_
    rintro e w2 ⟨rfl, hk2⟩
    refine kuse (b := w.heap.size) hk2 (by first | (simp; done) | (simp; omega) | omega) ?_
    intro ha2_0 hb2_0
    have hz2_0 : w.heap.size < w2.heap.size := by have := hk2.size; (try simp at this); omega
    go_wp2_with fail
    all_goals first | (go_ret; refine ⟨?_, (by repeat (first | with_reducible exact Kept.refl _ | with_reducible assumption | with_reducible refine Kept.setCell ?_ (by first | (simp; done) | (simp; omega) | omega) _ | with_reducible refine Kept.alloc ?_ _ | with_reducible refine Kept.drewN ?_ _ | with_reducible refine Kept.drew ?_ | with_reducible refine Kept.trans ?_ (by with_reducible assumption) | with_reducible refine Kept.dr ?_ (by with_reducible assumption)))⟩; first | rfl | (show Ending.returned (.bool (decide _)) = _; rw [decide_eq_true (by omega)]) | (show Ending.returned (.bool (decide _)) = _; rw [decide_eq_false (by omega)]) | (refine retb ?_; simp; done) | (refine retb ?_; simp; omega)) | (exfalso; omega)
  · have g0 : -2000000 ≤ x := by omega
    have g1 : x ≤ 2000000 := by omega
    have g2 : -2000000 ≤ y := by omega
    have g3 : y ≤ 2000000 := by omega
    have g4 : 0 ≤ u := by omega
    have g5 : u ≤ 2000000 := by omega
    have g6 : 0 ≤ v := by omega
    have g7 : v ≤ 2000000 := by omega
    clear badx
    by_cases rx : d < 1 ∨ 1000 < d ∨ l < 0 ∨ 2000000 < l
    · go_enter Try.func9, Try.ntmps9
      go_wp2_with fail
      refine (awake_w _).mono ?_
      rintro e w1 ⟨rfl, hk1⟩
      refine kuse (b := w.heap.size) hk1 (by first | (simp; done) | (simp; omega) | omega) ?_
      intro ha1_0 hb1_0
      have hz1_0 : w.heap.size < w1.heap.size := by have := hk1.size; (try simp at this); omega
      go_wp2_with fail
      refine (reach_rng _ _ _ _ _ _ (by omega) (by omega) (by omega) (by omega) (by omega) (by omega) (by omega) (by omega) (by omega) (by omega) (by omega) (by omega) (by omega) _).mono ?_
      rintro e w2 ⟨rfl, hk2⟩
      refine kuse (b := w.heap.size) hk2 (by first | (simp; done) | (simp; omega) | omega) ?_
      intro ha2_0 hb2_0
      have hz2_0 : w.heap.size < w2.heap.size := by have := hk2.size; (try simp at this); omega
      go_wp2_with fail
      all_goals first | (go_ret; refine ⟨?_, (by repeat (first | with_reducible exact Kept.refl _ | with_reducible assumption | with_reducible refine Kept.setCell ?_ (by first | (simp; done) | (simp; omega) | omega) _ | with_reducible refine Kept.alloc ?_ _ | with_reducible refine Kept.drewN ?_ _ | with_reducible refine Kept.drew ?_ | with_reducible refine Kept.trans ?_ (by with_reducible assumption) | with_reducible refine Kept.dr ?_ (by with_reducible assumption)))⟩; first | rfl | (show Ending.returned (.bool (decide _)) = _; rw [decide_eq_true (by omega)]) | (show Ending.returned (.bool (decide _)) = _; rw [decide_eq_false (by omega)]) | (refine retb ?_; simp; done) | (refine retb ?_; simp; omega)) | (exfalso; omega)
    · by_cases non : l < u ∨ l < v
      · go_enter Try.func9, Try.ntmps9
        go_wp2_with fail
        refine (awake_w _).mono ?_
        rintro e w1 ⟨rfl, hk1⟩
        refine kuse (b := w.heap.size) hk1 (by first | (simp; done) | (simp; omega) | omega) ?_
        intro ha1_0 hb1_0
        have hz1_0 : w.heap.size < w1.heap.size := by have := hk1.size; (try simp at this); omega
        go_wp2_with fail
        refine (reach_none _ _ _ _ _ _ (by omega) (by omega) (by omega) (by omega) (by omega) (by omega) (by omega) (by omega) (by omega) (by omega) (by omega) (by omega) (by omega) _).mono ?_
        rintro e w2 ⟨rfl, hk2⟩
        refine kuse (b := w.heap.size) hk2 (by first | (simp; done) | (simp; omega) | omega) ?_
        intro ha2_0 hb2_0
        have hz2_0 : w.heap.size < w2.heap.size := by have := hk2.size; (try simp at this); omega
        go_wp2_with fail
        all_goals first | (go_ret; refine ⟨?_, (by repeat (first | with_reducible exact Kept.refl _ | with_reducible assumption | with_reducible refine Kept.setCell ?_ (by first | (simp; done) | (simp; omega) | omega) _ | with_reducible refine Kept.alloc ?_ _ | with_reducible refine Kept.drewN ?_ _ | with_reducible refine Kept.drew ?_ | with_reducible refine Kept.trans ?_ (by with_reducible assumption) | with_reducible refine Kept.dr ?_ (by with_reducible assumption)))⟩; first | rfl | (show Ending.returned (.bool (decide _)) = _; rw [decide_eq_true (by omega)]) | (show Ending.returned (.bool (decide _)) = _; rw [decide_eq_false (by omega)]) | (refine retb ?_; simp; done) | (refine retb ?_; simp; omega)) | (exfalso; omega)
      · have nn1 : u ≤ l := by omega
        have nn2 : v ≤ l := by omega
        clear non
        by_cases mx : u < v
        · obtain ⟨n, hn⟩ : ∃ n, (l - v) / d = n := ⟨_, rfl⟩
          have n0 : 0 ≤ n := by rw [← hn]; exact Int.ediv_nonneg (by omega) (by omega)
          have n1 : d * n ≤ l - v := by rw [← hn]; exact Int.mul_ediv_self_le (by omega)
          have n2 : l - v < d * (n + 1) := by rw [← hn]; have := Int.lt_mul_ediv_self_add (x := l - v) (k := d) (by omega); rw [Int.mul_add]; omega
          have n3 : n ≤ 2000000 := by
            have : 1 * n ≤ d * n := Int.mul_le_mul_of_nonneg_right (by omega) n0
            omega
          have n4 : 0 ≤ d * n := Int.mul_nonneg (by omega) n0
          have n7 : 0 ≤ d * (n + 1) := Int.mul_nonneg (by omega) (by omega)
          have n8 : d * (n + 1) ≤ 2001000 := by rw [Int.mul_add]; omega
          by_cases far : 144000 ≤ n
          · go_enter Try.func9, Try.ntmps9
            go_wp2_with fail
            refine (awake_w _).mono ?_
            rintro e w1 ⟨rfl, hk1⟩
            refine kuse (b := w.heap.size) hk1 (by first | (simp; done) | (simp; omega) | omega) ?_
            intro ha1_0 hb1_0
            have hz1_0 : w.heap.size < w1.heap.size := by have := hk1.size; (try simp at this); omega
            go_wp2_with fail
            refine (reach_ok1 x y u v d l (by omega) (by omega) (by omega) (by omega) (by omega) (by omega) (by omega) (by omega) (by omega) (by omega) (by omega) (by omega) (by omega) (by omega) _).mono ?_
            rw [hn]
            rintro e w2 ⟨rfl, hk2⟩
            refine kuse (b := w.heap.size) hk2 (by first | (simp; done) | (simp; omega) | omega) ?_
            intro ha2_0 hb2_0
            have hz2_0 : w.heap.size < w2.heap.size := by have := hk2.size; (try simp at this); omega
            go_wp2_with fail
            all_goals first | (go_ret; refine ⟨?_, (by repeat (first | with_reducible exact Kept.refl _ | with_reducible assumption | with_reducible refine Kept.setCell ?_ (by first | (simp; done) | (simp; omega) | omega) _ | with_reducible refine Kept.alloc ?_ _ | with_reducible refine Kept.drewN ?_ _ | with_reducible refine Kept.drew ?_ | with_reducible refine Kept.trans ?_ (by with_reducible assumption) | with_reducible refine Kept.dr ?_ (by with_reducible assumption)))⟩; first | rfl | (show Ending.returned (.bool (decide _)) = _; rw [decide_eq_true (by omega)]) | (show Ending.returned (.bool (decide _)) = _; rw [decide_eq_false (by omega)]) | (refine retb ?_; simp; done) | (refine retb ?_; simp; omega)) | (exfalso; omega)
          · by_cases big : 2000000 < u + d * (n + 1) ∨ 2000000 < v + d * (n + 1)
            · go_enter Try.func9, Try.ntmps9
              go_wp2_with fail
              refine (awake_w _).mono ?_
              rintro e w1 ⟨rfl, hk1⟩
              refine kuse (b := w.heap.size) hk1 (by first | (simp; done) | (simp; omega) | omega) ?_
              intro ha1_0 hb1_0
              have hz1_0 : w.heap.size < w1.heap.size := by have := hk1.size; (try simp at this); omega
              go_wp2_with fail
              refine (reach_ok1 x y u v d l (by omega) (by omega) (by omega) (by omega) (by omega) (by omega) (by omega) (by omega) (by omega) (by omega) (by omega) (by omega) (by omega) (by omega) _).mono ?_
              rw [hn]
              rintro e w2 ⟨rfl, hk2⟩
              refine kuse (b := w.heap.size) hk2 (by first | (simp; done) | (simp; omega) | omega) ?_
              intro ha2_0 hb2_0
              have hz2_0 : w.heap.size < w2.heap.size := by have := hk2.size; (try simp at this); omega
              go_wp2_with fail
              refine (coast_ok x y u v 0 0 d n (by omega) (by omega) (by omega) (by omega) (by omega) (by omega) (by omega) (by omega) (by omega) (by omega) (by omega) (by omega) (by omega) (by omega) (by omega) (by omega) (by omega) (by omega) (by omega) (by omega) (by omega) (by omega) _).mono ?_
              rintro e w3 ⟨rfl, hk3⟩
              refine kuse (b := w.heap.size) hk3 (by first | (simp; done) | (simp; omega) | omega) ?_
              intro ha3_0 hb3_0
              have hz3_0 : w.heap.size < w3.heap.size := by have := hk3.size; (try simp at this); omega
              go_wp2_with fail
              refine (coast_out x y u v 0 0 d (n + 1) (by omega) (by omega) (by omega) (by omega) (by omega) (by omega) (by omega) (by omega) (by omega) (by omega) (by omega) (by omega) (by omega) (by omega) (by omega) (by omega) (by omega) _).mono ?_
              rintro e w4 ⟨rfl, hk4⟩
              refine kuse (b := w.heap.size) hk4 (by first | (simp; done) | (simp; omega) | omega) ?_
              intro ha4_0 hb4_0
              have hz4_0 : w.heap.size < w4.heap.size := by have := hk4.size; (try simp at this); omega
              refine kuse (b := w3.heap.size) hk4 (by first | (simp; done) | (simp; omega) | omega) ?_
              intro ha4_1 hb4_1
              have hz4_1 : w3.heap.size < w4.heap.size := by have := hk4.size; (try simp at this); omega
              go_wp2_with fail
              refine (win_yes x y (u + d * n) (v + d * n) l (by omega) (by omega) (by omega) (by omega) (by omega) (by omega) (by omega) (by omega) (by omega) (by omega) _).mono ?_
              rintro e w5 ⟨rfl, hk5⟩
              refine kuse (b := w.heap.size) hk5 (by first | (simp; done) | (simp; omega) | omega) ?_
              intro ha5_0 hb5_0
              have hz5_0 : w.heap.size < w5.heap.size := by have := hk5.size; (try simp at this); omega
              refine kuse (b := w3.heap.size) hk5 (by first | (simp; done) | (simp; omega) | omega) ?_
              intro ha5_1 hb5_1
              have hz5_1 : w3.heap.size < w5.heap.size := by have := hk5.size; (try simp at this); omega
              refine kuse (b := w4.heap.size) hk5 (by first | (simp; done) | (simp; omega) | omega) ?_
              intro ha5_2 hb5_2
              have hz5_2 : w4.heap.size < w5.heap.size := by have := hk5.size; (try simp at this); omega
              go_wp2_with fail
              all_goals first | (go_ret; refine ⟨?_, (by repeat (first | with_reducible exact Kept.refl _ | with_reducible assumption | with_reducible refine Kept.setCell ?_ (by first | (simp; done) | (simp; omega) | omega) _ | with_reducible refine Kept.alloc ?_ _ | with_reducible refine Kept.drewN ?_ _ | with_reducible refine Kept.drew ?_ | with_reducible refine Kept.trans ?_ (by with_reducible assumption) | with_reducible refine Kept.dr ?_ (by with_reducible assumption)))⟩; first | rfl | (show Ending.returned (.bool (decide _)) = _; rw [decide_eq_true (by omega)]) | (show Ending.returned (.bool (decide _)) = _; rw [decide_eq_false (by omega)]) | (refine retb ?_; simp; done) | (refine retb ?_; simp; omega)) | (exfalso; omega)
            · go_enter Try.func9, Try.ntmps9
              go_wp2_with fail
              refine (awake_w _).mono ?_
              rintro e w1 ⟨rfl, hk1⟩
              refine kuse (b := w.heap.size) hk1 (by first | (simp; done) | (simp; omega) | omega) ?_
              intro ha1_0 hb1_0
              have hz1_0 : w.heap.size < w1.heap.size := by have := hk1.size; (try simp at this); omega
              go_wp2_with fail
              refine (reach_ok1 x y u v d l (by omega) (by omega) (by omega) (by omega) (by omega) (by omega) (by omega) (by omega) (by omega) (by omega) (by omega) (by omega) (by omega) (by omega) _).mono ?_
              rw [hn]
              rintro e w2 ⟨rfl, hk2⟩
              refine kuse (b := w.heap.size) hk2 (by first | (simp; done) | (simp; omega) | omega) ?_
              intro ha2_0 hb2_0
              have hz2_0 : w.heap.size < w2.heap.size := by have := hk2.size; (try simp at this); omega
              go_wp2_with fail
              refine (coast_ok x y u v 0 0 d n (by omega) (by omega) (by omega) (by omega) (by omega) (by omega) (by omega) (by omega) (by omega) (by omega) (by omega) (by omega) (by omega) (by omega) (by omega) (by omega) (by omega) (by omega) (by omega) (by omega) (by omega) (by omega) _).mono ?_
              rintro e w3 ⟨rfl, hk3⟩
              refine kuse (b := w.heap.size) hk3 (by first | (simp; done) | (simp; omega) | omega) ?_
              intro ha3_0 hb3_0
              have hz3_0 : w.heap.size < w3.heap.size := by have := hk3.size; (try simp at this); omega
              go_wp2_with fail
              refine (coast_ok x y u v 0 0 d (n + 1) (by omega) (by omega) (by omega) (by omega) (by omega) (by omega) (by omega) (by omega) (by omega) (by omega) (by omega) (by omega) (by omega) (by omega) (by omega) (by omega) (by omega) (by omega) (by omega) (by omega) (by omega) (by omega) _).mono ?_
              rintro e w4 ⟨rfl, hk4⟩
              refine kuse (b := w.heap.size) hk4 (by first | (simp; done) | (simp; omega) | omega) ?_
              intro ha4_0 hb4_0
              have hz4_0 : w.heap.size < w4.heap.size := by have := hk4.size; (try simp at this); omega
              refine kuse (b := w3.heap.size) hk4 (by first | (simp; done) | (simp; omega) | omega) ?_
              intro ha4_1 hb4_1
              have hz4_1 : w3.heap.size < w4.heap.size := by have := hk4.size; (try simp at this); omega
              go_wp2_with fail
              refine (win_yes x y (u + d * n) (v + d * n) l (by omega) (by omega) (by omega) (by omega) (by omega) (by omega) (by omega) (by omega) (by omega) (by omega) _).mono ?_
              rintro e w5 ⟨rfl, hk5⟩
              refine kuse (b := w.heap.size) hk5 (by first | (simp; done) | (simp; omega) | omega) ?_
              intro ha5_0 hb5_0
              have hz5_0 : w.heap.size < w5.heap.size := by have := hk5.size; (try simp at this); omega
              refine kuse (b := w3.heap.size) hk5 (by first | (simp; done) | (simp; omega) | omega) ?_
              intro ha5_1 hb5_1
              have hz5_1 : w3.heap.size < w5.heap.size := by have := hk5.size; (try simp at this); omega
              refine kuse (b := w4.heap.size) hk5 (by first | (simp; done) | (simp; omega) | omega) ?_
              intro ha5_2 hb5_2
              have hz5_2 : w4.heap.size < w5.heap.size := by have := hk5.size; (try simp at this); omega
              go_wp2_with fail
              refine (win_no x y (u + d * (n + 1)) (v + d * (n + 1)) l (by omega) (by omega) (by omega) (by omega) (by omega) (by omega) (by omega) (by omega) (by omega) _).mono ?_
              rintro e w6 ⟨rfl, hk6⟩
              refine kuse (b := w.heap.size) hk6 (by first | (simp; done) | (simp; omega) | omega) ?_
              intro ha6_0 hb6_0
              have hz6_0 : w.heap.size < w6.heap.size := by have := hk6.size; (try simp at this); omega
              refine kuse (b := w3.heap.size) hk6 (by first | (simp; done) | (simp; omega) | omega) ?_
              intro ha6_1 hb6_1
              have hz6_1 : w3.heap.size < w6.heap.size := by have := hk6.size; (try simp at this); omega
              refine kuse (b := w4.heap.size) hk6 (by first | (simp; done) | (simp; omega) | omega) ?_
              intro ha6_2 hb6_2
              have hz6_2 : w4.heap.size < w6.heap.size := by have := hk6.size; (try simp at this); omega
              go_wp2_with fail
              all_goals first | (go_ret; refine ⟨?_, (by repeat (first | with_reducible exact Kept.refl _ | with_reducible assumption | with_reducible refine Kept.setCell ?_ (by first | (simp; done) | (simp; omega) | omega) _ | with_reducible refine Kept.alloc ?_ _ | with_reducible refine Kept.drewN ?_ _ | with_reducible refine Kept.drew ?_ | with_reducible refine Kept.trans ?_ (by with_reducible assumption) | with_reducible refine Kept.dr ?_ (by with_reducible assumption)))⟩; first | rfl | (show Ending.returned (.bool (decide _)) = _; rw [decide_eq_true (by omega)]) | (show Ending.returned (.bool (decide _)) = _; rw [decide_eq_false (by omega)]) | (refine retb ?_; simp; done) | (refine retb ?_; simp; omega)) | (exfalso; omega)
        · obtain ⟨n, hn⟩ : ∃ n, (l - u) / d = n := ⟨_, rfl⟩
          have n0 : 0 ≤ n := by rw [← hn]; exact Int.ediv_nonneg (by omega) (by omega)
          have n1 : d * n ≤ l - u := by rw [← hn]; exact Int.mul_ediv_self_le (by omega)
          have n2 : l - u < d * (n + 1) := by rw [← hn]; have := Int.lt_mul_ediv_self_add (x := l - u) (k := d) (by omega); rw [Int.mul_add]; omega
          have n3 : n ≤ 2000000 := by
            have : 1 * n ≤ d * n := Int.mul_le_mul_of_nonneg_right (by omega) n0
            omega
          have n4 : 0 ≤ d * n := Int.mul_nonneg (by omega) n0
          have n7 : 0 ≤ d * (n + 1) := Int.mul_nonneg (by omega) (by omega)
          have n8 : d * (n + 1) ≤ 2001000 := by rw [Int.mul_add]; omega
          by_cases far : 144000 ≤ n
          · go_enter Try.func9, Try.ntmps9
            go_wp2_with fail
            refine (awake_w _).mono ?_
            rintro e w1 ⟨rfl, hk1⟩
            refine kuse (b := w.heap.size) hk1 (by first | (simp; done) | (simp; omega) | omega) ?_
            intro ha1_0 hb1_0
            have hz1_0 : w.heap.size < w1.heap.size := by have := hk1.size; (try simp at this); omega
            go_wp2_with fail
            refine (reach_ok2 x y u v d l (by omega) (by omega) (by omega) (by omega) (by omega) (by omega) (by omega) (by omega) (by omega) (by omega) (by omega) (by omega) (by omega) (by omega) _).mono ?_
            rw [hn]
            rintro e w2 ⟨rfl, hk2⟩
            refine kuse (b := w.heap.size) hk2 (by first | (simp; done) | (simp; omega) | omega) ?_
            intro ha2_0 hb2_0
            have hz2_0 : w.heap.size < w2.heap.size := by have := hk2.size; (try simp at this); omega
            go_wp2_with fail
            all_goals first | (go_ret; refine ⟨?_, (by repeat (first | with_reducible exact Kept.refl _ | with_reducible assumption | with_reducible refine Kept.setCell ?_ (by first | (simp; done) | (simp; omega) | omega) _ | with_reducible refine Kept.alloc ?_ _ | with_reducible refine Kept.drewN ?_ _ | with_reducible refine Kept.drew ?_ | with_reducible refine Kept.trans ?_ (by with_reducible assumption) | with_reducible refine Kept.dr ?_ (by with_reducible assumption)))⟩; first | rfl | (show Ending.returned (.bool (decide _)) = _; rw [decide_eq_true (by omega)]) | (show Ending.returned (.bool (decide _)) = _; rw [decide_eq_false (by omega)]) | (refine retb ?_; simp; done) | (refine retb ?_; simp; omega)) | (exfalso; omega)
          · by_cases big : 2000000 < u + d * (n + 1) ∨ 2000000 < v + d * (n + 1)
            · go_enter Try.func9, Try.ntmps9
              go_wp2_with fail
              refine (awake_w _).mono ?_
              rintro e w1 ⟨rfl, hk1⟩
              refine kuse (b := w.heap.size) hk1 (by first | (simp; done) | (simp; omega) | omega) ?_
              intro ha1_0 hb1_0
              have hz1_0 : w.heap.size < w1.heap.size := by have := hk1.size; (try simp at this); omega
              go_wp2_with fail
              refine (reach_ok2 x y u v d l (by omega) (by omega) (by omega) (by omega) (by omega) (by omega) (by omega) (by omega) (by omega) (by omega) (by omega) (by omega) (by omega) (by omega) _).mono ?_
              rw [hn]
              rintro e w2 ⟨rfl, hk2⟩
              refine kuse (b := w.heap.size) hk2 (by first | (simp; done) | (simp; omega) | omega) ?_
              intro ha2_0 hb2_0
              have hz2_0 : w.heap.size < w2.heap.size := by have := hk2.size; (try simp at this); omega
              go_wp2_with fail
              refine (coast_ok x y u v 0 0 d n (by omega) (by omega) (by omega) (by omega) (by omega) (by omega) (by omega) (by omega) (by omega) (by omega) (by omega) (by omega) (by omega) (by omega) (by omega) (by omega) (by omega) (by omega) (by omega) (by omega) (by omega) (by omega) _).mono ?_
              rintro e w3 ⟨rfl, hk3⟩
              refine kuse (b := w.heap.size) hk3 (by first | (simp; done) | (simp; omega) | omega) ?_
              intro ha3_0 hb3_0
              have hz3_0 : w.heap.size < w3.heap.size := by have := hk3.size; (try simp at this); omega
              go_wp2_with fail
              refine (coast_out x y u v 0 0 d (n + 1) (by omega) (by omega) (by omega) (by omega) (by omega) (by omega) (by omega) (by omega) (by omega) (by omega) (by omega) (by omega) (by omega) (by omega) (by omega) (by omega) (by omega) _).mono ?_
              rintro e w4 ⟨rfl, hk4⟩
              refine kuse (b := w.heap.size) hk4 (by first | (simp; done) | (simp; omega) | omega) ?_
              intro ha4_0 hb4_0
              have hz4_0 : w.heap.size < w4.heap.size := by have := hk4.size; (try simp at this); omega
              refine kuse (b := w3.heap.size) hk4 (by first | (simp; done) | (simp; omega) | omega) ?_
              intro ha4_1 hb4_1
              have hz4_1 : w3.heap.size < w4.heap.size := by have := hk4.size; (try simp at this); omega
              go_wp2_with fail
              refine (win_yes x y (u + d * n) (v + d * n) l (by omega) (by omega) (by omega) (by omega) (by omega) (by omega) (by omega) (by omega) (by omega) (by omega) _).mono ?_
              rintro e w5 ⟨rfl, hk5⟩
              refine kuse (b := w.heap.size) hk5 (by first | (simp; done) | (simp; omega) | omega) ?_
              intro ha5_0 hb5_0
              have hz5_0 : w.heap.size < w5.heap.size := by have := hk5.size; (try simp at this); omega
              refine kuse (b := w3.heap.size) hk5 (by first | (simp; done) | (simp; omega) | omega) ?_
              intro ha5_1 hb5_1
              have hz5_1 : w3.heap.size < w5.heap.size := by have := hk5.size; (try simp at this); omega
              refine kuse (b := w4.heap.size) hk5 (by first | (simp; done) | (simp; omega) | omega) ?_
              intro ha5_2 hb5_2
              have hz5_2 : w4.heap.size < w5.heap.size := by have := hk5.size; (try simp at this); omega
              go_wp2_with fail
              all_goals first | (go_ret; refine ⟨?_, (by repeat (first | with_reducible exact Kept.refl _ | with_reducible assumption | with_reducible refine Kept.setCell ?_ (by first | (simp; done) | (simp; omega) | omega) _ | with_reducible refine Kept.alloc ?_ _ | with_reducible refine Kept.drewN ?_ _ | with_reducible refine Kept.drew ?_ | with_reducible refine Kept.trans ?_ (by with_reducible assumption) | with_reducible refine Kept.dr ?_ (by with_reducible assumption)))⟩; first | rfl | (show Ending.returned (.bool (decide _)) = _; rw [decide_eq_true (by omega)]) | (show Ending.returned (.bool (decide _)) = _; rw [decide_eq_false (by omega)]) | (refine retb ?_; simp; done) | (refine retb ?_; simp; omega)) | (exfalso; omega)
            · go_enter Try.func9, Try.ntmps9
              go_wp2_with fail
              refine (awake_w _).mono ?_
              rintro e w1 ⟨rfl, hk1⟩
              refine kuse (b := w.heap.size) hk1 (by first | (simp; done) | (simp; omega) | omega) ?_
              intro ha1_0 hb1_0
              have hz1_0 : w.heap.size < w1.heap.size := by have := hk1.size; (try simp at this); omega
              go_wp2_with fail
              refine (reach_ok2 x y u v d l (by omega) (by omega) (by omega) (by omega) (by omega) (by omega) (by omega) (by omega) (by omega) (by omega) (by omega) (by omega) (by omega) (by omega) _).mono ?_
              rw [hn]
              rintro e w2 ⟨rfl, hk2⟩
              refine kuse (b := w.heap.size) hk2 (by first | (simp; done) | (simp; omega) | omega) ?_
              intro ha2_0 hb2_0
              have hz2_0 : w.heap.size < w2.heap.size := by have := hk2.size; (try simp at this); omega
              go_wp2_with fail
              refine (coast_ok x y u v 0 0 d n (by omega) (by omega) (by omega) (by omega) (by omega) (by omega) (by omega) (by omega) (by omega) (by omega) (by omega) (by omega) (by omega) (by omega) (by omega) (by omega) (by omega) (by omega) (by omega) (by omega) (by omega) (by omega) _).mono ?_
              rintro e w3 ⟨rfl, hk3⟩
              refine kuse (b := w.heap.size) hk3 (by first | (simp; done) | (simp; omega) | omega) ?_
              intro ha3_0 hb3_0
              have hz3_0 : w.heap.size < w3.heap.size := by have := hk3.size; (try simp at this); omega
              go_wp2_with fail
              refine (coast_ok x y u v 0 0 d (n + 1) (by omega) (by omega) (by omega) (by omega) (by omega) (by omega) (by omega) (by omega) (by omega) (by omega) (by omega) (by omega) (by omega) (by omega) (by omega) (by omega) (by omega) (by omega) (by omega) (by omega) (by omega) (by omega) _).mono ?_
              rintro e w4 ⟨rfl, hk4⟩
              refine kuse (b := w.heap.size) hk4 (by first | (simp; done) | (simp; omega) | omega) ?_
              intro ha4_0 hb4_0
              have hz4_0 : w.heap.size < w4.heap.size := by have := hk4.size; (try simp at this); omega
              refine kuse (b := w3.heap.size) hk4 (by first | (simp; done) | (simp; omega) | omega) ?_
              intro ha4_1 hb4_1
              have hz4_1 : w3.heap.size < w4.heap.size := by have := hk4.size; (try simp at this); omega
              go_wp2_with fail
              refine (win_yes x y (u + d * n) (v + d * n) l (by omega) (by omega) (by omega) (by omega) (by omega) (by omega) (by omega) (by omega) (by omega) (by omega) _).mono ?_
              rintro e w5 ⟨rfl, hk5⟩
              refine kuse (b := w.heap.size) hk5 (by first | (simp; done) | (simp; omega) | omega) ?_
              intro ha5_0 hb5_0
              have hz5_0 : w.heap.size < w5.heap.size := by have := hk5.size; (try simp at this); omega
              refine kuse (b := w3.heap.size) hk5 (by first | (simp; done) | (simp; omega) | omega) ?_
              intro ha5_1 hb5_1
              have hz5_1 : w3.heap.size < w5.heap.size := by have := hk5.size; (try simp at this); omega
              refine kuse (b := w4.heap.size) hk5 (by first | (simp; done) | (simp; omega) | omega) ?_
              intro ha5_2 hb5_2
              have hz5_2 : w4.heap.size < w5.heap.size := by have := hk5.size; (try simp at this); omega
              go_wp2_with fail
              refine (win_no x y (u + d * (n + 1)) (v + d * (n + 1)) l (by omega) (by omega) (by omega) (by omega) (by omega) (by omega) (by omega) (by omega) (by omega) _).mono ?_
              rintro e w6 ⟨rfl, hk6⟩
              refine kuse (b := w.heap.size) hk6 (by first | (simp; done) | (simp; omega) | omega) ?_
              intro ha6_0 hb6_0
              have hz6_0 : w.heap.size < w6.heap.size := by have := hk6.size; (try simp at this); omega
              refine kuse (b := w3.heap.size) hk6 (by first | (simp; done) | (simp; omega) | omega) ?_
              intro ha6_1 hb6_1
              have hz6_1 : w3.heap.size < w6.heap.size := by have := hk6.size; (try simp at this); omega
              refine kuse (b := w4.heap.size) hk6 (by first | (simp; done) | (simp; omega) | omega) ?_
              intro ha6_2 hb6_2
              have hz6_2 : w4.heap.size < w6.heap.size := by have := hk6.size; (try simp at this); omega
              go_wp2_with fail
              all_goals first | (go_ret; refine ⟨?_, (by repeat (first | with_reducible exact Kept.refl _ | with_reducible assumption | with_reducible refine Kept.setCell ?_ (by first | (simp; done) | (simp; omega) | omega) _ | with_reducible refine Kept.alloc ?_ _ | with_reducible refine Kept.drewN ?_ _ | with_reducible refine Kept.drew ?_ | with_reducible refine Kept.trans ?_ (by with_reducible assumption) | with_reducible refine Kept.dr ?_ (by with_reducible assumption)))⟩; first | rfl | (show Ending.returned (.bool (decide _)) = _; rw [decide_eq_true (by omega)]) | (show Ending.returned (.bool (decide _)) = _; rw [decide_eq_false (by omega)]) | (refine retb ?_; simp; done) | (refine retb ?_; simp; omega)) | (exfalso; omega)
end Go.Proofs.Ytgbgiafdhbplhaa
