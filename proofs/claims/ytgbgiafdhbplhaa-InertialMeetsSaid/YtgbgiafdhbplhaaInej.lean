/-
  Own contracts: the law of layer 45 on points in merged boxes.
-/
import Derived.Test.YtgbgiafdhbplhaaInei
import Derived.WalkKit
import Derived.ProofKit
import Derived.OpenShut
import Derived.WalkLawsBesides
import Derived.WalkSpells
import Derived.Lib.Hide
import Derived.Deep.DeepCutAuto
import Derived.Deep.CutBlock
import Derived.Deep.QuietTactic
import Derived.BigQuiet
import Derived.Handy
import Derived.StillTailTactics
import Derived.IntWalk
import Derived.LoopN
import Derived.Deep.RegionHeld3
namespace Go.Proofs.Ytgbgiafdhbplhaa
open Go.ChangeShapes Go.WideShapes Go.ChangeAt Go.RowKit
set_option linter.unusedVariables false
set_option linter.unusedSimpArgs false
set_option maxHeartbeats 4000000 in
theorem law_meets (x y u v p q r s m n : Int) (x_0 : -9223372036854775808 ≤ x) (x_1 : x ≤ 9223372036854775807) (y_0 : -9223372036854775808 ≤ y) (y_1 : y ≤ 9223372036854775807) (u_0 : -9223372036854775808 ≤ u) (u_1 : u ≤ 9223372036854775807) (v_0 : -9223372036854775808 ≤ v) (v_1 : v ≤ 9223372036854775807) (p_0 : -9223372036854775808 ≤ p) (p_1 : p ≤ 9223372036854775807) (q_0 : -9223372036854775808 ≤ q) (q_1 : q ≤ 9223372036854775807) (r_0 : -9223372036854775808 ≤ r) (r_1 : r ≤ 9223372036854775807) (s_0 : -9223372036854775808 ≤ s) (s_1 : s ≤ 9223372036854775807) (m_0 : -9223372036854775808 ≤ m) (m_1 : m ≤ 9223372036854775807) (n_0 : -9223372036854775808 ≤ n) (n_1 : n ≤ 9223372036854775807) (w : World) : Calls Try.prog 7 #[.agg #[.int .i64 x, .int .i64 y, .int .i64 u, .int .i64 v], .agg #[.int .i64 p, .int .i64 q, .int .i64 r, .int .i64 s], .agg #[.int .i64 m, .int .i64 n]] w fun en w' => en = .returned (.bool true) ∧ Kept w w' := by
  by_cases badx : x < -2000000 ∨ 2000000 < x ∨ y < -2000000 ∨ 2000000 < y ∨ u < 0 ∨ 2000000 < u ∨ v < 0 ∨ 2000000 < v
  · by_cases badp : p < -2000000 ∨ 2000000 < p ∨ q < -2000000 ∨ 2000000 < q ∨ r < 0 ∨ 2000000 < r ∨ s < 0 ∨ 2000000 < s
    · go_enter Try.func7, Try.ntmps7
      go_wp2_with fail
      refine (awake_w _).mono ?_
      rintro e w1 ⟨rfl, hk1⟩
      refine kuse (b := w.heap.size) hk1 (by first | (simp; done) | (simp; omega) | omega) ?_
      intro ha1_0 hb1_0
      have hz1_0 : w.heap.size < w1.heap.size := by have := hk1.size; (try simp at this); omega
      refine kuse (b := w.heap.size + 1) hk1 (by first | (simp; done) | (simp; omega) | omega) ?_
      intro ha1_1 hb1_1
      have hz1_1 : w.heap.size + 1 < w1.heap.size := by have := hk1.size; (try simp at this); omega
      refine kuse (b := w.heap.size + 2) hk1 (by first | (simp; done) | (simp; omega) | omega) ?_
      intro ha1_2 hb1_2
      have hz1_2 : w.heap.size + 2 < w1.heap.size := by have := hk1.size; (try simp at this); omega
      go_wp2_with fail
      refine (inside_bad x y u v m n (by omega) _).mono ?_
      rintro e w2 ⟨rfl, hk2⟩
      refine kuse (b := w.heap.size) hk2 (by first | (simp; done) | (simp; omega) | omega) ?_
      intro ha2_0 hb2_0
      have hz2_0 : w.heap.size < w2.heap.size := by have := hk2.size; (try simp at this); omega
      refine kuse (b := w.heap.size + 1) hk2 (by first | (simp; done) | (simp; omega) | omega) ?_
      intro ha2_1 hb2_1
      have hz2_1 : w.heap.size + 1 < w2.heap.size := by have := hk2.size; (try simp at this); omega
      refine kuse (b := w.heap.size + 2) hk2 (by first | (simp; done) | (simp; omega) | omega) ?_
      intro ha2_2 hb2_2
      have hz2_2 : w.heap.size + 2 < w2.heap.size := by have := hk2.size; (try simp at this); omega
      go_wp2_with fail
      refine (merge_a1 x y u v p q r s (by omega) _).mono ?_
      rintro e w3 ⟨rfl, hk3⟩
      refine kuse (b := w.heap.size) hk3 (by first | (simp; done) | (simp; omega) | omega) ?_
      intro ha3_0 hb3_0
      have hz3_0 : w.heap.size < w3.heap.size := by have := hk3.size; (try simp at this); omega
      refine kuse (b := w.heap.size + 1) hk3 (by first | (simp; done) | (simp; omega) | omega) ?_
      intro ha3_1 hb3_1
      have hz3_1 : w.heap.size + 1 < w3.heap.size := by have := hk3.size; (try simp at this); omega
      refine kuse (b := w.heap.size + 2) hk3 (by first | (simp; done) | (simp; omega) | omega) ?_
      intro ha3_2 hb3_2
      have hz3_2 : w.heap.size + 2 < w3.heap.size := by have := hk3.size; (try simp at this); omega
      go_wp2_with fail
      refine (merge_a1 p q r s x y u v (by omega) _).mono ?_
      rintro e w4 ⟨rfl, hk4⟩
      refine kuse (b := w.heap.size) hk4 (by first | (simp; done) | (simp; omega) | omega) ?_
      intro ha4_0 hb4_0
      have hz4_0 : w.heap.size < w4.heap.size := by have := hk4.size; (try simp at this); omega
      refine kuse (b := w.heap.size + 1) hk4 (by first | (simp; done) | (simp; omega) | omega) ?_
      intro ha4_1 hb4_1
      have hz4_1 : w.heap.size + 1 < w4.heap.size := by have := hk4.size; (try simp at this); omega
      refine kuse (b := w.heap.size + 2) hk4 (by first | (simp; done) | (simp; omega) | omega) ?_
      intro ha4_2 hb4_2
      have hz4_2 : w.heap.size + 2 < w4.heap.size := by have := hk4.size; (try simp at this); omega
      refine kuse (b := w3.heap.size) hk4 (by first | (simp; done) | (simp; omega) | omega) ?_
      intro ha4_3 hb4_3
      have hz4_3 : w3.heap.size < w4.heap.size := by have := hk4.size; (try simp at this); omega
      go_wp2_with fail
      all_goals first | (go_ret; refine ⟨?_, (by repeat (first | with_reducible exact Kept.refl _ | with_reducible assumption | with_reducible refine Kept.setCell ?_ (by first | (simp; done) | (simp; omega) | omega) _ | with_reducible refine Kept.alloc ?_ _ | with_reducible refine Kept.drewN ?_ _ | with_reducible refine Kept.drew ?_ | with_reducible refine Kept.trans ?_ (by with_reducible assumption) | with_reducible refine Kept.dr ?_ (by with_reducible assumption)))⟩; first | rfl | (show Ending.returned (.bool (decide _)) = _; rw [decide_eq_true (by omega)]) | (show Ending.returned (.bool (decide _)) = _; rw [decide_eq_false (by omega)]) | (refine retb ?_; simp; done) | (refine retb ?_; simp; omega)) | (exfalso; omega)
    · have i0 : -2000000 ≤ p := by omega
      have i1 : p ≤ 2000000 := by omega
      have i2 : -2000000 ≤ q := by omega
      have i3 : q ≤ 2000000 := by omega
      have i4 : 0 ≤ r := by omega
      have i5 : r ≤ 2000000 := by omega
      have i6 : 0 ≤ s := by omega
      have i7 : s ≤ 2000000 := by omega
      clear badp
      go_enter Try.func7, Try.ntmps7
      go_wp2_with fail
      refine (awake_w _).mono ?_
      rintro e w1 ⟨rfl, hk1⟩
      refine kuse (b := w.heap.size) hk1 (by first | (simp; done) | (simp; omega) | omega) ?_
      intro ha1_0 hb1_0
      have hz1_0 : w.heap.size < w1.heap.size := by have := hk1.size; (try simp at this); omega
      refine kuse (b := w.heap.size + 1) hk1 (by first | (simp; done) | (simp; omega) | omega) ?_
      intro ha1_1 hb1_1
      have hz1_1 : w.heap.size + 1 < w1.heap.size := by have := hk1.size; (try simp at this); omega
      refine kuse (b := w.heap.size + 2) hk1 (by first | (simp; done) | (simp; omega) | omega) ?_
      intro ha1_2 hb1_2
      have hz1_2 : w.heap.size + 2 < w1.heap.size := by have := hk1.size; (try simp at this); omega
      go_wp2_with fail
      refine (inside_bad x y u v m n (by omega) _).mono ?_
      rintro e w2 ⟨rfl, hk2⟩
      refine kuse (b := w.heap.size) hk2 (by first | (simp; done) | (simp; omega) | omega) ?_
      intro ha2_0 hb2_0
      have hz2_0 : w.heap.size < w2.heap.size := by have := hk2.size; (try simp at this); omega
      refine kuse (b := w.heap.size + 1) hk2 (by first | (simp; done) | (simp; omega) | omega) ?_
      intro ha2_1 hb2_1
      have hz2_1 : w.heap.size + 1 < w2.heap.size := by have := hk2.size; (try simp at this); omega
      refine kuse (b := w.heap.size + 2) hk2 (by first | (simp; done) | (simp; omega) | omega) ?_
      intro ha2_2 hb2_2
      have hz2_2 : w.heap.size + 2 < w2.heap.size := by have := hk2.size; (try simp at this); omega
      go_wp2_with fail
      refine (merge_a1 x y u v p q r s (by omega) _).mono ?_
      rintro e w3 ⟨rfl, hk3⟩
      refine kuse (b := w.heap.size) hk3 (by first | (simp; done) | (simp; omega) | omega) ?_
      intro ha3_0 hb3_0
      have hz3_0 : w.heap.size < w3.heap.size := by have := hk3.size; (try simp at this); omega
      refine kuse (b := w.heap.size + 1) hk3 (by first | (simp; done) | (simp; omega) | omega) ?_
      intro ha3_1 hb3_1
      have hz3_1 : w.heap.size + 1 < w3.heap.size := by have := hk3.size; (try simp at this); omega
      refine kuse (b := w.heap.size + 2) hk3 (by first | (simp; done) | (simp; omega) | omega) ?_
      intro ha3_2 hb3_2
      have hz3_2 : w.heap.size + 2 < w3.heap.size := by have := hk3.size; (try simp at this); omega
      go_wp2_with fail
      refine (merge_a2 p q r s x y u v (by omega) (by omega) (by omega) (by omega) (by omega) (by omega) (by omega) (by omega) (by omega) _).mono ?_
      rintro e w4 ⟨rfl, hk4⟩
      refine kuse (b := w.heap.size) hk4 (by first | (simp; done) | (simp; omega) | omega) ?_
      intro ha4_0 hb4_0
      have hz4_0 : w.heap.size < w4.heap.size := by have := hk4.size; (try simp at this); omega
      refine kuse (b := w.heap.size + 1) hk4 (by first | (simp; done) | (simp; omega) | omega) ?_
      intro ha4_1 hb4_1
      have hz4_1 : w.heap.size + 1 < w4.heap.size := by have := hk4.size; (try simp at this); omega
      refine kuse (b := w.heap.size + 2) hk4 (by first | (simp; done) | (simp; omega) | omega) ?_
      intro ha4_2 hb4_2
      have hz4_2 : w.heap.size + 2 < w4.heap.size := by have := hk4.size; (try simp at this); omega
      refine kuse (b := w3.heap.size) hk4 (by first | (simp; done) | (simp; omega) | omega) ?_
      intro ha4_3 hb4_3
      have hz4_3 : w3.heap.size < w4.heap.size := by have := hk4.size; (try simp at this); omega
      go_wp2_with fail
      all_goals first | (go_ret; refine ⟨?_, (by repeat (first | with_reducible exact Kept.refl _ | with_reducible assumption | with_reducible refine Kept.setCell ?_ (by first | (simp; done) | (simp; omega) | omega) _ | with_reducible refine Kept.alloc ?_ _ | with_reducible refine Kept.drewN ?_ _ | with_reducible refine Kept.drew ?_ | with_reducible refine Kept.trans ?_ (by with_reducible assumption) | with_reducible refine Kept.dr ?_ (by with_reducible assumption)))⟩; first | rfl | (show Ending.returned (.bool (decide _)) = _; rw [decide_eq_true (by omega)]) | (show Ending.returned (.bool (decide _)) = _; rw [decide_eq_false (by omega)]) | (refine retb ?_; simp; done) | (refine retb ?_; simp; omega)) | (exfalso; omega)
  · have g0 : -2000000 ≤ x := by omega
    have g1 : x ≤ 2000000 := by omega
    have g2 : -2000000 ≤ y := by omega
    have g3 : y ≤ 2000000 := by omega
    have g4 : 0 ≤ u := by omega
    have g5 : u ≤ 2000000 := by omega
    have g6 : 0 ≤ v := by omega
    have g7 : v ≤ 2000000 := by omega
    clear badx
    by_cases badp : p < -2000000 ∨ 2000000 < p ∨ q < -2000000 ∨ 2000000 < q ∨ r < 0 ∨ 2000000 < r ∨ s < 0 ∨ 2000000 < s
    · by_cases ia : (x - u ≤ m ∧ m ≤ x + u ∧ y - v ≤ n ∧ n ≤ y + v)
      · obtain ⟨ia1, ia2, ia3, ia4⟩ := ia
        go_enter Try.func7, Try.ntmps7
        go_wp2_with fail
        refine (awake_w _).mono ?_
        rintro e w1 ⟨rfl, hk1⟩
        refine kuse (b := w.heap.size) hk1 (by first | (simp; done) | (simp; omega) | omega) ?_
        intro ha1_0 hb1_0
        have hz1_0 : w.heap.size < w1.heap.size := by have := hk1.size; (try simp at this); omega
        refine kuse (b := w.heap.size + 1) hk1 (by first | (simp; done) | (simp; omega) | omega) ?_
        intro ha1_1 hb1_1
        have hz1_1 : w.heap.size + 1 < w1.heap.size := by have := hk1.size; (try simp at this); omega
        refine kuse (b := w.heap.size + 2) hk1 (by first | (simp; done) | (simp; omega) | omega) ?_
        intro ha1_2 hb1_2
        have hz1_2 : w.heap.size + 2 < w1.heap.size := by have := hk1.size; (try simp at this); omega
        go_wp2_with fail
        refine (inside_yes x y u v m n (by omega) (by omega) (by omega) (by omega) (by omega) (by omega) (by omega) (by omega) (by omega) (by omega) (by omega) (by omega) _).mono ?_
        rintro e w2 ⟨rfl, hk2⟩
        refine kuse (b := w.heap.size) hk2 (by first | (simp; done) | (simp; omega) | omega) ?_
        intro ha2_0 hb2_0
        have hz2_0 : w.heap.size < w2.heap.size := by have := hk2.size; (try simp at this); omega
        refine kuse (b := w.heap.size + 1) hk2 (by first | (simp; done) | (simp; omega) | omega) ?_
        intro ha2_1 hb2_1
        have hz2_1 : w.heap.size + 1 < w2.heap.size := by have := hk2.size; (try simp at this); omega
        refine kuse (b := w.heap.size + 2) hk2 (by first | (simp; done) | (simp; omega) | omega) ?_
        intro ha2_2 hb2_2
        have hz2_2 : w.heap.size + 2 < w2.heap.size := by have := hk2.size; (try simp at this); omega
        go_wp2_with fail
        refine (inside_bad p q r s m n (by omega) _).mono ?_
        rintro e w3 ⟨rfl, hk3⟩
        refine kuse (b := w.heap.size) hk3 (by first | (simp; done) | (simp; omega) | omega) ?_
        intro ha3_0 hb3_0
        have hz3_0 : w.heap.size < w3.heap.size := by have := hk3.size; (try simp at this); omega
        refine kuse (b := w.heap.size + 1) hk3 (by first | (simp; done) | (simp; omega) | omega) ?_
        intro ha3_1 hb3_1
        have hz3_1 : w.heap.size + 1 < w3.heap.size := by have := hk3.size; (try simp at this); omega
        refine kuse (b := w.heap.size + 2) hk3 (by first | (simp; done) | (simp; omega) | omega) ?_
        intro ha3_2 hb3_2
        have hz3_2 : w.heap.size + 2 < w3.heap.size := by have := hk3.size; (try simp at this); omega
        go_wp2_with fail
        refine (merge_a2 x y u v p q r s (by omega) (by omega) (by omega) (by omega) (by omega) (by omega) (by omega) (by omega) (by omega) _).mono ?_
        rintro e w4 ⟨rfl, hk4⟩
        refine kuse (b := w.heap.size) hk4 (by first | (simp; done) | (simp; omega) | omega) ?_
        intro ha4_0 hb4_0
        have hz4_0 : w.heap.size < w4.heap.size := by have := hk4.size; (try simp at this); omega
        refine kuse (b := w.heap.size + 1) hk4 (by first | (simp; done) | (simp; omega) | omega) ?_
        intro ha4_1 hb4_1
        have hz4_1 : w.heap.size + 1 < w4.heap.size := by have := hk4.size; (try simp at this); omega
        refine kuse (b := w.heap.size + 2) hk4 (by first | (simp; done) | (simp; omega) | omega) ?_
        intro ha4_2 hb4_2
        have hz4_2 : w.heap.size + 2 < w4.heap.size := by have := hk4.size; (try simp at this); omega
        go_wp2_with fail
        refine (merge_a1 p q r s x y u v (by omega) _).mono ?_
        rintro e w5 ⟨rfl, hk5⟩
        refine kuse (b := w.heap.size) hk5 (by first | (simp; done) | (simp; omega) | omega) ?_
        intro ha5_0 hb5_0
        have hz5_0 : w.heap.size < w5.heap.size := by have := hk5.size; (try simp at this); omega
        refine kuse (b := w.heap.size + 1) hk5 (by first | (simp; done) | (simp; omega) | omega) ?_
        intro ha5_1 hb5_1
        have hz5_1 : w.heap.size + 1 < w5.heap.size := by have := hk5.size; (try simp at this); omega
        refine kuse (b := w.heap.size + 2) hk5 (by first | (simp; done) | (simp; omega) | omega) ?_
        intro ha5_2 hb5_2
        have hz5_2 : w.heap.size + 2 < w5.heap.size := by have := hk5.size; (try simp at this); omega
        refine kuse (b := w4.heap.size) hk5 (by first | (simp; done) | (simp; omega) | omega) ?_
        intro ha5_3 hb5_3
        have hz5_3 : w4.heap.size < w5.heap.size := by have := hk5.size; (try simp at this); omega
        go_wp2_with fail
        all_goals first | (go_ret; refine ⟨?_, (by repeat (first | with_reducible exact Kept.refl _ | with_reducible assumption | with_reducible refine Kept.setCell ?_ (by first | (simp; done) | (simp; omega) | omega) _ | with_reducible refine Kept.alloc ?_ _ | with_reducible refine Kept.drewN ?_ _ | with_reducible refine Kept.drew ?_ | with_reducible refine Kept.trans ?_ (by with_reducible assumption) | with_reducible refine Kept.dr ?_ (by with_reducible assumption)))⟩; first | rfl | (show Ending.returned (.bool (decide _)) = _; rw [decide_eq_true (by omega)]) | (show Ending.returned (.bool (decide _)) = _; rw [decide_eq_false (by omega)]) | (refine retb ?_; simp; done) | (refine retb ?_; simp; omega)) | (exfalso; omega)
      · go_enter Try.func7, Try.ntmps7
        go_wp2_with fail
        refine (awake_w _).mono ?_
        rintro e w1 ⟨rfl, hk1⟩
        refine kuse (b := w.heap.size) hk1 (by first | (simp; done) | (simp; omega) | omega) ?_
        intro ha1_0 hb1_0
        have hz1_0 : w.heap.size < w1.heap.size := by have := hk1.size; (try simp at this); omega
        refine kuse (b := w.heap.size + 1) hk1 (by first | (simp; done) | (simp; omega) | omega) ?_
        intro ha1_1 hb1_1
        have hz1_1 : w.heap.size + 1 < w1.heap.size := by have := hk1.size; (try simp at this); omega
        refine kuse (b := w.heap.size + 2) hk1 (by first | (simp; done) | (simp; omega) | omega) ?_
        intro ha1_2 hb1_2
        have hz1_2 : w.heap.size + 2 < w1.heap.size := by have := hk1.size; (try simp at this); omega
        go_wp2_with fail
        refine (inside_no x y u v m n (by omega) (by omega) (by omega) (by omega) (by omega) (by omega) (by omega) (by omega) (by omega) _).mono ?_
        rintro e w2 ⟨rfl, hk2⟩
        refine kuse (b := w.heap.size) hk2 (by first | (simp; done) | (simp; omega) | omega) ?_
        intro ha2_0 hb2_0
        have hz2_0 : w.heap.size < w2.heap.size := by have := hk2.size; (try simp at this); omega
        refine kuse (b := w.heap.size + 1) hk2 (by first | (simp; done) | (simp; omega) | omega) ?_
        intro ha2_1 hb2_1
        have hz2_1 : w.heap.size + 1 < w2.heap.size := by have := hk2.size; (try simp at this); omega
        refine kuse (b := w.heap.size + 2) hk2 (by first | (simp; done) | (simp; omega) | omega) ?_
        intro ha2_2 hb2_2
        have hz2_2 : w.heap.size + 2 < w2.heap.size := by have := hk2.size; (try simp at this); omega
        go_wp2_with fail
        refine (merge_a2 x y u v p q r s (by omega) (by omega) (by omega) (by omega) (by omega) (by omega) (by omega) (by omega) (by omega) _).mono ?_
        rintro e w3 ⟨rfl, hk3⟩
        refine kuse (b := w.heap.size) hk3 (by first | (simp; done) | (simp; omega) | omega) ?_
        intro ha3_0 hb3_0
        have hz3_0 : w.heap.size < w3.heap.size := by have := hk3.size; (try simp at this); omega
        refine kuse (b := w.heap.size + 1) hk3 (by first | (simp; done) | (simp; omega) | omega) ?_
        intro ha3_1 hb3_1
        have hz3_1 : w.heap.size + 1 < w3.heap.size := by have := hk3.size; (try simp at this); omega
        refine kuse (b := w.heap.size + 2) hk3 (by first | (simp; done) | (simp; omega) | omega) ?_
        intro ha3_2 hb3_2
        have hz3_2 : w.heap.size + 2 < w3.heap.size := by have := hk3.size; (try simp at this); omega
        go_wp2_with fail
        refine (merge_a1 p q r s x y u v (by omega) _).mono ?_
        rintro e w4 ⟨rfl, hk4⟩
        refine kuse (b := w.heap.size) hk4 (by first | (simp; done) | (simp; omega) | omega) ?_
        intro ha4_0 hb4_0
        have hz4_0 : w.heap.size < w4.heap.size := by have := hk4.size; (try simp at this); omega
        refine kuse (b := w.heap.size + 1) hk4 (by first | (simp; done) | (simp; omega) | omega) ?_
        intro ha4_1 hb4_1
        have hz4_1 : w.heap.size + 1 < w4.heap.size := by have := hk4.size; (try simp at this); omega
        refine kuse (b := w.heap.size + 2) hk4 (by first | (simp; done) | (simp; omega) | omega) ?_
        intro ha4_2 hb4_2
        have hz4_2 : w.heap.size + 2 < w4.heap.size := by have := hk4.size; (try simp at this); omega
        refine kuse (b := w3.heap.size) hk4 (by first | (simp; done) | (simp; omega) | omega) ?_
        intro ha4_3 hb4_3
        have hz4_3 : w3.heap.size < w4.heap.size := by have := hk4.size; (try simp at this); omega
        go_wp2_with fail
        all_goals first | (go_ret; refine ⟨?_, (by repeat (first | with_reducible exact Kept.refl _ | with_reducible assumption | with_reducible refine Kept.setCell ?_ (by first | (simp; done) | (simp; omega) | omega) _ | with_reducible refine Kept.alloc ?_ _ | with_reducible refine Kept.drewN ?_ _ | with_reducible refine Kept.drew ?_ | with_reducible refine Kept.trans ?_ (by with_reducible assumption) | with_reducible refine Kept.dr ?_ (by with_reducible assumption)))⟩; first | rfl | (show Ending.returned (.bool (decide _)) = _; rw [decide_eq_true (by omega)]) | (show Ending.returned (.bool (decide _)) = _; rw [decide_eq_false (by omega)]) | (refine retb ?_; simp; done) | (refine retb ?_; simp; omega)) | (exfalso; omega)
    · have i0 : -2000000 ≤ p := by omega
      have i1 : p ≤ 2000000 := by omega
      have i2 : -2000000 ≤ q := by omega
      have i3 : q ≤ 2000000 := by omega
      have i4 : 0 ≤ r := by omega
      have i5 : r ≤ 2000000 := by omega
      have i6 : 0 ≤ s := by omega
      have i7 : s ≤ 2000000 := by omega
      clear badp
      by_cases kx : min (x + u) (p + r) < max (x - u) (p - r)
      · by_cases ky : min (y + v) (q + s) < max (y - v) (q - s)
        · by_cases ia : (x - u ≤ m ∧ m ≤ x + u ∧ y - v ≤ n ∧ n ≤ y + v)
          · obtain ⟨ia1, ia2, ia3, ia4⟩ := ia
            by_cases ib : (p - r ≤ m ∧ m ≤ p + r ∧ q - s ≤ n ∧ n ≤ q + s)
            · obtain ⟨ib1, ib2, ib3, ib4⟩ := ib
              exfalso; omega
            · go_enter Try.func7, Try.ntmps7
              go_wp2_with fail
              refine (awake_w _).mono ?_
              rintro e w1 ⟨rfl, hk1⟩
              refine kuse (b := w.heap.size) hk1 (by first | (simp; done) | (simp; omega) | omega) ?_
              intro ha1_0 hb1_0
              have hz1_0 : w.heap.size < w1.heap.size := by have := hk1.size; (try simp at this); omega
              refine kuse (b := w.heap.size + 1) hk1 (by first | (simp; done) | (simp; omega) | omega) ?_
              intro ha1_1 hb1_1
              have hz1_1 : w.heap.size + 1 < w1.heap.size := by have := hk1.size; (try simp at this); omega
              refine kuse (b := w.heap.size + 2) hk1 (by first | (simp; done) | (simp; omega) | omega) ?_
              intro ha1_2 hb1_2
              have hz1_2 : w.heap.size + 2 < w1.heap.size := by have := hk1.size; (try simp at this); omega
              go_wp2_with fail
              refine (inside_yes x y u v m n (by omega) (by omega) (by omega) (by omega) (by omega) (by omega) (by omega) (by omega) (by omega) (by omega) (by omega) (by omega) _).mono ?_
              rintro e w2 ⟨rfl, hk2⟩
              refine kuse (b := w.heap.size) hk2 (by first | (simp; done) | (simp; omega) | omega) ?_
              intro ha2_0 hb2_0
              have hz2_0 : w.heap.size < w2.heap.size := by have := hk2.size; (try simp at this); omega
              refine kuse (b := w.heap.size + 1) hk2 (by first | (simp; done) | (simp; omega) | omega) ?_
              intro ha2_1 hb2_1
              have hz2_1 : w.heap.size + 1 < w2.heap.size := by have := hk2.size; (try simp at this); omega
              refine kuse (b := w.heap.size + 2) hk2 (by first | (simp; done) | (simp; omega) | omega) ?_
              intro ha2_2 hb2_2
              have hz2_2 : w.heap.size + 2 < w2.heap.size := by have := hk2.size; (try simp at this); omega
              go_wp2_with fail
              refine (inside_no p q r s m n (by omega) (by omega) (by omega) (by omega) (by omega) (by omega) (by omega) (by omega) (by omega) _).mono ?_
              rintro e w3 ⟨rfl, hk3⟩
              refine kuse (b := w.heap.size) hk3 (by first | (simp; done) | (simp; omega) | omega) ?_
              intro ha3_0 hb3_0
              have hz3_0 : w.heap.size < w3.heap.size := by have := hk3.size; (try simp at this); omega
              refine kuse (b := w.heap.size + 1) hk3 (by first | (simp; done) | (simp; omega) | omega) ?_
              intro ha3_1 hb3_1
              have hz3_1 : w.heap.size + 1 < w3.heap.size := by have := hk3.size; (try simp at this); omega
              refine kuse (b := w.heap.size + 2) hk3 (by first | (simp; done) | (simp; omega) | omega) ?_
              intro ha3_2 hb3_2
              have hz3_2 : w.heap.size + 2 < w3.heap.size := by have := hk3.size; (try simp at this); omega
              go_wp2_with fail
              refine (merge_cx1 x y u v p q r s (by omega) (by omega) (by omega) (by omega) (by omega) (by omega) (by omega) (by omega) (by omega) (by omega) (by omega) (by omega) (by omega) (by omega) (by omega) (by omega) (by omega) (by omega) _).mono ?_
              rintro e w4 ⟨rfl, hk4⟩
              refine kuse (b := w.heap.size) hk4 (by first | (simp; done) | (simp; omega) | omega) ?_
              intro ha4_0 hb4_0
              have hz4_0 : w.heap.size < w4.heap.size := by have := hk4.size; (try simp at this); omega
              refine kuse (b := w.heap.size + 1) hk4 (by first | (simp; done) | (simp; omega) | omega) ?_
              intro ha4_1 hb4_1
              have hz4_1 : w.heap.size + 1 < w4.heap.size := by have := hk4.size; (try simp at this); omega
              refine kuse (b := w.heap.size + 2) hk4 (by first | (simp; done) | (simp; omega) | omega) ?_
              intro ha4_2 hb4_2
              have hz4_2 : w.heap.size + 2 < w4.heap.size := by have := hk4.size; (try simp at this); omega
              go_wp2_with fail
              refine (merge_cx1 p q r s x y u v (by omega) (by omega) (by omega) (by omega) (by omega) (by omega) (by omega) (by omega) (by omega) (by omega) (by omega) (by omega) (by omega) (by omega) (by omega) (by omega) (by omega) (by omega) _).mono ?_
              rintro e w5 ⟨rfl, hk5⟩
              refine kuse (b := w.heap.size) hk5 (by first | (simp; done) | (simp; omega) | omega) ?_
              intro ha5_0 hb5_0
              have hz5_0 : w.heap.size < w5.heap.size := by have := hk5.size; (try simp at this); omega
              refine kuse (b := w.heap.size + 1) hk5 (by first | (simp; done) | (simp; omega) | omega) ?_
              intro ha5_1 hb5_1
              have hz5_1 : w.heap.size + 1 < w5.heap.size := by have := hk5.size; (try simp at this); omega
              refine kuse (b := w.heap.size + 2) hk5 (by first | (simp; done) | (simp; omega) | omega) ?_
              intro ha5_2 hb5_2
              have hz5_2 : w.heap.size + 2 < w5.heap.size := by have := hk5.size; (try simp at this); omega
              refine kuse (b := w4.heap.size) hk5 (by first | (simp; done) | (simp; omega) | omega) ?_
              intro ha5_3 hb5_3
              have hz5_3 : w4.heap.size < w5.heap.size := by have := hk5.size; (try simp at this); omega
              go_wp2_with fail
              all_goals first | (go_ret; refine ⟨?_, (by repeat (first | with_reducible exact Kept.refl _ | with_reducible assumption | with_reducible refine Kept.setCell ?_ (by first | (simp; done) | (simp; omega) | omega) _ | with_reducible refine Kept.alloc ?_ _ | with_reducible refine Kept.drewN ?_ _ | with_reducible refine Kept.drew ?_ | with_reducible refine Kept.trans ?_ (by with_reducible assumption) | with_reducible refine Kept.dr ?_ (by with_reducible assumption)))⟩; first | rfl | (show Ending.returned (.bool (decide _)) = _; rw [decide_eq_true (by omega)]) | (show Ending.returned (.bool (decide _)) = _; rw [decide_eq_false (by omega)]) | (refine retb ?_; simp; done) | (refine retb ?_; simp; omega)) | (exfalso; omega)
          · go_enter Try.func7, Try.ntmps7
            go_wp2_with fail
            refine (awake_w _).mono ?_
            rintro e w1 ⟨rfl, hk1⟩
            refine kuse (b := w.heap.size) hk1 (by first | (simp; done) | (simp; omega) | omega) ?_
            intro ha1_0 hb1_0
            have hz1_0 : w.heap.size < w1.heap.size := by have := hk1.size; (try simp at this); omega
            refine kuse (b := w.heap.size + 1) hk1 (by first | (simp; done) | (simp; omega) | omega) ?_
            intro ha1_1 hb1_1
            have hz1_1 : w.heap.size + 1 < w1.heap.size := by have := hk1.size; (try simp at this); omega
            refine kuse (b := w.heap.size + 2) hk1 (by first | (simp; done) | (simp; omega) | omega) ?_
            intro ha1_2 hb1_2
            have hz1_2 : w.heap.size + 2 < w1.heap.size := by have := hk1.size; (try simp at this); omega
            go_wp2_with fail
            refine (inside_no x y u v m n (by omega) (by omega) (by omega) (by omega) (by omega) (by omega) (by omega) (by omega) (by omega) _).mono ?_
            rintro e w2 ⟨rfl, hk2⟩
            refine kuse (b := w.heap.size) hk2 (by first | (simp; done) | (simp; omega) | omega) ?_
            intro ha2_0 hb2_0
            have hz2_0 : w.heap.size < w2.heap.size := by have := hk2.size; (try simp at this); omega
            refine kuse (b := w.heap.size + 1) hk2 (by first | (simp; done) | (simp; omega) | omega) ?_
            intro ha2_1 hb2_1
            have hz2_1 : w.heap.size + 1 < w2.heap.size := by have := hk2.size; (try simp at this); omega
            refine kuse (b := w.heap.size + 2) hk2 (by first | (simp; done) | (simp; omega) | omega) ?_
            intro ha2_2 hb2_2
            have hz2_2 : w.heap.size + 2 < w2.heap.size := by have := hk2.size; (try simp at this); omega
            go_wp2_with fail
            refine (merge_cx1 x y u v p q r s (by omega) (by omega) (by omega) (by omega) (by omega) (by omega) (by omega) (by omega) (by omega) (by omega) (by omega) (by omega) (by omega) (by omega) (by omega) (by omega) (by omega) (by omega) _).mono ?_
            rintro e w3 ⟨rfl, hk3⟩
            refine kuse (b := w.heap.size) hk3 (by first | (simp; done) | (simp; omega) | omega) ?_
            intro ha3_0 hb3_0
            have hz3_0 : w.heap.size < w3.heap.size := by have := hk3.size; (try simp at this); omega
            refine kuse (b := w.heap.size + 1) hk3 (by first | (simp; done) | (simp; omega) | omega) ?_
            intro ha3_1 hb3_1
            have hz3_1 : w.heap.size + 1 < w3.heap.size := by have := hk3.size; (try simp at this); omega
            refine kuse (b := w.heap.size + 2) hk3 (by first | (simp; done) | (simp; omega) | omega) ?_
            intro ha3_2 hb3_2
            have hz3_2 : w.heap.size + 2 < w3.heap.size := by have := hk3.size; (try simp at this); omega
            go_wp2_with fail
            refine (merge_cx1 p q r s x y u v (by omega) (by omega) (by omega) (by omega) (by omega) (by omega) (by omega) (by omega) (by omega) (by omega) (by omega) (by omega) (by omega) (by omega) (by omega) (by omega) (by omega) (by omega) _).mono ?_
            rintro e w4 ⟨rfl, hk4⟩
            refine kuse (b := w.heap.size) hk4 (by first | (simp; done) | (simp; omega) | omega) ?_
            intro ha4_0 hb4_0
            have hz4_0 : w.heap.size < w4.heap.size := by have := hk4.size; (try simp at this); omega
            refine kuse (b := w.heap.size + 1) hk4 (by first | (simp; done) | (simp; omega) | omega) ?_
            intro ha4_1 hb4_1
            have hz4_1 : w.heap.size + 1 < w4.heap.size := by have := hk4.size; (try simp at this); omega
            refine kuse (b := w.heap.size + 2) hk4 (by first | (simp; done) | (simp; omega) | omega) ?_
            intro ha4_2 hb4_2
            have hz4_2 : w.heap.size + 2 < w4.heap.size := by have := hk4.size; (try simp at this); omega
            refine kuse (b := w3.heap.size) hk4 (by first | (simp; done) | (simp; omega) | omega) ?_
            intro ha4_3 hb4_3
            have hz4_3 : w3.heap.size < w4.heap.size := by have := hk4.size; (try simp at this); omega
            go_wp2_with fail
            all_goals first | (go_ret; refine ⟨?_, (by repeat (first | with_reducible exact Kept.refl _ | with_reducible assumption | with_reducible refine Kept.setCell ?_ (by first | (simp; done) | (simp; omega) | omega) _ | with_reducible refine Kept.alloc ?_ _ | with_reducible refine Kept.drewN ?_ _ | with_reducible refine Kept.drew ?_ | with_reducible refine Kept.trans ?_ (by with_reducible assumption) | with_reducible refine Kept.dr ?_ (by with_reducible assumption)))⟩; first | rfl | (show Ending.returned (.bool (decide _)) = _; rw [decide_eq_true (by omega)]) | (show Ending.returned (.bool (decide _)) = _; rw [decide_eq_false (by omega)]) | (refine retb ?_; simp; done) | (refine retb ?_; simp; omega)) | (exfalso; omega)
        · by_cases ia : (x - u ≤ m ∧ m ≤ x + u ∧ y - v ≤ n ∧ n ≤ y + v)
          · obtain ⟨ia1, ia2, ia3, ia4⟩ := ia
            by_cases ib : (p - r ≤ m ∧ m ≤ p + r ∧ q - s ≤ n ∧ n ≤ q + s)
            · obtain ⟨ib1, ib2, ib3, ib4⟩ := ib
              exfalso; omega
            · go_enter Try.func7, Try.ntmps7
              go_wp2_with fail
              refine (awake_w _).mono ?_
              rintro e w1 ⟨rfl, hk1⟩
              refine kuse (b := w.heap.size) hk1 (by first | (simp; done) | (simp; omega) | omega) ?_
              intro ha1_0 hb1_0
              have hz1_0 : w.heap.size < w1.heap.size := by have := hk1.size; (try simp at this); omega
              refine kuse (b := w.heap.size + 1) hk1 (by first | (simp; done) | (simp; omega) | omega) ?_
              intro ha1_1 hb1_1
              have hz1_1 : w.heap.size + 1 < w1.heap.size := by have := hk1.size; (try simp at this); omega
              refine kuse (b := w.heap.size + 2) hk1 (by first | (simp; done) | (simp; omega) | omega) ?_
              intro ha1_2 hb1_2
              have hz1_2 : w.heap.size + 2 < w1.heap.size := by have := hk1.size; (try simp at this); omega
              go_wp2_with fail
              refine (inside_yes x y u v m n (by omega) (by omega) (by omega) (by omega) (by omega) (by omega) (by omega) (by omega) (by omega) (by omega) (by omega) (by omega) _).mono ?_
              rintro e w2 ⟨rfl, hk2⟩
              refine kuse (b := w.heap.size) hk2 (by first | (simp; done) | (simp; omega) | omega) ?_
              intro ha2_0 hb2_0
              have hz2_0 : w.heap.size < w2.heap.size := by have := hk2.size; (try simp at this); omega
              refine kuse (b := w.heap.size + 1) hk2 (by first | (simp; done) | (simp; omega) | omega) ?_
              intro ha2_1 hb2_1
              have hz2_1 : w.heap.size + 1 < w2.heap.size := by have := hk2.size; (try simp at this); omega
              refine kuse (b := w.heap.size + 2) hk2 (by first | (simp; done) | (simp; omega) | omega) ?_
              intro ha2_2 hb2_2
              have hz2_2 : w.heap.size + 2 < w2.heap.size := by have := hk2.size; (try simp at this); omega
              go_wp2_with fail
              refine (inside_no p q r s m n (by omega) (by omega) (by omega) (by omega) (by omega) (by omega) (by omega) (by omega) (by omega) _).mono ?_
              rintro e w3 ⟨rfl, hk3⟩
              refine kuse (b := w.heap.size) hk3 (by first | (simp; done) | (simp; omega) | omega) ?_
              intro ha3_0 hb3_0
              have hz3_0 : w.heap.size < w3.heap.size := by have := hk3.size; (try simp at this); omega
              refine kuse (b := w.heap.size + 1) hk3 (by first | (simp; done) | (simp; omega) | omega) ?_
              intro ha3_1 hb3_1
              have hz3_1 : w.heap.size + 1 < w3.heap.size := by have := hk3.size; (try simp at this); omega
              refine kuse (b := w.heap.size + 2) hk3 (by first | (simp; done) | (simp; omega) | omega) ?_
              intro ha3_2 hb3_2
              have hz3_2 : w.heap.size + 2 < w3.heap.size := by have := hk3.size; (try simp at this); omega
              go_wp2_with fail
              refine (merge_cx0 x y u v p q r s (by omega) (by omega) (by omega) (by omega) (by omega) (by omega) (by omega) (by omega) (by omega) (by omega) (by omega) (by omega) (by omega) (by omega) (by omega) (by omega) (by omega) (by omega) _).mono ?_
              rintro e w4 ⟨rfl, hk4⟩
              refine kuse (b := w.heap.size) hk4 (by first | (simp; done) | (simp; omega) | omega) ?_
              intro ha4_0 hb4_0
              have hz4_0 : w.heap.size < w4.heap.size := by have := hk4.size; (try simp at this); omega
              refine kuse (b := w.heap.size + 1) hk4 (by first | (simp; done) | (simp; omega) | omega) ?_
              intro ha4_1 hb4_1
              have hz4_1 : w.heap.size + 1 < w4.heap.size := by have := hk4.size; (try simp at this); omega
              refine kuse (b := w.heap.size + 2) hk4 (by first | (simp; done) | (simp; omega) | omega) ?_
              intro ha4_2 hb4_2
              have hz4_2 : w.heap.size + 2 < w4.heap.size := by have := hk4.size; (try simp at this); omega
              go_wp2_with fail
              refine (merge_cx0 p q r s x y u v (by omega) (by omega) (by omega) (by omega) (by omega) (by omega) (by omega) (by omega) (by omega) (by omega) (by omega) (by omega) (by omega) (by omega) (by omega) (by omega) (by omega) (by omega) _).mono ?_
              rintro e w5 ⟨rfl, hk5⟩
              refine kuse (b := w.heap.size) hk5 (by first | (simp; done) | (simp; omega) | omega) ?_
              intro ha5_0 hb5_0
              have hz5_0 : w.heap.size < w5.heap.size := by have := hk5.size; (try simp at this); omega
              refine kuse (b := w.heap.size + 1) hk5 (by first | (simp; done) | (simp; omega) | omega) ?_
              intro ha5_1 hb5_1
              have hz5_1 : w.heap.size + 1 < w5.heap.size := by have := hk5.size; (try simp at this); omega
              refine kuse (b := w.heap.size + 2) hk5 (by first | (simp; done) | (simp; omega) | omega) ?_
              intro ha5_2 hb5_2
              have hz5_2 : w.heap.size + 2 < w5.heap.size := by have := hk5.size; (try simp at this); omega
              refine kuse (b := w4.heap.size) hk5 (by first | (simp; done) | (simp; omega) | omega) ?_
              intro ha5_3 hb5_3
              have hz5_3 : w4.heap.size < w5.heap.size := by have := hk5.size; (try simp at this); omega
              go_wp2_with fail
              all_goals first | (go_ret; refine ⟨?_, (by repeat (first | with_reducible exact Kept.refl _ | with_reducible assumption | with_reducible refine Kept.setCell ?_ (by first | (simp; done) | (simp; omega) | omega) _ | with_reducible refine Kept.alloc ?_ _ | with_reducible refine Kept.drewN ?_ _ | with_reducible refine Kept.drew ?_ | with_reducible refine Kept.trans ?_ (by with_reducible assumption) | with_reducible refine Kept.dr ?_ (by with_reducible assumption)))⟩; first | rfl | (show Ending.returned (.bool (decide _)) = _; rw [decide_eq_true (by omega)]) | (show Ending.returned (.bool (decide _)) = _; rw [decide_eq_false (by omega)]) | (refine retb ?_; simp; done) | (refine retb ?_; simp; omega)) | (exfalso; omega)
          · go_enter Try.func7, Try.ntmps7
            go_wp2_with fail
            refine (awake_w _).mono ?_
            rintro e w1 ⟨rfl, hk1⟩
            refine kuse (b := w.heap.size) hk1 (by first | (simp; done) | (simp; omega) | omega) ?_
            intro ha1_0 hb1_0
            have hz1_0 : w.heap.size < w1.heap.size := by have := hk1.size; (try simp at this); omega
            refine kuse (b := w.heap.size + 1) hk1 (by first | (simp; done) | (simp; omega) | omega) ?_
            intro ha1_1 hb1_1
            have hz1_1 : w.heap.size + 1 < w1.heap.size := by have := hk1.size; (try simp at this); omega
            refine kuse (b := w.heap.size + 2) hk1 (by first | (simp; done) | (simp; omega) | omega) ?_
            intro ha1_2 hb1_2
            have hz1_2 : w.heap.size + 2 < w1.heap.size := by have := hk1.size; (try simp at this); omega
            go_wp2_with fail
            refine (inside_no x y u v m n (by omega) (by omega) (by omega) (by omega) (by omega) (by omega) (by omega) (by omega) (by omega) _).mono ?_
            rintro e w2 ⟨rfl, hk2⟩
            refine kuse (b := w.heap.size) hk2 (by first | (simp; done) | (simp; omega) | omega) ?_
            intro ha2_0 hb2_0
            have hz2_0 : w.heap.size < w2.heap.size := by have := hk2.size; (try simp at this); omega
            refine kuse (b := w.heap.size + 1) hk2 (by first | (simp; done) | (simp; omega) | omega) ?_
            intro ha2_1 hb2_1
            have hz2_1 : w.heap.size + 1 < w2.heap.size := by have := hk2.size; (try simp at this); omega
            refine kuse (b := w.heap.size + 2) hk2 (by first | (simp; done) | (simp; omega) | omega) ?_
            intro ha2_2 hb2_2
            have hz2_2 : w.heap.size + 2 < w2.heap.size := by have := hk2.size; (try simp at this); omega
            go_wp2_with fail
            refine (merge_cx0 x y u v p q r s (by omega) (by omega) (by omega) (by omega) (by omega) (by omega) (by omega) (by omega) (by omega) (by omega) (by omega) (by omega) (by omega) (by omega) (by omega) (by omega) (by omega) (by omega) _).mono ?_
            rintro e w3 ⟨rfl, hk3⟩
            refine kuse (b := w.heap.size) hk3 (by first | (simp; done) | (simp; omega) | omega) ?_
            intro ha3_0 hb3_0
            have hz3_0 : w.heap.size < w3.heap.size := by have := hk3.size; (try simp at this); omega
            refine kuse (b := w.heap.size + 1) hk3 (by first | (simp; done) | (simp; omega) | omega) ?_
            intro ha3_1 hb3_1
            have hz3_1 : w.heap.size + 1 < w3.heap.size := by have := hk3.size; (try simp at this); omega
            refine kuse (b := w.heap.size + 2) hk3 (by first | (simp; done) | (simp; omega) | omega) ?_
            intro ha3_2 hb3_2
            have hz3_2 : w.heap.size + 2 < w3.heap.size := by have := hk3.size; (try simp at this); omega
            go_wp2_with fail
            refine (merge_cx0 p q r s x y u v (by omega) (by omega) (by omega) (by omega) (by omega) (by omega) (by omega) (by omega) (by omega) (by omega) (by omega) (by omega) (by omega) (by omega) (by omega) (by omega) (by omega) (by omega) _).mono ?_
            rintro e w4 ⟨rfl, hk4⟩
            refine kuse (b := w.heap.size) hk4 (by first | (simp; done) | (simp; omega) | omega) ?_
            intro ha4_0 hb4_0
            have hz4_0 : w.heap.size < w4.heap.size := by have := hk4.size; (try simp at this); omega
            refine kuse (b := w.heap.size + 1) hk4 (by first | (simp; done) | (simp; omega) | omega) ?_
            intro ha4_1 hb4_1
            have hz4_1 : w.heap.size + 1 < w4.heap.size := by have := hk4.size; (try simp at this); omega
            refine kuse (b := w.heap.size + 2) hk4 (by first | (simp; done) | (simp; omega) | omega) ?_
            intro ha4_2 hb4_2
            have hz4_2 : w.heap.size + 2 < w4.heap.size := by have := hk4.size; (try simp at this); omega
            refine kuse (b := w3.heap.size) hk4 (by first | (simp; done) | (simp; omega) | omega) ?_
            intro ha4_3 hb4_3
            have hz4_3 : w3.heap.size < w4.heap.size := by have := hk4.size; (try simp at this); omega
            go_wp2_with fail
            all_goals first | (go_ret; refine ⟨?_, (by repeat (first | with_reducible exact Kept.refl _ | with_reducible assumption | with_reducible refine Kept.setCell ?_ (by first | (simp; done) | (simp; omega) | omega) _ | with_reducible refine Kept.alloc ?_ _ | with_reducible refine Kept.drewN ?_ _ | with_reducible refine Kept.drew ?_ | with_reducible refine Kept.trans ?_ (by with_reducible assumption) | with_reducible refine Kept.dr ?_ (by with_reducible assumption)))⟩; first | rfl | (show Ending.returned (.bool (decide _)) = _; rw [decide_eq_true (by omega)]) | (show Ending.returned (.bool (decide _)) = _; rw [decide_eq_false (by omega)]) | (refine retb ?_; simp; done) | (refine retb ?_; simp; omega)) | (exfalso; omega)
      · by_cases ky : min (y + v) (q + s) < max (y - v) (q - s)
        · by_cases ia : (x - u ≤ m ∧ m ≤ x + u ∧ y - v ≤ n ∧ n ≤ y + v)
          · obtain ⟨ia1, ia2, ia3, ia4⟩ := ia
            by_cases ib : (p - r ≤ m ∧ m ≤ p + r ∧ q - s ≤ n ∧ n ≤ q + s)
            · obtain ⟨ib1, ib2, ib3, ib4⟩ := ib
              exfalso; omega
            · go_enter Try.func7, Try.ntmps7
              go_wp2_with fail
              refine (awake_w _).mono ?_
              rintro e w1 ⟨rfl, hk1⟩
              refine kuse (b := w.heap.size) hk1 (by first | (simp; done) | (simp; omega) | omega) ?_
              intro ha1_0 hb1_0
              have hz1_0 : w.heap.size < w1.heap.size := by have := hk1.size; (try simp at this); omega
              refine kuse (b := w.heap.size + 1) hk1 (by first | (simp; done) | (simp; omega) | omega) ?_
              intro ha1_1 hb1_1
              have hz1_1 : w.heap.size + 1 < w1.heap.size := by have := hk1.size; (try simp at this); omega
              refine kuse (b := w.heap.size + 2) hk1 (by first | (simp; done) | (simp; omega) | omega) ?_
              intro ha1_2 hb1_2
              have hz1_2 : w.heap.size + 2 < w1.heap.size := by have := hk1.size; (try simp at this); omega
              go_wp2_with fail
              refine (inside_yes x y u v m n (by omega) (by omega) (by omega) (by omega) (by omega) (by omega) (by omega) (by omega) (by omega) (by omega) (by omega) (by omega) _).mono ?_
              rintro e w2 ⟨rfl, hk2⟩
              refine kuse (b := w.heap.size) hk2 (by first | (simp; done) | (simp; omega) | omega) ?_
              intro ha2_0 hb2_0
              have hz2_0 : w.heap.size < w2.heap.size := by have := hk2.size; (try simp at this); omega
              refine kuse (b := w.heap.size + 1) hk2 (by first | (simp; done) | (simp; omega) | omega) ?_
              intro ha2_1 hb2_1
              have hz2_1 : w.heap.size + 1 < w2.heap.size := by have := hk2.size; (try simp at this); omega
              refine kuse (b := w.heap.size + 2) hk2 (by first | (simp; done) | (simp; omega) | omega) ?_
              intro ha2_2 hb2_2
              have hz2_2 : w.heap.size + 2 < w2.heap.size := by have := hk2.size; (try simp at this); omega
              go_wp2_with fail
              refine (inside_no p q r s m n (by omega) (by omega) (by omega) (by omega) (by omega) (by omega) (by omega) (by omega) (by omega) _).mono ?_
              rintro e w3 ⟨rfl, hk3⟩
              refine kuse (b := w.heap.size) hk3 (by first | (simp; done) | (simp; omega) | omega) ?_
              intro ha3_0 hb3_0
              have hz3_0 : w.heap.size < w3.heap.size := by have := hk3.size; (try simp at this); omega
              refine kuse (b := w.heap.size + 1) hk3 (by first | (simp; done) | (simp; omega) | omega) ?_
              intro ha3_1 hb3_1
              have hz3_1 : w.heap.size + 1 < w3.heap.size := by have := hk3.size; (try simp at this); omega
              refine kuse (b := w.heap.size + 2) hk3 (by first | (simp; done) | (simp; omega) | omega) ?_
              intro ha3_2 hb3_2
              have hz3_2 : w.heap.size + 2 < w3.heap.size := by have := hk3.size; (try simp at this); omega
              go_wp2_with fail
              refine (merge_cy0 x y u v p q r s (by omega) (by omega) (by omega) (by omega) (by omega) (by omega) (by omega) (by omega) (by omega) (by omega) (by omega) (by omega) (by omega) (by omega) (by omega) (by omega) (by omega) (by omega) _).mono ?_
              rintro e w4 ⟨rfl, hk4⟩
              refine kuse (b := w.heap.size) hk4 (by first | (simp; done) | (simp; omega) | omega) ?_
              intro ha4_0 hb4_0
              have hz4_0 : w.heap.size < w4.heap.size := by have := hk4.size; (try simp at this); omega
              refine kuse (b := w.heap.size + 1) hk4 (by first | (simp; done) | (simp; omega) | omega) ?_
              intro ha4_1 hb4_1
              have hz4_1 : w.heap.size + 1 < w4.heap.size := by have := hk4.size; (try simp at this); omega
              refine kuse (b := w.heap.size + 2) hk4 (by first | (simp; done) | (simp; omega) | omega) ?_
              intro ha4_2 hb4_2
              have hz4_2 : w.heap.size + 2 < w4.heap.size := by have := hk4.size; (try simp at this); omega
              go_wp2_with fail
              refine (merge_cy0 p q r s x y u v (by omega) (by omega) (by omega) (by omega) (by omega) (by omega) (by omega) (by omega) (by omega) (by omega) (by omega) (by omega) (by omega) (by omega) (by omega) (by omega) (by omega) (by omega) _).mono ?_
              rintro e w5 ⟨rfl, hk5⟩
              refine kuse (b := w.heap.size) hk5 (by first | (simp; done) | (simp; omega) | omega) ?_
              intro ha5_0 hb5_0
              have hz5_0 : w.heap.size < w5.heap.size := by have := hk5.size; (try simp at this); omega
              refine kuse (b := w.heap.size + 1) hk5 (by first | (simp; done) | (simp; omega) | omega) ?_
              intro ha5_1 hb5_1
              have hz5_1 : w.heap.size + 1 < w5.heap.size := by have := hk5.size; (try simp at this); omega
              refine kuse (b := w.heap.size + 2) hk5 (by first | (simp; done) | (simp; omega) | omega) ?_
              intro ha5_2 hb5_2
              have hz5_2 : w.heap.size + 2 < w5.heap.size := by have := hk5.size; (try simp at this); omega
              refine kuse (b := w4.heap.size) hk5 (by first | (simp; done) | (simp; omega) | omega) ?_
              intro ha5_3 hb5_3
              have hz5_3 : w4.heap.size < w5.heap.size := by have := hk5.size; (try simp at this); omega
              go_wp2_with fail
              all_goals first | (go_ret; refine ⟨?_, (by repeat (first | with_reducible exact Kept.refl _ | with_reducible assumption | with_reducible refine Kept.setCell ?_ (by first | (simp; done) | (simp; omega) | omega) _ | with_reducible refine Kept.alloc ?_ _ | with_reducible refine Kept.drewN ?_ _ | with_reducible refine Kept.drew ?_ | with_reducible refine Kept.trans ?_ (by with_reducible assumption) | with_reducible refine Kept.dr ?_ (by with_reducible assumption)))⟩; first | rfl | (show Ending.returned (.bool (decide _)) = _; rw [decide_eq_true (by omega)]) | (show Ending.returned (.bool (decide _)) = _; rw [decide_eq_false (by omega)]) | (refine retb ?_; simp; done) | (refine retb ?_; simp; omega)) | (exfalso; omega)
          · go_enter Try.func7, Try.ntmps7
            go_wp2_with fail
            refine (awake_w _).mono ?_
            rintro e w1 ⟨rfl, hk1⟩
            refine kuse (b := w.heap.size) hk1 (by first | (simp; done) | (simp; omega) | omega) ?_
            intro ha1_0 hb1_0
            have hz1_0 : w.heap.size < w1.heap.size := by have := hk1.size; (try simp at this); omega
            refine kuse (b := w.heap.size + 1) hk1 (by first | (simp; done) | (simp; omega) | omega) ?_
            intro ha1_1 hb1_1
            have hz1_1 : w.heap.size + 1 < w1.heap.size := by have := hk1.size; (try simp at this); omega
            refine kuse (b := w.heap.size + 2) hk1 (by first | (simp; done) | (simp; omega) | omega) ?_
            intro ha1_2 hb1_2
            have hz1_2 : w.heap.size + 2 < w1.heap.size := by have := hk1.size; (try simp at this); omega
            go_wp2_with fail
            refine (inside_no x y u v m n (by omega) (by omega) (by omega) (by omega) (by omega) (by omega) (by omega) (by omega) (by omega) _).mono ?_
            rintro e w2 ⟨rfl, hk2⟩
            refine kuse (b := w.heap.size) hk2 (by first | (simp; done) | (simp; omega) | omega) ?_
            intro ha2_0 hb2_0
            have hz2_0 : w.heap.size < w2.heap.size := by have := hk2.size; (try simp at this); omega
            refine kuse (b := w.heap.size + 1) hk2 (by first | (simp; done) | (simp; omega) | omega) ?_
            intro ha2_1 hb2_1
            have hz2_1 : w.heap.size + 1 < w2.heap.size := by have := hk2.size; (try simp at this); omega
            refine kuse (b := w.heap.size + 2) hk2 (by first | (simp; done) | (simp; omega) | omega) ?_
            intro ha2_2 hb2_2
            have hz2_2 : w.heap.size + 2 < w2.heap.size := by have := hk2.size; (try simp at this); omega
            go_wp2_with fail
            refine (merge_cy0 x y u v p q r s (by omega) (by omega) (by omega) (by omega) (by omega) (by omega) (by omega) (by omega) (by omega) (by omega) (by omega) (by omega) (by omega) (by omega) (by omega) (by omega) (by omega) (by omega) _).mono ?_
            rintro e w3 ⟨rfl, hk3⟩
            refine kuse (b := w.heap.size) hk3 (by first | (simp; done) | (simp; omega) | omega) ?_
            intro ha3_0 hb3_0
            have hz3_0 : w.heap.size < w3.heap.size := by have := hk3.size; (try simp at this); omega
            refine kuse (b := w.heap.size + 1) hk3 (by first | (simp; done) | (simp; omega) | omega) ?_
            intro ha3_1 hb3_1
            have hz3_1 : w.heap.size + 1 < w3.heap.size := by have := hk3.size; (try simp at this); omega
            refine kuse (b := w.heap.size + 2) hk3 (by first | (simp; done) | (simp; omega) | omega) ?_
            intro ha3_2 hb3_2
            have hz3_2 : w.heap.size + 2 < w3.heap.size := by have := hk3.size; (try simp at this); omega
            go_wp2_with fail
            refine (merge_cy0 p q r s x y u v (by omega) (by omega) (by omega) (by omega) (by omega) (by omega) (by omega) (by omega) (by omega) (by omega) (by omega) (by omega) (by omega) (by omega) (by omega) (by omega) (by omega) (by omega) _).mono ?_
            rintro e w4 ⟨rfl, hk4⟩
            refine kuse (b := w.heap.size) hk4 (by first | (simp; done) | (simp; omega) | omega) ?_
            intro ha4_0 hb4_0
            have hz4_0 : w.heap.size < w4.heap.size := by have := hk4.size; (try simp at this); omega
            refine kuse (b := w.heap.size + 1) hk4 (by first | (simp; done) | (simp; omega) | omega) ?_
            intro ha4_1 hb4_1
            have hz4_1 : w.heap.size + 1 < w4.heap.size := by have := hk4.size; (try simp at this); omega
            refine kuse (b := w.heap.size + 2) hk4 (by first | (simp; done) | (simp; omega) | omega) ?_
            intro ha4_2 hb4_2
            have hz4_2 : w.heap.size + 2 < w4.heap.size := by have := hk4.size; (try simp at this); omega
            refine kuse (b := w3.heap.size) hk4 (by first | (simp; done) | (simp; omega) | omega) ?_
            intro ha4_3 hb4_3
            have hz4_3 : w3.heap.size < w4.heap.size := by have := hk4.size; (try simp at this); omega
            go_wp2_with fail
            all_goals first | (go_ret; refine ⟨?_, (by repeat (first | with_reducible exact Kept.refl _ | with_reducible assumption | with_reducible refine Kept.setCell ?_ (by first | (simp; done) | (simp; omega) | omega) _ | with_reducible refine Kept.alloc ?_ _ | with_reducible refine Kept.drewN ?_ _ | with_reducible refine Kept.drew ?_ | with_reducible refine Kept.trans ?_ (by with_reducible assumption) | with_reducible refine Kept.dr ?_ (by with_reducible assumption)))⟩; first | rfl | (show Ending.returned (.bool (decide _)) = _; rw [decide_eq_true (by omega)]) | (show Ending.returned (.bool (decide _)) = _; rw [decide_eq_false (by omega)]) | (refine retb ?_; simp; done) | (refine retb ?_; simp; omega)) | (exfalso; omega)
        · obtain ⟨f1, f2, f3, f4, f5, f6⟩ := m_facts x u p r (by omega) (by omega) (by omega) (by omega) (by omega) (by omega) (by omega) (by omega) (by omega)
          obtain ⟨e1, e2, e3, e4, e5, e6⟩ := m_facts y v q s (by omega) (by omega) (by omega) (by omega) (by omega) (by omega) (by omega) (by omega) (by omega)
          obtain ⟨X, hX⟩ : ∃ X, mC x u p r = X := ⟨_, rfl⟩
          obtain ⟨Y, hY⟩ : ∃ X, mC y v q s = X := ⟨_, rfl⟩
          obtain ⟨WX, hWX⟩ : ∃ X, mW x u p r = X := ⟨_, rfl⟩
          obtain ⟨WY, hWY⟩ : ∃ X, mW y v q s = X := ⟨_, rfl⟩
          rw [hX] at f1 f2 f6; rw [hWX] at f3 f4 f5 f6; rw [hY] at e1 e2 e6; rw [hWY] at e3 e4 e5 e6
          have F6 := Lib.hid f6; have E6 := Lib.hid e6; clear f6 e6
          by_cases ia : (x - u ≤ m ∧ m ≤ x + u ∧ y - v ≤ n ∧ n ≤ y + v)
          · obtain ⟨ia1, ia2, ia3, ia4⟩ := ia
            by_cases ib : (p - r ≤ m ∧ m ≤ p + r ∧ q - s ≤ n ∧ n ≤ q + s)
            · obtain ⟨ib1, ib2, ib3, ib4⟩ := ib
              obtain ⟨n1, n2⟩ := F6.out m ia1 ia2 ib1 ib2
              obtain ⟨n3, n4⟩ := E6.out n ia3 ia4 ib3 ib4
              go_enter Try.func7, Try.ntmps7
              go_wp2_with fail
              refine (awake_w _).mono ?_
              rintro e w1 ⟨rfl, hk1⟩
              refine kuse (b := w.heap.size) hk1 (by first | (simp; done) | (simp; omega) | omega) ?_
              intro ha1_0 hb1_0
              have hz1_0 : w.heap.size < w1.heap.size := by have := hk1.size; (try simp at this); omega
              refine kuse (b := w.heap.size + 1) hk1 (by first | (simp; done) | (simp; omega) | omega) ?_
              intro ha1_1 hb1_1
              have hz1_1 : w.heap.size + 1 < w1.heap.size := by have := hk1.size; (try simp at this); omega
              refine kuse (b := w.heap.size + 2) hk1 (by first | (simp; done) | (simp; omega) | omega) ?_
              intro ha1_2 hb1_2
              have hz1_2 : w.heap.size + 2 < w1.heap.size := by have := hk1.size; (try simp at this); omega
              go_wp2_with fail
              refine (inside_yes x y u v m n (by omega) (by omega) (by omega) (by omega) (by omega) (by omega) (by omega) (by omega) (by omega) (by omega) (by omega) (by omega) _).mono ?_
              rintro e w2 ⟨rfl, hk2⟩
              refine kuse (b := w.heap.size) hk2 (by first | (simp; done) | (simp; omega) | omega) ?_
              intro ha2_0 hb2_0
              have hz2_0 : w.heap.size < w2.heap.size := by have := hk2.size; (try simp at this); omega
              refine kuse (b := w.heap.size + 1) hk2 (by first | (simp; done) | (simp; omega) | omega) ?_
              intro ha2_1 hb2_1
              have hz2_1 : w.heap.size + 1 < w2.heap.size := by have := hk2.size; (try simp at this); omega
              refine kuse (b := w.heap.size + 2) hk2 (by first | (simp; done) | (simp; omega) | omega) ?_
              intro ha2_2 hb2_2
              have hz2_2 : w.heap.size + 2 < w2.heap.size := by have := hk2.size; (try simp at this); omega
              go_wp2_with fail
              refine (inside_yes p q r s m n (by omega) (by omega) (by omega) (by omega) (by omega) (by omega) (by omega) (by omega) (by omega) (by omega) (by omega) (by omega) _).mono ?_
              rintro e w3 ⟨rfl, hk3⟩
              refine kuse (b := w.heap.size) hk3 (by first | (simp; done) | (simp; omega) | omega) ?_
              intro ha3_0 hb3_0
              have hz3_0 : w.heap.size < w3.heap.size := by have := hk3.size; (try simp at this); omega
              refine kuse (b := w.heap.size + 1) hk3 (by first | (simp; done) | (simp; omega) | omega) ?_
              intro ha3_1 hb3_1
              have hz3_1 : w.heap.size + 1 < w3.heap.size := by have := hk3.size; (try simp at this); omega
              refine kuse (b := w.heap.size + 2) hk3 (by first | (simp; done) | (simp; omega) | omega) ?_
              intro ha3_2 hb3_2
              have hz3_2 : w.heap.size + 2 < w3.heap.size := by have := hk3.size; (try simp at this); omega
              go_wp2_with fail
              refine (merge_ok x y u v p q r s (by omega) (by omega) (by omega) (by omega) (by omega) (by omega) (by omega) (by omega) (by omega) (by omega) (by omega) (by omega) (by omega) (by omega) (by omega) (by omega) (by omega) (by omega) _).mono ?_
              rw [hX, hY, hWX, hWY]
              rintro e w4 ⟨rfl, hk4⟩
              refine kuse (b := w.heap.size) hk4 (by first | (simp; done) | (simp; omega) | omega) ?_
              intro ha4_0 hb4_0
              have hz4_0 : w.heap.size < w4.heap.size := by have := hk4.size; (try simp at this); omega
              refine kuse (b := w.heap.size + 1) hk4 (by first | (simp; done) | (simp; omega) | omega) ?_
              intro ha4_1 hb4_1
              have hz4_1 : w.heap.size + 1 < w4.heap.size := by have := hk4.size; (try simp at this); omega
              refine kuse (b := w.heap.size + 2) hk4 (by first | (simp; done) | (simp; omega) | omega) ?_
              intro ha4_2 hb4_2
              have hz4_2 : w.heap.size + 2 < w4.heap.size := by have := hk4.size; (try simp at this); omega
              go_wp2_with fail
              refine (merge_ok p q r s x y u v (by omega) (by omega) (by omega) (by omega) (by omega) (by omega) (by omega) (by omega) (by omega) (by omega) (by omega) (by omega) (by omega) (by omega) (by omega) (by omega) (by omega) (by omega) _).mono ?_
              rw [mC_comm x u p r, mC_comm y v q s, mW_comm x u p r, mW_comm y v q s, hX, hY, hWX, hWY]
              rintro e w5 ⟨rfl, hk5⟩
              refine kuse (b := w.heap.size) hk5 (by first | (simp; done) | (simp; omega) | omega) ?_
              intro ha5_0 hb5_0
              have hz5_0 : w.heap.size < w5.heap.size := by have := hk5.size; (try simp at this); omega
              refine kuse (b := w.heap.size + 1) hk5 (by first | (simp; done) | (simp; omega) | omega) ?_
              intro ha5_1 hb5_1
              have hz5_1 : w.heap.size + 1 < w5.heap.size := by have := hk5.size; (try simp at this); omega
              refine kuse (b := w.heap.size + 2) hk5 (by first | (simp; done) | (simp; omega) | omega) ?_
              intro ha5_2 hb5_2
              have hz5_2 : w.heap.size + 2 < w5.heap.size := by have := hk5.size; (try simp at this); omega
              refine kuse (b := w4.heap.size) hk5 (by first | (simp; done) | (simp; omega) | omega) ?_
              intro ha5_3 hb5_3
              have hz5_3 : w4.heap.size < w5.heap.size := by have := hk5.size; (try simp at this); omega
              go_wp2_with fail
              refine (valid_ok X Y WX WY (by omega) (by omega) (by omega) (by omega) (by omega) (by omega) (by omega) (by omega) _).mono ?_
              rintro e w6 ⟨rfl, hk6⟩
              refine kuse (b := w.heap.size) hk6 (by first | (simp; done) | (simp; omega) | omega) ?_
              intro ha6_0 hb6_0
              have hz6_0 : w.heap.size < w6.heap.size := by have := hk6.size; (try simp at this); omega
              refine kuse (b := w.heap.size + 1) hk6 (by first | (simp; done) | (simp; omega) | omega) ?_
              intro ha6_1 hb6_1
              have hz6_1 : w.heap.size + 1 < w6.heap.size := by have := hk6.size; (try simp at this); omega
              refine kuse (b := w.heap.size + 2) hk6 (by first | (simp; done) | (simp; omega) | omega) ?_
              intro ha6_2 hb6_2
              have hz6_2 : w.heap.size + 2 < w6.heap.size := by have := hk6.size; (try simp at this); omega
              refine kuse (b := w4.heap.size) hk6 (by first | (simp; done) | (simp; omega) | omega) ?_
              intro ha6_3 hb6_3
              have hz6_3 : w4.heap.size < w6.heap.size := by have := hk6.size; (try simp at this); omega
              refine kuse (b := w5.heap.size) hk6 (by first | (simp; done) | (simp; omega) | omega) ?_
              intro ha6_4 hb6_4
              have hz6_4 : w5.heap.size < w6.heap.size := by have := hk6.size; (try simp at this); omega
              go_wp2_with fail
              refine (inside_yes X Y WX WY m n (by omega) (by omega) (by omega) (by omega) (by omega) (by omega) (by omega) (by omega) (by omega) (by omega) (by omega) (by omega) _).mono ?_
              rintro e w7 ⟨rfl, hk7⟩
              refine kuse (b := w.heap.size) hk7 (by first | (simp; done) | (simp; omega) | omega) ?_
              intro ha7_0 hb7_0
              have hz7_0 : w.heap.size < w7.heap.size := by have := hk7.size; (try simp at this); omega
              refine kuse (b := w.heap.size + 1) hk7 (by first | (simp; done) | (simp; omega) | omega) ?_
              intro ha7_1 hb7_1
              have hz7_1 : w.heap.size + 1 < w7.heap.size := by have := hk7.size; (try simp at this); omega
              refine kuse (b := w.heap.size + 2) hk7 (by first | (simp; done) | (simp; omega) | omega) ?_
              intro ha7_2 hb7_2
              have hz7_2 : w.heap.size + 2 < w7.heap.size := by have := hk7.size; (try simp at this); omega
              refine kuse (b := w4.heap.size) hk7 (by first | (simp; done) | (simp; omega) | omega) ?_
              intro ha7_3 hb7_3
              have hz7_3 : w4.heap.size < w7.heap.size := by have := hk7.size; (try simp at this); omega
              refine kuse (b := w5.heap.size) hk7 (by first | (simp; done) | (simp; omega) | omega) ?_
              intro ha7_4 hb7_4
              have hz7_4 : w5.heap.size < w7.heap.size := by have := hk7.size; (try simp at this); omega
              go_wp2_with fail
              all_goals first | (go_ret; refine ⟨?_, (by repeat (first | with_reducible exact Kept.refl _ | with_reducible assumption | with_reducible refine Kept.setCell ?_ (by first | (simp; done) | (simp; omega) | omega) _ | with_reducible refine Kept.alloc ?_ _ | with_reducible refine Kept.drewN ?_ _ | with_reducible refine Kept.drew ?_ | with_reducible refine Kept.trans ?_ (by with_reducible assumption) | with_reducible refine Kept.dr ?_ (by with_reducible assumption)))⟩; first | rfl | (show Ending.returned (.bool (decide _)) = _; rw [decide_eq_true (by omega)]) | (show Ending.returned (.bool (decide _)) = _; rw [decide_eq_false (by omega)]) | (refine retb ?_; simp; done) | (refine retb ?_; simp; omega)) | (exfalso; omega)
            · go_enter Try.func7, Try.ntmps7
              go_wp2_with fail
              refine (awake_w _).mono ?_
              rintro e w1 ⟨rfl, hk1⟩
              refine kuse (b := w.heap.size) hk1 (by first | (simp; done) | (simp; omega) | omega) ?_
              intro ha1_0 hb1_0
              have hz1_0 : w.heap.size < w1.heap.size := by have := hk1.size; (try simp at this); omega
              refine kuse (b := w.heap.size + 1) hk1 (by first | (simp; done) | (simp; omega) | omega) ?_
              intro ha1_1 hb1_1
              have hz1_1 : w.heap.size + 1 < w1.heap.size := by have := hk1.size; (try simp at this); omega
              refine kuse (b := w.heap.size + 2) hk1 (by first | (simp; done) | (simp; omega) | omega) ?_
              intro ha1_2 hb1_2
              have hz1_2 : w.heap.size + 2 < w1.heap.size := by have := hk1.size; (try simp at this); omega
              go_wp2_with fail
              refine (inside_yes x y u v m n (by omega) (by omega) (by omega) (by omega) (by omega) (by omega) (by omega) (by omega) (by omega) (by omega) (by omega) (by omega) _).mono ?_
              rintro e w2 ⟨rfl, hk2⟩
              refine kuse (b := w.heap.size) hk2 (by first | (simp; done) | (simp; omega) | omega) ?_
              intro ha2_0 hb2_0
              have hz2_0 : w.heap.size < w2.heap.size := by have := hk2.size; (try simp at this); omega
              refine kuse (b := w.heap.size + 1) hk2 (by first | (simp; done) | (simp; omega) | omega) ?_
              intro ha2_1 hb2_1
              have hz2_1 : w.heap.size + 1 < w2.heap.size := by have := hk2.size; (try simp at this); omega
              refine kuse (b := w.heap.size + 2) hk2 (by first | (simp; done) | (simp; omega) | omega) ?_
              intro ha2_2 hb2_2
              have hz2_2 : w.heap.size + 2 < w2.heap.size := by have := hk2.size; (try simp at this); omega
              go_wp2_with fail
              refine (inside_no p q r s m n (by omega) (by omega) (by omega) (by omega) (by omega) (by omega) (by omega) (by omega) (by omega) _).mono ?_
              rintro e w3 ⟨rfl, hk3⟩
              refine kuse (b := w.heap.size) hk3 (by first | (simp; done) | (simp; omega) | omega) ?_
              intro ha3_0 hb3_0
              have hz3_0 : w.heap.size < w3.heap.size := by have := hk3.size; (try simp at this); omega
              refine kuse (b := w.heap.size + 1) hk3 (by first | (simp; done) | (simp; omega) | omega) ?_
              intro ha3_1 hb3_1
              have hz3_1 : w.heap.size + 1 < w3.heap.size := by have := hk3.size; (try simp at this); omega
              refine kuse (b := w.heap.size + 2) hk3 (by first | (simp; done) | (simp; omega) | omega) ?_
              intro ha3_2 hb3_2
              have hz3_2 : w.heap.size + 2 < w3.heap.size := by have := hk3.size; (try simp at this); omega
              go_wp2_with fail
              refine (merge_ok x y u v p q r s (by omega) (by omega) (by omega) (by omega) (by omega) (by omega) (by omega) (by omega) (by omega) (by omega) (by omega) (by omega) (by omega) (by omega) (by omega) (by omega) (by omega) (by omega) _).mono ?_
              rw [hX, hY, hWX, hWY]
              rintro e w4 ⟨rfl, hk4⟩
              refine kuse (b := w.heap.size) hk4 (by first | (simp; done) | (simp; omega) | omega) ?_
              intro ha4_0 hb4_0
              have hz4_0 : w.heap.size < w4.heap.size := by have := hk4.size; (try simp at this); omega
              refine kuse (b := w.heap.size + 1) hk4 (by first | (simp; done) | (simp; omega) | omega) ?_
              intro ha4_1 hb4_1
              have hz4_1 : w.heap.size + 1 < w4.heap.size := by have := hk4.size; (try simp at this); omega
              refine kuse (b := w.heap.size + 2) hk4 (by first | (simp; done) | (simp; omega) | omega) ?_
              intro ha4_2 hb4_2
              have hz4_2 : w.heap.size + 2 < w4.heap.size := by have := hk4.size; (try simp at this); omega
              go_wp2_with fail
              refine (merge_ok p q r s x y u v (by omega) (by omega) (by omega) (by omega) (by omega) (by omega) (by omega) (by omega) (by omega) (by omega) (by omega) (by omega) (by omega) (by omega) (by omega) (by omega) (by omega) (by omega) _).mono ?_
              rw [mC_comm x u p r, mC_comm y v q s, mW_comm x u p r, mW_comm y v q s, hX, hY, hWX, hWY]
              rintro e w5 ⟨rfl, hk5⟩
              refine kuse (b := w.heap.size) hk5 (by first | (simp; done) | (simp; omega) | omega) ?_
              intro ha5_0 hb5_0
              have hz5_0 : w.heap.size < w5.heap.size := by have := hk5.size; (try simp at this); omega
              refine kuse (b := w.heap.size + 1) hk5 (by first | (simp; done) | (simp; omega) | omega) ?_
              intro ha5_1 hb5_1
              have hz5_1 : w.heap.size + 1 < w5.heap.size := by have := hk5.size; (try simp at this); omega
              refine kuse (b := w.heap.size + 2) hk5 (by first | (simp; done) | (simp; omega) | omega) ?_
              intro ha5_2 hb5_2
              have hz5_2 : w.heap.size + 2 < w5.heap.size := by have := hk5.size; (try simp at this); omega
              refine kuse (b := w4.heap.size) hk5 (by first | (simp; done) | (simp; omega) | omega) ?_
              intro ha5_3 hb5_3
              have hz5_3 : w4.heap.size < w5.heap.size := by have := hk5.size; (try simp at this); omega
              go_wp2_with fail
              refine (valid_ok X Y WX WY (by omega) (by omega) (by omega) (by omega) (by omega) (by omega) (by omega) (by omega) _).mono ?_
              rintro e w6 ⟨rfl, hk6⟩
              refine kuse (b := w.heap.size) hk6 (by first | (simp; done) | (simp; omega) | omega) ?_
              intro ha6_0 hb6_0
              have hz6_0 : w.heap.size < w6.heap.size := by have := hk6.size; (try simp at this); omega
              refine kuse (b := w.heap.size + 1) hk6 (by first | (simp; done) | (simp; omega) | omega) ?_
              intro ha6_1 hb6_1
              have hz6_1 : w.heap.size + 1 < w6.heap.size := by have := hk6.size; (try simp at this); omega
              refine kuse (b := w.heap.size + 2) hk6 (by first | (simp; done) | (simp; omega) | omega) ?_
              intro ha6_2 hb6_2
              have hz6_2 : w.heap.size + 2 < w6.heap.size := by have := hk6.size; (try simp at this); omega
              refine kuse (b := w4.heap.size) hk6 (by first | (simp; done) | (simp; omega) | omega) ?_
              intro ha6_3 hb6_3
              have hz6_3 : w4.heap.size < w6.heap.size := by have := hk6.size; (try simp at this); omega
              refine kuse (b := w5.heap.size) hk6 (by first | (simp; done) | (simp; omega) | omega) ?_
              intro ha6_4 hb6_4
              have hz6_4 : w5.heap.size < w6.heap.size := by have := hk6.size; (try simp at this); omega
              go_wp2_with fail
              all_goals first | (go_ret; refine ⟨?_, (by repeat (first | with_reducible exact Kept.refl _ | with_reducible assumption | with_reducible refine Kept.setCell ?_ (by first | (simp; done) | (simp; omega) | omega) _ | with_reducible refine Kept.alloc ?_ _ | with_reducible refine Kept.drewN ?_ _ | with_reducible refine Kept.drew ?_ | with_reducible refine Kept.trans ?_ (by with_reducible assumption) | with_reducible refine Kept.dr ?_ (by with_reducible assumption)))⟩; first | rfl | (show Ending.returned (.bool (decide _)) = _; rw [decide_eq_true (by omega)]) | (show Ending.returned (.bool (decide _)) = _; rw [decide_eq_false (by omega)]) | (refine retb ?_; simp; done) | (refine retb ?_; simp; omega)) | (exfalso; omega)
          · go_enter Try.func7, Try.ntmps7
            go_wp2_with fail
            refine (awake_w _).mono ?_
            rintro e w1 ⟨rfl, hk1⟩
            refine kuse (b := w.heap.size) hk1 (by first | (simp; done) | (simp; omega) | omega) ?_
            intro ha1_0 hb1_0
            have hz1_0 : w.heap.size < w1.heap.size := by have := hk1.size; (try simp at this); omega
            refine kuse (b := w.heap.size + 1) hk1 (by first | (simp; done) | (simp; omega) | omega) ?_
            intro ha1_1 hb1_1
            have hz1_1 : w.heap.size + 1 < w1.heap.size := by have := hk1.size; (try simp at this); omega
            refine kuse (b := w.heap.size + 2) hk1 (by first | (simp; done) | (simp; omega) | omega) ?_
            intro ha1_2 hb1_2
            have hz1_2 : w.heap.size + 2 < w1.heap.size := by have := hk1.size; (try simp at this); omega
            go_wp2_with fail
            refine (inside_no x y u v m n (by omega) (by omega) (by omega) (by omega) (by omega) (by omega) (by omega) (by omega) (by omega) _).mono ?_
            rintro e w2 ⟨rfl, hk2⟩
            refine kuse (b := w.heap.size) hk2 (by first | (simp; done) | (simp; omega) | omega) ?_
            intro ha2_0 hb2_0
            have hz2_0 : w.heap.size < w2.heap.size := by have := hk2.size; (try simp at this); omega
            refine kuse (b := w.heap.size + 1) hk2 (by first | (simp; done) | (simp; omega) | omega) ?_
            intro ha2_1 hb2_1
            have hz2_1 : w.heap.size + 1 < w2.heap.size := by have := hk2.size; (try simp at this); omega
            refine kuse (b := w.heap.size + 2) hk2 (by first | (simp; done) | (simp; omega) | omega) ?_
            intro ha2_2 hb2_2
            have hz2_2 : w.heap.size + 2 < w2.heap.size := by have := hk2.size; (try simp at this); omega
            go_wp2_with fail
            refine (merge_ok x y u v p q r s (by omega) (by omega) (by omega) (by omega) (by omega) (by omega) (by omega) (by omega) (by omega) (by omega) (by omega) (by omega) (by omega) (by omega) (by omega) (by omega) (by omega) (by omega) _).mono ?_
            rw [hX, hY, hWX, hWY]
            rintro e w3 ⟨rfl, hk3⟩
            refine kuse (b := w.heap.size) hk3 (by first | (simp; done) | (simp; omega) | omega) ?_
            intro ha3_0 hb3_0
            have hz3_0 : w.heap.size < w3.heap.size := by have := hk3.size; (try simp at this); omega
            refine kuse (b := w.heap.size + 1) hk3 (by first | (simp; done) | (simp; omega) | omega) ?_
            intro ha3_1 hb3_1
            have hz3_1 : w.heap.size + 1 < w3.heap.size := by have := hk3.size; (try simp at this); omega
            refine kuse (b := w.heap.size + 2) hk3 (by first | (simp; done) | (simp; omega) | omega) ?_
            intro ha3_2 hb3_2
            have hz3_2 : w.heap.size + 2 < w3.heap.size := by have := hk3.size; (try simp at this); omega
            go_wp2_with fail
            refine (merge_ok p q r s x y u v (by omega) (by omega) (by omega) (by omega) (by omega) (by omega) (by omega) (by omega) (by omega) (by omega) (by omega) (by omega) (by omega) (by omega) (by omega) (by omega) (by omega) (by omega) _).mono ?_
            rw [mC_comm x u p r, mC_comm y v q s, mW_comm x u p r, mW_comm y v q s, hX, hY, hWX, hWY]
            rintro e w4 ⟨rfl, hk4⟩
            refine kuse (b := w.heap.size) hk4 (by first | (simp; done) | (simp; omega) | omega) ?_
            intro ha4_0 hb4_0
            have hz4_0 : w.heap.size < w4.heap.size := by have := hk4.size; (try simp at this); omega
            refine kuse (b := w.heap.size + 1) hk4 (by first | (simp; done) | (simp; omega) | omega) ?_
            intro ha4_1 hb4_1
            have hz4_1 : w.heap.size + 1 < w4.heap.size := by have := hk4.size; (try simp at this); omega
            refine kuse (b := w.heap.size + 2) hk4 (by first | (simp; done) | (simp; omega) | omega) ?_
            intro ha4_2 hb4_2
            have hz4_2 : w.heap.size + 2 < w4.heap.size := by have := hk4.size; (try simp at this); omega
            refine kuse (b := w3.heap.size) hk4 (by first | (simp; done) | (simp; omega) | omega) ?_
            intro ha4_3 hb4_3
            have hz4_3 : w3.heap.size < w4.heap.size := by have := hk4.size; (try simp at this); omega
            go_wp2_with fail
            refine (valid_ok X Y WX WY (by omega) (by omega) (by omega) (by omega) (by omega) (by omega) (by omega) (by omega) _).mono ?_
            rintro e w5 ⟨rfl, hk5⟩
            refine kuse (b := w.heap.size) hk5 (by first | (simp; done) | (simp; omega) | omega) ?_
            intro ha5_0 hb5_0
            have hz5_0 : w.heap.size < w5.heap.size := by have := hk5.size; (try simp at this); omega
            refine kuse (b := w.heap.size + 1) hk5 (by first | (simp; done) | (simp; omega) | omega) ?_
            intro ha5_1 hb5_1
            have hz5_1 : w.heap.size + 1 < w5.heap.size := by have := hk5.size; (try simp at this); omega
            refine kuse (b := w.heap.size + 2) hk5 (by first | (simp; done) | (simp; omega) | omega) ?_
            intro ha5_2 hb5_2
            have hz5_2 : w.heap.size + 2 < w5.heap.size := by have := hk5.size; (try simp at this); omega
            refine kuse (b := w3.heap.size) hk5 (by first | (simp; done) | (simp; omega) | omega) ?_
            intro ha5_3 hb5_3
            have hz5_3 : w3.heap.size < w5.heap.size := by have := hk5.size; (try simp at this); omega
            refine kuse (b := w4.heap.size) hk5 (by first | (simp; done) | (simp; omega) | omega) ?_
            intro ha5_4 hb5_4
            have hz5_4 : w4.heap.size < w5.heap.size := by have := hk5.size; (try simp at this); omega
            go_wp2_with fail
            all_goals first | (go_ret; refine ⟨?_, (by repeat (first | with_reducible exact Kept.refl _ | with_reducible assumption | with_reducible refine Kept.setCell ?_ (by first | (simp; done) | (simp; omega) | omega) _ | with_reducible refine Kept.alloc ?_ _ | with_reducible refine Kept.drewN ?_ _ | with_reducible refine Kept.drew ?_ | with_reducible refine Kept.trans ?_ (by with_reducible assumption) | with_reducible refine Kept.dr ?_ (by with_reducible assumption)))⟩; first | rfl | (show Ending.returned (.bool (decide _)) = _; rw [decide_eq_true (by omega)]) | (show Ending.returned (.bool (decide _)) = _; rw [decide_eq_false (by omega)]) | (refine retb ?_; simp; done) | (refine retb ?_; simp; omega)) | (exfalso; omega)
end Go.Proofs.Ytgbgiafdhbplhaa
