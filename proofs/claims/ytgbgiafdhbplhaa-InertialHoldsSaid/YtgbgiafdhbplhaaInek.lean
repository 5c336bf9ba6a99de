/-
  Own contracts: the law of layer 45 on points that move within the bound of the error.
-/
import Derived.Test.YtgbgiafdhbplhaaInei
import Derived.WalkKit
import Derived.ProofKit
import Derived.OpenShut
import Derived.WalkLawsBesides
import Derived.WalkSpells
import Derived.Lib.Hide
import Derived.Deep.DeepCutAuto
import Derived.Deep.CutBlock
import Derived.Deep.QuietTactic
import Derived.BigQuiet
import Derived.Handy
import Derived.StillTailTactics
import Derived.IntWalk
import Derived.LoopN
import Derived.Deep.RegionHeld3
namespace Go.Proofs.Ytgbgiafdhbplhaa
open Go.ChangeShapes Go.WideShapes Go.ChangeAt Go.RowKit
set_option linter.unusedVariables false
set_option linter.unusedSimpArgs false
def mx4 (x y z u : Int) : Int := max (max (max x y) z) u
theorem run_max4 {P : Program} {w : World} (ts : Array TypeId) (t : TypeId) (x y z u : Int) : (Builtin.max_ ts t #[.int .i64 x, .int .i64 y, .int .i64 z, .int .i64 u]).run P w = .ok (.int .i64 (mx4 x y z u)) w := by
  have h : ∀ a b : Int, (if b > a then b else a) = max a b := fun a b => by split <;> omega
  simp [Builtin.max_, Builtin.max2, mx4, h]
theorem near_yes (a b k : Int) (h1 : -9223372036854775808 ≤ a - b) (h2 : a - b ≤ 9223372036854775807) (h3 : -9223372036854775808 ≤ b - a) (h4 : b - a ≤ 9223372036854775807) (k1 : a - b ≤ k) (k2 : b - a ≤ k) (w : World) : Calls Try.prog 17 #[.int .i64 a, .int .i64 b, .int .i64 k] w fun e w' => e = .returned (.bool true) ∧ w = w' := by
  go_enter Try.func17, Try.ntmps17
  go_wp2
  go_ret
  refine ⟨?_, rfl⟩
  first | rfl | (show Ending.returned (.bool (decide _)) = _; rw [decide_eq_true (by omega)]) | (show Ending.returned (.bool (decide _)) = _; rw [decide_eq_false (by omega)])
theorem near_no (a b k : Int) (h1 : -9223372036854775808 ≤ a - b) (h2 : a - b ≤ 9223372036854775807) (h3 : -9223372036854775808 ≤ b - a) (h4 : b - a ≤ 9223372036854775807) (h : k < a - b ∨ k < b - a) (w : World) : Calls Try.prog 17 #[.int .i64 a, .int .i64 b, .int .i64 k] w fun e w' => e = .returned (.bool false) ∧ w = w' := by
  by_cases c : k < a - b
  · clear h
    go_enter Try.func17, Try.ntmps17
    go_wp2
    go_ret
    refine ⟨?_, rfl⟩
    first | rfl | (show Ending.returned (.bool (decide _)) = _; rw [decide_eq_true (by omega)]) | (show Ending.returned (.bool (decide _)) = _; rw [decide_eq_false (by omega)])
  · have c1 : k < b - a := by omega
    clear h
    go_enter Try.func17, Try.ntmps17
    go_wp2
    go_ret
    refine ⟨?_, rfl⟩
    first | rfl | (show Ending.returned (.bool (decide _)) = _; rw [decide_eq_true (by omega)]) | (show Ending.returned (.bool (decide _)) = _; rw [decide_eq_false (by omega)])
set_option maxHeartbeats 4000000 in
theorem law_holds (x y u v a b d t p q r s : Int) (x_0 : -9223372036854775808 ≤ x) (x_1 : x ≤ 9223372036854775807) (y_0 : -9223372036854775808 ≤ y) (y_1 : y ≤ 9223372036854775807) (u_0 : -9223372036854775808 ≤ u) (u_1 : u ≤ 9223372036854775807) (v_0 : -9223372036854775808 ≤ v) (v_1 : v ≤ 9223372036854775807) (a_0 : -9223372036854775808 ≤ a) (a_1 : a ≤ 9223372036854775807) (b_0 : -9223372036854775808 ≤ b) (b_1 : b ≤ 9223372036854775807) (d_0 : -9223372036854775808 ≤ d) (d_1 : d ≤ 9223372036854775807) (t_0 : -9223372036854775808 ≤ t) (t_1 : t ≤ 9223372036854775807) (p_0 : -9223372036854775808 ≤ p) (p_1 : p ≤ 9223372036854775807) (q_0 : -9223372036854775808 ≤ q) (q_1 : q ≤ 9223372036854775807) (r_0 : -9223372036854775808 ≤ r) (r_1 : r ≤ 9223372036854775807) (s_0 : -9223372036854775808 ≤ s) (s_1 : s ≤ 9223372036854775807) (w : World) : Calls Try.prog 4 #[.agg #[.int .i64 x, .int .i64 y, .int .i64 u, .int .i64 v], .agg #[.int .i64 a, .int .i64 b, .int .i64 d, .int .i64 t], .agg #[.int .i64 p, .int .i64 q, .int .i64 r, .int .i64 s]] w fun en w' => en = .returned (.bool true) ∧ Kept w w' := by
  by_cases badx : x < -2000000 ∨ 2000000 < x ∨ y < -2000000 ∨ 2000000 < y ∨ u < 0 ∨ 2000000 < u ∨ v < 0 ∨ 2000000 < v
  · go_enter Try.func4, Try.ntmps4
    go_wp2_with fail
    refine (awake_w _).mono ?_
    rintro e w1 ⟨rfl, hk1⟩
    refine kuse (b := w.heap.size) hk1 (by first | (simp; done) | (simp; omega) | omega) ?_
    intro ha1_0 hb1_0
    have hz1_0 : w.heap.size < w1.heap.size := by have := hk1.size; (try simp at this); omega
    refine kuse (b := w.heap.size + 1) hk1 (by first | (simp; done) | (simp; omega) | omega) ?_
    intro ha1_1 hb1_1
    have hz1_1 : w.heap.size + 1 < w1.heap.size := by have := hk1.size; (try simp at this); omega
    refine kuse (b := w.heap.size + 2) hk1 (by first | (simp; done) | (simp; omega) | omega) ?_
    intro ha1_2 hb1_2
    have hz1_2 : w.heap.size + 2 < w1.heap.size := by have := hk1.size; (try simp at this); omega
    go_wp2_with fail
    refine (coast_arg _ _ _ _ _ _ _ _ (by omega) (by omega) (by omega) (by omega) (by omega) (by omega) (by omega) (by omega) (by omega) (by omega) (by omega) (by omega) (by omega) (by omega) (by omega) (by omega) (by omega) _).mono ?_
    rintro e w2 ⟨rfl, hk2⟩
    refine kuse (b := w.heap.size) hk2 (by first | (simp; done) | (simp; omega) | omega) ?_
    intro ha2_0 hb2_0
    have hz2_0 : w.heap.size < w2.heap.size := by have := hk2.size; (try simp at this); omega
    refine kuse (b := w.heap.size + 1) hk2 (by first | (simp; done) | (simp; omega) | omega) ?_
    intro ha2_1 hb2_1
    have hz2_1 : w.heap.size + 1 < w2.heap.size := by have := hk2.size; (try simp at this); omega
    refine kuse (b := w.heap.size + 2) hk2 (by first | (simp; done) | (simp; omega) | omega) ?_
    intro ha2_2 hb2_2
    have hz2_2 : w.heap.size + 2 < w2.heap.size := by have := hk2.size; (try simp at this); omega
    go_wp2_with fail
    all_goals first | (go_ret; refine ⟨?_, (by repeat (first | with_reducible exact Kept.refl _ | with_reducible assumption | with_reducible refine Kept.setCell ?_ (by first | (simp; done) | (simp; omega) | omega) _ | with_reducible refine Kept.alloc ?_ _ | with_reducible refine Kept.drewN ?_ _ | with_reducible refine Kept.drew ?_ | with_reducible refine Kept.trans ?_ (by with_reducible assumption) | with_reducible refine Kept.dr ?_ (by with_reducible assumption)))⟩; first | rfl | (show Ending.returned (.bool (decide _)) = _; rw [decide_eq_true (by omega)]) | (show Ending.returned (.bool (decide _)) = _; rw [decide_eq_false (by omega)]) | (refine retb ?_; simp; done) | (refine retb ?_; simp; omega)) | (exfalso; omega)
  · have g0 : -2000000 ≤ x := by omega
    have g1 : x ≤ 2000000 := by omega
    have g2 : -2000000 ≤ y := by omega
    have g3 : y ≤ 2000000 := by omega
    have g4 : 0 ≤ u := by omega
    have g5 : u ≤ 2000000 := by omega
    have g6 : 0 ≤ v := by omega
    have g7 : v ≤ 2000000 := by omega
    clear badx
    by_cases rngx : a < -2000 ∨ 2000 < a ∨ b < -2000 ∨ 2000 < b ∨ d < 0 ∨ 1000 < d ∨ t < 0 ∨ 144000 < t
    · go_enter Try.func4, Try.ntmps4
      go_wp2_with fail
      refine (awake_w _).mono ?_
      rintro e w1 ⟨rfl, hk1⟩
      refine kuse (b := w.heap.size) hk1 (by first | (simp; done) | (simp; omega) | omega) ?_
      intro ha1_0 hb1_0
      have hz1_0 : w.heap.size < w1.heap.size := by have := hk1.size; (try simp at this); omega
      refine kuse (b := w.heap.size + 1) hk1 (by first | (simp; done) | (simp; omega) | omega) ?_
      intro ha1_1 hb1_1
      have hz1_1 : w.heap.size + 1 < w1.heap.size := by have := hk1.size; (try simp at this); omega
      refine kuse (b := w.heap.size + 2) hk1 (by first | (simp; done) | (simp; omega) | omega) ?_
      intro ha1_2 hb1_2
      have hz1_2 : w.heap.size + 2 < w1.heap.size := by have := hk1.size; (try simp at this); omega
      go_wp2_with fail
      refine (coast_rng _ _ _ _ _ _ _ _ (by omega) (by omega) (by omega) (by omega) (by omega) (by omega) (by omega) (by omega) (by omega) (by omega) (by omega) (by omega) (by omega) (by omega) (by omega) (by omega) (by omega) _).mono ?_
      rintro e w2 ⟨rfl, hk2⟩
      refine kuse (b := w.heap.size) hk2 (by first | (simp; done) | (simp; omega) | omega) ?_
      intro ha2_0 hb2_0
      have hz2_0 : w.heap.size < w2.heap.size := by have := hk2.size; (try simp at this); omega
      refine kuse (b := w.heap.size + 1) hk2 (by first | (simp; done) | (simp; omega) | omega) ?_
      intro ha2_1 hb2_1
      have hz2_1 : w.heap.size + 1 < w2.heap.size := by have := hk2.size; (try simp at this); omega
      refine kuse (b := w.heap.size + 2) hk2 (by first | (simp; done) | (simp; omega) | omega) ?_
      intro ha2_2 hb2_2
      have hz2_2 : w.heap.size + 2 < w2.heap.size := by have := hk2.size; (try simp at this); omega
      go_wp2_with fail
      all_goals first | (go_ret; refine ⟨?_, (by repeat (first | with_reducible exact Kept.refl _ | with_reducible assumption | with_reducible refine Kept.setCell ?_ (by first | (simp; done) | (simp; omega) | omega) _ | with_reducible refine Kept.alloc ?_ _ | with_reducible refine Kept.drewN ?_ _ | with_reducible refine Kept.drew ?_ | with_reducible refine Kept.trans ?_ (by with_reducible assumption) | with_reducible refine Kept.dr ?_ (by with_reducible assumption)))⟩; first | rfl | (show Ending.returned (.bool (decide _)) = _; rw [decide_eq_true (by omega)]) | (show Ending.returned (.bool (decide _)) = _; rw [decide_eq_false (by omega)]) | (refine retb ?_; simp; done) | (refine retb ?_; simp; omega)) | (exfalso; omega)
    · have r0 : -2000 ≤ a := by omega
      have r1 : a ≤ 2000 := by omega
      have r2 : -2000 ≤ b := by omega
      have r3 : b ≤ 2000 := by omega
      have r4 : 0 ≤ d := by omega
      have r5 : d ≤ 1000 := by omega
      have r6 : 0 ≤ t := by omega
      have r7 : t ≤ 144000 := by omega
      clear rngx
      have p1 := mul_bd a t 2000 r0 r1 r6 r7
      have p2 := mul_bd b t 2000 r2 r3 r6 r7
      have p3 := mul_bd d t 1000 (by omega) r5 r6 r7
      have p4 : 0 ≤ d * t := Int.mul_nonneg r4 r6
      by_cases outx : x + a * t < -2000000 ∨ 2000000 < x + a * t ∨ y + b * t < -2000000 ∨ 2000000 < y + b * t ∨ 2000000 < u + d * t ∨ 2000000 < v + d * t
      · go_enter Try.func4, Try.ntmps4
        go_wp2_with fail
        refine (awake_w _).mono ?_
        rintro e w1 ⟨rfl, hk1⟩
        refine kuse (b := w.heap.size) hk1 (by first | (simp; done) | (simp; omega) | omega) ?_
        intro ha1_0 hb1_0
        have hz1_0 : w.heap.size < w1.heap.size := by have := hk1.size; (try simp at this); omega
        refine kuse (b := w.heap.size + 1) hk1 (by first | (simp; done) | (simp; omega) | omega) ?_
        intro ha1_1 hb1_1
        have hz1_1 : w.heap.size + 1 < w1.heap.size := by have := hk1.size; (try simp at this); omega
        refine kuse (b := w.heap.size + 2) hk1 (by first | (simp; done) | (simp; omega) | omega) ?_
        intro ha1_2 hb1_2
        have hz1_2 : w.heap.size + 2 < w1.heap.size := by have := hk1.size; (try simp at this); omega
        go_wp2_with fail
        refine (coast_out _ _ _ _ _ _ _ _ (by omega) (by omega) (by omega) (by omega) (by omega) (by omega) (by omega) (by omega) (by omega) (by omega) (by omega) (by omega) (by omega) (by omega) (by omega) (by omega) (by omega) _).mono ?_
        rintro e w2 ⟨rfl, hk2⟩
        refine kuse (b := w.heap.size) hk2 (by first | (simp; done) | (simp; omega) | omega) ?_
        intro ha2_0 hb2_0
        have hz2_0 : w.heap.size < w2.heap.size := by have := hk2.size; (try simp at this); omega
        refine kuse (b := w.heap.size + 1) hk2 (by first | (simp; done) | (simp; omega) | omega) ?_
        intro ha2_1 hb2_1
        have hz2_1 : w.heap.size + 1 < w2.heap.size := by have := hk2.size; (try simp at this); omega
        refine kuse (b := w.heap.size + 2) hk2 (by first | (simp; done) | (simp; omega) | omega) ?_
        intro ha2_2 hb2_2
        have hz2_2 : w.heap.size + 2 < w2.heap.size := by have := hk2.size; (try simp at this); omega
        go_wp2_with fail
        all_goals first | (go_ret; refine ⟨?_, (by repeat (first | with_reducible exact Kept.refl _ | with_reducible assumption | with_reducible refine Kept.setCell ?_ (by first | (simp; done) | (simp; omega) | omega) _ | with_reducible refine Kept.alloc ?_ _ | with_reducible refine Kept.drewN ?_ _ | with_reducible refine Kept.drew ?_ | with_reducible refine Kept.trans ?_ (by with_reducible assumption) | with_reducible refine Kept.dr ?_ (by with_reducible assumption)))⟩; first | rfl | (show Ending.returned (.bool (decide _)) = _; rw [decide_eq_true (by omega)]) | (show Ending.returned (.bool (decide _)) = _; rw [decide_eq_false (by omega)]) | (refine retb ?_; simp; done) | (refine retb ?_; simp; omega)) | (exfalso; omega)
      · have o0 : -2000000 ≤ x + a * t := by omega
        have o1 : x + a * t ≤ 2000000 := by omega
        have o2 : -2000000 ≤ y + b * t := by omega
        have o3 : y + b * t ≤ 2000000 := by omega
        have o4 : u + d * t ≤ 2000000 := by omega
        have o5 : v + d * t ≤ 2000000 := by omega
        clear outx
        by_cases ia : x - u ≤ p ∧ p ≤ x + u ∧ y - v ≤ q ∧ q ≤ y + v
        · obtain ⟨ia1, ia2, ia3, ia4⟩ := ia
          have mxl : ∀ (ts : Array TypeId) (ty : TypeId) (x y z u : Int) (w : World), (Builtin.max_ ts ty #[.int .i64 x, .int .i64 y, .int .i64 z, .int .i64 u]).run Try.prog w = .ok (.int .i64 (mx4 x y z u)) w := fun ts ty x y z u w => run_max4 ts ty x y z u
          by_cases far1 : r < -1099511627776
          · go_enter Try.func4, Try.ntmps4
            go_wp2_with fail
            refine (awake_w _).mono ?_
            rintro e w1 ⟨rfl, hk1⟩
            refine kuse (b := w.heap.size) hk1 (by first | (simp; done) | (simp; omega) | omega) ?_
            intro ha1_0 hb1_0
            have hz1_0 : w.heap.size < w1.heap.size := by have := hk1.size; (try simp at this); omega
            refine kuse (b := w.heap.size + 1) hk1 (by first | (simp; done) | (simp; omega) | omega) ?_
            intro ha1_1 hb1_1
            have hz1_1 : w.heap.size + 1 < w1.heap.size := by have := hk1.size; (try simp at this); omega
            refine kuse (b := w.heap.size + 2) hk1 (by first | (simp; done) | (simp; omega) | omega) ?_
            intro ha1_2 hb1_2
            have hz1_2 : w.heap.size + 2 < w1.heap.size := by have := hk1.size; (try simp at this); omega
            go_wp2_with fail
            refine (coast_ok _ _ _ _ _ _ _ _ (by omega) (by omega) (by omega) (by omega) (by omega) (by omega) (by omega) (by omega) (by omega) (by omega) (by omega) (by omega) (by omega) (by omega) (by omega) (by omega) (by omega) (by omega) (by omega) (by omega) (by omega) (by omega) _).mono ?_
            rintro e w2 ⟨rfl, hk2⟩
            refine kuse (b := w.heap.size) hk2 (by first | (simp; done) | (simp; omega) | omega) ?_
            intro ha2_0 hb2_0
            have hz2_0 : w.heap.size < w2.heap.size := by have := hk2.size; (try simp at this); omega
            refine kuse (b := w.heap.size + 1) hk2 (by first | (simp; done) | (simp; omega) | omega) ?_
            intro ha2_1 hb2_1
            have hz2_1 : w.heap.size + 1 < w2.heap.size := by have := hk2.size; (try simp at this); omega
            refine kuse (b := w.heap.size + 2) hk2 (by first | (simp; done) | (simp; omega) | omega) ?_
            intro ha2_2 hb2_2
            have hz2_2 : w.heap.size + 2 < w2.heap.size := by have := hk2.size; (try simp at this); omega
            go_wp2_with fail
            refine (inside_yes x y u v p q (by omega) (by omega) (by omega) (by omega) (by omega) (by omega) (by omega) (by omega) (by omega) (by omega) (by omega) (by omega) _).mono ?_
            rintro e w3 ⟨rfl, hk3⟩
            refine kuse (b := w.heap.size) hk3 (by first | (simp; done) | (simp; omega) | omega) ?_
            intro ha3_0 hb3_0
            have hz3_0 : w.heap.size < w3.heap.size := by have := hk3.size; (try simp at this); omega
            refine kuse (b := w.heap.size + 1) hk3 (by first | (simp; done) | (simp; omega) | omega) ?_
            intro ha3_1 hb3_1
            have hz3_1 : w.heap.size + 1 < w3.heap.size := by have := hk3.size; (try simp at this); omega
            refine kuse (b := w.heap.size + 2) hk3 (by first | (simp; done) | (simp; omega) | omega) ?_
            intro ha3_2 hb3_2
            have hz3_2 : w.heap.size + 2 < w3.heap.size := by have := hk3.size; (try simp at this); omega
            refine kuse (b := w2.heap.size) hk3 (by first | (simp; done) | (simp; omega) | omega) ?_
            intro ha3_3 hb3_3
            have hz3_3 : w2.heap.size < w3.heap.size := by have := hk3.size; (try simp at this); omega
            go_wp2_with fail
            all_goals first | (go_ret; refine ⟨?_, (by repeat (first | with_reducible exact Kept.refl _ | with_reducible assumption | with_reducible refine Kept.setCell ?_ (by first | (simp; done) | (simp; omega) | omega) _ | with_reducible refine Kept.alloc ?_ _ | with_reducible refine Kept.drewN ?_ _ | with_reducible refine Kept.drew ?_ | with_reducible refine Kept.trans ?_ (by with_reducible assumption) | with_reducible refine Kept.dr ?_ (by with_reducible assumption)))⟩; first | rfl | (show Ending.returned (.bool (decide _)) = _; rw [decide_eq_true (by omega)]) | (show Ending.returned (.bool (decide _)) = _; rw [decide_eq_false (by omega)]) | (refine retb ?_; simp; done) | (refine retb ?_; simp; omega)) | (exfalso; omega)
          · have j1 : -1099511627776 ≤ r := by omega
            clear far1
            by_cases far3 : s < -1099511627776
            · go_enter Try.func4, Try.ntmps4
              go_wp2_with fail
              refine (awake_w _).mono ?_
              rintro e w1 ⟨rfl, hk1⟩
              refine kuse (b := w.heap.size) hk1 (by first | (simp; done) | (simp; omega) | omega) ?_
              intro ha1_0 hb1_0
              have hz1_0 : w.heap.size < w1.heap.size := by have := hk1.size; (try simp at this); omega
              refine kuse (b := w.heap.size + 1) hk1 (by first | (simp; done) | (simp; omega) | omega) ?_
              intro ha1_1 hb1_1
              have hz1_1 : w.heap.size + 1 < w1.heap.size := by have := hk1.size; (try simp at this); omega
              refine kuse (b := w.heap.size + 2) hk1 (by first | (simp; done) | (simp; omega) | omega) ?_
              intro ha1_2 hb1_2
              have hz1_2 : w.heap.size + 2 < w1.heap.size := by have := hk1.size; (try simp at this); omega
              go_wp2_with fail
              refine (coast_ok _ _ _ _ _ _ _ _ (by omega) (by omega) (by omega) (by omega) (by omega) (by omega) (by omega) (by omega) (by omega) (by omega) (by omega) (by omega) (by omega) (by omega) (by omega) (by omega) (by omega) (by omega) (by omega) (by omega) (by omega) (by omega) _).mono ?_
              rintro e w2 ⟨rfl, hk2⟩
              refine kuse (b := w.heap.size) hk2 (by first | (simp; done) | (simp; omega) | omega) ?_
              intro ha2_0 hb2_0
              have hz2_0 : w.heap.size < w2.heap.size := by have := hk2.size; (try simp at this); omega
              refine kuse (b := w.heap.size + 1) hk2 (by first | (simp; done) | (simp; omega) | omega) ?_
              intro ha2_1 hb2_1
              have hz2_1 : w.heap.size + 1 < w2.heap.size := by have := hk2.size; (try simp at this); omega
              refine kuse (b := w.heap.size + 2) hk2 (by first | (simp; done) | (simp; omega) | omega) ?_
              intro ha2_2 hb2_2
              have hz2_2 : w.heap.size + 2 < w2.heap.size := by have := hk2.size; (try simp at this); omega
              go_wp2_with fail
              refine (inside_yes x y u v p q (by omega) (by omega) (by omega) (by omega) (by omega) (by omega) (by omega) (by omega) (by omega) (by omega) (by omega) (by omega) _).mono ?_
              rintro e w3 ⟨rfl, hk3⟩
              refine kuse (b := w.heap.size) hk3 (by first | (simp; done) | (simp; omega) | omega) ?_
              intro ha3_0 hb3_0
              have hz3_0 : w.heap.size < w3.heap.size := by have := hk3.size; (try simp at this); omega
              refine kuse (b := w.heap.size + 1) hk3 (by first | (simp; done) | (simp; omega) | omega) ?_
              intro ha3_1 hb3_1
              have hz3_1 : w.heap.size + 1 < w3.heap.size := by have := hk3.size; (try simp at this); omega
              refine kuse (b := w.heap.size + 2) hk3 (by first | (simp; done) | (simp; omega) | omega) ?_
              intro ha3_2 hb3_2
              have hz3_2 : w.heap.size + 2 < w3.heap.size := by have := hk3.size; (try simp at this); omega
              refine kuse (b := w2.heap.size) hk3 (by first | (simp; done) | (simp; omega) | omega) ?_
              intro ha3_3 hb3_3
              have hz3_3 : w2.heap.size < w3.heap.size := by have := hk3.size; (try simp at this); omega
              go_wp2_with fail
              all_goals first | (go_ret; refine ⟨?_, (by repeat (first | with_reducible exact Kept.refl _ | with_reducible assumption | with_reducible refine Kept.setCell ?_ (by first | (simp; done) | (simp; omega) | omega) _ | with_reducible refine Kept.alloc ?_ _ | with_reducible refine Kept.drewN ?_ _ | with_reducible refine Kept.drew ?_ | with_reducible refine Kept.trans ?_ (by with_reducible assumption) | with_reducible refine Kept.dr ?_ (by with_reducible assumption)))⟩; first | rfl | (show Ending.returned (.bool (decide _)) = _; rw [decide_eq_true (by omega)]) | (show Ending.returned (.bool (decide _)) = _; rw [decide_eq_false (by omega)]) | (refine retb ?_; simp; done) | (refine retb ?_; simp; omega)) | (exfalso; omega)
            · have j3 : -1099511627776 ≤ s := by omega
              clear far3
              by_cases far2 : 1099511627776 < r
              · have mf : 1099511627776 < mx4 r (-r) s (-s) := by unfold mx4; omega
                go_enter Try.func4, Try.ntmps4
                go_wp2_with fail
                refine (awake_w _).mono ?_
                rintro e w1 ⟨rfl, hk1⟩
                refine kuse (b := w.heap.size) hk1 (by first | (simp; done) | (simp; omega) | omega) ?_
                intro ha1_0 hb1_0
                have hz1_0 : w.heap.size < w1.heap.size := by have := hk1.size; (try simp at this); omega
                refine kuse (b := w.heap.size + 1) hk1 (by first | (simp; done) | (simp; omega) | omega) ?_
                intro ha1_1 hb1_1
                have hz1_1 : w.heap.size + 1 < w1.heap.size := by have := hk1.size; (try simp at this); omega
                refine kuse (b := w.heap.size + 2) hk1 (by first | (simp; done) | (simp; omega) | omega) ?_
                intro ha1_2 hb1_2
                have hz1_2 : w.heap.size + 2 < w1.heap.size := by have := hk1.size; (try simp at this); omega
                go_wp2_with fail
                refine (coast_ok _ _ _ _ _ _ _ _ (by omega) (by omega) (by omega) (by omega) (by omega) (by omega) (by omega) (by omega) (by omega) (by omega) (by omega) (by omega) (by omega) (by omega) (by omega) (by omega) (by omega) (by omega) (by omega) (by omega) (by omega) (by omega) _).mono ?_
                rintro e w2 ⟨rfl, hk2⟩
                refine kuse (b := w.heap.size) hk2 (by first | (simp; done) | (simp; omega) | omega) ?_
                intro ha2_0 hb2_0
                have hz2_0 : w.heap.size < w2.heap.size := by have := hk2.size; (try simp at this); omega
                refine kuse (b := w.heap.size + 1) hk2 (by first | (simp; done) | (simp; omega) | omega) ?_
                intro ha2_1 hb2_1
                have hz2_1 : w.heap.size + 1 < w2.heap.size := by have := hk2.size; (try simp at this); omega
                refine kuse (b := w.heap.size + 2) hk2 (by first | (simp; done) | (simp; omega) | omega) ?_
                intro ha2_2 hb2_2
                have hz2_2 : w.heap.size + 2 < w2.heap.size := by have := hk2.size; (try simp at this); omega
                go_wp2_with fail
                refine (inside_yes x y u v p q (by omega) (by omega) (by omega) (by omega) (by omega) (by omega) (by omega) (by omega) (by omega) (by omega) (by omega) (by omega) _).mono ?_
                rintro e w3 ⟨rfl, hk3⟩
                refine kuse (b := w.heap.size) hk3 (by first | (simp; done) | (simp; omega) | omega) ?_
                intro ha3_0 hb3_0
                have hz3_0 : w.heap.size < w3.heap.size := by have := hk3.size; (try simp at this); omega
                refine kuse (b := w.heap.size + 1) hk3 (by first | (simp; done) | (simp; omega) | omega) ?_
                intro ha3_1 hb3_1
                have hz3_1 : w.heap.size + 1 < w3.heap.size := by have := hk3.size; (try simp at this); omega
                refine kuse (b := w.heap.size + 2) hk3 (by first | (simp; done) | (simp; omega) | omega) ?_
                intro ha3_2 hb3_2
                have hz3_2 : w.heap.size + 2 < w3.heap.size := by have := hk3.size; (try simp at this); omega
                refine kuse (b := w2.heap.size) hk3 (by first | (simp; done) | (simp; omega) | omega) ?_
                intro ha3_3 hb3_3
                have hz3_3 : w2.heap.size < w3.heap.size := by have := hk3.size; (try simp at this); omega
                go_wp2_with fail
                all_goals first | (go_ret; refine ⟨?_, (by repeat (first | with_reducible exact Kept.refl _ | with_reducible assumption | with_reducible refine Kept.setCell ?_ (by first | (simp; done) | (simp; omega) | omega) _ | with_reducible refine Kept.alloc ?_ _ | with_reducible refine Kept.drewN ?_ _ | with_reducible refine Kept.drew ?_ | with_reducible refine Kept.trans ?_ (by with_reducible assumption) | with_reducible refine Kept.dr ?_ (by with_reducible assumption)))⟩; first | rfl | (show Ending.returned (.bool (decide _)) = _; rw [decide_eq_true (by omega)]) | (show Ending.returned (.bool (decide _)) = _; rw [decide_eq_false (by omega)]) | (refine retb ?_; simp; done) | (refine retb ?_; simp; omega)) | (exfalso; omega)
              · by_cases far4 : 1099511627776 < s
                · have mf : 1099511627776 < mx4 r (-r) s (-s) := by unfold mx4; omega
                  go_enter Try.func4, Try.ntmps4
                  go_wp2_with fail
                  refine (awake_w _).mono ?_
                  rintro e w1 ⟨rfl, hk1⟩
                  refine kuse (b := w.heap.size) hk1 (by first | (simp; done) | (simp; omega) | omega) ?_
                  intro ha1_0 hb1_0
                  have hz1_0 : w.heap.size < w1.heap.size := by have := hk1.size; (try simp at this); omega
                  refine kuse (b := w.heap.size + 1) hk1 (by first | (simp; done) | (simp; omega) | omega) ?_
                  intro ha1_1 hb1_1
                  have hz1_1 : w.heap.size + 1 < w1.heap.size := by have := hk1.size; (try simp at this); omega
                  refine kuse (b := w.heap.size + 2) hk1 (by first | (simp; done) | (simp; omega) | omega) ?_
                  intro ha1_2 hb1_2
                  have hz1_2 : w.heap.size + 2 < w1.heap.size := by have := hk1.size; (try simp at this); omega
                  go_wp2_with fail
                  refine (coast_ok _ _ _ _ _ _ _ _ (by omega) (by omega) (by omega) (by omega) (by omega) (by omega) (by omega) (by omega) (by omega) (by omega) (by omega) (by omega) (by omega) (by omega) (by omega) (by omega) (by omega) (by omega) (by omega) (by omega) (by omega) (by omega) _).mono ?_
                  rintro e w2 ⟨rfl, hk2⟩
                  refine kuse (b := w.heap.size) hk2 (by first | (simp; done) | (simp; omega) | omega) ?_
                  intro ha2_0 hb2_0
                  have hz2_0 : w.heap.size < w2.heap.size := by have := hk2.size; (try simp at this); omega
                  refine kuse (b := w.heap.size + 1) hk2 (by first | (simp; done) | (simp; omega) | omega) ?_
                  intro ha2_1 hb2_1
                  have hz2_1 : w.heap.size + 1 < w2.heap.size := by have := hk2.size; (try simp at this); omega
                  refine kuse (b := w.heap.size + 2) hk2 (by first | (simp; done) | (simp; omega) | omega) ?_
                  intro ha2_2 hb2_2
                  have hz2_2 : w.heap.size + 2 < w2.heap.size := by have := hk2.size; (try simp at this); omega
                  go_wp2_with fail
                  refine (inside_yes x y u v p q (by omega) (by omega) (by omega) (by omega) (by omega) (by omega) (by omega) (by omega) (by omega) (by omega) (by omega) (by omega) _).mono ?_
                  rintro e w3 ⟨rfl, hk3⟩
                  refine kuse (b := w.heap.size) hk3 (by first | (simp; done) | (simp; omega) | omega) ?_
                  intro ha3_0 hb3_0
                  have hz3_0 : w.heap.size < w3.heap.size := by have := hk3.size; (try simp at this); omega
                  refine kuse (b := w.heap.size + 1) hk3 (by first | (simp; done) | (simp; omega) | omega) ?_
                  intro ha3_1 hb3_1
                  have hz3_1 : w.heap.size + 1 < w3.heap.size := by have := hk3.size; (try simp at this); omega
                  refine kuse (b := w.heap.size + 2) hk3 (by first | (simp; done) | (simp; omega) | omega) ?_
                  intro ha3_2 hb3_2
                  have hz3_2 : w.heap.size + 2 < w3.heap.size := by have := hk3.size; (try simp at this); omega
                  refine kuse (b := w2.heap.size) hk3 (by first | (simp; done) | (simp; omega) | omega) ?_
                  intro ha3_3 hb3_3
                  have hz3_3 : w2.heap.size < w3.heap.size := by have := hk3.size; (try simp at this); omega
                  go_wp2_with fail
                  all_goals first | (go_ret; refine ⟨?_, (by repeat (first | with_reducible exact Kept.refl _ | with_reducible assumption | with_reducible refine Kept.setCell ?_ (by first | (simp; done) | (simp; omega) | omega) _ | with_reducible refine Kept.alloc ?_ _ | with_reducible refine Kept.drewN ?_ _ | with_reducible refine Kept.drew ?_ | with_reducible refine Kept.trans ?_ (by with_reducible assumption) | with_reducible refine Kept.dr ?_ (by with_reducible assumption)))⟩; first | rfl | (show Ending.returned (.bool (decide _)) = _; rw [decide_eq_true (by omega)]) | (show Ending.returned (.bool (decide _)) = _; rw [decide_eq_false (by omega)]) | (refine retb ?_; simp; done) | (refine retb ?_; simp; omega)) | (exfalso; omega)
                · have mf : mx4 r (-r) s (-s) ≤ 1099511627776 := by unfold mx4; omega
                  have j2 : r ≤ 1099511627776 := by omega
                  have j4 : s ≤ 1099511627776 := by omega
                  clear far2 far4
                  by_cases n1 : (r - p) - a * t ≤ d * t ∧ a * t - (r - p) ≤ d * t
                  · obtain ⟨n11, n12⟩ := n1
                    by_cases n2 : (s - q) - b * t ≤ d * t ∧ b * t - (s - q) ≤ d * t
                    · obtain ⟨n21, n22⟩ := n2
                      go_enter Try.func4, Try.ntmps4
                      go_wp2_with fail
                      refine (awake_w _).mono ?_
                      rintro e w1 ⟨rfl, hk1⟩
                      refine kuse (b := w.heap.size) hk1 (by first | (simp; done) | (simp; omega) | omega) ?_
                      intro ha1_0 hb1_0
                      have hz1_0 : w.heap.size < w1.heap.size := by have := hk1.size; (try simp at this); omega
                      refine kuse (b := w.heap.size + 1) hk1 (by first | (simp; done) | (simp; omega) | omega) ?_
                      intro ha1_1 hb1_1
                      have hz1_1 : w.heap.size + 1 < w1.heap.size := by have := hk1.size; (try simp at this); omega
                      refine kuse (b := w.heap.size + 2) hk1 (by first | (simp; done) | (simp; omega) | omega) ?_
                      intro ha1_2 hb1_2
                      have hz1_2 : w.heap.size + 2 < w1.heap.size := by have := hk1.size; (try simp at this); omega
                      go_wp2_with fail
                      refine (coast_ok _ _ _ _ _ _ _ _ (by omega) (by omega) (by omega) (by omega) (by omega) (by omega) (by omega) (by omega) (by omega) (by omega) (by omega) (by omega) (by omega) (by omega) (by omega) (by omega) (by omega) (by omega) (by omega) (by omega) (by omega) (by omega) _).mono ?_
                      rintro e w2 ⟨rfl, hk2⟩
                      refine kuse (b := w.heap.size) hk2 (by first | (simp; done) | (simp; omega) | omega) ?_
                      intro ha2_0 hb2_0
                      have hz2_0 : w.heap.size < w2.heap.size := by have := hk2.size; (try simp at this); omega
                      refine kuse (b := w.heap.size + 1) hk2 (by first | (simp; done) | (simp; omega) | omega) ?_
                      intro ha2_1 hb2_1
                      have hz2_1 : w.heap.size + 1 < w2.heap.size := by have := hk2.size; (try simp at this); omega
                      refine kuse (b := w.heap.size + 2) hk2 (by first | (simp; done) | (simp; omega) | omega) ?_
                      intro ha2_2 hb2_2
                      have hz2_2 : w.heap.size + 2 < w2.heap.size := by have := hk2.size; (try simp at this); omega
                      go_wp2_with fail
                      refine (inside_yes x y u v p q (by omega) (by omega) (by omega) (by omega) (by omega) (by omega) (by omega) (by omega) (by omega) (by omega) (by omega) (by omega) _).mono ?_
                      rintro e w3 ⟨rfl, hk3⟩
                      refine kuse (b := w.heap.size) hk3 (by first | (simp; done) | (simp; omega) | omega) ?_
                      intro ha3_0 hb3_0
                      have hz3_0 : w.heap.size < w3.heap.size := by have := hk3.size; (try simp at this); omega
                      refine kuse (b := w.heap.size + 1) hk3 (by first | (simp; done) | (simp; omega) | omega) ?_
                      intro ha3_1 hb3_1
                      have hz3_1 : w.heap.size + 1 < w3.heap.size := by have := hk3.size; (try simp at this); omega
                      refine kuse (b := w.heap.size + 2) hk3 (by first | (simp; done) | (simp; omega) | omega) ?_
                      intro ha3_2 hb3_2
                      have hz3_2 : w.heap.size + 2 < w3.heap.size := by have := hk3.size; (try simp at this); omega
                      refine kuse (b := w2.heap.size) hk3 (by first | (simp; done) | (simp; omega) | omega) ?_
                      intro ha3_3 hb3_3
                      have hz3_3 : w2.heap.size < w3.heap.size := by have := hk3.size; (try simp at this); omega
                      go_wp2_with fail
                      refine (near_yes (r - p) (a * t) (d * t) (by omega) (by omega) (by omega) (by omega) (by omega) (by omega) _).mono ?_
                      rintro e w' ⟨rfl, rfl⟩
                      go_wp2_with fail
                      refine (near_yes (s - q) (b * t) (d * t) (by omega) (by omega) (by omega) (by omega) (by omega) (by omega) _).mono ?_
                      rintro e w' ⟨rfl, rfl⟩
                      go_wp2_with fail
                      refine (inside_yes (x + a * t) (y + b * t) (u + d * t) (v + d * t) r s (by omega) (by omega) (by omega) (by omega) (by omega) (by omega) (by omega) (by omega) (by omega) (by omega) (by omega) (by omega) _).mono ?_
                      rintro e w6 ⟨rfl, hk6⟩
                      refine kuse (b := w.heap.size) hk6 (by first | (simp; done) | (simp; omega) | omega) ?_
                      intro ha6_0 hb6_0
                      have hz6_0 : w.heap.size < w6.heap.size := by have := hk6.size; (try simp at this); omega
                      refine kuse (b := w.heap.size + 1) hk6 (by first | (simp; done) | (simp; omega) | omega) ?_
                      intro ha6_1 hb6_1
                      have hz6_1 : w.heap.size + 1 < w6.heap.size := by have := hk6.size; (try simp at this); omega
                      refine kuse (b := w.heap.size + 2) hk6 (by first | (simp; done) | (simp; omega) | omega) ?_
                      intro ha6_2 hb6_2
                      have hz6_2 : w.heap.size + 2 < w6.heap.size := by have := hk6.size; (try simp at this); omega
                      refine kuse (b := w2.heap.size) hk6 (by first | (simp; done) | (simp; omega) | omega) ?_
                      intro ha6_3 hb6_3
                      have hz6_3 : w2.heap.size < w6.heap.size := by have := hk6.size; (try simp at this); omega
                      go_wp2_with fail
                      all_goals first | (go_ret; refine ⟨?_, (by repeat (first | with_reducible exact Kept.refl _ | with_reducible assumption | with_reducible refine Kept.setCell ?_ (by first | (simp; done) | (simp; omega) | omega) _ | with_reducible refine Kept.alloc ?_ _ | with_reducible refine Kept.drewN ?_ _ | with_reducible refine Kept.drew ?_ | with_reducible refine Kept.trans ?_ (by with_reducible assumption) | with_reducible refine Kept.dr ?_ (by with_reducible assumption)))⟩; first | rfl | (show Ending.returned (.bool (decide _)) = _; rw [decide_eq_true (by omega)]) | (show Ending.returned (.bool (decide _)) = _; rw [decide_eq_false (by omega)]) | (refine retb ?_; simp; done) | (refine retb ?_; simp; omega)) | (exfalso; omega)
                    · go_enter Try.func4, Try.ntmps4
                      go_wp2_with fail
                      refine (awake_w _).mono ?_
                      rintro e w1 ⟨rfl, hk1⟩
                      refine kuse (b := w.heap.size) hk1 (by first | (simp; done) | (simp; omega) | omega) ?_
                      intro ha1_0 hb1_0
                      have hz1_0 : w.heap.size < w1.heap.size := by have := hk1.size; (try simp at this); omega
                      refine kuse (b := w.heap.size + 1) hk1 (by first | (simp; done) | (simp; omega) | omega) ?_
                      intro ha1_1 hb1_1
                      have hz1_1 : w.heap.size + 1 < w1.heap.size := by have := hk1.size; (try simp at this); omega
                      refine kuse (b := w.heap.size + 2) hk1 (by first | (simp; done) | (simp; omega) | omega) ?_
                      intro ha1_2 hb1_2
                      have hz1_2 : w.heap.size + 2 < w1.heap.size := by have := hk1.size; (try simp at this); omega
                      go_wp2_with fail
                      refine (coast_ok _ _ _ _ _ _ _ _ (by omega) (by omega) (by omega) (by omega) (by omega) (by omega) (by omega) (by omega) (by omega) (by omega) (by omega) (by omega) (by omega) (by omega) (by omega) (by omega) (by omega) (by omega) (by omega) (by omega) (by omega) (by omega) _).mono ?_
                      rintro e w2 ⟨rfl, hk2⟩
                      refine kuse (b := w.heap.size) hk2 (by first | (simp; done) | (simp; omega) | omega) ?_
                      intro ha2_0 hb2_0
                      have hz2_0 : w.heap.size < w2.heap.size := by have := hk2.size; (try simp at this); omega
                      refine kuse (b := w.heap.size + 1) hk2 (by first | (simp; done) | (simp; omega) | omega) ?_
                      intro ha2_1 hb2_1
                      have hz2_1 : w.heap.size + 1 < w2.heap.size := by have := hk2.size; (try simp at this); omega
                      refine kuse (b := w.heap.size + 2) hk2 (by first | (simp; done) | (simp; omega) | omega) ?_
                      intro ha2_2 hb2_2
                      have hz2_2 : w.heap.size + 2 < w2.heap.size := by have := hk2.size; (try simp at this); omega
                      go_wp2_with fail
                      refine (inside_yes x y u v p q (by omega) (by omega) (by omega) (by omega) (by omega) (by omega) (by omega) (by omega) (by omega) (by omega) (by omega) (by omega) _).mono ?_
                      rintro e w3 ⟨rfl, hk3⟩
                      refine kuse (b := w.heap.size) hk3 (by first | (simp; done) | (simp; omega) | omega) ?_
                      intro ha3_0 hb3_0
                      have hz3_0 : w.heap.size < w3.heap.size := by have := hk3.size; (try simp at this); omega
                      refine kuse (b := w.heap.size + 1) hk3 (by first | (simp; done) | (simp; omega) | omega) ?_
                      intro ha3_1 hb3_1
                      have hz3_1 : w.heap.size + 1 < w3.heap.size := by have := hk3.size; (try simp at this); omega
                      refine kuse (b := w.heap.size + 2) hk3 (by first | (simp; done) | (simp; omega) | omega) ?_
                      intro ha3_2 hb3_2
                      have hz3_2 : w.heap.size + 2 < w3.heap.size := by have := hk3.size; (try simp at this); omega
                      refine kuse (b := w2.heap.size) hk3 (by first | (simp; done) | (simp; omega) | omega) ?_
                      intro ha3_3 hb3_3
                      have hz3_3 : w2.heap.size < w3.heap.size := by have := hk3.size; (try simp at this); omega
                      go_wp2_with fail
                      refine (near_yes (r - p) (a * t) (d * t) (by omega) (by omega) (by omega) (by omega) (by omega) (by omega) _).mono ?_
                      rintro e w' ⟨rfl, rfl⟩
                      go_wp2_with fail
                      refine (near_no (s - q) (b * t) (d * t) (by omega) (by omega) (by omega) (by omega) (by omega) _).mono ?_
                      rintro e w' ⟨rfl, rfl⟩
                      go_wp2_with fail
                      all_goals first | (go_ret; refine ⟨?_, (by repeat (first | with_reducible exact Kept.refl _ | with_reducible assumption | with_reducible refine Kept.setCell ?_ (by first | (simp; done) | (simp; omega) | omega) _ | with_reducible refine Kept.alloc ?_ _ | with_reducible refine Kept.drewN ?_ _ | with_reducible refine Kept.drew ?_ | with_reducible refine Kept.trans ?_ (by with_reducible assumption) | with_reducible refine Kept.dr ?_ (by with_reducible assumption)))⟩; first | rfl | (show Ending.returned (.bool (decide _)) = _; rw [decide_eq_true (by omega)]) | (show Ending.returned (.bool (decide _)) = _; rw [decide_eq_false (by omega)]) | (refine retb ?_; simp; done) | (refine retb ?_; simp; omega)) | (exfalso; omega)
                  · go_enter Try.func4, Try.ntmps4
                    go_wp2_with fail
                    refine (awake_w _).mono ?_
                    rintro e w1 ⟨rfl, hk1⟩
                    refine kuse (b := w.heap.size) hk1 (by first | (simp; done) | (simp; omega) | omega) ?_
                    intro ha1_0 hb1_0
                    have hz1_0 : w.heap.size < w1.heap.size := by have := hk1.size; (try simp at this); omega
                    refine kuse (b := w.heap.size + 1) hk1 (by first | (simp; done) | (simp; omega) | omega) ?_
                    intro ha1_1 hb1_1
                    have hz1_1 : w.heap.size + 1 < w1.heap.size := by have := hk1.size; (try simp at this); omega
                    refine kuse (b := w.heap.size + 2) hk1 (by first | (simp; done) | (simp; omega) | omega) ?_
                    intro ha1_2 hb1_2
                    have hz1_2 : w.heap.size + 2 < w1.heap.size := by have := hk1.size; (try simp at this); omega
                    go_wp2_with fail
                    refine (coast_ok _ _ _ _ _ _ _ _ (by omega) (by omega) (by omega) (by omega) (by omega) (by omega) (by omega) (by omega) (by omega) (by omega) (by omega) (by omega) (by omega) (by omega) (by omega) (by omega) (by omega) (by omega) (by omega) (by omega) (by omega) (by omega) _).mono ?_
                    rintro e w2 ⟨rfl, hk2⟩
                    refine kuse (b := w.heap.size) hk2 (by first | (simp; done) | (simp; omega) | omega) ?_
                    intro ha2_0 hb2_0
                    have hz2_0 : w.heap.size < w2.heap.size := by have := hk2.size; (try simp at this); omega
                    refine kuse (b := w.heap.size + 1) hk2 (by first | (simp; done) | (simp; omega) | omega) ?_
                    intro ha2_1 hb2_1
                    have hz2_1 : w.heap.size + 1 < w2.heap.size := by have := hk2.size; (try simp at this); omega
                    refine kuse (b := w.heap.size + 2) hk2 (by first | (simp; done) | (simp; omega) | omega) ?_
                    intro ha2_2 hb2_2
                    have hz2_2 : w.heap.size + 2 < w2.heap.size := by have := hk2.size; (try simp at this); omega
                    go_wp2_with fail
                    refine (inside_yes x y u v p q (by omega) (by omega) (by omega) (by omega) (by omega) (by omega) (by omega) (by omega) (by omega) (by omega) (by omega) (by omega) _).mono ?_
                    rintro e w3 ⟨rfl, hk3⟩
                    refine kuse (b := w.heap.size) hk3 (by first | (simp; done) | (simp; omega) | omega) ?_
                    intro ha3_0 hb3_0
                    have hz3_0 : w.heap.size < w3.heap.size := by have := hk3.size; (try simp at this); omega
                    refine kuse (b := w.heap.size + 1) hk3 (by first | (simp; done) | (simp; omega) | omega) ?_
                    intro ha3_1 hb3_1
                    have hz3_1 : w.heap.size + 1 < w3.heap.size := by have := hk3.size; (try simp at this); omega
                    refine kuse (b := w.heap.size + 2) hk3 (by first | (simp; done) | (simp; omega) | omega) ?_
                    intro ha3_2 hb3_2
                    have hz3_2 : w.heap.size + 2 < w3.heap.size := by have := hk3.size; (try simp at this); omega
                    refine kuse (b := w2.heap.size) hk3 (by first | (simp; done) | (simp; omega) | omega) ?_
                    intro ha3_3 hb3_3
                    have hz3_3 : w2.heap.size < w3.heap.size := by have := hk3.size; (try simp at this); omega
                    go_wp2_with fail
                    refine (near_no (r - p) (a * t) (d * t) (by omega) (by omega) (by omega) (by omega) (by omega) _).mono ?_
                    rintro e w' ⟨rfl, rfl⟩
                    go_wp2_with fail
                    all_goals first | (go_ret; refine ⟨?_, (by repeat (first | with_reducible exact Kept.refl _ | with_reducible assumption | with_reducible refine Kept.setCell ?_ (by first | (simp; done) | (simp; omega) | omega) _ | with_reducible refine Kept.alloc ?_ _ | with_reducible refine Kept.drewN ?_ _ | with_reducible refine Kept.drew ?_ | with_reducible refine Kept.trans ?_ (by with_reducible assumption) | with_reducible refine Kept.dr ?_ (by with_reducible assumption)))⟩; first | rfl | (show Ending.returned (.bool (decide _)) = _; rw [decide_eq_true (by omega)]) | (show Ending.returned (.bool (decide _)) = _; rw [decide_eq_false (by omega)]) | (refine retb ?_; simp; done) | (refine retb ?_; simp; omega)) | (exfalso; omega)
        · go_enter Try.func4, Try.ntmps4
          go_wp2_with fail
          refine (awake_w _).mono ?_
          rintro e w1 ⟨rfl, hk1⟩
          refine kuse (b := w.heap.size) hk1 (by first | (simp; done) | (simp; omega) | omega) ?_
          intro ha1_0 hb1_0
          have hz1_0 : w.heap.size < w1.heap.size := by have := hk1.size; (try simp at this); omega
          refine kuse (b := w.heap.size + 1) hk1 (by first | (simp; done) | (simp; omega) | omega) ?_
          intro ha1_1 hb1_1
          have hz1_1 : w.heap.size + 1 < w1.heap.size := by have := hk1.size; (try simp at this); omega
          refine kuse (b := w.heap.size + 2) hk1 (by first | (simp; done) | (simp; omega) | omega) ?_
          intro ha1_2 hb1_2
          have hz1_2 : w.heap.size + 2 < w1.heap.size := by have := hk1.size; (try simp at this); omega
          go_wp2_with fail
          refine (coast_ok _ _ _ _ _ _ _ _ (by omega) (by omega) (by omega) (by omega) (by omega) (by omega) (by omega) (by omega) (by omega) (by omega) (by omega) (by omega) (by omega) (by omega) (by omega) (by omega) (by omega) (by omega) (by omega) (by omega) (by omega) (by omega) _).mono ?_
          rintro e w2 ⟨rfl, hk2⟩
          refine kuse (b := w.heap.size) hk2 (by first | (simp; done) | (simp; omega) | omega) ?_
          intro ha2_0 hb2_0
          have hz2_0 : w.heap.size < w2.heap.size := by have := hk2.size; (try simp at this); omega
          refine kuse (b := w.heap.size + 1) hk2 (by first | (simp; done) | (simp; omega) | omega) ?_
          intro ha2_1 hb2_1
          have hz2_1 : w.heap.size + 1 < w2.heap.size := by have := hk2.size; (try simp at this); omega
          refine kuse (b := w.heap.size + 2) hk2 (by first | (simp; done) | (simp; omega) | omega) ?_
          intro ha2_2 hb2_2
          have hz2_2 : w.heap.size + 2 < w2.heap.size := by have := hk2.size; (try simp at this); omega
          go_wp2_with fail
          refine (inside_no x y u v p q (by omega) (by omega) (by omega) (by omega) (by omega) (by omega) (by omega) (by omega) (by omega) _).mono ?_
          rintro e w3 ⟨rfl, hk3⟩
          refine kuse (b := w.heap.size) hk3 (by first | (simp; done) | (simp; omega) | omega) ?_
          intro ha3_0 hb3_0
          have hz3_0 : w.heap.size < w3.heap.size := by have := hk3.size; (try simp at this); omega
          refine kuse (b := w.heap.size + 1) hk3 (by first | (simp; done) | (simp; omega) | omega) ?_
          intro ha3_1 hb3_1
          have hz3_1 : w.heap.size + 1 < w3.heap.size := by have := hk3.size; (try simp at this); omega
          refine kuse (b := w.heap.size + 2) hk3 (by first | (simp; done) | (simp; omega) | omega) ?_
          intro ha3_2 hb3_2
          have hz3_2 : w.heap.size + 2 < w3.heap.size := by have := hk3.size; (try simp at this); omega
          refine kuse (b := w2.heap.size) hk3 (by first | (simp; done) | (simp; omega) | omega) ?_
          intro ha3_3 hb3_3
          have hz3_3 : w2.heap.size < w3.heap.size := by have := hk3.size; (try simp at this); omega
          go_wp2_with fail
          all_goals first | (go_ret; refine ⟨?_, (by repeat (first | with_reducible exact Kept.refl _ | with_reducible assumption | with_reducible refine Kept.setCell ?_ (by first | (simp; done) | (simp; omega) | omega) _ | with_reducible refine Kept.alloc ?_ _ | with_reducible refine Kept.drewN ?_ _ | with_reducible refine Kept.drew ?_ | with_reducible refine Kept.trans ?_ (by with_reducible assumption) | with_reducible refine Kept.dr ?_ (by with_reducible assumption)))⟩; first | rfl | (show Ending.returned (.bool (decide _)) = _; rw [decide_eq_true (by omega)]) | (show Ending.returned (.bool (decide _)) = _; rw [decide_eq_false (by omega)]) | (refine retb ?_; simp; done) | (refine retb ?_; simp; omega)) | (exfalso; omega)
end Go.Proofs.Ytgbgiafdhbplhaa
