/-
  Own contracts: the law of layer 32 on intervals and what is needed, for lists of any length.
-/
import Derived.Test.YtcchhmekmoekeaaFuelt
import Derived.WalkKit
import Derived.ProofKit
import Derived.OpenShut
import Derived.WalkLawsBesides
import Derived.WalkSpells
import Derived.Lib.Hide
import Derived.Deep.DeepCutAuto
import Derived.Deep.CutBlock
import Derived.Deep.QuietTactic
import Derived.BigQuiet
import Derived.Handy
import Derived.StillTailTactics
import Derived.IntWalk
import Derived.LoopN
import Derived.Deep.RegionHeld3
namespace Go.Proofs.Ytcchhmekmoekeaa
open Go.ChangeShapes Go.WideShapes Go.ChangeAt Go.RowKit
set_option linter.unusedVariables false
set_option linter.unusedSimpArgs false
set_option maxHeartbeats 4000000 in
theorem law_intervals (a0 a1 b0 b1 c0 c1 : Int) (p1 : Option Addr) (n1 c1' b1' o1 : Nat) (F1_0 : Nat → Int) (p2 : Option Addr) (n2 c2 b2 o2 : Nat) (F2_0 : Nat → Int) (a0_0 : -9223372036854775808 ≤ a0) (a0_1 : a0 ≤ 9223372036854775807) (a1_0 : -9223372036854775808 ≤ a1) (a1_1 : a1 ≤ 9223372036854775807) (b0_0 : -9223372036854775808 ≤ b0) (b0_1 : b0 ≤ 9223372036854775807) (b1_0 : -9223372036854775808 ≤ b1) (b1_1 : b1 ≤ 9223372036854775807) (c0_0 : -9223372036854775808 ≤ c0) (c0_1 : c0 ≤ 9223372036854775807) (c1_0 : -9223372036854775808 ≤ c1) (c1_1 : c1 ≤ 9223372036854775807) (hl1 : n1 ≤ c1') (hm1 : c1' ≤ maxLen) (fb1_0 : ∀ i, i < n1 → -9223372036854775808 ≤ F1_0 i ∧ F1_0 i ≤ 9223372036854775807) (hl2 : n2 ≤ c2) (hm2 : c2 ≤ maxLen) (fb2_0 : ∀ i, i < n2 → -9223372036854775808 ≤ F2_0 i ∧ F2_0 i ≤ 9223372036854775807) (w : World) (hp1 : 0 < n1 → p1 = some ⟨b1', o1, none⟩ ∧ b1' < w.heap.size) (hc1_0 : ∀ i, i < n1 → w.cell? ⟨b1', o1 + (i * 1 + 0), none⟩ = some (.int .i64 (F1_0 i))) (hp2 : 0 < n2 → p2 = some ⟨b2, o2, none⟩ ∧ b2 < w.heap.size) (hc2_0 : ∀ i, i < n2 → w.cell? ⟨b2, o2 + (i * 1 + 0), none⟩ = some (.int .i64 (F2_0 i))) :
    Calls Try.prog 5 #[.agg #[.int .i64 a0, .int .i64 a1, .int .i64 b0, .int .i64 b1, .int .i64 c0, .int .i64 c1], .slice p1 n1 c1', .slice p2 n2 c2] w fun en w' => en = .returned (.bool true) ∧ Kept w w' := by
  have hd1 : ∀ i, i < n1 → w.cell? ⟨b1', o1 + i, none⟩ = some (.int .i64 (F1_0 i)) := fun i hi => by simpa using hc1_0 i hi
  have hd2 : ∀ i, i < n2 → w.cell? ⟨b2, o2 + i, none⟩ = some (.int .i64 (F2_0 i)) := fun i hi => by simpa using hc2_0 i hi
  clear hc1_0 hc2_0
  unfold maxLen at hm1 hm2
  by_cases k1 : a1 < a0 ∨ (a0 ≤ a1 ∧ b1 < b0) ∨ (a0 ≤ a1 ∧ b0 ≤ b1 ∧ c1 < c0)
  · go_enter Try.func5, Try.ntmps5
    go_wp2_with fail
    refine (awake_w _).mono ?_
    rintro e w1 ⟨rfl, hk1⟩
    refine kuse (b := w.heap.size) hk1 (by first | (simp; done) | (simp; omega) | omega) ?_
    intro ha1_0 hb1_0
    have hz1_0 : w.heap.size < w1.heap.size := by have := hk1.size; (try simp at this); omega
    go_wp2_with fail
    refine (bi_arg _ _ _ _ _ _ (by omega) (by omega) (by omega) (by omega) (by omega) (by omega) (by omega) (by omega) (by omega) (by omega) (by omega) (by omega) k1 _).mono ?_
    rintro e w2 ⟨rfl, hk2⟩
    refine kuse (b := w.heap.size) hk2 (by first | (simp; done) | (simp; omega) | omega) ?_
    intro ha2_0 hb2_0
    have hz2_0 : w.heap.size < w2.heap.size := by have := hk2.size; (try simp at this); omega
    go_wp2_with fail
    refine (rbi_arg _ _ _ _ _ _ (by omega) (by omega) (by omega) (by omega) (by omega) (by omega) (by omega) (by omega) (by omega) (by omega) (by omega) (by omega) k1 _).mono ?_
    rintro e w3 ⟨rfl, hk3⟩
    refine kuse (b := w.heap.size) hk3 (by first | (simp; done) | (simp; omega) | omega) ?_
    intro ha3_0 hb3_0
    have hz3_0 : w.heap.size < w3.heap.size := by have := hk3.size; (try simp at this); omega
    refine kuse (b := w2.heap.size) hk3 (by first | (simp; done) | (simp; omega) | omega) ?_
    intro ha3_1 hb3_1
    have hz3_1 : w2.heap.size < w3.heap.size := by have := hk3.size; (try simp at this); omega
    go_wp2_with fail
    refine (needed_w p1 n1 c1' b1' o1 F1_0 p2 n2 c2 b2 o2 F2_0 a0 a0_0 a0_1 (by unfold maxLen; omega) (by unfold maxLen; omega) fb1_0 fb2_0 _ (fun h => (hp1 h).1) (cells_kept ?k1 hp1 hd1) (fun h => (hp2 h).1) (cells_kept ?k2 hp2 hd2)).mono ?_
    case k1 => exact (by repeat (first | with_reducible exact Kept.refl _ | with_reducible assumption | with_reducible refine Kept.setCell ?_ (by first | (simp; done) | (simp; omega) | omega) _ | with_reducible refine Kept.alloc ?_ _ | with_reducible refine Kept.drewN ?_ _ | with_reducible refine Kept.drew ?_ | with_reducible refine Kept.trans ?_ (by with_reducible assumption) | with_reducible refine Kept.dr ?_ (by with_reducible assumption)))
    case k2 => exact (by repeat (first | with_reducible exact Kept.refl _ | with_reducible assumption | with_reducible refine Kept.setCell ?_ (by first | (simp; done) | (simp; omega) | omega) _ | with_reducible refine Kept.alloc ?_ _ | with_reducible refine Kept.drewN ?_ _ | with_reducible refine Kept.drew ?_ | with_reducible refine Kept.trans ?_ (by with_reducible assumption) | with_reducible refine Kept.dr ?_ (by with_reducible assumption)))
    rintro e w' ⟨rfl, rfl⟩
    go_wp2_with fail
    refine (ref_needed_w p1 n1 c1' b1' o1 F1_0 p2 n2 c2 b2 o2 F2_0 a0 a0_0 a0_1 (by unfold maxLen; omega) (by unfold maxLen; omega) fb1_0 fb2_0 _ (fun h => (hp1 h).1) (cells_kept ?k1 hp1 hd1) (fun h => (hp2 h).1) (cells_kept ?k2 hp2 hd2)).mono ?_
    case k1 => exact (by repeat (first | with_reducible exact Kept.refl _ | with_reducible assumption | with_reducible refine Kept.setCell ?_ (by first | (simp; done) | (simp; omega) | omega) _ | with_reducible refine Kept.alloc ?_ _ | with_reducible refine Kept.drewN ?_ _ | with_reducible refine Kept.drew ?_ | with_reducible refine Kept.trans ?_ (by with_reducible assumption) | with_reducible refine Kept.dr ?_ (by with_reducible assumption)))
    case k2 => exact (by repeat (first | with_reducible exact Kept.refl _ | with_reducible assumption | with_reducible refine Kept.setCell ?_ (by first | (simp; done) | (simp; omega) | omega) _ | with_reducible refine Kept.alloc ?_ _ | with_reducible refine Kept.drewN ?_ _ | with_reducible refine Kept.drew ?_ | with_reducible refine Kept.trans ?_ (by with_reducible assumption) | with_reducible refine Kept.dr ?_ (by with_reducible assumption)))
    rintro e w' ⟨rfl, nd, rfl⟩
    go_wp2_with fail
    all_goals first | (go_ret; refine ⟨?_, (by repeat (first | with_reducible exact Kept.refl _ | with_reducible assumption | with_reducible refine Kept.setCell ?_ (by first | (simp; done) | (simp; omega) | omega) _ | with_reducible refine Kept.alloc ?_ _ | with_reducible refine Kept.drewN ?_ _ | with_reducible refine Kept.drew ?_ | with_reducible refine Kept.trans ?_ (by with_reducible assumption) | with_reducible refine Kept.dr ?_ (by with_reducible assumption)))⟩; first | rfl | (show Ending.returned (.bool (decide _)) = _; rw [decide_eq_true (by omega)]) | (show Ending.returned (.bool (decide _)) = _; rw [decide_eq_false (by omega)]) | (refine retb ?_; simp; done) | (refine retb ?_; simp; omega)) | (exfalso; omega)
  · have o_1 : a0 ≤ a1 := by omega
    have o_2 : b0 ≤ b1 := by omega
    have o_3 : c0 ≤ c1 := by omega
    clear k1
    by_cases k2 : a0 < 0 ∨ (0 ≤ a0 ∧ 3000000000 < a1) ∨ (0 ≤ a0 ∧ a1 ≤ 3000000000 ∧ (b0 < 0 ∨ 50000 < b0)) ∨ (0 ≤ a0 ∧ a1 ≤ 3000000000 ∧ 0 ≤ b0 ∧ b0 ≤ 50000 ∧ (b1 < 0 ∨ 50000 < b1)) ∨ (0 ≤ a0 ∧ a1 ≤ 3000000000 ∧ 0 ≤ b0 ∧ b0 ≤ 50000 ∧ 0 ≤ b1 ∧ b1 ≤ 50000 ∧ (c0 < 0 ∨ 1099511627776 < c0)) ∨ (0 ≤ a0 ∧ a1 ≤ 3000000000 ∧ 0 ≤ b0 ∧ b0 ≤ 50000 ∧ 0 ≤ b1 ∧ b1 ≤ 50000 ∧ 0 ≤ c0 ∧ c0 ≤ 1099511627776 ∧ (c1 < 0 ∨ 1099511627776 < c1))
    · have k2' : a0 < 0 ∨ (0 ≤ a0 ∧ 3000000000 < a1) ∨ (0 ≤ a0 ∧ a1 ≤ 3000000000 ∧ b0 < 0) ∨ (0 ≤ a0 ∧ a1 ≤ 3000000000 ∧ 0 ≤ b0 ∧ 50000 < b1) ∨ (0 ≤ a0 ∧ a1 ≤ 3000000000 ∧ 0 ≤ b0 ∧ b1 ≤ 50000 ∧ c0 < 0) ∨ (0 ≤ a0 ∧ a1 ≤ 3000000000 ∧ 0 ≤ b0 ∧ b1 ≤ 50000 ∧ 0 ≤ c0 ∧ 1099511627776 < c1) := by omega
      go_enter Try.func5, Try.ntmps5
      go_wp2_with fail
      refine (awake_w _).mono ?_
      rintro e w1 ⟨rfl, hk1⟩
      refine kuse (b := w.heap.size) hk1 (by first | (simp; done) | (simp; omega) | omega) ?_
      intro ha1_0 hb1_0
      have hz1_0 : w.heap.size < w1.heap.size := by have := hk1.size; (try simp at this); omega
      go_wp2_with fail
      refine (bi_rng _ _ _ _ _ _ (by omega) (by omega) (by omega) (by omega) (by omega) (by omega) (by omega) (by omega) (by omega) (by omega) (by omega) (by omega) (by omega) (by omega) (by omega) k2 _).mono ?_
      rintro e w2 ⟨rfl, hk2⟩
      refine kuse (b := w.heap.size) hk2 (by first | (simp; done) | (simp; omega) | omega) ?_
      intro ha2_0 hb2_0
      have hz2_0 : w.heap.size < w2.heap.size := by have := hk2.size; (try simp at this); omega
      go_wp2_with fail
      refine (rbi_rng _ _ _ _ _ _ (by omega) (by omega) (by omega) (by omega) (by omega) (by omega) (by omega) (by omega) (by omega) (by omega) (by omega) (by omega) (by omega) (by omega) (by omega) k2' _).mono ?_
      rintro e w3 ⟨rfl, hk3⟩
      refine kuse (b := w.heap.size) hk3 (by first | (simp; done) | (simp; omega) | omega) ?_
      intro ha3_0 hb3_0
      have hz3_0 : w.heap.size < w3.heap.size := by have := hk3.size; (try simp at this); omega
      refine kuse (b := w2.heap.size) hk3 (by first | (simp; done) | (simp; omega) | omega) ?_
      intro ha3_1 hb3_1
      have hz3_1 : w2.heap.size < w3.heap.size := by have := hk3.size; (try simp at this); omega
      go_wp2_with fail
      refine (needed_w p1 n1 c1' b1' o1 F1_0 p2 n2 c2 b2 o2 F2_0 a0 a0_0 a0_1 (by unfold maxLen; omega) (by unfold maxLen; omega) fb1_0 fb2_0 _ (fun h => (hp1 h).1) (cells_kept ?k1 hp1 hd1) (fun h => (hp2 h).1) (cells_kept ?k2 hp2 hd2)).mono ?_
      case k1 => exact (by repeat (first | with_reducible exact Kept.refl _ | with_reducible assumption | with_reducible refine Kept.setCell ?_ (by first | (simp; done) | (simp; omega) | omega) _ | with_reducible refine Kept.alloc ?_ _ | with_reducible refine Kept.drewN ?_ _ | with_reducible refine Kept.drew ?_ | with_reducible refine Kept.trans ?_ (by with_reducible assumption) | with_reducible refine Kept.dr ?_ (by with_reducible assumption)))
      case k2 => exact (by repeat (first | with_reducible exact Kept.refl _ | with_reducible assumption | with_reducible refine Kept.setCell ?_ (by first | (simp; done) | (simp; omega) | omega) _ | with_reducible refine Kept.alloc ?_ _ | with_reducible refine Kept.drewN ?_ _ | with_reducible refine Kept.drew ?_ | with_reducible refine Kept.trans ?_ (by with_reducible assumption) | with_reducible refine Kept.dr ?_ (by with_reducible assumption)))
      rintro e w' ⟨rfl, rfl⟩
      go_wp2_with fail
      refine (ref_needed_w p1 n1 c1' b1' o1 F1_0 p2 n2 c2 b2 o2 F2_0 a0 a0_0 a0_1 (by unfold maxLen; omega) (by unfold maxLen; omega) fb1_0 fb2_0 _ (fun h => (hp1 h).1) (cells_kept ?k1 hp1 hd1) (fun h => (hp2 h).1) (cells_kept ?k2 hp2 hd2)).mono ?_
      case k1 => exact (by repeat (first | with_reducible exact Kept.refl _ | with_reducible assumption | with_reducible refine Kept.setCell ?_ (by first | (simp; done) | (simp; omega) | omega) _ | with_reducible refine Kept.alloc ?_ _ | with_reducible refine Kept.drewN ?_ _ | with_reducible refine Kept.drew ?_ | with_reducible refine Kept.trans ?_ (by with_reducible assumption) | with_reducible refine Kept.dr ?_ (by with_reducible assumption)))
      case k2 => exact (by repeat (first | with_reducible exact Kept.refl _ | with_reducible assumption | with_reducible refine Kept.setCell ?_ (by first | (simp; done) | (simp; omega) | omega) _ | with_reducible refine Kept.alloc ?_ _ | with_reducible refine Kept.drewN ?_ _ | with_reducible refine Kept.drew ?_ | with_reducible refine Kept.trans ?_ (by with_reducible assumption) | with_reducible refine Kept.dr ?_ (by with_reducible assumption)))
      rintro e w' ⟨rfl, nd, rfl⟩
      go_wp2_with fail
      all_goals first | (go_ret; refine ⟨?_, (by repeat (first | with_reducible exact Kept.refl _ | with_reducible assumption | with_reducible refine Kept.setCell ?_ (by first | (simp; done) | (simp; omega) | omega) _ | with_reducible refine Kept.alloc ?_ _ | with_reducible refine Kept.drewN ?_ _ | with_reducible refine Kept.drew ?_ | with_reducible refine Kept.trans ?_ (by with_reducible assumption) | with_reducible refine Kept.dr ?_ (by with_reducible assumption)))⟩; first | rfl | (show Ending.returned (.bool (decide _)) = _; rw [decide_eq_true (by omega)]) | (show Ending.returned (.bool (decide _)) = _; rw [decide_eq_false (by omega)]) | (refine retb ?_; simp; done) | (refine retb ?_; simp; omega)) | (exfalso; omega)
    · have r_1 : 0 ≤ a0 := by omega
      have r_2 : a1 ≤ 3000000000 := by omega
      have r_3 : 0 ≤ b0 := by omega
      have r_4 : b1 ≤ 50000 := by omega
      have r_5 : 0 ≤ c0 := by omega
      have r_6 : c1 ≤ 1099511627776 := by omega
      clear k2
      by_cases k3 : a0 < b1 * c1
      · go_enter Try.func5, Try.ntmps5
        go_wp2_with fail
        refine (awake_w _).mono ?_
        rintro e w1 ⟨rfl, hk1⟩
        refine kuse (b := w.heap.size) hk1 (by first | (simp; done) | (simp; omega) | omega) ?_
        intro ha1_0 hb1_0
        have hz1_0 : w.heap.size < w1.heap.size := by have := hk1.size; (try simp at this); omega
        go_wp2_with fail
        refine (bi_over _ _ _ _ _ _ (by omega) (by omega) (by omega) (by omega) (by omega) (by omega) (by omega) (by omega) (by omega) (by omega) (by omega) (by omega) (by omega) (by omega) (by omega) (by omega) (by omega) (by omega) (by omega) (by omega) (by omega) k3 _).mono ?_
        rintro e w2 ⟨rfl, hk2⟩
        refine kuse (b := w.heap.size) hk2 (by first | (simp; done) | (simp; omega) | omega) ?_
        intro ha2_0 hb2_0
        have hz2_0 : w.heap.size < w2.heap.size := by have := hk2.size; (try simp at this); omega
        go_wp2_with fail
        refine (rbi_over _ _ _ _ _ _ (by omega) (by omega) (by omega) (by omega) (by omega) (by omega) (by omega) (by omega) (by omega) (by omega) (by omega) (by omega) (by omega) (by omega) (by omega) (by omega) (by omega) (by omega) (by omega) (by omega) (by omega) k3 _).mono ?_
        rintro e w3 ⟨rfl, hk3⟩
        refine kuse (b := w.heap.size) hk3 (by first | (simp; done) | (simp; omega) | omega) ?_
        intro ha3_0 hb3_0
        have hz3_0 : w.heap.size < w3.heap.size := by have := hk3.size; (try simp at this); omega
        refine kuse (b := w2.heap.size) hk3 (by first | (simp; done) | (simp; omega) | omega) ?_
        intro ha3_1 hb3_1
        have hz3_1 : w2.heap.size < w3.heap.size := by have := hk3.size; (try simp at this); omega
        go_wp2_with fail
        refine (needed_w p1 n1 c1' b1' o1 F1_0 p2 n2 c2 b2 o2 F2_0 a0 a0_0 a0_1 (by unfold maxLen; omega) (by unfold maxLen; omega) fb1_0 fb2_0 _ (fun h => (hp1 h).1) (cells_kept ?k1 hp1 hd1) (fun h => (hp2 h).1) (cells_kept ?k2 hp2 hd2)).mono ?_
        case k1 => exact (by repeat (first | with_reducible exact Kept.refl _ | with_reducible assumption | with_reducible refine Kept.setCell ?_ (by first | (simp; done) | (simp; omega) | omega) _ | with_reducible refine Kept.alloc ?_ _ | with_reducible refine Kept.drewN ?_ _ | with_reducible refine Kept.drew ?_ | with_reducible refine Kept.trans ?_ (by with_reducible assumption) | with_reducible refine Kept.dr ?_ (by with_reducible assumption)))
        case k2 => exact (by repeat (first | with_reducible exact Kept.refl _ | with_reducible assumption | with_reducible refine Kept.setCell ?_ (by first | (simp; done) | (simp; omega) | omega) _ | with_reducible refine Kept.alloc ?_ _ | with_reducible refine Kept.drewN ?_ _ | with_reducible refine Kept.drew ?_ | with_reducible refine Kept.trans ?_ (by with_reducible assumption) | with_reducible refine Kept.dr ?_ (by with_reducible assumption)))
        rintro e w' ⟨rfl, rfl⟩
        go_wp2_with fail
        refine (ref_needed_w p1 n1 c1' b1' o1 F1_0 p2 n2 c2 b2 o2 F2_0 a0 a0_0 a0_1 (by unfold maxLen; omega) (by unfold maxLen; omega) fb1_0 fb2_0 _ (fun h => (hp1 h).1) (cells_kept ?k1 hp1 hd1) (fun h => (hp2 h).1) (cells_kept ?k2 hp2 hd2)).mono ?_
        case k1 => exact (by repeat (first | with_reducible exact Kept.refl _ | with_reducible assumption | with_reducible refine Kept.setCell ?_ (by first | (simp; done) | (simp; omega) | omega) _ | with_reducible refine Kept.alloc ?_ _ | with_reducible refine Kept.drewN ?_ _ | with_reducible refine Kept.drew ?_ | with_reducible refine Kept.trans ?_ (by with_reducible assumption) | with_reducible refine Kept.dr ?_ (by with_reducible assumption)))
        case k2 => exact (by repeat (first | with_reducible exact Kept.refl _ | with_reducible assumption | with_reducible refine Kept.setCell ?_ (by first | (simp; done) | (simp; omega) | omega) _ | with_reducible refine Kept.alloc ?_ _ | with_reducible refine Kept.drewN ?_ _ | with_reducible refine Kept.drew ?_ | with_reducible refine Kept.trans ?_ (by with_reducible assumption) | with_reducible refine Kept.dr ?_ (by with_reducible assumption)))
        rintro e w' ⟨rfl, nd, rfl⟩
        go_wp2_with fail
        all_goals first | (go_ret; refine ⟨?_, (by repeat (first | with_reducible exact Kept.refl _ | with_reducible assumption | with_reducible refine Kept.setCell ?_ (by first | (simp; done) | (simp; omega) | omega) _ | with_reducible refine Kept.alloc ?_ _ | with_reducible refine Kept.drewN ?_ _ | with_reducible refine Kept.drew ?_ | with_reducible refine Kept.trans ?_ (by with_reducible assumption) | with_reducible refine Kept.dr ?_ (by with_reducible assumption)))⟩; first | rfl | (show Ending.returned (.bool (decide _)) = _; rw [decide_eq_true (by omega)]) | (show Ending.returned (.bool (decide _)) = _; rw [decide_eq_false (by omega)]) | (refine retb ?_; simp; done) | (refine retb ?_; simp; omega)) | (exfalso; omega)
      · have k4 : b1 * c1 ≤ a0 := by omega
        clear k3
        have pa := (FT.prod (f := b1) (t := c1) ⟨by omega, by omega, by omega, by omega⟩)
        have pb := (FT.prod (f := b0) (t := c0) ⟨by omega, by omega, by omega, by omega⟩)
        go_enter Try.func5, Try.ntmps5
        go_wp2_with fail
        refine (awake_w _).mono ?_
        rintro e w1 ⟨rfl, hk1⟩
        refine kuse (b := w.heap.size) hk1 (by first | (simp; done) | (simp; omega) | omega) ?_
        intro ha1_0 hb1_0
        have hz1_0 : w.heap.size < w1.heap.size := by have := hk1.size; (try simp at this); omega
        go_wp2_with fail
        refine (bi_ok _ _ _ _ _ _ (by omega) (by omega) (by omega) (by omega) (by omega) (by omega) (by omega) (by omega) (by omega) k4 _).mono ?_
        rintro e w2 ⟨rfl, hk2⟩
        refine kuse (b := w.heap.size) hk2 (by first | (simp; done) | (simp; omega) | omega) ?_
        intro ha2_0 hb2_0
        have hz2_0 : w.heap.size < w2.heap.size := by have := hk2.size; (try simp at this); omega
        go_wp2_with fail
        refine (rbi_ok _ _ _ _ _ _ (by omega) (by omega) (by omega) (by omega) (by omega) (by omega) (by omega) (by omega) (by omega) (by omega) (by omega) (by omega) (by omega) (by omega) (by omega) (by omega) (by omega) (by omega) (by omega) (by omega) (by omega) k4 _).mono ?_
        rintro e w3 ⟨rfl, hk3⟩
        refine kuse (b := w.heap.size) hk3 (by first | (simp; done) | (simp; omega) | omega) ?_
        intro ha3_0 hb3_0
        have hz3_0 : w.heap.size < w3.heap.size := by have := hk3.size; (try simp at this); omega
        refine kuse (b := w2.heap.size) hk3 (by first | (simp; done) | (simp; omega) | omega) ?_
        intro ha3_1 hb3_1
        have hz3_1 : w2.heap.size < w3.heap.size := by have := hk3.size; (try simp at this); omega
        go_wp2_with fail
        refine (needed_w p1 n1 c1' b1' o1 F1_0 p2 n2 c2 b2 o2 F2_0 a0 a0_0 a0_1 (by unfold maxLen; omega) (by unfold maxLen; omega) fb1_0 fb2_0 _ (fun h => (hp1 h).1) (cells_kept ?k1 hp1 hd1) (fun h => (hp2 h).1) (cells_kept ?k2 hp2 hd2)).mono ?_
        case k1 => exact (by repeat (first | with_reducible exact Kept.refl _ | with_reducible assumption | with_reducible refine Kept.setCell ?_ (by first | (simp; done) | (simp; omega) | omega) _ | with_reducible refine Kept.alloc ?_ _ | with_reducible refine Kept.drewN ?_ _ | with_reducible refine Kept.drew ?_ | with_reducible refine Kept.trans ?_ (by with_reducible assumption) | with_reducible refine Kept.dr ?_ (by with_reducible assumption)))
        case k2 => exact (by repeat (first | with_reducible exact Kept.refl _ | with_reducible assumption | with_reducible refine Kept.setCell ?_ (by first | (simp; done) | (simp; omega) | omega) _ | with_reducible refine Kept.alloc ?_ _ | with_reducible refine Kept.drewN ?_ _ | with_reducible refine Kept.drew ?_ | with_reducible refine Kept.trans ?_ (by with_reducible assumption) | with_reducible refine Kept.dr ?_ (by with_reducible assumption)))
        rintro e w' ⟨rfl, rfl⟩
        go_wp2_with fail
        refine (ref_needed_w p1 n1 c1' b1' o1 F1_0 p2 n2 c2 b2 o2 F2_0 a0 a0_0 a0_1 (by unfold maxLen; omega) (by unfold maxLen; omega) fb1_0 fb2_0 _ (fun h => (hp1 h).1) (cells_kept ?k1 hp1 hd1) (fun h => (hp2 h).1) (cells_kept ?k2 hp2 hd2)).mono ?_
        case k1 => exact (by repeat (first | with_reducible exact Kept.refl _ | with_reducible assumption | with_reducible refine Kept.setCell ?_ (by first | (simp; done) | (simp; omega) | omega) _ | with_reducible refine Kept.alloc ?_ _ | with_reducible refine Kept.drewN ?_ _ | with_reducible refine Kept.drew ?_ | with_reducible refine Kept.trans ?_ (by with_reducible assumption) | with_reducible refine Kept.dr ?_ (by with_reducible assumption)))
        case k2 => exact (by repeat (first | with_reducible exact Kept.refl _ | with_reducible assumption | with_reducible refine Kept.setCell ?_ (by first | (simp; done) | (simp; omega) | omega) _ | with_reducible refine Kept.alloc ?_ _ | with_reducible refine Kept.drewN ?_ _ | with_reducible refine Kept.drew ?_ | with_reducible refine Kept.trans ?_ (by with_reducible assumption) | with_reducible refine Kept.dr ?_ (by with_reducible assumption)))
        rintro e w' ⟨rfl, nd, rfl⟩
        go_wp2_with fail
        all_goals first | (go_ret; refine ⟨?_, (by repeat (first | with_reducible exact Kept.refl _ | with_reducible assumption | with_reducible refine Kept.setCell ?_ (by first | (simp; done) | (simp; omega) | omega) _ | with_reducible refine Kept.alloc ?_ _ | with_reducible refine Kept.drewN ?_ _ | with_reducible refine Kept.drew ?_ | with_reducible refine Kept.trans ?_ (by with_reducible assumption) | with_reducible refine Kept.dr ?_ (by with_reducible assumption)))⟩; first | rfl | (show Ending.returned (.bool (decide _)) = _; rw [decide_eq_true (by omega)]) | (show Ending.returned (.bool (decide _)) = _; rw [decide_eq_false (by omega)]) | (refine retb ?_; simp; done) | (refine retb ?_; simp; omega)) | (exfalso; omega)
end Go.Proofs.Ytcchhmekmoekeaa
