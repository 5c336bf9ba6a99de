/-
  Own contracts: package inertial and the document's answers of layer 45: boxes.
-/
import Derived.Test.YtgbgiafdhbplhaaRows
import Derived.Test.YtgbgiafdhbplhaaBase
import Derived.WalkKit
import Derived.ProofKit
import Derived.OpenShut
import Derived.WalkLawsBesides
import Derived.WalkSpells
import Derived.Lib.Hide
import Derived.Deep.DeepCutAuto
import Derived.Deep.CutBlock
import Derived.Deep.QuietTactic
import Derived.BigQuiet
import Derived.Handy
import Derived.StillTailTactics
import Derived.IntWalk
import Derived.LoopN
import Derived.Deep.RegionHeld3
namespace Go.Proofs.Ytgbgiafdhbplhaa
open Go.ChangeShapes Go.WideShapes Go.ChangeAt Go.RowKit
set_option linter.unusedVariables false
set_option linter.unusedSimpArgs false
theorem withF {p G : Prop} (h : p) (g : p → G) : G := g h
theorem retb {b : Bool} (h : b = true) : Ending.returned (.bool b) = .returned (.bool true) := by rw [h]
theorem kcell {W w1 : World} (h : Kept W w1) (b : Nat) (hb : b < W.heap.size) : (∀ o, w1.cell? ⟨b, o, none⟩ = W.cell? ⟨b, o, none⟩) ∧ (∀ o, w1.frozen? ⟨b, o, none⟩ = W.frozen? ⟨b, o, none⟩) :=
  ⟨fun o => h.cell (p := ⟨b, o, none⟩) hb, fun o => h.frozen (p := ⟨b, o, none⟩) hb⟩
theorem kuse {W w1 : World} {b : Nat} {G : Prop} (h : Kept W w1) (hb : b < W.heap.size) (g : (∀ o, w1.cell? ⟨b, o, none⟩ = W.cell? ⟨b, o, none⟩) → (∀ o, w1.frozen? ⟨b, o, none⟩ = W.frozen? ⟨b, o, none⟩) → G) : G := g (kcell h b hb).1 (kcell h b hb).2
theorem kfacts {W w1 : World} (h : Kept W w1) : (∀ b o, b < W.heap.size → w1.cell? ⟨b, o, none⟩ = W.cell? ⟨b, o, none⟩) ∧ (∀ b o, b < W.heap.size → w1.frozen? ⟨b, o, none⟩ = W.frozen? ⟨b, o, none⟩) ∧ W.heap.size ≤ w1.heap.size :=
  ⟨fun b o hb => h.cell (p := ⟨b, o, none⟩) hb, fun b o hb => h.frozen (p := ⟨b, o, none⟩) hb, h.size⟩

def BV (x y u v : Int) : Prop := -2000000 ≤ x ∧ x ≤ 2000000 ∧ -2000000 ≤ y ∧ y ≤ 2000000 ∧ 0 ≤ u ∧ u ≤ 2000000 ∧ 0 ≤ v ∧ v ≤ 2000000
theorem within_yes (v lo hi : Int) (h0 : lo ≤ v) (h1 : v ≤ hi) (w : World) : Calls Try.prog 29 #[.int .i64 v, .int .i64 lo, .int .i64 hi] w fun e w' => e = .returned (.bool true) ∧ w = w' := by
  go_enter Try.func29, Try.ntmps29
  go_wp2
  go_ret
  refine ⟨?_, rfl⟩
  first | rfl | (show Ending.returned (.bool (decide _)) = _; rw [decide_eq_true (by omega)]) | (show Ending.returned (.bool (decide _)) = _; rw [decide_eq_false (by omega)])
theorem within_lo (v lo hi : Int) (h0 : v < lo) (w : World) : Calls Try.prog 29 #[.int .i64 v, .int .i64 lo, .int .i64 hi] w fun e w' => e = .returned (.bool false) ∧ w = w' := by
  go_enter Try.func29, Try.ntmps29
  go_wp2
  go_ret
  refine ⟨?_, rfl⟩
  first | rfl | (show Ending.returned (.bool (decide _)) = _; rw [decide_eq_true (by omega)]) | (show Ending.returned (.bool (decide _)) = _; rw [decide_eq_false (by omega)])
theorem within_hi (v lo hi : Int) (h0 : hi < v) (w : World) : Calls Try.prog 29 #[.int .i64 v, .int .i64 lo, .int .i64 hi] w fun e w' => e = .returned (.bool false) ∧ w = w' := by
  by_cases h : lo ≤ v
  · go_enter Try.func29, Try.ntmps29
    go_wp2
    go_ret
    refine ⟨?_, rfl⟩
    first | rfl | (show Ending.returned (.bool (decide _)) = _; rw [decide_eq_true (by omega)]) | (show Ending.returned (.bool (decide _)) = _; rw [decide_eq_false (by omega)])
  · go_enter Try.func29, Try.ntmps29
    go_wp2
    go_ret
    refine ⟨?_, rfl⟩
    first | rfl | (show Ending.returned (.bool (decide _)) = _; rw [decide_eq_true (by omega)]) | (show Ending.returned (.bool (decide _)) = _; rw [decide_eq_false (by omega)])
theorem ref_within_yes (v lo hi : Int) (h0 : lo ≤ v) (h1 : v ≤ hi) (w : World) : Calls Try.prog 30 #[.int .i64 v, .int .i64 lo, .int .i64 hi] w fun e w' => e = .returned (.bool true) ∧ w = w' := by
  go_enter Try.func30, Try.ntmps30
  go_wp2
  go_ret
  refine ⟨?_, rfl⟩
  first | rfl | (show Ending.returned (.bool (decide _)) = _; rw [decide_eq_true (by omega)]) | (show Ending.returned (.bool (decide _)) = _; rw [decide_eq_false (by omega)])
theorem ref_within_lo (v lo hi : Int) (h0 : v < lo) (w : World) : Calls Try.prog 30 #[.int .i64 v, .int .i64 lo, .int .i64 hi] w fun e w' => e = .returned (.bool false) ∧ w = w' := by
  go_enter Try.func30, Try.ntmps30
  go_wp2
  go_ret
  refine ⟨?_, rfl⟩
  first | rfl | (show Ending.returned (.bool (decide _)) = _; rw [decide_eq_true (by omega)]) | (show Ending.returned (.bool (decide _)) = _; rw [decide_eq_false (by omega)])
theorem ref_within_hi (v lo hi : Int) (h0 : hi < v) (w : World) : Calls Try.prog 30 #[.int .i64 v, .int .i64 lo, .int .i64 hi] w fun e w' => e = .returned (.bool false) ∧ w = w' := by
  by_cases h : lo ≤ v
  · go_enter Try.func30, Try.ntmps30
    go_wp2
    go_ret
    refine ⟨?_, rfl⟩
    first | rfl | (show Ending.returned (.bool (decide _)) = _; rw [decide_eq_true (by omega)]) | (show Ending.returned (.bool (decide _)) = _; rw [decide_eq_false (by omega)])
  · go_enter Try.func30, Try.ntmps30
    go_wp2
    go_ret
    refine ⟨?_, rfl⟩
    first | rfl | (show Ending.returned (.bool (decide _)) = _; rw [decide_eq_true (by omega)]) | (show Ending.returned (.bool (decide _)) = _; rw [decide_eq_false (by omega)])
theorem se_within_yes (v lo hi : Int) (h0 : lo ≤ v) (h1 : v ≤ hi) (w : World) : Calls Try.prog 34 #[.int .i64 v, .int .i64 lo, .int .i64 hi] w fun e w' => e = .returned (.bool true) ∧ w = w' := by
  go_enter Try.func34, Try.ntmps34
  go_wp2
  go_ret
  refine ⟨?_, rfl⟩
  first | rfl | (show Ending.returned (.bool (decide _)) = _; rw [decide_eq_true (by omega)]) | (show Ending.returned (.bool (decide _)) = _; rw [decide_eq_false (by omega)])
theorem se_within_lo (v lo hi : Int) (h0 : v < lo) (w : World) : Calls Try.prog 34 #[.int .i64 v, .int .i64 lo, .int .i64 hi] w fun e w' => e = .returned (.bool false) ∧ w = w' := by
  go_enter Try.func34, Try.ntmps34
  go_wp2
  go_ret
  refine ⟨?_, rfl⟩
  first | rfl | (show Ending.returned (.bool (decide _)) = _; rw [decide_eq_true (by omega)]) | (show Ending.returned (.bool (decide _)) = _; rw [decide_eq_false (by omega)])
theorem se_within_hi (v lo hi : Int) (h0 : hi < v) (w : World) : Calls Try.prog 34 #[.int .i64 v, .int .i64 lo, .int .i64 hi] w fun e w' => e = .returned (.bool false) ∧ w = w' := by
  by_cases h : lo ≤ v
  · go_enter Try.func34, Try.ntmps34
    go_wp2
    go_ret
    refine ⟨?_, rfl⟩
    first | rfl | (show Ending.returned (.bool (decide _)) = _; rw [decide_eq_true (by omega)]) | (show Ending.returned (.bool (decide _)) = _; rw [decide_eq_false (by omega)])
  · go_enter Try.func34, Try.ntmps34
    go_wp2
    go_ret
    refine ⟨?_, rfl⟩
    first | rfl | (show Ending.returned (.bool (decide _)) = _; rw [decide_eq_true (by omega)]) | (show Ending.returned (.bool (decide _)) = _; rw [decide_eq_false (by omega)])
theorem pt_ok (x y : Int) (h1 : -2000000 ≤ x) (h2 : x ≤ 2000000) (h3 : -2000000 ≤ y) (h4 : y ≤ 2000000) (w : World) : Calls Try.prog 31 #[.agg #[.int .i64 x, .int .i64 y]] w fun e w' => e = .returned (.bool true) ∧ Kept w w' := by
  go_enter Try.func31, Try.ntmps31
  go_wp2
  go_ret
  exact ⟨rfl, (by repeat (first | with_reducible exact Kept.refl _ | with_reducible assumption | with_reducible refine Kept.setCell ?_ (by first | (simp; done) | (simp; omega) | omega) _ | with_reducible refine Kept.alloc ?_ _ | with_reducible refine Kept.drewN ?_ _ | with_reducible refine Kept.drew ?_ | with_reducible refine Kept.trans ?_ (by with_reducible assumption) | with_reducible refine Kept.dr ?_ (by with_reducible assumption)))⟩
theorem pt_bad (x y : Int) (h : x < -2000000 ∨ 2000000 < x ∨ y < -2000000 ∨ 2000000 < y) (w : World) : Calls Try.prog 31 #[.agg #[.int .i64 x, .int .i64 y]] w fun e w' => e = .returned (.bool false) ∧ Kept w w' := by
  by_cases c0 : x < -2000000
  · clear h
    go_enter Try.func31, Try.ntmps31
    go_wp2
    go_ret
    refine ⟨?_, (by repeat (first | with_reducible exact Kept.refl _ | with_reducible assumption | with_reducible refine Kept.setCell ?_ (by first | (simp; done) | (simp; omega) | omega) _ | with_reducible refine Kept.alloc ?_ _ | with_reducible refine Kept.drewN ?_ _ | with_reducible refine Kept.drew ?_ | with_reducible refine Kept.trans ?_ (by with_reducible assumption) | with_reducible refine Kept.dr ?_ (by with_reducible assumption)))⟩
    first | rfl | (show Ending.returned (.bool (decide _)) = _; rw [decide_eq_true (by omega)]) | (show Ending.returned (.bool (decide _)) = _; rw [decide_eq_false (by omega)])
  by_cases c1 : 2000000 < x
  · clear h
    go_enter Try.func31, Try.ntmps31
    go_wp2
    go_ret
    refine ⟨?_, (by repeat (first | with_reducible exact Kept.refl _ | with_reducible assumption | with_reducible refine Kept.setCell ?_ (by first | (simp; done) | (simp; omega) | omega) _ | with_reducible refine Kept.alloc ?_ _ | with_reducible refine Kept.drewN ?_ _ | with_reducible refine Kept.drew ?_ | with_reducible refine Kept.trans ?_ (by with_reducible assumption) | with_reducible refine Kept.dr ?_ (by with_reducible assumption)))⟩
    first | rfl | (show Ending.returned (.bool (decide _)) = _; rw [decide_eq_true (by omega)]) | (show Ending.returned (.bool (decide _)) = _; rw [decide_eq_false (by omega)])
  by_cases c2 : y < -2000000
  · clear h
    go_enter Try.func31, Try.ntmps31
    go_wp2
    go_ret
    refine ⟨?_, (by repeat (first | with_reducible exact Kept.refl _ | with_reducible assumption | with_reducible refine Kept.setCell ?_ (by first | (simp; done) | (simp; omega) | omega) _ | with_reducible refine Kept.alloc ?_ _ | with_reducible refine Kept.drewN ?_ _ | with_reducible refine Kept.drew ?_ | with_reducible refine Kept.trans ?_ (by with_reducible assumption) | with_reducible refine Kept.dr ?_ (by with_reducible assumption)))⟩
    first | rfl | (show Ending.returned (.bool (decide _)) = _; rw [decide_eq_true (by omega)]) | (show Ending.returned (.bool (decide _)) = _; rw [decide_eq_false (by omega)])
  have c3 : 2000000 < y := by omega
  clear h
  go_enter Try.func31, Try.ntmps31
  go_wp2
  go_ret
  refine ⟨?_, (by repeat (first | with_reducible exact Kept.refl _ | with_reducible assumption | with_reducible refine Kept.setCell ?_ (by first | (simp; done) | (simp; omega) | omega) _ | with_reducible refine Kept.alloc ?_ _ | with_reducible refine Kept.drewN ?_ _ | with_reducible refine Kept.drew ?_ | with_reducible refine Kept.trans ?_ (by with_reducible assumption) | with_reducible refine Kept.dr ?_ (by with_reducible assumption)))⟩
  first | rfl | (show Ending.returned (.bool (decide _)) = _; rw [decide_eq_true (by omega)]) | (show Ending.returned (.bool (decide _)) = _; rw [decide_eq_false (by omega)])
theorem ref_pt_ok (x y : Int) (h1 : -2000000 ≤ x) (h2 : x ≤ 2000000) (h3 : -2000000 ≤ y) (h4 : y ≤ 2000000) (w : World) : Calls Try.prog 32 #[.agg #[.int .i64 x, .int .i64 y]] w fun e w' => e = .returned (.bool true) ∧ Kept w w' := by
  go_enter Try.func32, Try.ntmps32
  go_wp2
  go_ret
  exact ⟨rfl, (by repeat (first | with_reducible exact Kept.refl _ | with_reducible assumption | with_reducible refine Kept.setCell ?_ (by first | (simp; done) | (simp; omega) | omega) _ | with_reducible refine Kept.alloc ?_ _ | with_reducible refine Kept.drewN ?_ _ | with_reducible refine Kept.drew ?_ | with_reducible refine Kept.trans ?_ (by with_reducible assumption) | with_reducible refine Kept.dr ?_ (by with_reducible assumption)))⟩
theorem ref_pt_bad (x y : Int) (h : x < -2000000 ∨ 2000000 < x ∨ y < -2000000 ∨ 2000000 < y) (w : World) : Calls Try.prog 32 #[.agg #[.int .i64 x, .int .i64 y]] w fun e w' => e = .returned (.bool false) ∧ Kept w w' := by
  by_cases c0 : x < -2000000
  · clear h
    go_enter Try.func32, Try.ntmps32
    go_wp2
    go_ret
    refine ⟨?_, (by repeat (first | with_reducible exact Kept.refl _ | with_reducible assumption | with_reducible refine Kept.setCell ?_ (by first | (simp; done) | (simp; omega) | omega) _ | with_reducible refine Kept.alloc ?_ _ | with_reducible refine Kept.drewN ?_ _ | with_reducible refine Kept.drew ?_ | with_reducible refine Kept.trans ?_ (by with_reducible assumption) | with_reducible refine Kept.dr ?_ (by with_reducible assumption)))⟩
    first | rfl | (show Ending.returned (.bool (decide _)) = _; rw [decide_eq_true (by omega)]) | (show Ending.returned (.bool (decide _)) = _; rw [decide_eq_false (by omega)])
  by_cases c1 : 2000000 < x
  · clear h
    go_enter Try.func32, Try.ntmps32
    go_wp2
    go_ret
    refine ⟨?_, (by repeat (first | with_reducible exact Kept.refl _ | with_reducible assumption | with_reducible refine Kept.setCell ?_ (by first | (simp; done) | (simp; omega) | omega) _ | with_reducible refine Kept.alloc ?_ _ | with_reducible refine Kept.drewN ?_ _ | with_reducible refine Kept.drew ?_ | with_reducible refine Kept.trans ?_ (by with_reducible assumption) | with_reducible refine Kept.dr ?_ (by with_reducible assumption)))⟩
    first | rfl | (show Ending.returned (.bool (decide _)) = _; rw [decide_eq_true (by omega)]) | (show Ending.returned (.bool (decide _)) = _; rw [decide_eq_false (by omega)])
  by_cases c2 : y < -2000000
  · clear h
    go_enter Try.func32, Try.ntmps32
    go_wp2
    go_ret
    refine ⟨?_, (by repeat (first | with_reducible exact Kept.refl _ | with_reducible assumption | with_reducible refine Kept.setCell ?_ (by first | (simp; done) | (simp; omega) | omega) _ | with_reducible refine Kept.alloc ?_ _ | with_reducible refine Kept.drewN ?_ _ | with_reducible refine Kept.drew ?_ | with_reducible refine Kept.trans ?_ (by with_reducible assumption) | with_reducible refine Kept.dr ?_ (by with_reducible assumption)))⟩
    first | rfl | (show Ending.returned (.bool (decide _)) = _; rw [decide_eq_true (by omega)]) | (show Ending.returned (.bool (decide _)) = _; rw [decide_eq_false (by omega)])
  have c3 : 2000000 < y := by omega
  clear h
  go_enter Try.func32, Try.ntmps32
  go_wp2
  go_ret
  refine ⟨?_, (by repeat (first | with_reducible exact Kept.refl _ | with_reducible assumption | with_reducible refine Kept.setCell ?_ (by first | (simp; done) | (simp; omega) | omega) _ | with_reducible refine Kept.alloc ?_ _ | with_reducible refine Kept.drewN ?_ _ | with_reducible refine Kept.drew ?_ | with_reducible refine Kept.trans ?_ (by with_reducible assumption) | with_reducible refine Kept.dr ?_ (by with_reducible assumption)))⟩
  first | rfl | (show Ending.returned (.bool (decide _)) = _; rw [decide_eq_true (by omega)]) | (show Ending.returned (.bool (decide _)) = _; rw [decide_eq_false (by omega)])
theorem valid_ok (x y u v : Int) (h1 : -2000000 ≤ x) (h2 : x ≤ 2000000) (h3 : -2000000 ≤ y) (h4 : y ≤ 2000000) (h5 : 0 ≤ u) (h6 : u ≤ 2000000) (h7 : 0 ≤ v) (h8 : v ≤ 2000000) (w : World) : Calls Try.prog 14 #[.agg #[.int .i64 x, .int .i64 y, .int .i64 u, .int .i64 v]] w fun en w' => en = .returned (.bool true) ∧ Kept w w' := by
  go_enter Try.func14, Try.ntmps14
  go_wp2_with (first | (go_at_call 31; (first | refine (pt_ok _ _ (by omega) (by omega) (by omega) (by omega) _).mono ?_ | refine (pt_bad _ _ (by omega) _).mono ?_); rintro e w' ⟨rfl, hk⟩; have hz := hk.size; (try (refine kuse (b := w.heap.size) hk (by first | (simp; done) | (simp; omega) | omega) ?_; intro hq0 hg0)); (try (have hy0 : w.heap.size < w'.heap.size := by (try simp at hz); omega)); (try (refine kuse (b := w.heap.size + 1) hk (by first | (simp; done) | (simp; omega) | omega) ?_; intro hq1 hg1)); (try (have hy1 : w.heap.size + 1 < w'.heap.size := by (try simp at hz); omega)); (try (refine kuse (b := w.heap.size + 2) hk (by first | (simp; done) | (simp; omega) | omega) ?_; intro hq2 hg2)); (try (have hy2 : w.heap.size + 2 < w'.heap.size := by (try simp at hz); omega))) | (go_at_call 29; (first | refine (within_yes _ _ _ (by omega) (by omega) _).mono ?_ | refine (within_lo _ _ _ (by omega) _).mono ?_ | refine (within_hi _ _ _ (by omega) _).mono ?_); rintro e w' ⟨rfl, rfl⟩))
  go_ret
  exact ⟨rfl, (by repeat (first | with_reducible exact Kept.refl _ | with_reducible assumption | with_reducible refine Kept.setCell ?_ (by first | (simp; done) | (simp; omega) | omega) _ | with_reducible refine Kept.alloc ?_ _ | with_reducible refine Kept.drewN ?_ _ | with_reducible refine Kept.drew ?_ | with_reducible refine Kept.trans ?_ (by with_reducible assumption) | with_reducible refine Kept.dr ?_ (by with_reducible assumption)))⟩
theorem valid_bad (x y u v : Int) (h : x < -2000000 ∨ 2000000 < x ∨ y < -2000000 ∨ 2000000 < y ∨ u < 0 ∨ 2000000 < u ∨ v < 0 ∨ 2000000 < v) (w : World) : Calls Try.prog 14 #[.agg #[.int .i64 x, .int .i64 y, .int .i64 u, .int .i64 v]] w fun en w' => en = .returned (.bool false) ∧ Kept w w' := by
  by_cases c0 : x < -2000000 ∨ 2000000 < x ∨ y < -2000000 ∨ 2000000 < y
  · clear h
    go_enter Try.func14, Try.ntmps14
    go_wp2_with (first | (go_at_call 31; (first | refine (pt_ok _ _ (by omega) (by omega) (by omega) (by omega) _).mono ?_ | refine (pt_bad _ _ (by omega) _).mono ?_); rintro e w' ⟨rfl, hk⟩; have hz := hk.size; (try (refine kuse (b := w.heap.size) hk (by first | (simp; done) | (simp; omega) | omega) ?_; intro hq0 hg0)); (try (have hy0 : w.heap.size < w'.heap.size := by (try simp at hz); omega)); (try (refine kuse (b := w.heap.size + 1) hk (by first | (simp; done) | (simp; omega) | omega) ?_; intro hq1 hg1)); (try (have hy1 : w.heap.size + 1 < w'.heap.size := by (try simp at hz); omega)); (try (refine kuse (b := w.heap.size + 2) hk (by first | (simp; done) | (simp; omega) | omega) ?_; intro hq2 hg2)); (try (have hy2 : w.heap.size + 2 < w'.heap.size := by (try simp at hz); omega))) | (go_at_call 29; (first | refine (within_yes _ _ _ (by omega) (by omega) _).mono ?_ | refine (within_lo _ _ _ (by omega) _).mono ?_ | refine (within_hi _ _ _ (by omega) _).mono ?_); rintro e w' ⟨rfl, rfl⟩))
    go_ret
    refine ⟨?_, (by repeat (first | with_reducible exact Kept.refl _ | with_reducible assumption | with_reducible refine Kept.setCell ?_ (by first | (simp; done) | (simp; omega) | omega) _ | with_reducible refine Kept.alloc ?_ _ | with_reducible refine Kept.drewN ?_ _ | with_reducible refine Kept.drew ?_ | with_reducible refine Kept.trans ?_ (by with_reducible assumption) | with_reducible refine Kept.dr ?_ (by with_reducible assumption)))⟩
    first | rfl | (show Ending.returned (.bool (decide _)) = _; rw [decide_eq_true (by omega)]) | (show Ending.returned (.bool (decide _)) = _; rw [decide_eq_false (by omega)])
  by_cases c1 : u < 0
  · clear h
    go_enter Try.func14, Try.ntmps14
    go_wp2_with (first | (go_at_call 31; (first | refine (pt_ok _ _ (by omega) (by omega) (by omega) (by omega) _).mono ?_ | refine (pt_bad _ _ (by omega) _).mono ?_); rintro e w' ⟨rfl, hk⟩; have hz := hk.size; (try (refine kuse (b := w.heap.size) hk (by first | (simp; done) | (simp; omega) | omega) ?_; intro hq0 hg0)); (try (have hy0 : w.heap.size < w'.heap.size := by (try simp at hz); omega)); (try (refine kuse (b := w.heap.size + 1) hk (by first | (simp; done) | (simp; omega) | omega) ?_; intro hq1 hg1)); (try (have hy1 : w.heap.size + 1 < w'.heap.size := by (try simp at hz); omega)); (try (refine kuse (b := w.heap.size + 2) hk (by first | (simp; done) | (simp; omega) | omega) ?_; intro hq2 hg2)); (try (have hy2 : w.heap.size + 2 < w'.heap.size := by (try simp at hz); omega))) | (go_at_call 29; (first | refine (within_yes _ _ _ (by omega) (by omega) _).mono ?_ | refine (within_lo _ _ _ (by omega) _).mono ?_ | refine (within_hi _ _ _ (by omega) _).mono ?_); rintro e w' ⟨rfl, rfl⟩))
    go_ret
    refine ⟨?_, (by repeat (first | with_reducible exact Kept.refl _ | with_reducible assumption | with_reducible refine Kept.setCell ?_ (by first | (simp; done) | (simp; omega) | omega) _ | with_reducible refine Kept.alloc ?_ _ | with_reducible refine Kept.drewN ?_ _ | with_reducible refine Kept.drew ?_ | with_reducible refine Kept.trans ?_ (by with_reducible assumption) | with_reducible refine Kept.dr ?_ (by with_reducible assumption)))⟩
    first | rfl | (show Ending.returned (.bool (decide _)) = _; rw [decide_eq_true (by omega)]) | (show Ending.returned (.bool (decide _)) = _; rw [decide_eq_false (by omega)])
  by_cases c2 : 2000000 < u
  · clear h
    go_enter Try.func14, Try.ntmps14
    go_wp2_with (first | (go_at_call 31; (first | refine (pt_ok _ _ (by omega) (by omega) (by omega) (by omega) _).mono ?_ | refine (pt_bad _ _ (by omega) _).mono ?_); rintro e w' ⟨rfl, hk⟩; have hz := hk.size; (try (refine kuse (b := w.heap.size) hk (by first | (simp; done) | (simp; omega) | omega) ?_; intro hq0 hg0)); (try (have hy0 : w.heap.size < w'.heap.size := by (try simp at hz); omega)); (try (refine kuse (b := w.heap.size + 1) hk (by first | (simp; done) | (simp; omega) | omega) ?_; intro hq1 hg1)); (try (have hy1 : w.heap.size + 1 < w'.heap.size := by (try simp at hz); omega)); (try (refine kuse (b := w.heap.size + 2) hk (by first | (simp; done) | (simp; omega) | omega) ?_; intro hq2 hg2)); (try (have hy2 : w.heap.size + 2 < w'.heap.size := by (try simp at hz); omega))) | (go_at_call 29; (first | refine (within_yes _ _ _ (by omega) (by omega) _).mono ?_ | refine (within_lo _ _ _ (by omega) _).mono ?_ | refine (within_hi _ _ _ (by omega) _).mono ?_); rintro e w' ⟨rfl, rfl⟩))
    go_ret
    refine ⟨?_, (by repeat (first | with_reducible exact Kept.refl _ | with_reducible assumption | with_reducible refine Kept.setCell ?_ (by first | (simp; done) | (simp; omega) | omega) _ | with_reducible refine Kept.alloc ?_ _ | with_reducible refine Kept.drewN ?_ _ | with_reducible refine Kept.drew ?_ | with_reducible refine Kept.trans ?_ (by with_reducible assumption) | with_reducible refine Kept.dr ?_ (by with_reducible assumption)))⟩
    first | rfl | (show Ending.returned (.bool (decide _)) = _; rw [decide_eq_true (by omega)]) | (show Ending.returned (.bool (decide _)) = _; rw [decide_eq_false (by omega)])
  by_cases c3 : v < 0
  · clear h
    go_enter Try.func14, Try.ntmps14
    go_wp2_with (first | (go_at_call 31; (first | refine (pt_ok _ _ (by omega) (by omega) (by omega) (by omega) _).mono ?_ | refine (pt_bad _ _ (by omega) _).mono ?_); rintro e w' ⟨rfl, hk⟩; have hz := hk.size; (try (refine kuse (b := w.heap.size) hk (by first | (simp; done) | (simp; omega) | omega) ?_; intro hq0 hg0)); (try (have hy0 : w.heap.size < w'.heap.size := by (try simp at hz); omega)); (try (refine kuse (b := w.heap.size + 1) hk (by first | (simp; done) | (simp; omega) | omega) ?_; intro hq1 hg1)); (try (have hy1 : w.heap.size + 1 < w'.heap.size := by (try simp at hz); omega)); (try (refine kuse (b := w.heap.size + 2) hk (by first | (simp; done) | (simp; omega) | omega) ?_; intro hq2 hg2)); (try (have hy2 : w.heap.size + 2 < w'.heap.size := by (try simp at hz); omega))) | (go_at_call 29; (first | refine (within_yes _ _ _ (by omega) (by omega) _).mono ?_ | refine (within_lo _ _ _ (by omega) _).mono ?_ | refine (within_hi _ _ _ (by omega) _).mono ?_); rintro e w' ⟨rfl, rfl⟩))
    go_ret
    refine ⟨?_, (by repeat (first | with_reducible exact Kept.refl _ | with_reducible assumption | with_reducible refine Kept.setCell ?_ (by first | (simp; done) | (simp; omega) | omega) _ | with_reducible refine Kept.alloc ?_ _ | with_reducible refine Kept.drewN ?_ _ | with_reducible refine Kept.drew ?_ | with_reducible refine Kept.trans ?_ (by with_reducible assumption) | with_reducible refine Kept.dr ?_ (by with_reducible assumption)))⟩
    first | rfl | (show Ending.returned (.bool (decide _)) = _; rw [decide_eq_true (by omega)]) | (show Ending.returned (.bool (decide _)) = _; rw [decide_eq_false (by omega)])
  have c4 : 2000000 < v := by omega
  clear h
  go_enter Try.func14, Try.ntmps14
  go_wp2_with (first | (go_at_call 31; (first | refine (pt_ok _ _ (by omega) (by omega) (by omega) (by omega) _).mono ?_ | refine (pt_bad _ _ (by omega) _).mono ?_); rintro e w' ⟨rfl, hk⟩; have hz := hk.size; (try (refine kuse (b := w.heap.size) hk (by first | (simp; done) | (simp; omega) | omega) ?_; intro hq0 hg0)); (try (have hy0 : w.heap.size < w'.heap.size := by (try simp at hz); omega)); (try (refine kuse (b := w.heap.size + 1) hk (by first | (simp; done) | (simp; omega) | omega) ?_; intro hq1 hg1)); (try (have hy1 : w.heap.size + 1 < w'.heap.size := by (try simp at hz); omega)); (try (refine kuse (b := w.heap.size + 2) hk (by first | (simp; done) | (simp; omega) | omega) ?_; intro hq2 hg2)); (try (have hy2 : w.heap.size + 2 < w'.heap.size := by (try simp at hz); omega))) | (go_at_call 29; (first | refine (within_yes _ _ _ (by omega) (by omega) _).mono ?_ | refine (within_lo _ _ _ (by omega) _).mono ?_ | refine (within_hi _ _ _ (by omega) _).mono ?_); rintro e w' ⟨rfl, rfl⟩))
  go_ret
  exact ⟨rfl, (by repeat (first | with_reducible exact Kept.refl _ | with_reducible assumption | with_reducible refine Kept.setCell ?_ (by first | (simp; done) | (simp; omega) | omega) _ | with_reducible refine Kept.alloc ?_ _ | with_reducible refine Kept.drewN ?_ _ | with_reducible refine Kept.drew ?_ | with_reducible refine Kept.trans ?_ (by with_reducible assumption) | with_reducible refine Kept.dr ?_ (by with_reducible assumption)))⟩
theorem ref_valid_ok (x y u v : Int) (h1 : -2000000 ≤ x) (h2 : x ≤ 2000000) (h3 : -2000000 ≤ y) (h4 : y ≤ 2000000) (h5 : 0 ≤ u) (h6 : u ≤ 2000000) (h7 : 0 ≤ v) (h8 : v ≤ 2000000) (w : World) : Calls Try.prog 15 #[.agg #[.int .i64 x, .int .i64 y, .int .i64 u, .int .i64 v]] w fun en w' => en = .returned (.bool true) ∧ Kept w w' := by
  go_enter Try.func15, Try.ntmps15
  go_wp2_with (first | (go_at_call 32; (first | refine (ref_pt_ok _ _ (by omega) (by omega) (by omega) (by omega) _).mono ?_ | refine (ref_pt_bad _ _ (by omega) _).mono ?_); rintro e w' ⟨rfl, hk⟩; have hz := hk.size; (try (refine kuse (b := w.heap.size) hk (by first | (simp; done) | (simp; omega) | omega) ?_; intro hq0 hg0)); (try (have hy0 : w.heap.size < w'.heap.size := by (try simp at hz); omega)); (try (refine kuse (b := w.heap.size + 1) hk (by first | (simp; done) | (simp; omega) | omega) ?_; intro hq1 hg1)); (try (have hy1 : w.heap.size + 1 < w'.heap.size := by (try simp at hz); omega)); (try (refine kuse (b := w.heap.size + 2) hk (by first | (simp; done) | (simp; omega) | omega) ?_; intro hq2 hg2)); (try (have hy2 : w.heap.size + 2 < w'.heap.size := by (try simp at hz); omega))) | (go_at_call 30; (first | refine (ref_within_yes _ _ _ (by omega) (by omega) _).mono ?_ | refine (ref_within_lo _ _ _ (by omega) _).mono ?_ | refine (ref_within_hi _ _ _ (by omega) _).mono ?_); rintro e w' ⟨rfl, rfl⟩))
  go_ret
  exact ⟨rfl, (by repeat (first | with_reducible exact Kept.refl _ | with_reducible assumption | with_reducible refine Kept.setCell ?_ (by first | (simp; done) | (simp; omega) | omega) _ | with_reducible refine Kept.alloc ?_ _ | with_reducible refine Kept.drewN ?_ _ | with_reducible refine Kept.drew ?_ | with_reducible refine Kept.trans ?_ (by with_reducible assumption) | with_reducible refine Kept.dr ?_ (by with_reducible assumption)))⟩
theorem ref_valid_bad (x y u v : Int) (h : x < -2000000 ∨ 2000000 < x ∨ y < -2000000 ∨ 2000000 < y ∨ u < 0 ∨ 2000000 < u ∨ v < 0 ∨ 2000000 < v) (w : World) : Calls Try.prog 15 #[.agg #[.int .i64 x, .int .i64 y, .int .i64 u, .int .i64 v]] w fun en w' => en = .returned (.bool false) ∧ Kept w w' := by
  by_cases c0 : x < -2000000 ∨ 2000000 < x ∨ y < -2000000 ∨ 2000000 < y
  · clear h
    go_enter Try.func15, Try.ntmps15
    go_wp2_with (first | (go_at_call 32; (first | refine (ref_pt_ok _ _ (by omega) (by omega) (by omega) (by omega) _).mono ?_ | refine (ref_pt_bad _ _ (by omega) _).mono ?_); rintro e w' ⟨rfl, hk⟩; have hz := hk.size; (try (refine kuse (b := w.heap.size) hk (by first | (simp; done) | (simp; omega) | omega) ?_; intro hq0 hg0)); (try (have hy0 : w.heap.size < w'.heap.size := by (try simp at hz); omega)); (try (refine kuse (b := w.heap.size + 1) hk (by first | (simp; done) | (simp; omega) | omega) ?_; intro hq1 hg1)); (try (have hy1 : w.heap.size + 1 < w'.heap.size := by (try simp at hz); omega)); (try (refine kuse (b := w.heap.size + 2) hk (by first | (simp; done) | (simp; omega) | omega) ?_; intro hq2 hg2)); (try (have hy2 : w.heap.size + 2 < w'.heap.size := by (try simp at hz); omega))) | (go_at_call 30; (first | refine (ref_within_yes _ _ _ (by omega) (by omega) _).mono ?_ | refine (ref_within_lo _ _ _ (by omega) _).mono ?_ | refine (ref_within_hi _ _ _ (by omega) _).mono ?_); rintro e w' ⟨rfl, rfl⟩))
    go_ret
    refine ⟨?_, (by repeat (first | with_reducible exact Kept.refl _ | with_reducible assumption | with_reducible refine Kept.setCell ?_ (by first | (simp; done) | (simp; omega) | omega) _ | with_reducible refine Kept.alloc ?_ _ | with_reducible refine Kept.drewN ?_ _ | with_reducible refine Kept.drew ?_ | with_reducible refine Kept.trans ?_ (by with_reducible assumption) | with_reducible refine Kept.dr ?_ (by with_reducible assumption)))⟩
    first | rfl | (show Ending.returned (.bool (decide _)) = _; rw [decide_eq_true (by omega)]) | (show Ending.returned (.bool (decide _)) = _; rw [decide_eq_false (by omega)])
  by_cases c1 : u < 0
  · clear h
    go_enter Try.func15, Try.ntmps15
    go_wp2_with (first | (go_at_call 32; (first | refine (ref_pt_ok _ _ (by omega) (by omega) (by omega) (by omega) _).mono ?_ | refine (ref_pt_bad _ _ (by omega) _).mono ?_); rintro e w' ⟨rfl, hk⟩; have hz := hk.size; (try (refine kuse (b := w.heap.size) hk (by first | (simp; done) | (simp; omega) | omega) ?_; intro hq0 hg0)); (try (have hy0 : w.heap.size < w'.heap.size := by (try simp at hz); omega)); (try (refine kuse (b := w.heap.size + 1) hk (by first | (simp; done) | (simp; omega) | omega) ?_; intro hq1 hg1)); (try (have hy1 : w.heap.size + 1 < w'.heap.size := by (try simp at hz); omega)); (try (refine kuse (b := w.heap.size + 2) hk (by first | (simp; done) | (simp; omega) | omega) ?_; intro hq2 hg2)); (try (have hy2 : w.heap.size + 2 < w'.heap.size := by (try simp at hz); omega))) | (go_at_call 30; (first | refine (ref_within_yes _ _ _ (by omega) (by omega) _).mono ?_ | refine (ref_within_lo _ _ _ (by omega) _).mono ?_ | refine (ref_within_hi _ _ _ (by omega) _).mono ?_); rintro e w' ⟨rfl, rfl⟩))
    go_ret
    refine ⟨?_, (by repeat (first | with_reducible exact Kept.refl _ | with_reducible assumption | with_reducible refine Kept.setCell ?_ (by first | (simp; done) | (simp; omega) | omega) _ | with_reducible refine Kept.alloc ?_ _ | with_reducible refine Kept.drewN ?_ _ | with_reducible refine Kept.drew ?_ | with_reducible refine Kept.trans ?_ (by with_reducible assumption) | with_reducible refine Kept.dr ?_ (by with_reducible assumption)))⟩
    first | rfl | (show Ending.returned (.bool (decide _)) = _; rw [decide_eq_true (by omega)]) | (show Ending.returned (.bool (decide _)) = _; rw [decide_eq_false (by omega)])
  by_cases c2 : 2000000 < u
  · clear h
    go_enter Try.func15, Try.ntmps15
    go_wp2_with (first | (go_at_call 32; (first | refine (ref_pt_ok _ _ (by omega) (by omega) (by omega) (by omega) _).mono ?_ | refine (ref_pt_bad _ _ (by omega) _).mono ?_); rintro e w' ⟨rfl, hk⟩; have hz := hk.size; (try (refine kuse (b := w.heap.size) hk (by first | (simp; done) | (simp; omega) | omega) ?_; intro hq0 hg0)); (try (have hy0 : w.heap.size < w'.heap.size := by (try simp at hz); omega)); (try (refine kuse (b := w.heap.size + 1) hk (by first | (simp; done) | (simp; omega) | omega) ?_; intro hq1 hg1)); (try (have hy1 : w.heap.size + 1 < w'.heap.size := by (try simp at hz); omega)); (try (refine kuse (b := w.heap.size + 2) hk (by first | (simp; done) | (simp; omega) | omega) ?_; intro hq2 hg2)); (try (have hy2 : w.heap.size + 2 < w'.heap.size := by (try simp at hz); omega))) | (go_at_call 30; (first | refine (ref_within_yes _ _ _ (by omega) (by omega) _).mono ?_ | refine (ref_within_lo _ _ _ (by omega) _).mono ?_ | refine (ref_within_hi _ _ _ (by omega) _).mono ?_); rintro e w' ⟨rfl, rfl⟩))
    go_ret
    refine ⟨?_, (by repeat (first | with_reducible exact Kept.refl _ | with_reducible assumption | with_reducible refine Kept.setCell ?_ (by first | (simp; done) | (simp; omega) | omega) _ | with_reducible refine Kept.alloc ?_ _ | with_reducible refine Kept.drewN ?_ _ | with_reducible refine Kept.drew ?_ | with_reducible refine Kept.trans ?_ (by with_reducible assumption) | with_reducible refine Kept.dr ?_ (by with_reducible assumption)))⟩
    first | rfl | (show Ending.returned (.bool (decide _)) = _; rw [decide_eq_true (by omega)]) | (show Ending.returned (.bool (decide _)) = _; rw [decide_eq_false (by omega)])
  by_cases c3 : v < 0
  · clear h
    go_enter Try.func15, Try.ntmps15
    go_wp2_with (first | (go_at_call 32; (first | refine (ref_pt_ok _ _ (by omega) (by omega) (by omega) (by omega) _).mono ?_ | refine (ref_pt_bad _ _ (by omega) _).mono ?_); rintro e w' ⟨rfl, hk⟩; have hz := hk.size; (try (refine kuse (b := w.heap.size) hk (by first | (simp; done) | (simp; omega) | omega) ?_; intro hq0 hg0)); (try (have hy0 : w.heap.size < w'.heap.size := by (try simp at hz); omega)); (try (refine kuse (b := w.heap.size + 1) hk (by first | (simp; done) | (simp; omega) | omega) ?_; intro hq1 hg1)); (try (have hy1 : w.heap.size + 1 < w'.heap.size := by (try simp at hz); omega)); (try (refine kuse (b := w.heap.size + 2) hk (by first | (simp; done) | (simp; omega) | omega) ?_; intro hq2 hg2)); (try (have hy2 : w.heap.size + 2 < w'.heap.size := by (try simp at hz); omega))) | (go_at_call 30; (first | refine (ref_within_yes _ _ _ (by omega) (by omega) _).mono ?_ | refine (ref_within_lo _ _ _ (by omega) _).mono ?_ | refine (ref_within_hi _ _ _ (by omega) _).mono ?_); rintro e w' ⟨rfl, rfl⟩))
    go_ret
    refine ⟨?_, (by repeat (first | with_reducible exact Kept.refl _ | with_reducible assumption | with_reducible refine Kept.setCell ?_ (by first | (simp; done) | (simp; omega) | omega) _ | with_reducible refine Kept.alloc ?_ _ | with_reducible refine Kept.drewN ?_ _ | with_reducible refine Kept.drew ?_ | with_reducible refine Kept.trans ?_ (by with_reducible assumption) | with_reducible refine Kept.dr ?_ (by with_reducible assumption)))⟩
    first | rfl | (show Ending.returned (.bool (decide _)) = _; rw [decide_eq_true (by omega)]) | (show Ending.returned (.bool (decide _)) = _; rw [decide_eq_false (by omega)])
  have c4 : 2000000 < v := by omega
  clear h
  go_enter Try.func15, Try.ntmps15
  go_wp2_with (first | (go_at_call 32; (first | refine (ref_pt_ok _ _ (by omega) (by omega) (by omega) (by omega) _).mono ?_ | refine (ref_pt_bad _ _ (by omega) _).mono ?_); rintro e w' ⟨rfl, hk⟩; have hz := hk.size; (try (refine kuse (b := w.heap.size) hk (by first | (simp; done) | (simp; omega) | omega) ?_; intro hq0 hg0)); (try (have hy0 : w.heap.size < w'.heap.size := by (try simp at hz); omega)); (try (refine kuse (b := w.heap.size + 1) hk (by first | (simp; done) | (simp; omega) | omega) ?_; intro hq1 hg1)); (try (have hy1 : w.heap.size + 1 < w'.heap.size := by (try simp at hz); omega)); (try (refine kuse (b := w.heap.size + 2) hk (by first | (simp; done) | (simp; omega) | omega) ?_; intro hq2 hg2)); (try (have hy2 : w.heap.size + 2 < w'.heap.size := by (try simp at hz); omega))) | (go_at_call 30; (first | refine (ref_within_yes _ _ _ (by omega) (by omega) _).mono ?_ | refine (ref_within_lo _ _ _ (by omega) _).mono ?_ | refine (ref_within_hi _ _ _ (by omega) _).mono ?_); rintro e w' ⟨rfl, rfl⟩))
  go_ret
  exact ⟨rfl, (by repeat (first | with_reducible exact Kept.refl _ | with_reducible assumption | with_reducible refine Kept.setCell ?_ (by first | (simp; done) | (simp; omega) | omega) _ | with_reducible refine Kept.alloc ?_ _ | with_reducible refine Kept.drewN ?_ _ | with_reducible refine Kept.drew ?_ | with_reducible refine Kept.trans ?_ (by with_reducible assumption) | with_reducible refine Kept.dr ?_ (by with_reducible assumption)))⟩
theorem se_valid_ok (x y u v : Int) (h1 : -2000000 ≤ x) (h2 : x ≤ 2000000) (h3 : -2000000 ≤ y) (h4 : y ≤ 2000000) (h5 : 0 ≤ u) (h6 : u ≤ 2000000) (h7 : 0 ≤ v) (h8 : v ≤ 2000000) (w : World) : Calls Try.prog 33 #[.agg #[.int .i64 x, .int .i64 y, .int .i64 u, .int .i64 v]] w fun en w' => en = .returned (.bool true) ∧ Kept w w' := by
  go_enter Try.func33, Try.ntmps33
  go_wp2_with (first | (go_at_call 31; (first | refine (pt_ok _ _ (by omega) (by omega) (by omega) (by omega) _).mono ?_ | refine (pt_bad _ _ (by omega) _).mono ?_); rintro e w' ⟨rfl, hk⟩; have hz := hk.size; (try (refine kuse (b := w.heap.size) hk (by first | (simp; done) | (simp; omega) | omega) ?_; intro hq0 hg0)); (try (have hy0 : w.heap.size < w'.heap.size := by (try simp at hz); omega)); (try (refine kuse (b := w.heap.size + 1) hk (by first | (simp; done) | (simp; omega) | omega) ?_; intro hq1 hg1)); (try (have hy1 : w.heap.size + 1 < w'.heap.size := by (try simp at hz); omega)); (try (refine kuse (b := w.heap.size + 2) hk (by first | (simp; done) | (simp; omega) | omega) ?_; intro hq2 hg2)); (try (have hy2 : w.heap.size + 2 < w'.heap.size := by (try simp at hz); omega))) | (go_at_call 34; (first | refine (se_within_yes _ _ _ (by omega) (by omega) _).mono ?_ | refine (se_within_lo _ _ _ (by omega) _).mono ?_ | refine (se_within_hi _ _ _ (by omega) _).mono ?_); rintro e w' ⟨rfl, rfl⟩))
  go_ret
  exact ⟨rfl, (by repeat (first | with_reducible exact Kept.refl _ | with_reducible assumption | with_reducible refine Kept.setCell ?_ (by first | (simp; done) | (simp; omega) | omega) _ | with_reducible refine Kept.alloc ?_ _ | with_reducible refine Kept.drewN ?_ _ | with_reducible refine Kept.drew ?_ | with_reducible refine Kept.trans ?_ (by with_reducible assumption) | with_reducible refine Kept.dr ?_ (by with_reducible assumption)))⟩
theorem se_valid_bad (x y u v : Int) (h : x < -2000000 ∨ 2000000 < x ∨ y < -2000000 ∨ 2000000 < y ∨ u < 0 ∨ 2000000 < u ∨ v < 0 ∨ 2000000 < v) (w : World) : Calls Try.prog 33 #[.agg #[.int .i64 x, .int .i64 y, .int .i64 u, .int .i64 v]] w fun en w' => en = .returned (.bool false) ∧ Kept w w' := by
  by_cases c0 : x < -2000000 ∨ 2000000 < x ∨ y < -2000000 ∨ 2000000 < y
  · clear h
    go_enter Try.func33, Try.ntmps33
    go_wp2_with (first | (go_at_call 31; (first | refine (pt_ok _ _ (by omega) (by omega) (by omega) (by omega) _).mono ?_ | refine (pt_bad _ _ (by omega) _).mono ?_); rintro e w' ⟨rfl, hk⟩; have hz := hk.size; (try (refine kuse (b := w.heap.size) hk (by first | (simp; done) | (simp; omega) | omega) ?_; intro hq0 hg0)); (try (have hy0 : w.heap.size < w'.heap.size := by (try simp at hz); omega)); (try (refine kuse (b := w.heap.size + 1) hk (by first | (simp; done) | (simp; omega) | omega) ?_; intro hq1 hg1)); (try (have hy1 : w.heap.size + 1 < w'.heap.size := by (try simp at hz); omega)); (try (refine kuse (b := w.heap.size + 2) hk (by first | (simp; done) | (simp; omega) | omega) ?_; intro hq2 hg2)); (try (have hy2 : w.heap.size + 2 < w'.heap.size := by (try simp at hz); omega))) | (go_at_call 34; (first | refine (se_within_yes _ _ _ (by omega) (by omega) _).mono ?_ | refine (se_within_lo _ _ _ (by omega) _).mono ?_ | refine (se_within_hi _ _ _ (by omega) _).mono ?_); rintro e w' ⟨rfl, rfl⟩))
    go_ret
    refine ⟨?_, (by repeat (first | with_reducible exact Kept.refl _ | with_reducible assumption | with_reducible refine Kept.setCell ?_ (by first | (simp; done) | (simp; omega) | omega) _ | with_reducible refine Kept.alloc ?_ _ | with_reducible refine Kept.drewN ?_ _ | with_reducible refine Kept.drew ?_ | with_reducible refine Kept.trans ?_ (by with_reducible assumption) | with_reducible refine Kept.dr ?_ (by with_reducible assumption)))⟩
    first | rfl | (show Ending.returned (.bool (decide _)) = _; rw [decide_eq_true (by omega)]) | (show Ending.returned (.bool (decide _)) = _; rw [decide_eq_false (by omega)])
  by_cases c1 : u < 0
  · clear h
    go_enter Try.func33, Try.ntmps33
    go_wp2_with (first | (go_at_call 31; (first | refine (pt_ok _ _ (by omega) (by omega) (by omega) (by omega) _).mono ?_ | refine (pt_bad _ _ (by omega) _).mono ?_); rintro e w' ⟨rfl, hk⟩; have hz := hk.size; (try (refine kuse (b := w.heap.size) hk (by first | (simp; done) | (simp; omega) | omega) ?_; intro hq0 hg0)); (try (have hy0 : w.heap.size < w'.heap.size := by (try simp at hz); omega)); (try (refine kuse (b := w.heap.size + 1) hk (by first | (simp; done) | (simp; omega) | omega) ?_; intro hq1 hg1)); (try (have hy1 : w.heap.size + 1 < w'.heap.size := by (try simp at hz); omega)); (try (refine kuse (b := w.heap.size + 2) hk (by first | (simp; done) | (simp; omega) | omega) ?_; intro hq2 hg2)); (try (have hy2 : w.heap.size + 2 < w'.heap.size := by (try simp at hz); omega))) | (go_at_call 34; (first | refine (se_within_yes _ _ _ (by omega) (by omega) _).mono ?_ | refine (se_within_lo _ _ _ (by omega) _).mono ?_ | refine (se_within_hi _ _ _ (by omega) _).mono ?_); rintro e w' ⟨rfl, rfl⟩))
    go_ret
    refine ⟨?_, (by repeat (first | with_reducible exact Kept.refl _ | with_reducible assumption | with_reducible refine Kept.setCell ?_ (by first | (simp; done) | (simp; omega) | omega) _ | with_reducible refine Kept.alloc ?_ _ | with_reducible refine Kept.drewN ?_ _ | with_reducible refine Kept.drew ?_ | with_reducible refine Kept.trans ?_ (by with_reducible assumption) | with_reducible refine Kept.dr ?_ (by with_reducible assumption)))⟩
    first | rfl | (show Ending.returned (.bool (decide _)) = _; rw [decide_eq_true (by omega)]) | (show Ending.returned (.bool (decide _)) = _; rw [decide_eq_false (by omega)])
  by_cases c2 : 2000000 < u
  · clear h
    go_enter Try.func33, Try.ntmps33
    go_wp2_with (first | (go_at_call 31; (first | refine (pt_ok _ _ (by omega) (by omega) (by omega) (by omega) _).mono ?_ | refine (pt_bad _ _ (by omega) _).mono ?_); rintro e w' ⟨rfl, hk⟩; have hz := hk.size; (try (refine kuse (b := w.heap.size) hk (by first | (simp; done) | (simp; omega) | omega) ?_; intro hq0 hg0)); (try (have hy0 : w.heap.size < w'.heap.size := by (try simp at hz); omega)); (try (refine kuse (b := w.heap.size + 1) hk (by first | (simp; done) | (simp; omega) | omega) ?_; intro hq1 hg1)); (try (have hy1 : w.heap.size + 1 < w'.heap.size := by (try simp at hz); omega)); (try (refine kuse (b := w.heap.size + 2) hk (by first | (simp; done) | (simp; omega) | omega) ?_; intro hq2 hg2)); (try (have hy2 : w.heap.size + 2 < w'.heap.size := by (try simp at hz); omega))) | (go_at_call 34; (first | refine (se_within_yes _ _ _ (by omega) (by omega) _).mono ?_ | refine (se_within_lo _ _ _ (by omega) _).mono ?_ | refine (se_within_hi _ _ _ (by omega) _).mono ?_); rintro e w' ⟨rfl, rfl⟩))
    go_ret
    refine ⟨?_, (by repeat (first | with_reducible exact Kept.refl _ | with_reducible assumption | with_reducible refine Kept.setCell ?_ (by first | (simp; done) | (simp; omega) | omega) _ | with_reducible refine Kept.alloc ?_ _ | with_reducible refine Kept.drewN ?_ _ | with_reducible refine Kept.drew ?_ | with_reducible refine Kept.trans ?_ (by with_reducible assumption) | with_reducible refine Kept.dr ?_ (by with_reducible assumption)))⟩
    first | rfl | (show Ending.returned (.bool (decide _)) = _; rw [decide_eq_true (by omega)]) | (show Ending.returned (.bool (decide _)) = _; rw [decide_eq_false (by omega)])
  by_cases c3 : v < 0
  · clear h
    go_enter Try.func33, Try.ntmps33
    go_wp2_with (first | (go_at_call 31; (first | refine (pt_ok _ _ (by omega) (by omega) (by omega) (by omega) _).mono ?_ | refine (pt_bad _ _ (by omega) _).mono ?_); rintro e w' ⟨rfl, hk⟩; have hz := hk.size; (try (refine kuse (b := w.heap.size) hk (by first | (simp; done) | (simp; omega) | omega) ?_; intro hq0 hg0)); (try (have hy0 : w.heap.size < w'.heap.size := by (try simp at hz); omega)); (try (refine kuse (b := w.heap.size + 1) hk (by first | (simp; done) | (simp; omega) | omega) ?_; intro hq1 hg1)); (try (have hy1 : w.heap.size + 1 < w'.heap.size := by (try simp at hz); omega)); (try (refine kuse (b := w.heap.size + 2) hk (by first | (simp; done) | (simp; omega) | omega) ?_; intro hq2 hg2)); (try (have hy2 : w.heap.size + 2 < w'.heap.size := by (try simp at hz); omega))) | (go_at_call 34; (first | refine (se_within_yes _ _ _ (by omega) (by omega) _).mono ?_ | refine (se_within_lo _ _ _ (by omega) _).mono ?_ | refine (se_within_hi _ _ _ (by omega) _).mono ?_); rintro e w' ⟨rfl, rfl⟩))
    go_ret
    refine ⟨?_, (by repeat (first | with_reducible exact Kept.refl _ | with_reducible assumption | with_reducible refine Kept.setCell ?_ (by first | (simp; done) | (simp; omega) | omega) _ | with_reducible refine Kept.alloc ?_ _ | with_reducible refine Kept.drewN ?_ _ | with_reducible refine Kept.drew ?_ | with_reducible refine Kept.trans ?_ (by with_reducible assumption) | with_reducible refine Kept.dr ?_ (by with_reducible assumption)))⟩
    first | rfl | (show Ending.returned (.bool (decide _)) = _; rw [decide_eq_true (by omega)]) | (show Ending.returned (.bool (decide _)) = _; rw [decide_eq_false (by omega)])
  have c4 : 2000000 < v := by omega
  clear h
  go_enter Try.func33, Try.ntmps33
  go_wp2_with (first | (go_at_call 31; (first | refine (pt_ok _ _ (by omega) (by omega) (by omega) (by omega) _).mono ?_ | refine (pt_bad _ _ (by omega) _).mono ?_); rintro e w' ⟨rfl, hk⟩; have hz := hk.size; (try (refine kuse (b := w.heap.size) hk (by first | (simp; done) | (simp; omega) | omega) ?_; intro hq0 hg0)); (try (have hy0 : w.heap.size < w'.heap.size := by (try simp at hz); omega)); (try (refine kuse (b := w.heap.size + 1) hk (by first | (simp; done) | (simp; omega) | omega) ?_; intro hq1 hg1)); (try (have hy1 : w.heap.size + 1 < w'.heap.size := by (try simp at hz); omega)); (try (refine kuse (b := w.heap.size + 2) hk (by first | (simp; done) | (simp; omega) | omega) ?_; intro hq2 hg2)); (try (have hy2 : w.heap.size + 2 < w'.heap.size := by (try simp at hz); omega))) | (go_at_call 34; (first | refine (se_within_yes _ _ _ (by omega) (by omega) _).mono ?_ | refine (se_within_lo _ _ _ (by omega) _).mono ?_ | refine (se_within_hi _ _ _ (by omega) _).mono ?_); rintro e w' ⟨rfl, rfl⟩))
  go_ret
  exact ⟨rfl, (by repeat (first | with_reducible exact Kept.refl _ | with_reducible assumption | with_reducible refine Kept.setCell ?_ (by first | (simp; done) | (simp; omega) | omega) _ | with_reducible refine Kept.alloc ?_ _ | with_reducible refine Kept.drewN ?_ _ | with_reducible refine Kept.drew ?_ | with_reducible refine Kept.trans ?_ (by with_reducible assumption) | with_reducible refine Kept.dr ?_ (by with_reducible assumption)))⟩
end Go.Proofs.Ytgbgiafdhbplhaa
