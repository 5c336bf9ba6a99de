/-
  Own contracts: package resync: the computer in use, the limited targets; the document's answers.
-/
import Derived.Test.YtbiamcpcmjdogaaByt
import Derived.WalkKit
import Derived.ProofKit
import Derived.OpenShut
import Derived.WalkLawsBesides
import Derived.WalkSpells
import Derived.Lib.Hide
import Derived.Deep.DeepCutAuto
import Derived.Deep.CutBlock
import Derived.Deep.QuietTactic
import Derived.BigQuiet
import Derived.Handy
import Derived.StillTailTactics
import Derived.IntWalk
import Derived.LoopN
import Derived.Deep.RegionHeld3
namespace Go.Proofs.Ytbiamcpcmjdogaa
open Go.ChangeShapes Go.WideShapes Go.ChangeAt Go.RowKit
set_option linter.unusedVariables false
set_option linter.unusedSimpArgs false
theorem withF {p G : Prop} (h : p) (g : p → G) : G := g h
theorem retb {b : Bool} (h : b = true) : Ending.returned (.bool b) = .returned (.bool true) := by rw [h]
theorem kcell {W w1 : World} (h : Kept W w1) (b : Nat) (hb : b < W.heap.size) : (∀ o, w1.cell? ⟨b, o, none⟩ = W.cell? ⟨b, o, none⟩) ∧ (∀ o, w1.frozen? ⟨b, o, none⟩ = W.frozen? ⟨b, o, none⟩) :=
  ⟨fun o => h.cell (p := ⟨b, o, none⟩) hb, fun o => h.frozen (p := ⟨b, o, none⟩) hb⟩
theorem kuse {W w1 : World} {b : Nat} {G : Prop} (h : Kept W w1) (hb : b < W.heap.size) (g : (∀ o, w1.cell? ⟨b, o, none⟩ = W.cell? ⟨b, o, none⟩) → (∀ o, w1.frozen? ⟨b, o, none⟩ = W.frozen? ⟨b, o, none⟩) → G) : G := g (kcell h b hb).1 (kcell h b hb).2
theorem kfacts {W w1 : World} (h : Kept W w1) : (∀ b o, b < W.heap.size → w1.cell? ⟨b, o, none⟩ = W.cell? ⟨b, o, none⟩) ∧ (∀ b o, b < W.heap.size → w1.frozen? ⟨b, o, none⟩ = W.frozen? ⟨b, o, none⟩) ∧ W.heap.size ≤ w1.heap.size :=
  ⟨fun b o hb => h.cell (p := ⟨b, o, none⟩) hb, fun b o hb => h.frozen (p := ⟨b, o, none⟩) hb, h.size⟩

def us (x : Int) : Bool := x == 4 || x == 3
def sel (a b : Int) : Int := if us a then 1 else if us b then 2 else 0
theorem us_cases (x : Int) : (x = 4 ∧ us x = true) ∨ (x = 3 ∧ us x = true) ∨ (x ≠ 4 ∧ x ≠ 3 ∧ (x == 4) = false ∧ (x == 3) = false ∧ us x = false) := by
  by_cases h : x = 4
  · subst h; exact Or.inl ⟨rfl, rfl⟩
  · by_cases g : x = 3
    · subst g; exact Or.inr (Or.inl ⟨rfl, rfl⟩)
    · refine Or.inr (Or.inr ⟨h, g, by simp [h], by simp [g], by simp [us, h, g]⟩)
def mr (r : Int) : Int := if 0 ≤ r then r else 0
def tw (l w r : Int) : Int := if l ≤ w then (if w - l ≤ mr r then w else l + mr r) else (if l - w ≤ mr r then w else l - mr r)
theorem retu {k : IntKind} {a b : Int} (h : a = b) : Ending.returned (.int k a) = .returned (.int k b) := by rw [h]
theorem u64_eq (x : Int) : IntKind.u64.wrap x = x % 18446744073709551616 := by rfl
theorem w64_eq (x : Int) : wrap64 x = (x + 9223372036854775808) % 18446744073709551616 - 9223372036854775808 := by unfold wrap64; rfl
theorem u64_sub (a b : Int) (h : 0 ≤ a - b) (g : a - b < 18446744073709551616) : IntKind.u64.wrap (IntKind.u64.wrap a - IntKind.u64.wrap b) = a - b := by
  have e : ∀ x, IntKind.u64.wrap x = x % 18446744073709551616 := fun x => by rfl
  simp only [e]
  omega
set_option maxHeartbeats 2000000 in
set_option maxRecDepth 100000 in
theorem usable_w (a : Int) (a_0 : 0 ≤ a) (a_1 : a ≤ 255) (w : World) : Calls Try.prog 13 #[.int .u8 a] w fun en w' => en = .returned (.bool (us a)) ∧ w = w' := by
  rcases us_cases a with ⟨rfl, e⟩ | ⟨rfl, e⟩ | ⟨h1, h2, g1, g2, e⟩
  all_goals rw [e]
  all_goals clear e
  all_goals go_enter Try.func13, Try.ntmps13
  all_goals go_wp2_with fail
  all_goals go_ret
  all_goals exact ⟨rfl, rfl⟩
set_option maxHeartbeats 2000000 in
set_option maxRecDepth 100000 in
theorem select_w (a b : Int) (a_0 : 0 ≤ a) (a_1 : a ≤ 255) (b_0 : 0 ≤ b) (b_1 : b ≤ 255) (w : World) : Calls Try.prog 8 #[.int .u8 a, .int .u8 b] w fun en w' => en = .returned (.int .i64 (sel a b)) ∧ w = w' := by
  unfold sel
  rcases us_cases a with ⟨rfl, e1⟩ | ⟨rfl, e1⟩ | ⟨h1, h2, g1, g2, e1⟩
  all_goals rcases us_cases b with ⟨rfl, e2⟩ | ⟨rfl, e2⟩ | ⟨i1, i2, k1, k2, e2⟩
  all_goals simp only [e1, e2, if_true, Bool.false_eq_true, if_false]
  all_goals have E1 := Lib.hid e1
  all_goals have E2 := Lib.hid e2
  all_goals clear e1 e2
  all_goals go_enter Try.func8, Try.ntmps8
  all_goals go_wp2_with ((go_at_call 13; refine (usable_w _ (by omega) (by omega) _).mono ?_; rintro e w' ⟨rfl, rfl⟩; first | rw [E1.out] | rw [E2.out]))
  all_goals go_ret
  all_goals exact ⟨rfl, rfl⟩
set_option maxHeartbeats 2000000 in
set_option maxRecDepth 100000 in
theorem ref_select_w (a b : Int) (a_0 : 0 ≤ a) (a_1 : a ≤ 255) (b_0 : 0 ≤ b) (b_1 : b ≤ 255) (w : World) : Calls Try.prog 9 #[.int .u8 a, .int .u8 b] w fun en w' => en = .returned (.int .i64 (sel a b)) ∧ w = w' := by
  unfold sel
  rcases us_cases a with ⟨rfl, e1⟩ | ⟨rfl, e1⟩ | ⟨h1, h2, g1, g2, e1⟩
  all_goals rcases us_cases b with ⟨rfl, e2⟩ | ⟨rfl, e2⟩ | ⟨i1, i2, k1, k2, e2⟩
  all_goals simp only [e1, e2, if_true, Bool.false_eq_true, if_false]
  all_goals have E1 := Lib.hid e1
  all_goals have E2 := Lib.hid e2
  all_goals clear e1 e2
  all_goals go_enter Try.func9, Try.ntmps9
  all_goals go_wp2_with (fail)
  all_goals go_ret
  all_goals exact ⟨rfl, rfl⟩
set_option maxHeartbeats 2000000 in
set_option maxRecDepth 100000 in
theorem toward_w (l v r : Int) (l_0 : -9223372036854775808 ≤ l) (l_1 : l ≤ 9223372036854775807) (v_0 : -9223372036854775808 ≤ v) (v_1 : v ≤ 9223372036854775807) (r_0 : -9223372036854775808 ≤ r) (r_1 : r ≤ 9223372036854775807) (w : World) : Calls Try.prog 11 #[.int .i64 l, .int .i64 v, .int .i64 r] w fun en w' => en = .returned (.int .i64 (tw l v r)) ∧ w = w' := by
  go_enter Try.func11, Try.ntmps11
  go_wp2_with fail
  all_goals go_ret
  all_goals refine ⟨retu ?_, rfl⟩
  all_goals (try simp only [u64_eq, w64_eq] at *)
  all_goals (unfold tw mr; (repeat' split) <;> omega)
set_option maxHeartbeats 2000000 in
set_option maxRecDepth 100000 in
theorem ref_toward_w (l v r : Int) (l_0 : -9223372036854775808 ≤ l) (l_1 : l ≤ 9223372036854775807) (v_0 : -9223372036854775808 ≤ v) (v_1 : v ≤ 9223372036854775807) (r_0 : -9223372036854775808 ≤ r) (r_1 : r ≤ 9223372036854775807) (w : World) : Calls Try.prog 12 #[.int .i64 l, .int .i64 v, .int .i64 r] w fun en w' => en = .returned (.int .i64 (tw l v r)) ∧ w = w' := by
  go_enter Try.func12, Try.ntmps12
  go_wp2_with fail
  all_goals go_ret
  all_goals refine ⟨retu ?_, rfl⟩
  all_goals (try simp only [u64_eq, w64_eq] at *)
  all_goals (unfold tw mr; (repeat' split) <;> omega)
set_option maxHeartbeats 2000000 in
set_option maxRecDepth 100000 in
theorem limit_w (l0 v0 l1 v1 l2 v2 l3 v3 l4 v4 l5 v5 l6 v6 r0 r1 r2 r3 : Int) (l3_0 : -9223372036854775808 ≤ l3) (l3_1 : l3 ≤ 9223372036854775807) (v3_0 : -9223372036854775808 ≤ v3) (v3_1 : v3 ≤ 9223372036854775807) (l4_0 : -9223372036854775808 ≤ l4) (l4_1 : l4 ≤ 9223372036854775807) (v4_0 : -9223372036854775808 ≤ v4) (v4_1 : v4 ≤ 9223372036854775807) (l5_0 : -9223372036854775808 ≤ l5) (l5_1 : l5 ≤ 9223372036854775807) (v5_0 : -9223372036854775808 ≤ v5) (v5_1 : v5 ≤ 9223372036854775807) (l6_0 : -9223372036854775808 ≤ l6) (l6_1 : l6 ≤ 9223372036854775807) (v6_0 : -9223372036854775808 ≤ v6) (v6_1 : v6 ≤ 9223372036854775807) (r0_0 : -9223372036854775808 ≤ r0) (r0_1 : r0 ≤ 9223372036854775807) (r1_0 : -9223372036854775808 ≤ r1) (r1_1 : r1 ≤ 9223372036854775807) (r2_0 : -9223372036854775808 ≤ r2) (r2_1 : r2 ≤ 9223372036854775807) (r3_0 : -9223372036854775808 ≤ r3) (r3_1 : r3 ≤ 9223372036854775807) (w : World) : Calls Try.prog 6 #[.agg #[.int .u8 l0, .int .u8 l1, .int .u8 l2, .int .i64 l3, .int .i64 l4, .int .i64 l5, .int .i64 l6], .agg #[.int .u8 v0, .int .u8 v1, .int .u8 v2, .int .i64 v3, .int .i64 v4, .int .i64 v5, .int .i64 v6], .agg #[.int .i64 r0, .int .i64 r1, .int .i64 r2, .int .i64 r3]] w fun en w' => en = .returned (.agg #[.int .u8 v0, .int .u8 v1, .int .u8 v2, .int .i64 (tw l3 v3 r0), .int .i64 (tw l4 v4 r1), .int .i64 (tw l5 v5 r2), .int .i64 (tw l6 v6 r3)]) ∧ Kept w w' := by
  go_enter Try.func6, Try.ntmps6
  go_wp2_with ((go_at_call 11; refine (toward_w _ _ _ (by omega) (by omega) (by omega) (by omega) (by omega) (by omega) _).mono ?_; rintro e w' ⟨rfl, rfl⟩))
  exact bodyPost_ret (v := .agg #[.int .u8 v0, .int .u8 v1, .int .u8 v2, .int .i64 (tw l3 v3 r0), .int .i64 (tw l4 v4 r1), .int .i64 (tw l5 v5 r2), .int .i64 (tw l6 v6 r3)]) (by first | (simp [results, Try.results6, go_sem]; done) | (simp (maxDischargeDepth := 7) [results, Try.results6, go_sem]; done)) rfl ⟨rfl, (by repeat (first | with_reducible exact Kept.refl _ | with_reducible assumption | with_reducible refine Kept.setCell ?_ (by first | (simp; done) | (simp; omega) | omega) _ | with_reducible refine Kept.alloc ?_ _ | with_reducible refine Kept.drewN ?_ _ | with_reducible refine Kept.drew ?_ | with_reducible refine Kept.trans ?_ (by with_reducible assumption) | with_reducible refine Kept.dr ?_ (by with_reducible assumption)))⟩
set_option maxHeartbeats 2000000 in
set_option maxRecDepth 100000 in
theorem ref_limit_w (l0 v0 l1 v1 l2 v2 l3 v3 l4 v4 l5 v5 l6 v6 r0 r1 r2 r3 : Int) (l3_0 : -9223372036854775808 ≤ l3) (l3_1 : l3 ≤ 9223372036854775807) (v3_0 : -9223372036854775808 ≤ v3) (v3_1 : v3 ≤ 9223372036854775807) (l4_0 : -9223372036854775808 ≤ l4) (l4_1 : l4 ≤ 9223372036854775807) (v4_0 : -9223372036854775808 ≤ v4) (v4_1 : v4 ≤ 9223372036854775807) (l5_0 : -9223372036854775808 ≤ l5) (l5_1 : l5 ≤ 9223372036854775807) (v5_0 : -9223372036854775808 ≤ v5) (v5_1 : v5 ≤ 9223372036854775807) (l6_0 : -9223372036854775808 ≤ l6) (l6_1 : l6 ≤ 9223372036854775807) (v6_0 : -9223372036854775808 ≤ v6) (v6_1 : v6 ≤ 9223372036854775807) (r0_0 : -9223372036854775808 ≤ r0) (r0_1 : r0 ≤ 9223372036854775807) (r1_0 : -9223372036854775808 ≤ r1) (r1_1 : r1 ≤ 9223372036854775807) (r2_0 : -9223372036854775808 ≤ r2) (r2_1 : r2 ≤ 9223372036854775807) (r3_0 : -9223372036854775808 ≤ r3) (r3_1 : r3 ≤ 9223372036854775807) (w : World) : Calls Try.prog 7 #[.agg #[.int .u8 l0, .int .u8 l1, .int .u8 l2, .int .i64 l3, .int .i64 l4, .int .i64 l5, .int .i64 l6], .agg #[.int .u8 v0, .int .u8 v1, .int .u8 v2, .int .i64 v3, .int .i64 v4, .int .i64 v5, .int .i64 v6], .agg #[.int .i64 r0, .int .i64 r1, .int .i64 r2, .int .i64 r3]] w fun en w' => en = .returned (.agg #[.int .u8 v0, .int .u8 v1, .int .u8 v2, .int .i64 (tw l3 v3 r0), .int .i64 (tw l4 v4 r1), .int .i64 (tw l5 v5 r2), .int .i64 (tw l6 v6 r3)]) ∧ Kept w w' := by
  go_enter Try.func7, Try.ntmps7
  go_wp2_with ((go_at_call 12; refine (ref_toward_w _ _ _ (by omega) (by omega) (by omega) (by omega) (by omega) (by omega) _).mono ?_; rintro e w' ⟨rfl, rfl⟩))
  exact bodyPost_ret (v := .agg #[.int .u8 v0, .int .u8 v1, .int .u8 v2, .int .i64 (tw l3 v3 r0), .int .i64 (tw l4 v4 r1), .int .i64 (tw l5 v5 r2), .int .i64 (tw l6 v6 r3)]) (by first | (simp [results, Try.results7, go_sem]; done) | (simp (maxDischargeDepth := 7) [results, Try.results7, go_sem]; done)) rfl ⟨rfl, (by repeat (first | with_reducible exact Kept.refl _ | with_reducible assumption | with_reducible refine Kept.setCell ?_ (by first | (simp; done) | (simp; omega) | omega) _ | with_reducible refine Kept.alloc ?_ _ | with_reducible refine Kept.drewN ?_ _ | with_reducible refine Kept.drew ?_ | with_reducible refine Kept.trans ?_ (by with_reducible assumption) | with_reducible refine Kept.dr ?_ (by with_reducible assumption)))⟩

end Go.Proofs.Ytbiamcpcmjdogaa
