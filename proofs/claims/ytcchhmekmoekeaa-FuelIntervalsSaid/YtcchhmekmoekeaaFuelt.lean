/-
  Own contracts: the law of layer 32 on intervals and what is needed, for lists of any length.
-/
import Derived.Test.YtcchhmekmoekeaaFuele
import Derived.Test.YtcchhmekmoekeaaFuels
import Derived.WalkKit
import Derived.ProofKit
import Derived.OpenShut
import Derived.WalkLawsBesides
import Derived.WalkSpells
import Derived.Lib.Hide
import Derived.Deep.DeepCutAuto
import Derived.Deep.CutBlock
import Derived.Deep.QuietTactic
import Derived.BigQuiet
import Derived.Handy
import Derived.StillTailTactics
import Derived.IntWalk
import Derived.LoopN
import Derived.Deep.RegionHeld3
namespace Go.Proofs.Ytcchhmekmoekeaa
open Go.ChangeShapes Go.WideShapes Go.ChangeAt Go.RowKit
set_option linter.unusedVariables false
set_option linter.unusedSimpArgs false
theorem cells_kept {w W : World} (hk : Kept w W) {n b : Nat} {p : Option Addr} {o : Nat} {A : Nat → Nat} {V : Nat → Value} (hp : 0 < n → p = some ⟨b, o, none⟩ ∧ b < w.heap.size) (hc : ∀ i, i < n → w.cell? ⟨b, A i, none⟩ = some (V i)) : ∀ i, i < n → W.cell? ⟨b, A i, none⟩ = some (V i) :=
  fun i hi => (hk.cell (p := ⟨b, A i, none⟩) (hp (by omega)).2).trans (hc i hi)
theorem ptr_kept {w W : World} (hk : Kept w W) {n b : Nat} {p : Option Addr} {o : Nat} (hp : 0 < n → p = some ⟨b, o, none⟩ ∧ b < w.heap.size) : 0 < n → p = some ⟨b, o, none⟩ ∧ b < W.heap.size :=
  fun h => ⟨(hp h).1, Nat.lt_of_lt_of_le (hp h).2 hk.size⟩
set_option maxHeartbeats 2000000 in
theorem rbi_arg (a0 a1 b0 b1 c0 c1 : Int) (a0_0 : -9223372036854775808 ≤ a0) (a0_1 : a0 ≤ 9223372036854775807) (a1_0 : -9223372036854775808 ≤ a1) (a1_1 : a1 ≤ 9223372036854775807) (b0_0 : -9223372036854775808 ≤ b0) (b0_1 : b0 ≤ 9223372036854775807) (b1_0 : -9223372036854775808 ≤ b1) (b1_1 : b1 ≤ 9223372036854775807) (c0_0 : -9223372036854775808 ≤ c0) (c0_1 : c0 ≤ 9223372036854775807) (c1_0 : -9223372036854775808 ≤ c1) (c1_1 : c1 ≤ 9223372036854775807) (h : a1 < a0 ∨ (a0 ≤ a1 ∧ b1 < b0) ∨ (a0 ≤ a1 ∧ b0 ≤ b1 ∧ c1 < c0)) (w : World) : Calls Try.prog 27 #[.agg #[.int .i64 a0, .int .i64 a1], .agg #[.int .i64 b0, .int .i64 b1], .agg #[.int .i64 c0, .int .i64 c1]] w fun en w' => en = .returned (.tuple #[.agg #[.int .i64 0, .int .i64 0], .int .i64 1]) ∧ Kept w w' := by
  rcases h with h | h | h
  all_goals
    go_enter Try.func27, Try.ntmps27
    go_wp2_with fail
    all_goals first | (exact bodyPost_ret (v := .tuple #[.agg #[.int .i64 0, .int .i64 0], .int .i64 1]) (by first | (simp [results, Try.results27, go_sem]; done) | (simp (maxDischargeDepth := 7) [results, Try.results27, go_sem, *]; done)) rfl ⟨rfl, (by repeat (first | with_reducible exact Kept.refl _ | with_reducible assumption | with_reducible refine Kept.setCell ?_ (by first | (simp; done) | (simp; omega) | omega) _ | with_reducible refine Kept.alloc ?_ _ | with_reducible refine Kept.drewN ?_ _ | with_reducible refine Kept.drew ?_ | with_reducible refine Kept.trans ?_ (by with_reducible assumption) | with_reducible refine Kept.dr ?_ (by with_reducible assumption)))⟩) | (exfalso; omega)
set_option maxHeartbeats 2000000 in
theorem rbi_rng (a0 a1 b0 b1 c0 c1 : Int) (a0_0 : -9223372036854775808 ≤ a0) (a0_1 : a0 ≤ 9223372036854775807) (a1_0 : -9223372036854775808 ≤ a1) (a1_1 : a1 ≤ 9223372036854775807) (b0_0 : -9223372036854775808 ≤ b0) (b0_1 : b0 ≤ 9223372036854775807) (b1_0 : -9223372036854775808 ≤ b1) (b1_1 : b1 ≤ 9223372036854775807) (c0_0 : -9223372036854775808 ≤ c0) (c0_1 : c0 ≤ 9223372036854775807) (c1_0 : -9223372036854775808 ≤ c1) (c1_1 : c1 ≤ 9223372036854775807) (o1 : a0 ≤ a1) (o2 : b0 ≤ b1) (o3 : c0 ≤ c1) (h : a0 < 0 ∨ (0 ≤ a0 ∧ 3000000000 < a1) ∨ (0 ≤ a0 ∧ a1 ≤ 3000000000 ∧ b0 < 0) ∨ (0 ≤ a0 ∧ a1 ≤ 3000000000 ∧ 0 ≤ b0 ∧ 50000 < b1) ∨ (0 ≤ a0 ∧ a1 ≤ 3000000000 ∧ 0 ≤ b0 ∧ b1 ≤ 50000 ∧ c0 < 0) ∨ (0 ≤ a0 ∧ a1 ≤ 3000000000 ∧ 0 ≤ b0 ∧ b1 ≤ 50000 ∧ 0 ≤ c0 ∧ 1099511627776 < c1)) (w : World) : Calls Try.prog 27 #[.agg #[.int .i64 a0, .int .i64 a1], .agg #[.int .i64 b0, .int .i64 b1], .agg #[.int .i64 c0, .int .i64 c1]] w fun en w' => en = .returned (.tuple #[.agg #[.int .i64 0, .int .i64 0], .int .i64 2]) ∧ Kept w w' := by
  rcases h with h | h | h | h | h | h
  all_goals
    go_enter Try.func27, Try.ntmps27
    go_wp2_with fail
    all_goals first | (exact bodyPost_ret (v := .tuple #[.agg #[.int .i64 0, .int .i64 0], .int .i64 2]) (by first | (simp [results, Try.results27, go_sem]; done) | (simp (maxDischargeDepth := 7) [results, Try.results27, go_sem, *]; done)) rfl ⟨rfl, (by repeat (first | with_reducible exact Kept.refl _ | with_reducible assumption | with_reducible refine Kept.setCell ?_ (by first | (simp; done) | (simp; omega) | omega) _ | with_reducible refine Kept.alloc ?_ _ | with_reducible refine Kept.drewN ?_ _ | with_reducible refine Kept.drew ?_ | with_reducible refine Kept.trans ?_ (by with_reducible assumption) | with_reducible refine Kept.dr ?_ (by with_reducible assumption)))⟩) | (exfalso; omega)
set_option maxHeartbeats 2000000 in
theorem rbi_over (a0 a1 b0 b1 c0 c1 : Int) (a0_0 : -9223372036854775808 ≤ a0) (a0_1 : a0 ≤ 9223372036854775807) (a1_0 : -9223372036854775808 ≤ a1) (a1_1 : a1 ≤ 9223372036854775807) (b0_0 : -9223372036854775808 ≤ b0) (b0_1 : b0 ≤ 9223372036854775807) (b1_0 : -9223372036854775808 ≤ b1) (b1_1 : b1 ≤ 9223372036854775807) (c0_0 : -9223372036854775808 ≤ c0) (c0_1 : c0 ≤ 9223372036854775807) (c1_0 : -9223372036854775808 ≤ c1) (c1_1 : c1 ≤ 9223372036854775807) (o1 : a0 ≤ a1) (o2 : b0 ≤ b1) (o3 : c0 ≤ c1) (r1 : 0 ≤ a0) (r2 : a1 ≤ 3000000000) (r3 : 0 ≤ b0) (r4 : b1 ≤ 50000) (r5 : 0 ≤ c0) (r6 : c1 ≤ 1099511627776) (k : a0 < b1 * c1) (w : World) : Calls Try.prog 27 #[.agg #[.int .i64 a0, .int .i64 a1], .agg #[.int .i64 b0, .int .i64 b1], .agg #[.int .i64 c0, .int .i64 c1]] w fun en w' => en = .returned (.tuple #[.agg #[.int .i64 0, .int .i64 0], .int .i64 15]) ∧ Kept w w' := by
  have p1 := (FT.prod (f := b1) (t := c1) ⟨by omega, by omega, by omega, by omega⟩)
  have p2 := (FT.prod (f := b0) (t := c0) ⟨by omega, by omega, by omega, by omega⟩)
  go_enter Try.func27, Try.ntmps27
  go_wp2_with fail
  all_goals first | (exact bodyPost_ret (v := .tuple #[.agg #[.int .i64 0, .int .i64 0], .int .i64 15]) (by first | (simp [results, Try.results27, go_sem]; done) | (simp (maxDischargeDepth := 7) [results, Try.results27, go_sem, *]; done)) rfl ⟨rfl, (by repeat (first | with_reducible exact Kept.refl _ | with_reducible assumption | with_reducible refine Kept.setCell ?_ (by first | (simp; done) | (simp; omega) | omega) _ | with_reducible refine Kept.alloc ?_ _ | with_reducible refine Kept.drewN ?_ _ | with_reducible refine Kept.drew ?_ | with_reducible refine Kept.trans ?_ (by with_reducible assumption) | with_reducible refine Kept.dr ?_ (by with_reducible assumption)))⟩) | (exfalso; omega)
set_option maxHeartbeats 2000000 in
theorem rbi_ok (a0 a1 b0 b1 c0 c1 : Int) (a0_0 : -9223372036854775808 ≤ a0) (a0_1 : a0 ≤ 9223372036854775807) (a1_0 : -9223372036854775808 ≤ a1) (a1_1 : a1 ≤ 9223372036854775807) (b0_0 : -9223372036854775808 ≤ b0) (b0_1 : b0 ≤ 9223372036854775807) (b1_0 : -9223372036854775808 ≤ b1) (b1_1 : b1 ≤ 9223372036854775807) (c0_0 : -9223372036854775808 ≤ c0) (c0_1 : c0 ≤ 9223372036854775807) (c1_0 : -9223372036854775808 ≤ c1) (c1_1 : c1 ≤ 9223372036854775807) (o1 : a0 ≤ a1) (o2 : b0 ≤ b1) (o3 : c0 ≤ c1) (r1 : 0 ≤ a0) (r2 : a1 ≤ 3000000000) (r3 : 0 ≤ b0) (r4 : b1 ≤ 50000) (r5 : 0 ≤ c0) (r6 : c1 ≤ 1099511627776) (k : b1 * c1 ≤ a0) (w : World) : Calls Try.prog 27 #[.agg #[.int .i64 a0, .int .i64 a1], .agg #[.int .i64 b0, .int .i64 b1], .agg #[.int .i64 c0, .int .i64 c1]] w fun en w' => en = .returned (.tuple #[.agg #[.int .i64 (a0 - b1 * c1), .int .i64 (a1 - b0 * c0)], .int .i64 0]) ∧ Kept w w' := by
  have p1 := (FT.prod (f := b1) (t := c1) ⟨by omega, by omega, by omega, by omega⟩)
  have p2 := (FT.prod (f := b0) (t := c0) ⟨by omega, by omega, by omega, by omega⟩)
  go_enter Try.func27, Try.ntmps27
  go_wp2_with fail
  all_goals first | (exact bodyPost_ret (v := .tuple #[.agg #[.int .i64 (a0 - b1 * c1), .int .i64 (a1 - b0 * c0)], .int .i64 0]) (by first | (simp [results, Try.results27, go_sem]; done) | (simp (maxDischargeDepth := 7) [results, Try.results27, go_sem, *]; done)) rfl ⟨rfl, (by repeat (first | with_reducible exact Kept.refl _ | with_reducible assumption | with_reducible refine Kept.setCell ?_ (by first | (simp; done) | (simp; omega) | omega) _ | with_reducible refine Kept.alloc ?_ _ | with_reducible refine Kept.drewN ?_ _ | with_reducible refine Kept.drew ?_ | with_reducible refine Kept.trans ?_ (by with_reducible assumption) | with_reducible refine Kept.dr ?_ (by with_reducible assumption)))⟩) | (exfalso; omega)
end Go.Proofs.Ytcchhmekmoekeaa
