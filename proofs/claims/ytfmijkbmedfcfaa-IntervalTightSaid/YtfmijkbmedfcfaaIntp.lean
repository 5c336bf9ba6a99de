/-
  Own contracts: interval: sums, differences, products and members, each answer with what is known of it.
-/
import Derived.Test.YtfmijkbmedfcfaaIntu
import Derived.WalkKit
import Derived.ProofKit
import Derived.OpenShut
import Derived.WalkLawsBesides
import Derived.WalkSpells
import Derived.Lib.Hide
import Derived.Deep.DeepCutAuto
import Derived.Deep.CutBlock
import Derived.Deep.QuietTactic
import Derived.BigQuiet
import Derived.Handy
import Derived.StillTailTactics
import Derived.IntWalk
import Derived.LoopN
import Derived.Deep.RegionHeld3
namespace Go.Proofs.Ytfmijkbmedfcfaa
open Go.ChangeShapes Go.WideShapes Go.ChangeAt Go.RowKit
set_option linter.unusedVariables false
set_option linter.unusedSimpArgs false

theorem iadd_x (a b c d : Int) (x1 : a ≤ b) (x2 : -4611686018427387904 ≤ a) (x3 : b ≤ 4611686018427387904) (y1 : c ≤ d) (y2 : -4611686018427387904 ≤ c) (y3 : d ≤ 4611686018427387904) : ∃ l g e : Int, ((e = 0 ∧ l = (a + c) ∧ g = (b + d) ∧ -4611686018427387904 ≤ l ∧ g ≤ 4611686018427387904 ∧ l ≤ g) ∨ (e = 2 ∧ l = 0 ∧ g = 0 ∧ ((a + c) < -4611686018427387904 ∨ 4611686018427387904 < (b + d)))) ∧ ∀ w, Calls Try.prog 5 #[.agg #[.int .i64 a, .int .i64 b], .agg #[.int .i64 c, .int .i64 d]] w fun en w' => en = .returned (.tuple #[.agg #[.int .i64 l, .int .i64 g], .int .i64 e]) ∧ Kept w w' := by
  by_cases k : -4611686018427387904 ≤ (a + c) ∧ (b + d) ≤ 4611686018427387904
  · exact ⟨(a + c), (b + d), 0, Or.inl ⟨rfl, rfl, rfl, k.1, k.2, by omega⟩, fun w => iadd_ok a b c d x1 x2 x3 y1 y2 y3 k.1 k.2 w⟩
  · exact ⟨0, 0, 2, Or.inr ⟨rfl, rfl, rfl, by omega⟩, fun w => iadd_bad a b c d x1 x2 x3 y1 y2 y3 (by omega) w⟩
theorem lin {a b u : Int} (v : Int) (h : a ≤ u) (k : u ≤ b) : min (a * v) (b * v) ≤ u * v ∧ u * v ≤ max (a * v) (b * v) := by
  by_cases s : 0 ≤ v
  · have h1 := Int.mul_le_mul_of_nonneg_right h s
    have h2 := Int.mul_le_mul_of_nonneg_right k s
    omega
  · have h1 := Int.mul_le_mul_of_nonpos_right h (c := v) (by omega)
    have h2 := Int.mul_le_mul_of_nonpos_right k (c := v) (by omega)
    omega
theorem corner {a b c d u v : Int} (h1 : a ≤ u) (h2 : u ≤ b) (h3 : c ≤ v) (h4 : v ≤ d) : min (min (min (a * c) (a * d)) (b * c)) (b * d) ≤ u * v ∧ u * v ≤ max (max (max (a * c) (a * d)) (b * c)) (b * d) := by
  have p := lin v h1 h2
  have q := lin a h3 h4
  have r := lin b h3 h4
  rw [Int.mul_comm c a, Int.mul_comm d a, Int.mul_comm v a] at q
  rw [Int.mul_comm c b, Int.mul_comm d b, Int.mul_comm v b] at r
  omega
theorem imul_x (a b c d : Int) (x1 : a ≤ b) (x2 : -4611686018427387904 ≤ a) (x3 : b ≤ 4611686018427387904) (y1 : c ≤ d) (y2 : -4611686018427387904 ≤ c) (y3 : d ≤ 4611686018427387904) : ∃ l g e : Int, ((e = 0 ∧ l = min (min (min (a * c) (a * d)) (b * c)) (b * d) ∧ g = max (max (max (a * c) (a * d)) (b * c)) (b * d) ∧ -4611686018427387904 ≤ l ∧ g ≤ 4611686018427387904 ∧ l ≤ g) ∨ (e = 2 ∧ l = 0 ∧ g = 0 ∧ (min (min (min (a * c) (a * d)) (b * c)) (b * d) < -4611686018427387904 ∨ 4611686018427387904 < max (max (max (a * c) (a * d)) (b * c)) (b * d)))) ∧ ∀ w, Calls Try.prog 6 #[.agg #[.int .i64 a, .int .i64 b], .agg #[.int .i64 c, .int .i64 d]] w fun en w' => en = .returned (.tuple #[.agg #[.int .i64 l, .int .i64 g], .int .i64 e]) ∧ Kept w w' := by
  by_cases k : -4611686018427387904 ≤ min (min (min (a * c) (a * d)) (b * c)) (b * d) ∧ max (max (max (a * c) (a * d)) (b * c)) (b * d) ≤ 4611686018427387904
  · exact ⟨_, _, 0, Or.inl ⟨rfl, rfl, rfl, k.1, k.2, by omega⟩, fun w => imul_ok a b c d _ _ _ _ _ _ x1 x2 x3 y1 y2 y3 (hidi rfl) (hidi rfl) (hidi rfl) (hidi rfl) (hidi rfl) (hidi rfl) k.1 k.2 w⟩
  · exact ⟨0, 0, 2, Or.inr ⟨rfl, rfl, rfl, by omega⟩, fun w => imul_bad a b c d _ _ _ _ _ _ x1 x2 x3 y1 y2 y3 (hidi rfl) (hidi rfl) (hidi rfl) (hidi rfl) (hidi rfl) (hidi rfl) (by omega) w⟩
theorem int_x (v : Int) : ∃ (p : Int) (o : Bool), ((o = true ∧ p = v ∧ -9223372036854775808 ≤ v ∧ v ≤ 9223372036854775807) ∨ (o = false ∧ p = 0 ∧ (v < -9223372036854775808 ∨ 9223372036854775807 < v))) ∧ ∀ w, Calls Try.prog 18 #[.agg #[.int .i64 (wh v), .int .u64 (wl v)]] w fun en w' => en = .returned (.tuple #[.int .i64 p, .bool o]) ∧ Kept w w' := by
  by_cases k : -9223372036854775808 ≤ v ∧ v ≤ 9223372036854775807
  · exact ⟨v, true, Or.inl ⟨rfl, rfl, k.1, k.2⟩, fun w => int_ok v k.1 k.2 w⟩
  · exact ⟨0, false, Or.inr ⟨rfl, rfl, by omega⟩, fun w => int_no v (by omega) w⟩
theorem wr1 (a r : Int) (a_0 : -4611686018427387904 ≤ a) (a_1 : a ≤ 4611686018427387904) (r_0 : 0 ≤ r) (r_1 : a + r ≤ 4611686018427387904) : IntKind.i64.wrap (IntKind.u64.wrap (IntKind.u64.wrap a + r)) = a + r := by
  simp only [IntKind.wrap_u64, IntKind.wrap_i64]; (try unfold wrap64); omega
theorem mem_bd (a b n : Int) (x1 : a ≤ b) (n_0 : 0 ≤ n) : a ≤ a + n % (b - a + 1) ∧ a + n % (b - a + 1) ≤ b := by
  have h1 := Int.emod_nonneg n (b := b - a + 1) (by omega)
  have h2 := Int.emod_lt_of_pos n (b := b - a + 1) (by omega)
  omega
theorem retv {a b : Int} (h : a = b) : Ending.returned (.int .i64 a) = .returned (.int .i64 b) := by rw [h]
end Go.Proofs.Ytfmijkbmedfcfaa
