/-
  Plain numbers of layer 9: the distance is defined.
-/
import Derived.Test.YtjnodchmamlcpaaSphk
namespace Go.Proofs.Ytjnodchmamlcpaa
set_option linter.unusedVariables false
set_option linter.unusedSimpArgs false
theorem qsn_mid : qsn 16200000 = 759250125 := by decide +kernel
theorem sc_big (a : Int) : 536870912 ≤ iabs (sinV a) ∨ 536870912 ≤ iabs (cosV a) := by
  obtain ⟨q, q0, q1, h1, h2⟩ := sc_abs a
  rw [h1, h2]
  have e := qsn_mid
  by_cases h : q ≤ 16200000
  · right
    have := qsn_le 16200000 (32400000 - q) (by omega) (by omega) (by omega)
    omega
  · left
    have := qsn_le 16200000 q (by omega) (by omega) q1
    omega
theorem iabs_mul (x y : Int) : iabs (x * y) = iabs x * iabs y := by
  unfold iabs
  rcases Int.lt_or_le x 0 with hx | hx <;> rcases Int.lt_or_le y 0 with hy | hy
  · have := Int.mul_nonneg (by omega : 0 ≤ -x) (by omega : 0 ≤ -y)
    rw [Int.neg_mul_neg] at this
    rw [if_neg (by omega), if_pos hx, if_pos hy, Int.neg_mul_neg]
  · have := Int.mul_nonneg (by omega : 0 ≤ -x) hy
    rw [Int.neg_mul] at this
    rw [if_pos hx, if_neg (show ¬ y < 0 by omega), Int.neg_mul]
    split <;> omega
  · have := Int.mul_nonneg hx (by omega : 0 ≤ -y)
    rw [Int.mul_neg] at this
    rw [if_neg (by omega : ¬ x < 0), if_pos hy, Int.mul_neg]
    split <;> omega
  · have := Int.mul_nonneg hx hy
    rw [if_neg (by omega), if_neg (by omega), if_neg (by omega)]
theorem r30_big (x : Int) (h : 288230376151711744 ≤ iabs x) : 268435456 ≤ iabs (r30 x) := by
  unfold iabs at h
  unfold iabs r30
  split at h <;> split <;> omega
theorem sq_big (x m : Int) (h0 : 0 ≤ m) (h : m ≤ iabs x) : m * m ≤ x * x := by
  rw [← iabs_sq x]; exact Int.mul_le_mul h h h0 (by omega)
theorem prod_big (x y : Int) (h1 : 536870912 ≤ iabs x) (h2 : 536870912 ≤ iabs y) : 288230376151711744 ≤ iabs (x * y) := by
  rw [iabs_mul]
  exact Int.mul_le_mul h1 h2 (by omega) (by omega)
theorem unit_big (la lo : Int) : 72057594037927936 ≤ uX la lo * uX la lo + uY la lo * uY la lo + uZ la lo * uZ la lo := by
  have n1 := sq_nn (uX la lo)
  have n2 := sq_nn (uY la lo)
  have n3 := sq_nn (uZ la lo)
  rcases sc_big la with h | h
  · have := sq_big (uZ la lo) 536870912 (by omega) h
    omega
  · rcases sc_big lo with k | k
    · have := sq_big (uY la lo) 268435456 (by omega) (r30_big _ (prod_big _ _ h k))
      omega
    · have := sq_big (uX la lo) 268435456 (by omega) (r30_big _ (prod_big _ _ h k))
      omega
theorem r30_sqa (n M : Int) (h0 : -M ≤ n) (h1 : n ≤ M) (hM : M ≤ 1671736181679928115) : r30 (iabs n) * r30 (iabs n) * 1152921504606846976 ≤ n * n + 1073741824 * M + 288230376151711744 := by
  have := r30_sq (iabs n) M (by unfold iabs; split <;> omega) (by unfold iabs; split <;> omega) (by omega)
  rw [iabs_sq] at this
  exact this
theorem dS_small (a b c x y z : Int) (h1 : a * a + b * b + c * c ≤ 1671736181679928115) (h2 : x * x + y * y + z * z ≤ 1671736181679928115) : dS a b c x y z ≤ 2424017470000000000 := by
  obtain ⟨c1, c2, c3, _, hs⟩ := cross_bd a b c x y z h1 h2
  have p1 := r30_sqa _ _ c1.1 c1.2 (by omega)
  have p2 := r30_sqa _ _ c2.1 c2.2 (by omega)
  have p3 := r30_sqa _ _ c3.1 c3.2 (by omega)
  unfold dS pt3
  omega
theorem isq_small (n : Int) (h0 : 0 ≤ n) (h1 : n ≤ 2424017470000000000) : 0 ≤ isq n ∧ isq n ≤ 1556925647 := by
  obtain ⟨a, b, c, d⟩ := isq_ok n h0 (by omega)
  refine ⟨a, ?_⟩
  rcases Int.lt_or_le 1556925647 (isq n) with h | h
  · have : 1556925648 * 1556925648 ≤ isq n * isq n := Int.mul_le_mul (by omega) (by omega) (by omega) a
    omega
  · exact h
theorem r30_zero (n : Int) (h : r30 (iabs n) = 0) : n * n ≤ 288230376151711744 := by
  have : iabs n ≤ 536870912 ∧ 0 ≤ iabs n := by unfold r30 at h; unfold iabs at *; split at h <;> omega
  have := sq_le (iabs n) 536870912 this.2 this.1
  rw [iabs_sq] at this
  exact this
theorem sq0 (x : Int) (h : x * x = 0) : x = 0 := by
  rcases Int.mul_eq_zero.1 h with h | h <;> exact h
theorem dist_def (a b c x y z : Int) (h1 : a * a + b * b + c * c ≤ 1671736181679928115) (h2 : x * x + y * y + z * z ≤ 1671736181679928115) (g1 : 72057594037927936 ≤ a * a + b * b + c * c) (g2 : 72057594037927936 ≤ x * x + y * y + z * z) : at2E (isq (dS a b c x y z)) (r30 (dot3 a b c x y z)) = 0 := by
  obtain ⟨s0, _⟩ := dS_bd a b c x y z h1 h2
  have s1 := dS_small a b c x y z h1 h2
  obtain ⟨i0, i1⟩ := isq_small _ s0 s1
  obtain ⟨_, _, _, c4, _⟩ := cross_bd a b c x y z h1 h2
  have hd : dot3 a b c x y z = a * x + b * y + c * z := rfl
  have r0 : -1556925647 ≤ r30 (dot3 a b c x y z) ∧ r30 (dot3 a b c x y z) ≤ 1556925647 := by rw [hd]; unfold r30; omega
  refine (at2_good _ _ (smB_of _ (by omega) (by omega)) (smB_of _ (by omega) (by omega)) ?_).1
  intro ⟨z1, z2⟩
  obtain ⟨_, _, k, _⟩ := isq_ok _ s0 (by omega)
  rw [z2] at k
  have hS : dS a b c x y z = 0 := by omega
  unfold dS pt3 at hS
  have n1 := sq_nn (r30 (iabs (b * z - c * y)))
  have n2 := sq_nn (r30 (iabs (c * x - a * z)))
  have n3 := sq_nn (r30 (iabs (a * y - b * x)))
  have m1 := r30_zero _ (sq0 _ (show r30 (iabs (b * z - c * y)) * r30 (iabs (b * z - c * y)) = 0 by omega))
  have m2 := r30_zero _ (sq0 _ (show r30 (iabs (c * x - a * z)) * r30 (iabs (c * x - a * z)) = 0 by omega))
  have m3 := r30_zero _ (sq0 _ (show r30 (iabs (a * y - b * x)) * r30 (iabs (a * y - b * x)) = 0 by omega))
  have m4 : (a * x + b * y + c * z) * (a * x + b * y + c * z) ≤ 288230376151711744 := by
    rw [hd] at z1
    have : iabs (a * x + b * y + c * z) ≤ 536870912 ∧ 0 ≤ iabs (a * x + b * y + c * z) := by unfold r30 at z1; unfold iabs; split <;> omega
    have := sq_le _ 536870912 this.2 this.1
    rw [iabs_sq] at this
    exact this
  have L := lagrange a b c x y z
  have P : 72057594037927936 * 72057594037927936 ≤ (a * a + b * b + c * c) * (x * x + y * y + z * z) := Int.mul_le_mul g1 g2 (by omega) (by omega)
  omega
end Go.Proofs.Ytjnodchmamlcpaa
