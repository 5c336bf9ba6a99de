/-
  Plain numbers of layer 9: how long the integer vectors are, roughly.
-/
import Derived.Test.YtjnodchmamlcpaaSphn
namespace Go.Proofs.Ytjnodchmamlcpaa
set_option linter.unusedVariables false
set_option linter.unusedSimpArgs false

theorem mul4 (a b c d : Int) : a * b * (c * d) = a * c * (b * d) := by
  rw [Int.mul_assoc, Int.mul_assoc, ← Int.mul_assoc b c d, Int.mul_comm b c, Int.mul_assoc c b d]
theorem sc_abs (a : Int) : ∃ q, 0 ≤ q ∧ q ≤ 32400000 ∧ iabs (sinV a) = qsn q ∧ iabs (cosV a) = qsn (32400000 - q) := by
  rw [← sin_per a, ← cos_per a]
  obtain ⟨n0, n1⟩ := nrm_bd a
  generalize nrm a = b at *
  have ec : cosV b = sinV (b + 32400000) := by rw [cos_as]; exact sin_nrm _ _ (by unfold nrm; omega)
  rcases (show b ≤ 32400000 ∨ (32400000 < b ∧ b ≤ 64800000) ∨ (64800000 < b ∧ b ≤ 97200000) ∨ 97200000 < b by omega) with h | h | h | h
  · have p0 := qsn_bd b n0 h
    have p1 := qsn_bd (32400000 - b) (by omega) (by omega)
    exact ⟨b, n0, h, by rw [sin1 b n0 h]; exact iabs_pos _ p0.1, by rw [cosV_q b n0 h]; exact iabs_pos _ p1.1⟩
  · have p0 := qsn_bd (64800000 - b) (by omega) (by omega)
    have p1 := qsn_bd (32400000 - (64800000 - b)) (by omega) (by omega)
    have ek : cosV b = -qsn (32400000 - (64800000 - b)) := by rw [ec, sin3 _ (by omega) (by omega)]; exact congn (by omega)
    exact ⟨64800000 - b, by omega, by omega, by rw [sin2 b (by omega) h.2]; exact iabs_pos _ p0.1, by rw [ek, iabs_neg _ (by omega), Int.neg_neg]⟩
  · have p0 := qsn_bd (b - 64800000) (by omega) (by omega)
    have p1 := qsn_bd (32400000 - (b - 64800000)) (by omega) (by omega)
    have ek : cosV b = -qsn (32400000 - (b - 64800000)) := by rw [ec, sin4 _ (by omega) (by omega)]; exact congn (by omega)
    exact ⟨b - 64800000, by omega, by omega, by rw [sin3 b (by omega) h.2, iabs_neg _ (by omega), Int.neg_neg], by rw [ek, iabs_neg _ (by omega), Int.neg_neg]⟩
  · have p0 := qsn_bd (129600000 - b) (by omega) (by omega)
    have p1 := qsn_bd (32400000 - (129600000 - b)) (by omega) (by omega)
    have ek : cosV b = qsn (32400000 - (129600000 - b)) := by rw [ec, sin_nrm (b + 32400000) (b + 32400000 - 129600000) (by unfold nrm; omega), sin1 _ (by omega) (by omega)]; exact cong (by omega)
    exact ⟨129600000 - b, by omega, by omega, by rw [sin4 b (by omega) (by omega), iabs_neg _ (by omega), Int.neg_neg], by rw [ek]; exact iabs_pos _ p1.1⟩
theorem sq_le (x m : Int) (h0 : 0 ≤ x) (h1 : x ≤ m) : x * x ≤ m * m := Int.mul_le_mul h1 h1 h0 (by omega)
theorem iabs_sq (x : Int) : iabs x * iabs x = x * x := by unfold iabs; split <;> simp [Int.neg_mul_neg]
theorem q_sq (q : Int) (h0 : 0 ≤ q) (h1 : q ≤ 16200000) : qsn q * qsn q + qsn (32400000 - q) * qsn (32400000 - q) ≤ 1383505805528216371 := by
  have s := qsn_bd q h0 (by omega)
  have c := qsn_bd (32400000 - q) (by omega) (by omega)
  have go : ∀ lo hi S C : Int, lo ≤ q → q ≤ hi → 0 ≤ lo → hi ≤ 32400000 → qsn hi = S → qsn (32400000 - lo) = C → S * S + C * C ≤ 1383505805528216371 → qsn q * qsn q + qsn (32400000 - q) * qsn (32400000 - q) ≤ 1383505805528216371 := by
    intro lo hi S C g0 g1 g2 g3 e1 e2 g4
    have a := sq_le _ _ s.1 (qsn_le q hi h0 g1 g3)
    have b := sq_le _ _ c.1 (qsn_le (32400000 - q) (32400000 - lo) (by omega) (by omega) (by omega))
    rw [e1] at a; rw [e2] at b
    omega
  rcases (show q ≤ 4050000 ∨ (4050000 ≤ q ∧ q ≤ 8100000) ∨ (8100000 ≤ q ∧ q ≤ 12150000) ∨ 12150000 ≤ q by omega) with h | h | h | h
  · exact go 0 4050000 _ _ h0 h (by omega) (by omega) rfl rfl (by decide +kernel)
  · exact go 4050000 8100000 _ _ h.1 h.2 (by omega) (by omega) rfl rfl (by decide +kernel)
  · exact go 8100000 12150000 _ _ h.1 h.2 (by omega) (by omega) rfl rfl (by decide +kernel)
  · exact go 12150000 16200000 _ _ h h1 (by omega) (by omega) rfl rfl (by decide +kernel)
theorem sc_sq (a : Int) : sinV a * sinV a + cosV a * cosV a ≤ 1383505805528216371 := by
  obtain ⟨q, q0, q1, h1, h2⟩ := sc_abs a
  rw [← iabs_sq (sinV a), ← iabs_sq (cosV a), h1, h2]
  by_cases h : q ≤ 16200000
  · exact q_sq q q0 h
  · have := q_sq (32400000 - q) (by omega) (by omega)
    rw [show (32400000 : Int) - (32400000 - q) = q by omega] at this
    omega
/-- a rounded thirtieth part, squared -/
theorem r30_sq (x : Int) (m : Int) (h0 : -m ≤ x) (h1 : x ≤ m) (hm : m ≤ 4611686018427387904) : r30 x * r30 x * 1152921504606846976 ≤ x * x + 1073741824 * m + 288230376151711744 := by
  have hm0 : 0 ≤ m := by omega
  have e : ∃ y, 0 ≤ y ∧ y ≤ iabs x + 536870912 ∧ y = iabs (r30 x) * 1073741824 ∧ iabs x ≤ m := by
    refine ⟨_, ?_, ?_, rfl, ?_⟩
    · unfold iabs r30; split <;> omega
    · unfold iabs r30; split <;> split <;> omega
    · unfold iabs; split <;> omega
  obtain ⟨y, y0, y1, ey, hx⟩ := e
  have a0 : 0 ≤ iabs x := by unfold iabs; split <;> omega
  have h := sq_le y _ y0 y1
  have e1 : y * y = r30 x * r30 x * 1152921504606846976 := by
    rw [ey, ← iabs_sq (r30 x)]
    generalize iabs (r30 x) = z
    rw [mul4]
    rfl
  have e2 : (iabs x + 536870912) * (iabs x + 536870912) = x * x + 1073741824 * iabs x + 288230376151711744 := by
    rw [← iabs_sq x]
    generalize iabs x = z
    rw [Int.add_mul, Int.mul_add, Int.mul_add]
    omega
  omega
theorem unit_sq (la lo : Int) : uX la lo * uX la lo + uY la lo * uY la lo + uZ la lo * uZ la lo ≤ 1671736181679928115 := by
  have b1 := cosV_bd la
  have b2 := cosV_bd lo
  have b3 := sinV_bd lo
  have p1 := mul_sb _ _ b1.1 b1.2 b2.1 b2.2
  have p2 := mul_sb _ _ b1.1 b1.2 b3.1 b3.2
  have x1 := r30_sq (cosV la * cosV lo) 1152921504606846976 (by omega) (by omega) (by omega)
  have x2 := r30_sq (cosV la * sinV lo) 1152921504606846976 (by omega) (by omega) (by omega)
  have k1 := sc_sq lo
  have k2 := sc_sq la
  have c2 : 0 ≤ cosV la * cosV la := by rw [← iabs_sq]; exact Int.mul_nonneg (by unfold iabs; split <;> omega) (by unfold iabs; split <;> omega)
  have s2 : 0 ≤ sinV la * sinV la := by rw [← iabs_sq]; exact Int.mul_nonneg (by unfold iabs; split <;> omega) (by unfold iabs; split <;> omega)
  have e1 : cosV la * cosV lo * (cosV la * cosV lo) = cosV la * cosV la * (cosV lo * cosV lo) := mul4 ..
  have e2 : cosV la * sinV lo * (cosV la * sinV lo) = cosV la * cosV la * (sinV lo * sinV lo) := mul4 ..
  rw [e1] at x1
  rw [e2] at x2
  have m := Int.mul_le_mul_of_nonneg_left k1 c2
  rw [Int.mul_add] at m
  show uX la lo * uX la lo + uY la lo * uY la lo + sinV la * sinV la ≤ _
  have ux : uX la lo = r30 (cosV la * cosV lo) := rfl
  have uy : uY la lo = r30 (cosV la * sinV lo) := rfl
  rw [ux, uy]
  generalize r30 (cosV la * cosV lo) * r30 (cosV la * cosV lo) = A at *
  generalize r30 (cosV la * sinV lo) * r30 (cosV la * sinV lo) = B at *
  generalize cosV la * cosV la * (cosV lo * cosV lo) = P at *
  generalize cosV la * cosV la * (sinV lo * sinV lo) = R at *
  generalize cosV la * cosV la = C at *
  generalize sinV la * sinV la = D at *
  omega
/-! the cross product -/
def pt3 (b z c y : Int) : Int := r30 (iabs (b * z - c * y))
def dS (a b c x y z : Int) : Int := pt3 b z c y * pt3 b z c y + pt3 c x a z * pt3 c x a z + pt3 a y b x * pt3 a y b x
theorem sq_nn (x : Int) : 0 ≤ x * x := by
  rcases Int.le_total 0 x with h | h
  · exact Int.mul_nonneg h h
  · rw [← Int.neg_mul_neg]; exact Int.mul_nonneg (by omega) (by omega)
theorem sq_lt_of (n M : Int) (hM : 0 ≤ M) (h : n * n ≤ M * M) : -M ≤ n ∧ n ≤ M := by
  have pos : ∀ k : Int, k * k ≤ M * M → k ≤ M := by
    intro k hk
    rcases Int.lt_or_le M k with h | h
    · have h1 : (M + 1) * (M + 1) ≤ k * k := Int.mul_le_mul h h (by omega) (by omega)
      rw [Int.add_mul, Int.mul_add] at h1
      omega
    · exact h
  refine ⟨?_, pos n h⟩
  have := pos (-n) (by rw [Int.neg_mul_neg]; exact h)
  omega
theorem lagrange (a b c x y z : Int) : (b * z - c * y) * (b * z - c * y) + (c * x - a * z) * (c * x - a * z) + (a * y - b * x) * (a * y - b * x) + (a * x + b * y + c * z) * (a * x + b * y + c * z) = (a * a + b * b + c * c) * (x * x + y * y + z * z) := by
  grind
theorem r30_iabs_bd (n M : Int) (h0 : -M ≤ n) (h1 : n ≤ M) (hM : M ≤ 1671736181679928115) : 0 ≤ r30 (iabs n) ∧ r30 (iabs n) ≤ 1556925645 := by
  unfold r30 iabs; split <;> omega
theorem cross_bd (a b c x y z : Int) (h1 : a * a + b * b + c * c ≤ 1671736181679928115) (h2 : x * x + y * y + z * z ≤ 1671736181679928115) :
    (-1671736181679928115 ≤ b * z - c * y ∧ b * z - c * y ≤ 1671736181679928115) ∧ (-1671736181679928115 ≤ c * x - a * z ∧ c * x - a * z ≤ 1671736181679928115) ∧ (-1671736181679928115 ≤ a * y - b * x ∧ a * y - b * x ≤ 1671736181679928115) ∧ (-1671736181679928115 ≤ a * x + b * y + c * z ∧ a * x + b * y + c * z ≤ 1671736181679928115)
    ∧ (b * z - c * y) * (b * z - c * y) + (c * x - a * z) * (c * x - a * z) + (a * y - b * x) * (a * y - b * x) ≤ 1671736181679928115 * 1671736181679928115 := by
  have L := lagrange a b c x y z
  have hp : (a * a + b * b + c * c) * (x * x + y * y + z * z) ≤ 1671736181679928115 * 1671736181679928115 :=
    Int.mul_le_mul h1 h2 (by have := sq_nn x; have := sq_nn y; have := sq_nn z; omega) (by omega)
  rw [← L] at hp
  have n1 := sq_nn (b * z - c * y)
  have n2 := sq_nn (c * x - a * z)
  have n3 := sq_nn (a * y - b * x)
  have n4 := sq_nn (a * x + b * y + c * z)
  refine ⟨sq_lt_of _ _ (by omega) (by omega), sq_lt_of _ _ (by omega) (by omega), sq_lt_of _ _ (by omega) (by omega), sq_lt_of _ _ (by omega) (by omega), by omega⟩
theorem dS_bd (a b c x y z : Int) (h1 : a * a + b * b + c * c ≤ 1671736181679928115) (h2 : x * x + y * y + z * z ≤ 1671736181679928115) : 0 ≤ dS a b c x y z ∧ dS a b c x y z ≤ 7272052392175998075 := by
  obtain ⟨c1, c2, c3, _, _⟩ := cross_bd a b c x y z h1 h2
  have p1 := r30_iabs_bd _ _ c1.1 c1.2 (by omega)
  have p2 := r30_iabs_bd _ _ c2.1 c2.2 (by omega)
  have p3 := r30_iabs_bd _ _ c3.1 c3.2 (by omega)
  have q1 := sq_le _ _ p1.1 p1.2
  have q2 := sq_le _ _ p2.1 p2.2
  have q3 := sq_le _ _ p3.1 p3.2
  have r1 := sq_nn (r30 (iabs (b * z - c * y)))
  have r2 := sq_nn (r30 (iabs (c * x - a * z)))
  have r3 := sq_nn (r30 (iabs (a * y - b * x)))
  unfold dS pt3
  omega
def dstV (la lo ma mo : Int) : Int := at2V (isq (dS (uX la lo) (uY la lo) (uZ la lo) (uX ma mo) (uY ma mo) (uZ ma mo))) (r30 (dot3 (uX la lo) (uY la lo) (uZ la lo) (uX ma mo) (uY ma mo) (uZ ma mo)))
end Go.Proofs.Ytjnodchmamlcpaa
