/-
  Plain numbers of layer 7: the squares of sine and cosine add up nearly to that of One.
-/
import Derived.Test.YtfnhnlnofglkoaaTrgq
namespace Go.Proofs.Ytfnhnlnofglkoaa
set_option linter.unusedVariables false
set_option linter.unusedSimpArgs false
theorem sc_abs2 (a : Int) : ∃ q, 0 ≤ q ∧ q ≤ 32400000 ∧ iabs (sinV a) = qsn q ∧ iabs (cosV a) = qsn (32400000 - q) := by
  rw [← sin_per a, ← cos_per a]
  obtain ⟨n0, n1⟩ := nrm_bd a
  generalize nrm a = b at *
  have ec : cosV b = sinV (b + 32400000) := by rw [cos_as]; exact sin_nrm _ _ (by unfold nrm; omega)
  rcases (show b ≤ 32400000 ∨ (32400000 < b ∧ b ≤ 64800000) ∨ (64800000 < b ∧ b ≤ 97200000) ∨ 97200000 < b by omega) with h | h | h | h
  · have p0 := qsn_bd b n0 h
    have p1 := qsn_bd (32400000 - b) (by omega) (by omega)
    exact ⟨b, n0, h, by rw [sin1 b n0 h]; exact iabs_pos _ p0.1, by rw [cosV_q b n0 h]; exact iabs_pos _ p1.1⟩
  · have p0 := qsn_bd (64800000 - b) (by omega) (by omega)
    have p1 := qsn_bd (32400000 - (64800000 - b)) (by omega) (by omega)
    have ek : cosV b = -qsn (32400000 - (64800000 - b)) := by rw [ec, sin3 _ (by omega) (by omega)]; exact congn (by omega)
    exact ⟨64800000 - b, by omega, by omega, by rw [sin2 b (by omega) h.2]; exact iabs_pos _ p0.1, by rw [ek, iabs_neg _ (by omega), Int.neg_neg]⟩
  · have p0 := qsn_bd (b - 64800000) (by omega) (by omega)
    have p1 := qsn_bd (32400000 - (b - 64800000)) (by omega) (by omega)
    have ek : cosV b = -qsn (32400000 - (b - 64800000)) := by rw [ec, sin4 _ (by omega) (by omega)]; exact congn (by omega)
    exact ⟨b - 64800000, by omega, by omega, by rw [sin3 b (by omega) h.2, iabs_neg _ (by omega), Int.neg_neg], by rw [ek, iabs_neg _ (by omega), Int.neg_neg]⟩
  · have p0 := qsn_bd (129600000 - b) (by omega) (by omega)
    have p1 := qsn_bd (32400000 - (129600000 - b)) (by omega) (by omega)
    have ek : cosV b = qsn (32400000 - (129600000 - b)) := by rw [ec, sin_nrm (b + 32400000) (b + 32400000 - 129600000) (by unfold nrm; omega), sin1 _ (by omega) (by omega)]; exact cong (by omega)
    exact ⟨129600000 - b, by omega, by omega, by rw [sin4 b (by omega) (by omega), iabs_neg _ (by omega), Int.neg_neg], by rw [ek]; exact iabs_pos _ p1.1⟩
theorem iabs_sq2 (x : Int) : iabs x * iabs x = x * x := by unfold iabs; split <;> simp [Int.neg_mul_neg]
theorem q_near (q : Int) (h0 : 0 ≤ q) (h1 : q ≤ 16200000) : -5368709120 ≤ qsn q * qsn q + qsn (32400000 - q) * qsn (32400000 - q) - 1152921504606846976 ∧ qsn q * qsn q + qsn (32400000 - q) * qsn (32400000 - q) - 1152921504606846976 ≤ 5368709120 := by
  by_cases h : q = 16200000
  · subst h; decide +kernel
  · have e1 : qsn q = ssn q := by unfold qsn; rw [if_pos h1]
    have e2 : qsn (32400000 - q) = csn q := by
      unfold qsn
      rw [if_neg (by omega)]
      congr 1; omega
    rw [e1, e2]
    exact sq_near q h0 h1
theorem sc_near (a : Int) : -5368709120 ≤ sinV a * sinV a + cosV a * cosV a - 1152921504606846976 ∧ sinV a * sinV a + cosV a * cosV a - 1152921504606846976 ≤ 5368709120 := by
  obtain ⟨q, q0, q1, h1, h2⟩ := sc_abs2 a
  rw [← iabs_sq2 (sinV a), ← iabs_sq2 (cosV a), h1, h2]
  by_cases h : q ≤ 16200000
  · exact q_near q q0 h
  · have := q_near (32400000 - q) (by omega) (by omega)
    rw [show (32400000 : Int) - (32400000 - q) = q by omega] at this
    omega
end Go.Proofs.Ytfnhnlnofglkoaa
