/-
  Own arithmetic: the tables of the standard atmosphere, plainly. Nothing of the program.
-/
import Derived.Test.YtfkgghjinkmpiaaDoorNum
namespace Go.Proofs.YtfkgghjinkmpiaaDoor
set_option linter.unusedVariables false
/-- the value between two rows -/
def btw (f0 v0 f1 v1 alt : Int) : Int := v0 + (v1 - v0) * (alt - f0 * 100) / ((f1 - f0) * 100)
theorem part_bd (a b c : Int) (h0 : 0 ≤ b) (h1 : b ≤ c) (h2 : 0 < c) : (0 ≤ a → 0 ≤ a * b / c ∧ a * b / c ≤ a) ∧ (a ≤ 0 → a ≤ a * b / c ∧ a * b / c ≤ 0) := by
  constructor
  · intro ha
    refine ⟨Int.ediv_nonneg (Int.mul_nonneg ha h0) (by omega), ?_⟩
    have h := Int.mul_le_mul_of_nonneg_left h1 ha
    exact Int.ediv_le_of_le_mul h2 h
  · intro ha
    have h := Int.mul_le_mul_of_nonpos_left ha h1
    refine ⟨Int.le_ediv_of_mul_le h2 h, ?_⟩
    have h3 := Int.mul_nonpos_of_nonpos_of_nonneg ha h0
    have := Int.ediv_le_ediv h2 h3
    simpa using this
theorem mqv_part (a b c : Int) (h0 : 0 ≤ b) (h1 : b ≤ c) (h2 : 0 < c) (a0 : -9223372036854775807 ≤ a) (a1 : a ≤ 9223372036854775807) : mqv 0 a b c = a * b / c ∧ mqe 0 a b c = 0 := by
  have h := part_bd a b c h0 h1 h2
  have e : rnd 0 (a * b) c = a * b / c := by unfold rnd; rw [if_pos rfl, Int.fdiv_eq_ediv_of_nonneg _ (by omega)]
  have hf : fit64 (rnd 0 (a * b) c) = true := by
    rw [e]; unfold fit64
    refine decide_eq_true ?_
    by_cases ha : 0 ≤ a
    · have := h.1 ha; omega
    · have := h.2 (by omega); omega
  unfold mqv mqe
  rw [if_neg (show ¬ c = 0 by omega), if_pos hf, if_neg (show ¬ c = 0 by omega), if_pos hf, e]
  exact ⟨rfl, rfl⟩
def prsF : Nat → Int
  | 0 => (-2000)
  | 1 => 0
  | 2 => 5000
  | 3 => 10000
  | 4 => 15000
  | 5 => 20000
  | 6 => 25000
  | 7 => 30000
  | 8 => 35000
  | 9 => 40000
  | 10 => 45000
  | 11 => 50000
  | 12 => 55000
  | _ => 60000
def prsV : Nat → Int
  | 0 => 1074400
  | 1 => 1000000
  | 2 => 832000
  | 3 => 687700
  | 4 => 564300
  | 5 => 459500
  | 6 => 371100
  | 7 => 297000
  | 8 => 235300
  | 9 => 185100
  | 10 => 145500
  | 11 => 114500
  | 12 => 90000
  | _ => 70800
def prs (alt : Int) : Int := if alt ≤ 0 then 1074400 + (-74400) * (alt - (-200000)) / 200000 else if alt ≤ 500000 then 1000000 + (-168000) * (alt - 0) / 500000 else if alt ≤ 1000000 then 832000 + (-144300) * (alt - 500000) / 500000 else if alt ≤ 1500000 then 687700 + (-123400) * (alt - 1000000) / 500000 else if alt ≤ 2000000 then 564300 + (-104800) * (alt - 1500000) / 500000 else if alt ≤ 2500000 then 459500 + (-88400) * (alt - 2000000) / 500000 else if alt ≤ 3000000 then 371100 + (-74100) * (alt - 2500000) / 500000 else if alt ≤ 3500000 then 297000 + (-61700) * (alt - 3000000) / 500000 else if alt ≤ 4000000 then 235300 + (-50200) * (alt - 3500000) / 500000 else if alt ≤ 4500000 then 185100 + (-39600) * (alt - 4000000) / 500000 else if alt ≤ 5000000 then 145500 + (-31000) * (alt - 4500000) / 500000 else if alt ≤ 5500000 then 114500 + (-24500) * (alt - 5000000) / 500000 else 90000 + (-19200) * (alt - 5500000) / 500000
theorem prs_s1 (alt : Int) (h0 : (-200000) ≤ alt) (h1 : alt ≤ 0) : prs alt = 1074400 + (-74400) * (alt - (-200000)) / 200000 := by
  unfold prs; rw [if_pos h1]
theorem prs_s2 (alt : Int) (h0 : 0 ≤ alt) (h1 : alt ≤ 500000) : prs alt = 1000000 + (-168000) * (alt - 0) / 500000 := by
  by_cases e : alt = 0
  · subst e; decide
  · unfold prs; rw [if_neg (by omega), if_pos h1]
theorem prs_s3 (alt : Int) (h0 : 500000 ≤ alt) (h1 : alt ≤ 1000000) : prs alt = 832000 + (-144300) * (alt - 500000) / 500000 := by
  by_cases e : alt = 500000
  · subst e; decide
  · unfold prs; rw [if_neg (by omega), if_neg (by omega), if_pos h1]
theorem prs_s4 (alt : Int) (h0 : 1000000 ≤ alt) (h1 : alt ≤ 1500000) : prs alt = 687700 + (-123400) * (alt - 1000000) / 500000 := by
  by_cases e : alt = 1000000
  · subst e; decide
  · unfold prs; rw [if_neg (by omega), if_neg (by omega), if_neg (by omega), if_pos h1]
theorem prs_s5 (alt : Int) (h0 : 1500000 ≤ alt) (h1 : alt ≤ 2000000) : prs alt = 564300 + (-104800) * (alt - 1500000) / 500000 := by
  by_cases e : alt = 1500000
  · subst e; decide
  · unfold prs; rw [if_neg (by omega), if_neg (by omega), if_neg (by omega), if_neg (by omega), if_pos h1]
theorem prs_s6 (alt : Int) (h0 : 2000000 ≤ alt) (h1 : alt ≤ 2500000) : prs alt = 459500 + (-88400) * (alt - 2000000) / 500000 := by
  by_cases e : alt = 2000000
  · subst e; decide
  · unfold prs; rw [if_neg (by omega), if_neg (by omega), if_neg (by omega), if_neg (by omega), if_neg (by omega), if_pos h1]
theorem prs_s7 (alt : Int) (h0 : 2500000 ≤ alt) (h1 : alt ≤ 3000000) : prs alt = 371100 + (-74100) * (alt - 2500000) / 500000 := by
  by_cases e : alt = 2500000
  · subst e; decide
  · unfold prs; rw [if_neg (by omega), if_neg (by omega), if_neg (by omega), if_neg (by omega), if_neg (by omega), if_neg (by omega), if_pos h1]
theorem prs_s8 (alt : Int) (h0 : 3000000 ≤ alt) (h1 : alt ≤ 3500000) : prs alt = 297000 + (-61700) * (alt - 3000000) / 500000 := by
  by_cases e : alt = 3000000
  · subst e; decide
  · unfold prs; rw [if_neg (by omega), if_neg (by omega), if_neg (by omega), if_neg (by omega), if_neg (by omega), if_neg (by omega), if_neg (by omega), if_pos h1]
theorem prs_s9 (alt : Int) (h0 : 3500000 ≤ alt) (h1 : alt ≤ 4000000) : prs alt = 235300 + (-50200) * (alt - 3500000) / 500000 := by
  by_cases e : alt = 3500000
  · subst e; decide
  · unfold prs; rw [if_neg (by omega), if_neg (by omega), if_neg (by omega), if_neg (by omega), if_neg (by omega), if_neg (by omega), if_neg (by omega), if_neg (by omega), if_pos h1]
theorem prs_s10 (alt : Int) (h0 : 4000000 ≤ alt) (h1 : alt ≤ 4500000) : prs alt = 185100 + (-39600) * (alt - 4000000) / 500000 := by
  by_cases e : alt = 4000000
  · subst e; decide
  · unfold prs; rw [if_neg (by omega), if_neg (by omega), if_neg (by omega), if_neg (by omega), if_neg (by omega), if_neg (by omega), if_neg (by omega), if_neg (by omega), if_neg (by omega), if_pos h1]
theorem prs_s11 (alt : Int) (h0 : 4500000 ≤ alt) (h1 : alt ≤ 5000000) : prs alt = 145500 + (-31000) * (alt - 4500000) / 500000 := by
  by_cases e : alt = 4500000
  · subst e; decide
  · unfold prs; rw [if_neg (by omega), if_neg (by omega), if_neg (by omega), if_neg (by omega), if_neg (by omega), if_neg (by omega), if_neg (by omega), if_neg (by omega), if_neg (by omega), if_neg (by omega), if_pos h1]
theorem prs_s12 (alt : Int) (h0 : 5000000 ≤ alt) (h1 : alt ≤ 5500000) : prs alt = 114500 + (-24500) * (alt - 5000000) / 500000 := by
  by_cases e : alt = 5000000
  · subst e; decide
  · unfold prs; rw [if_neg (by omega), if_neg (by omega), if_neg (by omega), if_neg (by omega), if_neg (by omega), if_neg (by omega), if_neg (by omega), if_neg (by omega), if_neg (by omega), if_neg (by omega), if_neg (by omega), if_pos h1]
theorem prs_s13 (alt : Int) (h0 : 5500000 ≤ alt) (h1 : alt ≤ 6000000) : prs alt = 90000 + (-19200) * (alt - 5500000) / 500000 := by
  by_cases e : alt = 5500000
  · subst e; decide
  · unfold prs; rw [if_neg (by omega), if_neg (by omega), if_neg (by omega), if_neg (by omega), if_neg (by omega), if_neg (by omega), if_neg (by omega), if_neg (by omega), if_neg (by omega), if_neg (by omega), if_neg (by omega), if_neg (by omega)]
theorem prs_i (i : Nat) (h : i < 14) : i = 0 ∨ i = 1 ∨ i = 2 ∨ i = 3 ∨ i = 4 ∨ i = 5 ∨ i = 6 ∨ i = 7 ∨ i = 8 ∨ i = 9 ∨ i = 10 ∨ i = 11 ∨ i = 12 ∨ i = 13 := by omega
theorem prs_at (i : Nat) (alt : Int) (h0 : i < 13) (h1 : prsF i * 100 ≤ alt) (h2 : alt ≤ prsF (i + 1) * 100) : prs alt = btw (prsF i) (prsV i) (prsF (i + 1)) (prsV (i + 1)) alt := by
  have hi : i = 0 ∨ i = 1 ∨ i = 2 ∨ i = 3 ∨ i = 4 ∨ i = 5 ∨ i = 6 ∨ i = 7 ∨ i = 8 ∨ i = 9 ∨ i = 10 ∨ i = 11 ∨ i = 12 := by omega
  rcases hi with rfl | rfl | rfl | rfl | rfl | rfl | rfl | rfl | rfl | rfl | rfl | rfl | rfl
  · exact prs_s1 alt (by simp [prsF] at h1; omega) (by simp [prsF] at h2; omega)
  · exact prs_s2 alt (by simp [prsF] at h1; omega) (by simp [prsF] at h2; omega)
  · exact prs_s3 alt (by simp [prsF] at h1; omega) (by simp [prsF] at h2; omega)
  · exact prs_s4 alt (by simp [prsF] at h1; omega) (by simp [prsF] at h2; omega)
  · exact prs_s5 alt (by simp [prsF] at h1; omega) (by simp [prsF] at h2; omega)
  · exact prs_s6 alt (by simp [prsF] at h1; omega) (by simp [prsF] at h2; omega)
  · exact prs_s7 alt (by simp [prsF] at h1; omega) (by simp [prsF] at h2; omega)
  · exact prs_s8 alt (by simp [prsF] at h1; omega) (by simp [prsF] at h2; omega)
  · exact prs_s9 alt (by simp [prsF] at h1; omega) (by simp [prsF] at h2; omega)
  · exact prs_s10 alt (by simp [prsF] at h1; omega) (by simp [prsF] at h2; omega)
  · exact prs_s11 alt (by simp [prsF] at h1; omega) (by simp [prsF] at h2; omega)
  · exact prs_s12 alt (by simp [prsF] at h1; omega) (by simp [prsF] at h2; omega)
  · exact prs_s13 alt (by simp [prsF] at h1; omega) (by simp [prsF] at h2; omega)
theorem prs_step (a : Int) (h0 : (-200000) ≤ a) (h1 : a < 6000000) : prs (a + 1) ≤ prs a ∧ prs a - prs (a + 1) ≤ 1 := by
  by_cases c1 : a < 0
  · rw [prs_s1 a (by omega) (by omega), prs_s1 (a + 1) (by omega) (by omega)]; omega
  by_cases c2 : a < 500000
  · rw [prs_s2 a (by omega) (by omega), prs_s2 (a + 1) (by omega) (by omega)]; omega
  by_cases c3 : a < 1000000
  · rw [prs_s3 a (by omega) (by omega), prs_s3 (a + 1) (by omega) (by omega)]; omega
  by_cases c4 : a < 1500000
  · rw [prs_s4 a (by omega) (by omega), prs_s4 (a + 1) (by omega) (by omega)]; omega
  by_cases c5 : a < 2000000
  · rw [prs_s5 a (by omega) (by omega), prs_s5 (a + 1) (by omega) (by omega)]; omega
  by_cases c6 : a < 2500000
  · rw [prs_s6 a (by omega) (by omega), prs_s6 (a + 1) (by omega) (by omega)]; omega
  by_cases c7 : a < 3000000
  · rw [prs_s7 a (by omega) (by omega), prs_s7 (a + 1) (by omega) (by omega)]; omega
  by_cases c8 : a < 3500000
  · rw [prs_s8 a (by omega) (by omega), prs_s8 (a + 1) (by omega) (by omega)]; omega
  by_cases c9 : a < 4000000
  · rw [prs_s9 a (by omega) (by omega), prs_s9 (a + 1) (by omega) (by omega)]; omega
  by_cases c10 : a < 4500000
  · rw [prs_s10 a (by omega) (by omega), prs_s10 (a + 1) (by omega) (by omega)]; omega
  by_cases c11 : a < 5000000
  · rw [prs_s11 a (by omega) (by omega), prs_s11 (a + 1) (by omega) (by omega)]; omega
  by_cases c12 : a < 5500000
  · rw [prs_s12 a (by omega) (by omega), prs_s12 (a + 1) (by omega) (by omega)]; omega
  rw [prs_s13 a (by omega) (by omega), prs_s13 (a + 1) (by omega) (by omega)]; omega
theorem prs_mono (a b : Int) (h0 : (-200000) ≤ a) (h : a ≤ b) (h1 : b ≤ 6000000) : prs b ≤ prs a := by
  have key : ∀ k : Nat, a + k ≤ 6000000 → prs (a + k) ≤ prs a := by
    intro k
    induction k with
    | zero => intro _; simp
    | succ k ih =>
      intro hk
      have h4 := ih (by omega)
      have h5 := prs_step (a + k) (by omega) (by omega)
      have e : a + ((k + 1 : Nat) : Int) = a + k + 1 := by omega
      rw [e]; omega
  have := key (b - a).toNat (by omega)
  rw [show a + ((b - a).toNat : Int) = b from by omega] at this
  exact this
theorem prs_bd (a : Int) (h0 : (-200000) ≤ a) (h1 : a ≤ 6000000) : 70800 ≤ prs a ∧ prs a ≤ 1074400 := by
  have e0 : prs (-200000) = 1074400 := by decide
  have e1 : prs 6000000 = 70800 := by decide
  have a1 := prs_mono (-200000) a (by omega) h0 h1
  have a2 := prs_mono a 6000000 h0 h1 (by omega)
  omega
theorem prs_tab (i : Nat) (h : i < 13) : -2000 ≤ prsF i ∧ prsF i < prsF (i + 1) ∧ prsF (i + 1) ≤ 60000 ∧ 0 ≤ prsV i ∧ prsV i ≤ 4000000 ∧ 0 ≤ prsV (i + 1) ∧ prsV (i + 1) ≤ 4000000 := by
  have hi : i = 0 ∨ i = 1 ∨ i = 2 ∨ i = 3 ∨ i = 4 ∨ i = 5 ∨ i = 6 ∨ i = 7 ∨ i = 8 ∨ i = 9 ∨ i = 10 ∨ i = 11 ∨ i = 12 := by omega
  rcases hi with rfl | rfl | rfl | rfl | rfl | rfl | rfl | rfl | rfl | rfl | rfl | rfl | rfl <;> decide
def ratF : Nat → Int
  | 0 => (-2000)
  | 1 => 0
  | 2 => 5000
  | 3 => 10000
  | 4 => 15000
  | 5 => 20000
  | 6 => 25000
  | 7 => 30000
  | 8 => 35000
  | 9 => 40000
  | 10 => 45000
  | 11 => 50000
  | 12 => 55000
  | _ => 60000
def ratV : Nat → Int
  | 0 => 971400
  | 1 => 1000000
  | 2 => 1077300
  | 3 => 1163700
  | 4 => 1260600
  | 5 => 1370000
  | 6 => 1493800
  | 7 => 1634900
  | 8 => 1796400
  | 9 => 2015500
  | 10 => 2272700
  | 11 => 2562800
  | 12 => 2890100
  | _ => 3259100
def rat (alt : Int) : Int := if alt ≤ 0 then 971400 + 28600 * (alt - (-200000)) / 200000 else if alt ≤ 500000 then 1000000 + 77300 * (alt - 0) / 500000 else if alt ≤ 1000000 then 1077300 + 86400 * (alt - 500000) / 500000 else if alt ≤ 1500000 then 1163700 + 96900 * (alt - 1000000) / 500000 else if alt ≤ 2000000 then 1260600 + 109400 * (alt - 1500000) / 500000 else if alt ≤ 2500000 then 1370000 + 123800 * (alt - 2000000) / 500000 else if alt ≤ 3000000 then 1493800 + 141100 * (alt - 2500000) / 500000 else if alt ≤ 3500000 then 1634900 + 161500 * (alt - 3000000) / 500000 else if alt ≤ 4000000 then 1796400 + 219100 * (alt - 3500000) / 500000 else if alt ≤ 4500000 then 2015500 + 257200 * (alt - 4000000) / 500000 else if alt ≤ 5000000 then 2272700 + 290100 * (alt - 4500000) / 500000 else if alt ≤ 5500000 then 2562800 + 327300 * (alt - 5000000) / 500000 else 2890100 + 369000 * (alt - 5500000) / 500000
theorem rat_s1 (alt : Int) (h0 : (-200000) ≤ alt) (h1 : alt ≤ 0) : rat alt = 971400 + 28600 * (alt - (-200000)) / 200000 := by
  unfold rat; rw [if_pos h1]
theorem rat_s2 (alt : Int) (h0 : 0 ≤ alt) (h1 : alt ≤ 500000) : rat alt = 1000000 + 77300 * (alt - 0) / 500000 := by
  by_cases e : alt = 0
  · subst e; decide
  · unfold rat; rw [if_neg (by omega), if_pos h1]
theorem rat_s3 (alt : Int) (h0 : 500000 ≤ alt) (h1 : alt ≤ 1000000) : rat alt = 1077300 + 86400 * (alt - 500000) / 500000 := by
  by_cases e : alt = 500000
  · subst e; decide
  · unfold rat; rw [if_neg (by omega), if_neg (by omega), if_pos h1]
theorem rat_s4 (alt : Int) (h0 : 1000000 ≤ alt) (h1 : alt ≤ 1500000) : rat alt = 1163700 + 96900 * (alt - 1000000) / 500000 := by
  by_cases e : alt = 1000000
  · subst e; decide
  · unfold rat; rw [if_neg (by omega), if_neg (by omega), if_neg (by omega), if_pos h1]
theorem rat_s5 (alt : Int) (h0 : 1500000 ≤ alt) (h1 : alt ≤ 2000000) : rat alt = 1260600 + 109400 * (alt - 1500000) / 500000 := by
  by_cases e : alt = 1500000
  · subst e; decide
  · unfold rat; rw [if_neg (by omega), if_neg (by omega), if_neg (by omega), if_neg (by omega), if_pos h1]
theorem rat_s6 (alt : Int) (h0 : 2000000 ≤ alt) (h1 : alt ≤ 2500000) : rat alt = 1370000 + 123800 * (alt - 2000000) / 500000 := by
  by_cases e : alt = 2000000
  · subst e; decide
  · unfold rat; rw [if_neg (by omega), if_neg (by omega), if_neg (by omega), if_neg (by omega), if_neg (by omega), if_pos h1]
theorem rat_s7 (alt : Int) (h0 : 2500000 ≤ alt) (h1 : alt ≤ 3000000) : rat alt = 1493800 + 141100 * (alt - 2500000) / 500000 := by
  by_cases e : alt = 2500000
  · subst e; decide
  · unfold rat; rw [if_neg (by omega), if_neg (by omega), if_neg (by omega), if_neg (by omega), if_neg (by omega), if_neg (by omega), if_pos h1]
theorem rat_s8 (alt : Int) (h0 : 3000000 ≤ alt) (h1 : alt ≤ 3500000) : rat alt = 1634900 + 161500 * (alt - 3000000) / 500000 := by
  by_cases e : alt = 3000000
  · subst e; decide
  · unfold rat; rw [if_neg (by omega), if_neg (by omega), if_neg (by omega), if_neg (by omega), if_neg (by omega), if_neg (by omega), if_neg (by omega), if_pos h1]
theorem rat_s9 (alt : Int) (h0 : 3500000 ≤ alt) (h1 : alt ≤ 4000000) : rat alt = 1796400 + 219100 * (alt - 3500000) / 500000 := by
  by_cases e : alt = 3500000
  · subst e; decide
  · unfold rat; rw [if_neg (by omega), if_neg (by omega), if_neg (by omega), if_neg (by omega), if_neg (by omega), if_neg (by omega), if_neg (by omega), if_neg (by omega), if_pos h1]
theorem rat_s10 (alt : Int) (h0 : 4000000 ≤ alt) (h1 : alt ≤ 4500000) : rat alt = 2015500 + 257200 * (alt - 4000000) / 500000 := by
  by_cases e : alt = 4000000
  · subst e; decide
  · unfold rat; rw [if_neg (by omega), if_neg (by omega), if_neg (by omega), if_neg (by omega), if_neg (by omega), if_neg (by omega), if_neg (by omega), if_neg (by omega), if_neg (by omega), if_pos h1]
theorem rat_s11 (alt : Int) (h0 : 4500000 ≤ alt) (h1 : alt ≤ 5000000) : rat alt = 2272700 + 290100 * (alt - 4500000) / 500000 := by
  by_cases e : alt = 4500000
  · subst e; decide
  · unfold rat; rw [if_neg (by omega), if_neg (by omega), if_neg (by omega), if_neg (by omega), if_neg (by omega), if_neg (by omega), if_neg (by omega), if_neg (by omega), if_neg (by omega), if_neg (by omega), if_pos h1]
theorem rat_s12 (alt : Int) (h0 : 5000000 ≤ alt) (h1 : alt ≤ 5500000) : rat alt = 2562800 + 327300 * (alt - 5000000) / 500000 := by
  by_cases e : alt = 5000000
  · subst e; decide
  · unfold rat; rw [if_neg (by omega), if_neg (by omega), if_neg (by omega), if_neg (by omega), if_neg (by omega), if_neg (by omega), if_neg (by omega), if_neg (by omega), if_neg (by omega), if_neg (by omega), if_neg (by omega), if_pos h1]
theorem rat_s13 (alt : Int) (h0 : 5500000 ≤ alt) (h1 : alt ≤ 6000000) : rat alt = 2890100 + 369000 * (alt - 5500000) / 500000 := by
  by_cases e : alt = 5500000
  · subst e; decide
  · unfold rat; rw [if_neg (by omega), if_neg (by omega), if_neg (by omega), if_neg (by omega), if_neg (by omega), if_neg (by omega), if_neg (by omega), if_neg (by omega), if_neg (by omega), if_neg (by omega), if_neg (by omega), if_neg (by omega)]
theorem rat_i (i : Nat) (h : i < 14) : i = 0 ∨ i = 1 ∨ i = 2 ∨ i = 3 ∨ i = 4 ∨ i = 5 ∨ i = 6 ∨ i = 7 ∨ i = 8 ∨ i = 9 ∨ i = 10 ∨ i = 11 ∨ i = 12 ∨ i = 13 := by omega
theorem rat_at (i : Nat) (alt : Int) (h0 : i < 13) (h1 : ratF i * 100 ≤ alt) (h2 : alt ≤ ratF (i + 1) * 100) : rat alt = btw (ratF i) (ratV i) (ratF (i + 1)) (ratV (i + 1)) alt := by
  have hi : i = 0 ∨ i = 1 ∨ i = 2 ∨ i = 3 ∨ i = 4 ∨ i = 5 ∨ i = 6 ∨ i = 7 ∨ i = 8 ∨ i = 9 ∨ i = 10 ∨ i = 11 ∨ i = 12 := by omega
  rcases hi with rfl | rfl | rfl | rfl | rfl | rfl | rfl | rfl | rfl | rfl | rfl | rfl | rfl
  · exact rat_s1 alt (by simp [ratF] at h1; omega) (by simp [ratF] at h2; omega)
  · exact rat_s2 alt (by simp [ratF] at h1; omega) (by simp [ratF] at h2; omega)
  · exact rat_s3 alt (by simp [ratF] at h1; omega) (by simp [ratF] at h2; omega)
  · exact rat_s4 alt (by simp [ratF] at h1; omega) (by simp [ratF] at h2; omega)
  · exact rat_s5 alt (by simp [ratF] at h1; omega) (by simp [ratF] at h2; omega)
  · exact rat_s6 alt (by simp [ratF] at h1; omega) (by simp [ratF] at h2; omega)
  · exact rat_s7 alt (by simp [ratF] at h1; omega) (by simp [ratF] at h2; omega)
  · exact rat_s8 alt (by simp [ratF] at h1; omega) (by simp [ratF] at h2; omega)
  · exact rat_s9 alt (by simp [ratF] at h1; omega) (by simp [ratF] at h2; omega)
  · exact rat_s10 alt (by simp [ratF] at h1; omega) (by simp [ratF] at h2; omega)
  · exact rat_s11 alt (by simp [ratF] at h1; omega) (by simp [ratF] at h2; omega)
  · exact rat_s12 alt (by simp [ratF] at h1; omega) (by simp [ratF] at h2; omega)
  · exact rat_s13 alt (by simp [ratF] at h1; omega) (by simp [ratF] at h2; omega)
theorem rat_step (a : Int) (h0 : (-200000) ≤ a) (h1 : a < 6000000) : rat a ≤ rat (a + 1) ∧ rat (a + 1) - rat a ≤ 1 := by
  by_cases c1 : a < 0
  · rw [rat_s1 a (by omega) (by omega), rat_s1 (a + 1) (by omega) (by omega)]; omega
  by_cases c2 : a < 500000
  · rw [rat_s2 a (by omega) (by omega), rat_s2 (a + 1) (by omega) (by omega)]; omega
  by_cases c3 : a < 1000000
  · rw [rat_s3 a (by omega) (by omega), rat_s3 (a + 1) (by omega) (by omega)]; omega
  by_cases c4 : a < 1500000
  · rw [rat_s4 a (by omega) (by omega), rat_s4 (a + 1) (by omega) (by omega)]; omega
  by_cases c5 : a < 2000000
  · rw [rat_s5 a (by omega) (by omega), rat_s5 (a + 1) (by omega) (by omega)]; omega
  by_cases c6 : a < 2500000
  · rw [rat_s6 a (by omega) (by omega), rat_s6 (a + 1) (by omega) (by omega)]; omega
  by_cases c7 : a < 3000000
  · rw [rat_s7 a (by omega) (by omega), rat_s7 (a + 1) (by omega) (by omega)]; omega
  by_cases c8 : a < 3500000
  · rw [rat_s8 a (by omega) (by omega), rat_s8 (a + 1) (by omega) (by omega)]; omega
  by_cases c9 : a < 4000000
  · rw [rat_s9 a (by omega) (by omega), rat_s9 (a + 1) (by omega) (by omega)]; omega
  by_cases c10 : a < 4500000
  · rw [rat_s10 a (by omega) (by omega), rat_s10 (a + 1) (by omega) (by omega)]; omega
  by_cases c11 : a < 5000000
  · rw [rat_s11 a (by omega) (by omega), rat_s11 (a + 1) (by omega) (by omega)]; omega
  by_cases c12 : a < 5500000
  · rw [rat_s12 a (by omega) (by omega), rat_s12 (a + 1) (by omega) (by omega)]; omega
  rw [rat_s13 a (by omega) (by omega), rat_s13 (a + 1) (by omega) (by omega)]; omega
theorem rat_mono (a b : Int) (h0 : (-200000) ≤ a) (h : a ≤ b) (h1 : b ≤ 6000000) : rat a ≤ rat b := by
  have key : ∀ k : Nat, a + k ≤ 6000000 → rat a ≤ rat (a + k) := by
    intro k
    induction k with
    | zero => intro _; simp
    | succ k ih =>
      intro hk
      have h4 := ih (by omega)
      have h5 := rat_step (a + k) (by omega) (by omega)
      have e : a + ((k + 1 : Nat) : Int) = a + k + 1 := by omega
      rw [e]; omega
  have := key (b - a).toNat (by omega)
  rw [show a + ((b - a).toNat : Int) = b from by omega] at this
  exact this
theorem rat_bd (a : Int) (h0 : (-200000) ≤ a) (h1 : a ≤ 6000000) : 971400 ≤ rat a ∧ rat a ≤ 3259100 := by
  have e0 : rat (-200000) = 971400 := by decide
  have e1 : rat 6000000 = 3259100 := by decide
  have a1 := rat_mono (-200000) a (by omega) h0 h1
  have a2 := rat_mono a 6000000 h0 h1 (by omega)
  omega
theorem rat_tab (i : Nat) (h : i < 13) : -2000 ≤ ratF i ∧ ratF i < ratF (i + 1) ∧ ratF (i + 1) ≤ 60000 ∧ 0 ≤ ratV i ∧ ratV i ≤ 4000000 ∧ 0 ≤ ratV (i + 1) ∧ ratV (i + 1) ≤ 4000000 := by
  have hi : i = 0 ∨ i = 1 ∨ i = 2 ∨ i = 3 ∨ i = 4 ∨ i = 5 ∨ i = 6 ∨ i = 7 ∨ i = 8 ∨ i = 9 ∨ i = 10 ∨ i = 11 ∨ i = 12 := by omega
  rcases hi with rfl | rfl | rfl | rfl | rfl | rfl | rfl | rfl | rfl | rfl | rfl | rfl | rfl <;> decide
def tmpF : Nat → Int
  | 0 => (-2000)
  | 1 => 0
  | 2 => 36089
  | _ => 60000
def tmpV : Nat → Int
  | 0 => 29211
  | 1 => 28815
  | 2 => 21665
  | _ => 21665
def tmp (alt : Int) : Int := if alt ≤ 0 then 29211 + (-396) * (alt - (-200000)) / 200000 else if alt ≤ 3608900 then 28815 + (-7150) * (alt - 0) / 3608900 else 21665 + 0 * (alt - 3608900) / 2391100
theorem tmp_s1 (alt : Int) (h0 : (-200000) ≤ alt) (h1 : alt ≤ 0) : tmp alt = 29211 + (-396) * (alt - (-200000)) / 200000 := by
  unfold tmp; rw [if_pos h1]
theorem tmp_s2 (alt : Int) (h0 : 0 ≤ alt) (h1 : alt ≤ 3608900) : tmp alt = 28815 + (-7150) * (alt - 0) / 3608900 := by
  by_cases e : alt = 0
  · subst e; decide
  · unfold tmp; rw [if_neg (by omega), if_pos h1]
theorem tmp_s3 (alt : Int) (h0 : 3608900 ≤ alt) (h1 : alt ≤ 6000000) : tmp alt = 21665 + 0 * (alt - 3608900) / 2391100 := by
  by_cases e : alt = 3608900
  · subst e; decide
  · unfold tmp; rw [if_neg (by omega), if_neg (by omega)]
theorem tmp_i (i : Nat) (h : i < 4) : i = 0 ∨ i = 1 ∨ i = 2 ∨ i = 3 := by omega
theorem tmp_at (i : Nat) (alt : Int) (h0 : i < 3) (h1 : tmpF i * 100 ≤ alt) (h2 : alt ≤ tmpF (i + 1) * 100) : tmp alt = btw (tmpF i) (tmpV i) (tmpF (i + 1)) (tmpV (i + 1)) alt := by
  have hi : i = 0 ∨ i = 1 ∨ i = 2 := by omega
  rcases hi with rfl | rfl | rfl
  · exact tmp_s1 alt (by simp [tmpF] at h1; omega) (by simp [tmpF] at h2; omega)
  · exact tmp_s2 alt (by simp [tmpF] at h1; omega) (by simp [tmpF] at h2; omega)
  · exact tmp_s3 alt (by simp [tmpF] at h1; omega) (by simp [tmpF] at h2; omega)
theorem tmp_step (a : Int) (h0 : (-200000) ≤ a) (h1 : a < 6000000) : tmp (a + 1) ≤ tmp a ∧ tmp a - tmp (a + 1) ≤ 1 := by
  by_cases c1 : a < 0
  · rw [tmp_s1 a (by omega) (by omega), tmp_s1 (a + 1) (by omega) (by omega)]; omega
  by_cases c2 : a < 3608900
  · rw [tmp_s2 a (by omega) (by omega), tmp_s2 (a + 1) (by omega) (by omega)]; omega
  rw [tmp_s3 a (by omega) (by omega), tmp_s3 (a + 1) (by omega) (by omega)]; omega
theorem tmp_mono (a b : Int) (h0 : (-200000) ≤ a) (h : a ≤ b) (h1 : b ≤ 6000000) : tmp b ≤ tmp a := by
  have key : ∀ k : Nat, a + k ≤ 6000000 → tmp (a + k) ≤ tmp a := by
    intro k
    induction k with
    | zero => intro _; simp
    | succ k ih =>
      intro hk
      have h4 := ih (by omega)
      have h5 := tmp_step (a + k) (by omega) (by omega)
      have e : a + ((k + 1 : Nat) : Int) = a + k + 1 := by omega
      rw [e]; omega
  have := key (b - a).toNat (by omega)
  rw [show a + ((b - a).toNat : Int) = b from by omega] at this
  exact this
theorem tmp_bd (a : Int) (h0 : (-200000) ≤ a) (h1 : a ≤ 6000000) : 21665 ≤ tmp a ∧ tmp a ≤ 29211 := by
  have e0 : tmp (-200000) = 29211 := by decide
  have e1 : tmp 6000000 = 21665 := by decide
  have a1 := tmp_mono (-200000) a (by omega) h0 h1
  have a2 := tmp_mono a 6000000 h0 h1 (by omega)
  omega
theorem tmp_tab (i : Nat) (h : i < 3) : -2000 ≤ tmpF i ∧ tmpF i < tmpF (i + 1) ∧ tmpF (i + 1) ≤ 60000 ∧ 0 ≤ tmpV i ∧ tmpV i ≤ 4000000 ∧ 0 ≤ tmpV (i + 1) ∧ tmpV (i + 1) ≤ 4000000 := by
  have hi : i = 0 ∨ i = 1 ∨ i = 2 := by omega
  rcases hi with rfl | rfl | rfl <;> decide
theorem isq_mono (a b : Int) (h0 : 0 ≤ a) (h : a ≤ b) (h1 : b < 18446744073709551616) : isq a ≤ isq b := by
  obtain ⟨p1, p2, p3, p4⟩ := isq_ok a h0 (by omega)
  obtain ⟨q1, q2, q3, q4⟩ := isq_ok b (by omega) h1
  apply Int.not_lt.1
  intro k
  have := Int.mul_le_mul (show isq b + 1 ≤ isq a by omega) (show isq b + 1 ≤ isq a by omega) (by omega) (by omega)
  omega
theorem lev_unique (p a b : Int) (a0 : -200000 ≤ a) (a1 : a ≤ 6000000) (a2 : prs a ≤ p) (a3 : ∀ x, -200000 ≤ x → x < a → p < prs x) (b0 : -200000 ≤ b) (b1 : b ≤ 6000000) (b2 : prs b ≤ p) (b3 : ∀ x, -200000 ≤ x → x < b → p < prs x) : a = b := by
  by_cases h : a < b
  · have := b3 a a0 h; omega
  · by_cases k : b < a
    · have := a3 b b0 k; omega
    · omega
end Go.Proofs.YtfkgghjinkmpiaaDoor
