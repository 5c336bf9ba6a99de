/-
  Plain numbers: the calendar from 2000 to 2099. Nothing of the program.
-/
import Derived.Test.YtkmpbkojdkoghaaDoorNum
namespace Go.Proofs.YtkmpbkojdkoghaaDoor
open Go.RowKit
set_option linter.unusedVariables false
set_option linter.unusedSimpArgs false

/-! the calendar, plainly -/
def lpI (y : Int) : Int := if 2000 ≤ y ∧ y ≤ 2099 ∧ y % 4 = 0 then 1 else 0
def lenI (l m : Int) : Int := if m = 2 then 28 + l else if m = 4 ∨ m = 6 ∨ m = 9 ∨ m = 11 then 30 else 31
def mdI (y m : Int) : Int := if y < 2000 ∨ 2099 < y ∨ m < 1 ∨ 12 < m then 0 else lenI (lpI y) m
def nyI (y : Int) : Int := 365 * (y - 2000) + (y - 2000 + 3) / 4
def cumI (l m : Int) : Int :=
  if m ≤ 1 then 0 else if m = 2 then 31 else l + (if m = 3 then 59 else if m = 4 then 90 else if m = 5 then 120 else if m = 6 then 151 else if m = 7 then 181 else if m = 8 then 212 else if m = 9 then 243 else if m = 10 then 273 else if m = 11 then 304 else if m = 12 then 334 else 365)
theorem lpI_01 (y : Int) : lpI y = 0 ∨ lpI y = 1 := by unfold lpI; split <;> simp
theorem month_cases (m : Int) (h1 : 1 ≤ m) (h2 : m ≤ 12) : m = 1 ∨ m = 2 ∨ m = 3 ∨ m = 4 ∨ m = 5 ∨ m = 6 ∨ m = 7 ∨ m = 8 ∨ m = 9 ∨ m = 10 ∨ m = 11 ∨ m = 12 := by omega
theorem mdI_in (y m : Int) (h0 : 2000 ≤ y) (h1 : y ≤ 2099) (h2 : 1 ≤ m) (h3 : m ≤ 12) : mdI y m = lenI (lpI y) m := by unfold mdI; rw [if_neg (by omega)]
theorem lenI_bd (l m : Int) (h : l = 0 ∨ l = 1) : 28 ≤ lenI l m ∧ lenI l m ≤ 31 := by unfold lenI; split <;> (try split) <;> omega
theorem cumI_succ (l m : Int) (h2 : 1 ≤ m) (h3 : m ≤ 12) : cumI l (m + 1) = cumI l m + lenI l m := by
  rcases month_cases m h2 h3 with rfl | rfl | rfl | rfl | rfl | rfl | rfl | rfl | rfl | rfl | rfl | rfl <;> simp [cumI, lenI] <;> omega
set_option maxHeartbeats 1000000 in
theorem cumI_bd (l m : Int) (h : l = 0 ∨ l = 1) : 0 ≤ cumI l m ∧ cumI l m ≤ 366 := by
  unfold cumI; repeat' split
  all_goals omega
theorem cumI_one (l : Int) : cumI l 1 = 0 := by simp [cumI]
theorem cumI_13 (l : Int) : cumI l 13 = 365 + l := by simp [cumI]; omega
theorem nyI_succ (y : Int) (h0 : 2000 ≤ y) (h1 : y ≤ 2099) : nyI (y + 1) = nyI y + 365 + lpI y := by
  unfold nyI lpI; split <;> omega
theorem nyI_mono (y z : Int) (h : y ≤ z) : nyI y ≤ nyI z := by unfold nyI; omega
theorem cumI_mono (l m n : Int) (h : l = 0 ∨ l = 1) (h1 : 1 ≤ m) (h2 : m < n) (h3 : n ≤ 13) : cumI l m + lenI l m ≤ cumI l n := by
  rw [← cumI_succ l m h1 (by omega)]
  have key : ∀ k : Nat, m + 1 + k ≤ 13 → cumI l (m + 1) ≤ cumI l (m + 1 + k) := by
    intro k
    induction k with
    | zero => intro _; simp
    | succ k ih =>
      intro hk
      have h4 := ih (by omega)
      have h5 := cumI_succ l (m + 1 + k) (by omega) (by omega)
      have h6 := lenI_bd l (m + 1 + k) h
      have e : m + 1 + ((k + 1 : Nat) : Int) = m + 1 + k + 1 := by omega
      rw [e]; omega
  have := key (n - (m + 1)).toNat (by omega)
  rw [show m + 1 + ((n - (m + 1)).toNat : Int) = n from by omega] at this
  exact this

/-- y, m, d is the date of a day -/
def IsDate (day y m d : Int) : Prop := 2000 ≤ y ∧ y ≤ 2099 ∧ 1 ≤ m ∧ m ≤ 12 ∧ 1 ≤ d ∧ d ≤ lenI (lpI y) m ∧ nyI y + cumI (lpI y) m + d - 1 = day
theorem IsDate.year {day y m d : Int} (h : IsDate day y m d) : nyI y ≤ day ∧ day < nyI (y + 1) := by
  obtain ⟨h1, h2, h3, h4, h5, h6, h7⟩ := h
  have a := cumI_bd (lpI y) m (lpI_01 y)
  have b := cumI_mono (lpI y) m 13 (lpI_01 y) h3 (by omega) (by omega)
  rw [cumI_13] at b
  rw [nyI_succ y h1 h2]; omega
theorem IsDate.unique {day y m d y' m' d' : Int} (h : IsDate day y m d) (k : IsDate day y' m' d') : y = y' ∧ m = m' ∧ d = d' := by
  have a := h.year
  have b := k.year
  have e : y = y' := by
    rcases Int.lt_trichotomy y y' with h1 | h1 | h1
    · have := nyI_mono (y + 1) y' (by omega); omega
    · exact h1
    · have := nyI_mono (y' + 1) y (by omega); omega
  subst e
  obtain ⟨h1, h2, h3, h4, h5, h6, h7⟩ := h
  obtain ⟨k1, k2, k3, k4, k5, k6, k7⟩ := k
  have e : m = m' := by
    rcases Int.lt_trichotomy m m' with g | g | g
    · have := cumI_mono (lpI y) m m' (lpI_01 y) h3 g (by omega); omega
    · exact g
    · have := cumI_mono (lpI y) m' m (lpI_01 y) k3 g (by omega); omega
  subst e
  exact ⟨rfl, rfl, by omega⟩
/-- the next day's date -/
theorem IsDate.next {day y m d z n x : Int} (h : IsDate day y m d) (k : IsDate (day + 1) z n x) :
    (d < lenI (lpI y) m → z = y ∧ n = m ∧ x = d + 1) ∧ (¬ d < lenI (lpI y) m → m < 12 → z = y ∧ n = m + 1 ∧ x = 1) ∧ (¬ d < lenI (lpI y) m → ¬ m < 12 → z = y + 1 ∧ n = 1 ∧ x = 1) := by
  have h' := h
  obtain ⟨h1, h2, h3, h4, h5, h6, h7⟩ := h'
  refine ⟨fun g => ?_, fun g g2 => ?_, fun g g2 => ?_⟩
  · exact IsDate.unique k ⟨h1, h2, h3, h4, by omega, by omega, by omega⟩
  · have c := cumI_succ (lpI y) m h3 h4
    have b := lenI_bd (lpI y) (m + 1) (lpI_01 y)
    exact IsDate.unique k ⟨h1, h2, by omega, by omega, by omega, by omega, by omega⟩
  · have c := cumI_succ (lpI y) m h3 h4
    obtain rfl : m = 12 := by omega
    rw [show (12 : Int) + 1 = 13 from rfl, cumI_13] at c
    have s := nyI_succ y h1 h2
    have ky := k.year
    have k' := k
    obtain ⟨k1, k2, _⟩ := k'
    have hz : y + 1 ≤ 2099 := by
      rcases Int.lt_or_le 2099 (y + 1) with q | q
      · have := nyI_mono (z + 1) (y + 1) (by omega); omega
      · exact q
    have b := lenI_bd (lpI (y + 1)) 1 (lpI_01 (y + 1))
    exact IsDate.unique k ⟨by omega, hz, by omega, by omega, by omega, by omega, by rw [cumI_one]; omega⟩
end Go.Proofs.YtkmpbkojdkoghaaDoor
