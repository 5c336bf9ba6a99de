/-
  Plain numbers of layer 2: what its laws say of quotients and products.
-/
import Derived.Test.YtinpmooihjdbgaaWidn
namespace Go.Proofs.Ytinpmooihjdbgaa
set_option linter.unusedVariables false
set_option linter.unusedSimpArgs false
theorem wq_rnd (way u v : Int) (hw : way = 0 ∨ way = 1 ∨ way = 2) (hv : v ≠ 0) : wq way u v = rnd way u v := by
  have hd : 0 < wmag v := by unfold wmag; split <;> omega
  have e := Int.emod_add_mul_ediv (wmag u) (wmag v)
  have r0 := Int.emod_nonneg (wmag u) (show wmag v ≠ 0 by omega)
  have r1 := Int.emod_lt_of_pos (wmag u) hd
  rw [Int.mul_comm] at e
  have hp := rnd_pos way (wmag u / wmag v) (wmag u % wmag v) (wmag v) hw hd r0 r1
  have hn := rnd_neg way (wmag u / wmag v) (wmag u % wmag v) (wmag v) hw hd r0 r1
  have e' : wmag u / wmag v * wmag v + wmag u % wmag v = wmag u := by omega
  rw [e'] at hp hn
  unfold wq wqm sgd wqn
  by_cases hu : u < 0 <;> by_cases hv' : v < 0
  · have a : wmag u = -u := by unfold wmag; rw [if_pos hu]
    have b : wmag v = -v := by unfold wmag; rw [if_pos hv']
    have n : (decide (u < 0) != decide (v < 0)) = false := by simp [hu, hv']
    rw [n]
    simp only [Bool.false_eq_true, if_false, if_true]
    rw [a, b] at hp ⊢
    rw [rnd_flip] at hp
    exact hp.symm
  · have a : wmag u = -u := by unfold wmag; rw [if_pos hu]
    have b : wmag v = v := by unfold wmag; rw [if_neg hv']
    have n : (decide (u < 0) != decide (v < 0)) = true := by simp [hu, hv']
    rw [n]
    simp only [Bool.false_eq_true, if_false, if_true]
    rw [a, b] at hn ⊢
    rw [Int.neg_neg] at hn
    exact hn.symm
  · have a : wmag u = u := by unfold wmag; rw [if_neg hu]
    have b : wmag v = -v := by unfold wmag; rw [if_pos hv']
    have n : (decide (u < 0) != decide (v < 0)) = true := by simp [hu, hv']
    rw [n]
    simp only [Bool.false_eq_true, if_false, if_true]
    rw [a, b] at hn ⊢
    rw [rnd_flip] at hn
    exact hn.symm
  · have a : wmag u = u := by unfold wmag; rw [if_neg hu]
    have b : wmag v = v := by unfold wmag; rw [if_neg hv']
    have n : (decide (u < 0) != decide (v < 0)) = false := by simp [hu, hv']
    rw [n]
    simp only [Bool.false_eq_true, if_false, if_true]
    rw [a, b] at hp ⊢
    
    exact hp.symm
theorem rnd0_bd (u v : Int) (hv : 0 < v) : rnd 0 u v * v ≤ u ∧ u < rnd 0 u v * v + v := by
  have e : rnd 0 u v = u / v := by unfold rnd; rw [if_pos rfl, Int.fdiv_eq_ediv_of_nonneg _ (by omega)]
  rw [e]; exact div_bd u v hv
end Go.Proofs.Ytinpmooihjdbgaa
