/-
  Plain numbers of layer 13: the chapter's examples.
-/
import Derived.Test.YtfpgdicacjkfoaaGreatDoorWinm
import Derived.Test.YtfpgdicacjkfoaaGreatDoorTrgf
namespace Go.Proofs.YtfpgdicacjkfoaaGreatDoor
set_option linter.unusedVariables false
set_option linter.unusedSimpArgs false
def lesF (m n : Int) : Int := grtF (lesP m n) 25 0 16200000
theorem les_F (m n : Int) : les m n = lesF m n := (grtF_eq _ 25 _ _ (by decide)).symm
def at2QF (y x : Int) : Int := if iabs x < iabs y then 32400000 - lesF (iabs y) (iabs x) else lesF (iabs x) (iabs y)
theorem at2Q_F (y x : Int) : at2Q y x = at2QF y x := by unfold at2Q at2QF; rw [les_F, les_F]
def at2VF (y x : Int) : Int := if ¬ (smB y ∧ smB x) then 0 else if x = 0 ∧ y = 0 then 0 else if x < 0 ∧ y < 0 then 64800000 + at2QF y x else if x < 0 then 64800000 - at2QF y x else if y < 0 then nrm (-at2QF y x) else at2QF y x
theorem at2V_F (y x : Int) : at2V y x = at2VF y x := by unfold at2V at2VF; rw [at2Q_F]
theorem wx1 : alo 0 60 0 = 0 ∧ acr 0 60 0 = 61440 := by decide +kernel
theorem wx2 : gE 0 100 60 0 = 0 ∧ gG 0 100 60 0 = 81920 := by decide +kernel
theorem wx3 : gD 0 100 60 0 = -13273163 := by unfold gD; rw [if_pos wx2.1, at2V_F]; decide +kernel
theorem wx4 : gE 0 100 0 50 = 0 ∧ gG 0 100 0 50 = 153600 := by decide +kernel
theorem wx5 : gD 0 100 0 50 = 0 := by unfold gD; rw [if_pos wx4.1, at2V_F]; decide +kernel
theorem wx6 : gE 0 60 60 0 = 10 ∧ gG 0 60 60 0 = 0 := by decide +kernel
theorem wx7 : gD 0 60 60 0 = 0 := by unfold gD; rw [if_neg (by rw [wx6.1]; decide)]
theorem wx8 : kE 0 100 0 0 = 0 ∧ kG 0 100 0 0 = 102400 := by decide +kernel
theorem wx9 : kC 0 100 0 0 = 0 := by unfold kC; rw [if_pos wx8.1, at2V_F]; decide +kernel
theorem wxa : giE 0 100 100 0 60 (-10) 10 = 0 ∧ giL 0 100 100 0 60 (-10) 10 = 70 ∧ giH 0 100 100 0 60 (-10) 10 = 110 := by decide +kernel
end Go.Proofs.YtfpgdicacjkfoaaGreatDoor
