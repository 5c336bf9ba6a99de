/-
  Plain numbers of layer 9: the chapter's examples.
-/
import Derived.Test.YtjnodchmamlcpaaSphf
import Derived.Test.YtjnodchmamlcpaaSphe
namespace Go.Proofs.Ytjnodchmamlcpaa
set_option linter.unusedVariables false
set_option linter.unusedSimpArgs false
def lesF (m n : Int) : Int := grtF (lesP m n) 25 0 16200000
theorem les_F (m n : Int) : les m n = lesF m n := (grtF_eq _ 25 _ _ (by decide)).symm
def at2QF (y x : Int) : Int := if iabs x < iabs y then 32400000 - lesF (iabs y) (iabs x) else lesF (iabs x) (iabs y)
theorem at2Q_F (y x : Int) : at2Q y x = at2QF y x := by unfold at2Q at2QF; rw [les_F, les_F]
def at2VF (y x : Int) : Int := if ¬ (smB y ∧ smB x) then 0 else if x = 0 ∧ y = 0 then 0 else if x < 0 ∧ y < 0 then 64800000 + at2QF y x else if x < 0 then 64800000 - at2QF y x else if y < 0 then nrm (-at2QF y x) else at2QF y x
theorem at2V_F (y x : Int) : at2V y x = at2VF y x := by unfold at2V at2VF; rw [at2Q_F]
theorem av1 : uX 32400000 0 = 0 ∧ uY 32400000 0 = 0 ∧ uZ 32400000 0 = 1073741824 := by decide +kernel
theorem av2 : dstV 0 0 0 32400000 = 32400000 := by unfold dstV; rw [at2V_F]; decide +kernel
theorem av3 : dstV 0 0 0 10800000 = 10800000 := by unfold dstV; rw [at2V_F]; decide +kernel
theorem av4 : dstV 0 0 0 599 = 599 := by unfold dstV; rw [at2V_F]; decide +kernel
theorem av5 : at2V (lcE 0 0 (uX 0 10800000) (uY 0 10800000) (uZ 0 10800000)) (lcN 0 0 (uX 0 10800000) (uY 0 10800000) (uZ 0 10800000)) = 32400000 := by rw [at2V_F]; decide +kernel
theorem av6 : psLa (al0 0 0 0 32400000) (al1 0 0 0 32400000) (al2 0 0 0 32400000) = 32400000 := by unfold psLa dirV; rw [at2V_F]; decide +kernel
theorem av7 : psLo (al0 0 0 0 32400000) (al1 0 0 0 32400000) (al2 0 0 0 32400000) = 0 := by unfold psLo dirV; rw [at2V_F]; decide +kernel
theorem av8 : psE (al0 0 0 0 32400000) (al1 0 0 0 32400000) (al2 0 0 0 32400000) = 0 := by decide +kernel
theorem av9 : psLa (al0 0 0 32400000 10800000) (al1 0 0 32400000 10800000) (al2 0 0 32400000 10800000) = 0 := by unfold psLa dirV; rw [at2V_F]; decide +kernel
theorem av10 : psLo (al0 0 0 32400000 10800000) (al1 0 0 32400000 10800000) (al2 0 0 32400000 10800000) = 10800000 := by unfold psLo dirV; rw [at2V_F]; decide +kernel
theorem av11 : psE (al0 0 0 32400000 10800000) (al1 0 0 32400000 10800000) (al2 0 0 32400000 10800000) = 0 := by decide +kernel
end Go.Proofs.Ytjnodchmamlcpaa
