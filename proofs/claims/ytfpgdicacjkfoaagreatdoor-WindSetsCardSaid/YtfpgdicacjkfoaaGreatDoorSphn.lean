/-
  Plain numbers of layer 9.
-/
import Derived.Test.YtfpgdicacjkfoaaGreatDoorTrgm
namespace Go.Proofs.YtfpgdicacjkfoaaGreatDoor
set_option linter.unusedVariables false
set_option linter.unusedSimpArgs false

def r30 (x : Int) : Int := (x + 536870912) / 1073741824
def uX (la lo : Int) : Int := r30 (cosV la * cosV lo)
def uY (la lo : Int) : Int := r30 (cosV la * sinV lo)
def uZ (la lo : Int) : Int := sinV la
theorem mul_sb' (x y m n : Int) (h0 : -m ≤ x) (h1 : x ≤ m) (h2 : -n ≤ y) (h3 : y ≤ n) : -(m * n) ≤ x * y ∧ x * y ≤ m * n := by
  rcases Int.le_total 0 x with hx | hx <;> rcases Int.le_total 0 y with hy | hy
  · have a := Int.mul_nonneg hx hy
    have b := Int.mul_le_mul h1 h3 hy (by omega : 0 ≤ m)
    omega
  · have a := Int.mul_nonneg hx (by omega : 0 ≤ -y)
    have b := Int.mul_le_mul h1 (by omega : -y ≤ n) (by omega) (by omega : 0 ≤ m)
    rw [Int.mul_neg] at a b
    omega
  · have a := Int.mul_nonneg (by omega : 0 ≤ -x) hy
    have b := Int.mul_le_mul (by omega : -x ≤ m) h3 hy (by omega : 0 ≤ m)
    rw [Int.neg_mul] at a b
    omega
  · have a := Int.mul_nonneg (by omega : 0 ≤ -x) (by omega : 0 ≤ -y)
    have b := Int.mul_le_mul (by omega : -x ≤ m) (by omega : -y ≤ n) (by omega) (by omega : 0 ≤ m)
    rw [Int.neg_mul_neg] at a b
    omega
theorem mul_sb (x y : Int) (h0 : -1073741824 ≤ x) (h1 : x ≤ 1073741824) (h2 : -1073741824 ≤ y) (h3 : y ≤ 1073741824) : -1152921504606846976 ≤ x * y ∧ x * y ≤ 1152921504606846976 :=
  mul_sb' x y 1073741824 1073741824 h0 h1 h2 h3
theorem uX_bd (la lo : Int) : -1073741824 ≤ uX la lo ∧ uX la lo ≤ 1073741824 := by
  have a := cosV_bd la
  have b := cosV_bd lo
  have := mul_sb _ _ a.1 a.2 b.1 b.2
  unfold uX r30; omega
theorem uY_bd (la lo : Int) : -1073741824 ≤ uY la lo ∧ uY la lo ≤ 1073741824 := by
  have a := cosV_bd la
  have b := sinV_bd lo
  have := mul_sb _ _ a.1 a.2 b.1 b.2
  unfold uY r30; omega
theorem uZ_bd (la lo : Int) : -1073741824 ≤ uZ la lo ∧ uZ la lo ≤ 1073741824 := sinV_bd la
def dirV (y x : Int) : Int := dif 0 (at2V y x)
theorem at2V_bd (y x : Int) : 0 ≤ at2V y x ∧ at2V y x ≤ 129600000 := by
  obtain ⟨q0, q1⟩ := at2Q_bd y x
  obtain ⟨n0, n1⟩ := nrm_bd (-at2Q y x)
  unfold at2V
  (repeat' split) <;> omega
theorem dif_bd' (f t : Int) : -64800000 ≤ dif f t ∧ dif f t ≤ 64800000 := by unfold dif swp nrm; split <;> omega
theorem dirV_bd (y x : Int) : -64800000 ≤ dirV y x ∧ dirV y x ≤ 64800000 := dif_bd' _ _
def fA (la lo : Int) : Int := r30 (sinV la * cosV lo)
def fB (la lo : Int) : Int := r30 (sinV la * sinV lo)
theorem r30_bd (x : Int) (h0 : -1152921504606846976 ≤ x) (h1 : x ≤ 1152921504606846976) : -1073741824 ≤ r30 x ∧ r30 x ≤ 1073741824 := by unfold r30; omega
theorem fA_bd (la lo : Int) : -1073741824 ≤ fA la lo ∧ fA la lo ≤ 1073741824 := by
  have a := sinV_bd la
  have b := cosV_bd lo
  have := mul_sb _ _ a.1 a.2 b.1 b.2
  exact r30_bd _ this.1 this.2
theorem fB_bd (la lo : Int) : -1073741824 ≤ fB la lo ∧ fB la lo ≤ 1073741824 := by
  have a := sinV_bd la
  have b := sinV_bd lo
  have := mul_sb _ _ a.1 a.2 b.1 b.2
  exact r30_bd _ this.1 this.2
def dot3 (a b c x y z : Int) : Int := a * x + b * y + c * z
def lcE (la lo x y z : Int) : Int := r30 (cosV lo * y - sinV lo * x)
def lcN (la lo x y z : Int) : Int := r30 (cosV la * z - fA la lo * x - fB la lo * y)
def lcU (la lo x y z : Int) : Int := r30 (dot3 (uX la lo) (uY la lo) (uZ la lo) x y z)
end Go.Proofs.YtfpgdicacjkfoaaGreatDoor
