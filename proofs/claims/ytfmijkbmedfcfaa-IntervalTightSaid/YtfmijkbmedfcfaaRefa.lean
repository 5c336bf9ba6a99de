/-
  Own contracts over the landed statement's packages: the document's answers of layer 1.
-/
import Derived.Test.YtfmijkbmedfcfaaFixed
import Derived.WalkKit
import Derived.ProofKit
import Derived.OpenShut
import Derived.WalkLawsBesides
import Derived.WalkSpells
import Derived.Lib.Hide
import Derived.Deep.DeepCutAuto
import Derived.Deep.CutBlock
import Derived.Deep.QuietTactic
import Derived.BigQuiet
import Derived.Handy
namespace Go.Proofs.Ytfmijkbmedfcfaa
open Go.ChangeShapes Go.WideShapes Go.ChangeAt Go.RowKit
set_option linter.unusedVariables false
set_option linter.unusedSimpArgs false

/-! a division bit by bit -/
def Inv (c T : Int) (i : Nat) (H L qh ql r : Int) : Prop :=
  ∃ P : Int, P * 340282366920938463463374607431768211456 + (H * 18446744073709551616 + L) = T * 2 ^ i ∧ P = (qh * 18446744073709551616 + ql) * c + r ∧ 0 ≤ r ∧ r < c ∧ 0 ≤ H ∧ H ≤ 18446744073709551615 ∧ 0 ≤ L ∧ L ≤ 18446744073709551615 ∧ 0 ≤ qh ∧ qh ≤ 18446744073709551615 ∧ 0 ≤ ql ∧ ql ≤ 18446744073709551615
theorem pow_mono (i j : Nat) (h : i ≤ j) : (2 : Int) ^ i ≤ 2 ^ j := by
  have := Nat.pow_le_pow_right (n := 2) (by omega) h
  exact_mod_cast this
theorem inv_step (c T : Int) (i : Nat) (hi : i < 128) (H L qh ql r : Int) (hT : 0 ≤ T) (hT' : T < 340282366920938463463374607431768211456) (hc : 0 < c) (h : Inv c T i H L qh ql r) :
    (2 * r + H / 9223372036854775808 < c → Inv c T (i + 1) (H * 2 % 18446744073709551616 + L / 9223372036854775808) (L * 2 % 18446744073709551616) (qh * 2 % 18446744073709551616 + ql / 9223372036854775808) (ql * 2 % 18446744073709551616) (2 * r + H / 9223372036854775808))
    ∧ (c ≤ 2 * r + H / 9223372036854775808 → Inv c T (i + 1) (H * 2 % 18446744073709551616 + L / 9223372036854775808) (L * 2 % 18446744073709551616) (qh * 2 % 18446744073709551616 + ql / 9223372036854775808) (ql * 2 % 18446744073709551616 + 1) (2 * r + H / 9223372036854775808 - c)) := by
  obtain ⟨P, h1, h2, h3, h4, h5, h6, h7, h8, h9, h10, h11, h12⟩ := h
  have hpow : T * 2 ^ (i + 1) = 2 * (T * 2 ^ i) := by rw [Int.pow_succ, ← Int.mul_assoc]; omega
  have hle : (2 : Int) ^ (i + 1) ≤ 340282366920938463463374607431768211456 := by
    exact pow_mono (i + 1) 128 (by omega)
  have hT2 : T * 2 ^ (i + 1) ≤ T * 340282366920938463463374607431768211456 := Int.mul_le_mul_of_nonneg_left hle hT
  have hPT : 2 * P + H / 9223372036854775808 ≤ T := by
    rw [hpow] at hT2; omega
  have hQ : 0 ≤ qh * 18446744073709551616 + ql := by omega
  have hQc : 2 * (qh * 18446744073709551616 + ql) ≤ 2 * ((qh * 18446744073709551616 + ql) * c) := by
    have := Int.mul_le_mul_of_nonneg_left (show 1 ≤ c by omega) hQ
    omega
  have hb : 0 ≤ H / 9223372036854775808 ∧ H / 9223372036854775808 ≤ 1 := by omega
  have hq2 : qh * 2 % 18446744073709551616 = qh * 2 := by omega
  have e1 : (qh * 2 % 18446744073709551616 + ql / 9223372036854775808) * 18446744073709551616 + ql * 2 % 18446744073709551616 = 2 * (qh * 18446744073709551616 + ql) := by omega
  refine ⟨fun hlt => ⟨2 * P + H / 9223372036854775808, by rw [hpow]; omega, ?_, by omega, hlt, by omega, by omega, by omega, by omega, by omega, by omega, by omega, by omega⟩, fun hge => ⟨2 * P + H / 9223372036854775808, by rw [hpow]; omega, ?_, by omega, by omega, by omega, by omega, by omega, by omega, by omega, by omega, by omega, by omega⟩⟩
  · rw [e1, Int.mul_assoc]; omega
  · rw [← Int.add_assoc, e1, Int.add_mul, Int.mul_assoc]; omega
theorem inv_end (c T H L qh ql r : Int) (hT : 0 ≤ T) (hc : 0 < c) (h : Inv c T 128 H L qh ql r) : T / c = qh * 18446744073709551616 + ql ∧ T % c = r := by
  obtain ⟨P, h1, h2, h3, h4, h5, h6, h7, h8, h9, h10, h11, h12⟩ := h
  have e : (2 : Int) ^ 128 = 340282366920938463463374607431768211456 := rfl
  rw [e] at h1
  have hP : P = T := by omega
  subst hP
  have hq : P / c = qh * 18446744073709551616 + ql := by
    rw [h2, Int.add_comm, Int.add_mul_ediv_right _ _ (by omega), Int.ediv_eq_zero_of_lt h3 h4]; omega
  refine ⟨hq, ?_⟩
  rw [Int.emod_def, hq, Int.mul_comm]; omega

theorem or_bit (x y : Int) (hx : 0 ≤ x) (hx' : x ≤ 18446744073709551615) (h : x % 2 = 0) (hy : 0 ≤ y) (hy' : y ≤ 1) : bits .or .u64 x y = x + y :=
  or_join x y 1 (by omega) hx hx' (by simpa using h) hy (by omega)

theorem sg_err (x : Int) (n : Bool) (h : 9223372036854775808 < x ∨ (x = 9223372036854775808 ∧ n = false)) : sgV x n = 0 ∧ sgE x n = 2 := by
  unfold sgV sgE; rw [if_pos h, if_pos h]; exact ⟨rfl, rfl⟩
theorem sg_ok (x : Int) (n : Bool) (h : x ≤ 9223372036854775808) (h' : x < 9223372036854775808 ∨ ¬ n = false) : sgV x n = (if n then -x else x) ∧ sgE x n = 0 := by
  have hh : ¬ (9223372036854775808 < x ∨ (x = 9223372036854775808 ∧ n = false)) := by
    rintro (h1 | ⟨h1, h2⟩)
    · omega
    · rcases h' with h3 | h3
      · omega
      · exact h3 h2
  unfold sgV sgE; rw [if_neg hh, if_neg hh]; exact ⟨rfl, rfl⟩
theorem gr2_false (r D : Int) (n : Bool) (h1 : ¬ D - r < r) (h2 : ¬ r = D - r) : gr 2 r D n = false := by
  unfold gr
  by_cases z : r = 0
  · rw [if_pos z]
  · rw [if_neg z, if_neg (by omega), if_neg (by omega)]
    cases n <;> simp <;> omega

theorem xor_all (x : Int) (h0 : 0 ≤ x) (h1 : x ≤ 18446744073709551615) : bits .xor .u64 IntKind.u64.max x = 18446744073709551615 - x := by
  obtain ⟨n, rfl⟩ := Int.eq_ofNat_of_zero_le h0
  have e : IntKind.u64.max = 18446744073709551615 := by decide
  rw [e]
  show IntKind.u64.wrap ((BitVec.ofInt 64 18446744073709551615 ^^^ BitVec.ofInt 64 (n : Int)).toNat : Int) = _
  have e2 : BitVec.ofInt 64 18446744073709551615 = BitVec.allOnes 64 := by decide
  rw [e2, BitVec.allOnes_xor, BitVec.toNat_not, ofInt_u64 n (by omega), IntKind.wrap_u64]
  omega
theorem neg_walk (x : Int) (h0 : 0 ≤ x) (h1 : x ≤ 9223372036854775808) : wrap64 (IntKind.u64.wrap (bits .xor .u64 IntKind.u64.max x + 1)) = -x := by
  rw [xor_all x h0 (by omega), IntKind.wrap_u64]
  unfold wrap64; omega

end Go.Proofs.Ytfmijkbmedfcfaa
