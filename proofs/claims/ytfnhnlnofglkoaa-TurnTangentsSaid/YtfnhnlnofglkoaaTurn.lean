/-
  Plain numbers of layer 12: arcs and their lengths, radii of turns.
-/
import Derived.Test.YtfnhnlnofglkoaaLinn
namespace Go.Proofs.Ytfnhnlnofglkoaa
set_option linter.unusedVariables false
set_option linter.unusedSimpArgs false
def vrB (r : Int) : Bool := decide (1 ≤ r ∧ r ≤ 8000000)
def arB (cX cY r fr sw : Int) : Bool := pokB cX cY && decide (1 ≤ r ∧ r ≤ 8000000 ∧ 0 ≤ fr ∧ fr < 129600000 ∧ -129600000 ≤ sw ∧ sw ≤ 129600000)
theorem ar_yes {cX cY r fr sw : Int} (h : arB cX cY r fr sw = true) : pokB cX cY = true ∧ 1 ≤ r ∧ r ≤ 8000000 ∧ 0 ≤ fr ∧ fr < 129600000 ∧ -129600000 ≤ sw ∧ sw ≤ 129600000 := by
  unfold arB at h
  rw [Bool.and_eq_true] at h
  exact ⟨h.1, of_decide_eq_true h.2⟩
theorem ar_no {cX cY r fr sw : Int} (h : arB cX cY r fr sw = false) : pokB cX cY = false ∨ (pokB cX cY = true ∧ (r < 1 ∨ 8000000 < r ∨ fr < 0 ∨ 129600000 ≤ fr ∨ sw < -129600000 ∨ 129600000 < sw)) := by
  unfold arB at h
  cases hp : pokB cX cY
  · exact Or.inl rfl
  · rw [hp, Bool.true_and] at h
    have := of_decide_eq_false h
    exact Or.inr ⟨rfl, by omega⟩
def sg1 (sw : Int) : Int := if sw < 0 then -1 else 1
def lnV (r sw : Int) : Int := rnd 2 (r * iabs sw) 20626481
theorem iabs_lim (x m : Int) (h0 : -m ≤ x) (h1 : x ≤ m) : 0 ≤ iabs x ∧ iabs x ≤ m := by unfold iabs; split <;> omega
theorem sat_ab (x : Int) (h0 : -4611686018427387904 ≤ x) (h1 : x ≤ 4611686018427387904) : sat (x.natAbs : Int) = iabs x := by unfold sat iabs; (repeat' split) <;> omega
theorem rnd2_nn (n d m : Int) (hd : 0 < d) (h0 : 0 ≤ n) (h1 : n ≤ m * d) : 0 ≤ rnd 2 n d ∧ rnd 2 n d ≤ m := by
  unfold rnd
  rw [if_neg (by decide), if_neg (by decide), Int.fdiv_eq_ediv_of_nonneg _ (by omega)]
  obtain ⟨a, b⟩ := div_bd (2 * n + d) (2 * d) (by omega)
  have c : 0 ≤ (2 * n + d) / (2 * d) := Int.ediv_nonneg (by omega) (by omega)
  generalize (2 * n + d) / (2 * d) = q at *
  have e : q * (2 * d) = 2 * (q * d) := by grind
  refine ⟨c, ?_⟩
  rcases Int.lt_or_le m q with h | h
  · have := Int.mul_le_mul_of_nonneg_right (show m + 1 ≤ q by omega) (show 0 ≤ d by omega)
    have e2 : (m + 1) * d = m * d + d := by grind
    omega
  · exact h
theorem mq2_fit (a b c m : Int) (hc : 0 < c) (hm : m ≤ 9223372036854775807) (h0 : 0 ≤ a * b) (h1 : a * b ≤ m * c) : mqv 2 a b c = rnd 2 (a * b) c ∧ mqe 2 a b c = 0 ∧ 0 ≤ rnd 2 (a * b) c ∧ rnd 2 (a * b) c ≤ m := by
  have r := rnd2_nn (a * b) c m hc h0 h1
  have f : fit64 (rnd 2 (a * b) c) = true := by unfold fit64; exact decide_eq_true (by omega)
  have hn : ¬ c = 0 := by omega
  unfold mqv mqe
  rw [f]
  simp [hn]
  exact r
theorem ln_fit (r sw : Int) (r0 : 1 ≤ r) (r1 : r ≤ 8000000) (s0 : -129600000 ≤ sw) (s1 : sw ≤ 129600000) :
    0 ≤ r * iabs sw ∧ r * iabs sw ≤ 1036800000000000 ∧ mqv 2 r (iabs sw) 20626481 = lnV r sw ∧ mqv 2 (r * iabs sw) 1 20626481 = lnV r sw ∧ 0 ≤ lnV r sw ∧ lnV r sw ≤ 50300000 := by
  have a := iabs_lim sw 129600000 s0 s1
  have p0 := Int.mul_nonneg (show 0 ≤ r by omega) a.1
  have p1 := Int.mul_le_mul r1 a.2 a.1 (show (0 : Int) ≤ 8000000 by omega)
  have e1 := mq2_fit r (iabs sw) 20626481 50300000 (by omega) (by omega) (by omega) (by omega)
  have e2 := mq2_fit (r * iabs sw) 1 20626481 50300000 (by omega) (by omega) (by omega) (by omega)
  rw [Int.mul_one] at e2
  unfold lnV
  exact ⟨p0, p1, e1.1, e2.1, e1.2.2.1, e1.2.2.2⟩
/-! where a length along an arc lies -/
def atW (al r sw : Int) : Int := if 0 < lnV r sw then rnd 2 (al * iabs sw) (lnV r sw) else 0
def atD (al r fr sw : Int) : Int := trn fr (sg1 sw * atW al r sw)
theorem atW_fit (al r sw : Int) (s0 : -129600000 ≤ sw) (s1 : sw ≤ 129600000) (h0 : 0 ≤ al) (h1 : al ≤ lnV r sw) (h : 0 < lnV r sw) :
    mqv 2 al (iabs sw) (lnV r sw) = atW al r sw ∧ 0 ≤ atW al r sw ∧ atW al r sw ≤ 129600000 := by
  have a := iabs_lim sw 129600000 s0 s1
  have p0 := Int.mul_nonneg h0 a.1
  have p1 := Int.mul_le_mul h1 a.2 a.1 (show 0 ≤ lnV r sw by omega)
  have e := mq2_fit al (iabs sw) (lnV r sw) 129600000 h (by omega) p0 (by rw [Int.mul_comm 129600000]; exact p1)
  unfold atW
  rw [if_pos h]
  exact ⟨e.1, e.2.2⟩
theorem atW_lim (al r sw : Int) (s0 : -129600000 ≤ sw) (s1 : sw ≤ 129600000) (h0 : 0 ≤ al) (h1 : al ≤ lnV r sw) : 0 ≤ atW al r sw ∧ atW al r sw ≤ 129600000 := by
  by_cases h : 0 < lnV r sw
  · exact (atW_fit al r sw s0 s1 h0 h1 h).2
  · unfold atW; rw [if_neg h]; omega
/-! beside an arc -/
def swO (fr c sw : Int) : Int := if sw < 0 then nrm (nrm fr - nrm c) else nrm (nrm c - nrm fr)
def alV (w r sw : Int) : Int := if w ≤ iabs sw ∧ iabs sw ≠ 0 then rnd 2 (w * lnV r sw) (iabs sw) else if w - iabs sw ≤ 129600000 - w then lnV r sw else 0
theorem alV_fit (w r sw : Int) (w0 : 0 ≤ w) (hw : w ≤ iabs sw) (h : iabs sw ≠ 0) (l0 : 0 ≤ lnV r sw) (l1 : lnV r sw ≤ 50300000) :
    mqv 2 w (lnV r sw) (iabs sw) = alV w r sw := by
  have a : 0 ≤ iabs sw := by unfold iabs; split <;> omega
  have p0 := Int.mul_nonneg w0 l0
  have p1 := Int.mul_le_mul hw l1 l0 a
  have e := mq2_fit w (lnV r sw) (iabs sw) 50300000 (by omega) (by omega) p0 (by rw [Int.mul_comm 50300000]; exact p1)
  unfold alV
  rw [if_pos ⟨hw, h⟩]
  exact e.1
/-! radii -/
theorem bank_sc (b : Int) (b0 : 1 ≤ b) (b1 : b ≤ 3000) : 187403 ≤ sinV (b * 3600) ∧ sinV (b * 3600) ≤ 536870912 ∧ 929887696 ≤ cosV (b * 3600) ∧ cosV (b * 3600) ≤ 1073741824 := by
  have e1 : sinV (b * 3600) = qsn (b * 3600) := sinV_q _ (by omega) (by omega)
  have e2 : cosV (b * 3600) = qsn (32400000 - b * 3600) := cosV_q _ (by omega) (by omega)
  have k1 : 187403 ≤ qsn 3600 := by decide +kernel
  have k2 : qsn 10800000 ≤ 536870912 := by decide +kernel
  have k3 : 929887696 ≤ qsn 21600000 := by decide +kernel
  have m1 := qsn_le 3600 (b * 3600) (by omega) (by omega) (by omega)
  have m2 := qsn_le (b * 3600) 10800000 (by omega) (by omega) (by omega)
  have m3 := qsn_le 21600000 (32400000 - b * 3600) (by omega) (by omega) (by omega)
  have bd := cosV_bd (b * 3600)
  rw [e2] at bd
  rw [e1, e2]
  omega
def rdV (v b : Int) : Int := mqv 1 (v * v * 87431) (cosV (b * 3600)) (1000000 * sinV (b * 3600))
theorem rd_aux (a c d n : Int) (hn : a * c = n) (hd : ¬ d = 0) (f : fit64 (rnd 1 n d) = true) : mqe 1 a c d = 0 ∧ mqv 1 a c d = rnd 1 n d := by
  unfold mqe mqv
  rw [hn, f]
  simp [hd]
theorem rd_fit (v b : Int) (v0 : 1 ≤ v) (v1 : v ≤ 1000) (b0 : 1 ≤ b) (b1 : b ≤ 3000) : mqe 1 (v * v * 87431) (cosV (b * 3600)) (1000000 * sinV (b * 3600)) = 0 ∧ 0 ≤ rdV v b ∧ rdV v b ≤ 600000000 := by
  obtain ⟨s0, s1, c0, c1⟩ := bank_sc b b0 b1
  have vv := Int.mul_le_mul v1 v1 (by omega) (show (0 : Int) ≤ 1000 by omega)
  have vn := Int.mul_nonneg (show 0 ≤ v by omega) (show 0 ≤ v by omega)
  unfold rdV
  generalize sinV (b * 3600) = s at *
  generalize cosV (b * 3600) = c at *
  have p1 := Int.mul_le_mul (show v * v * 87431 ≤ 87431000000 by omega) c1 (by omega) (show (0 : Int) ≤ 87431000000 by omega)
  have p0 := Int.mul_nonneg (show 0 ≤ v * v * 87431 by omega) (show 0 ≤ c by omega)
  obtain ⟨n, hnn⟩ : ∃ n, v * v * 87431 * c = n := ⟨_, rfl⟩
  rw [hnn] at p0 p1
  have hd : 0 < 1000000 * s := by omega
  have r : 0 ≤ rnd 1 n (1000000 * s) ∧ rnd 1 n (1000000 * s) ≤ 600000000 := by
    unfold rnd
    rw [if_neg (by decide), if_pos rfl, Int.fdiv_eq_ediv_of_nonneg _ (by omega)]
    obtain ⟨a, b⟩ := div_bd (-n) (1000000 * s) hd
    generalize -n / (1000000 * s) = q at *
    constructor
    · rcases Int.lt_or_le 0 q with h | h
      · have := Int.mul_le_mul_of_nonneg_right (show 1 ≤ q by omega) (show 0 ≤ 1000000 * s by omega)
        omega
      · omega
    · rcases Int.lt_or_le q (-600000000) with h | h
      · have := Int.mul_le_mul_of_nonneg_right (show q ≤ -600000001 by omega) (show 0 ≤ 1000000 * s by omega)
        omega
      · omega
  have f : fit64 (rnd 1 n (1000000 * s)) = true := by unfold fit64; exact decide_eq_true (by omega)
  have k := rd_aux (v * v * 87431) c (1000000 * s) n hnn (by omega) f
  rw [k.1, k.2]
  exact ⟨rfl, r⟩
end Go.Proofs.Ytfnhnlnofglkoaa
