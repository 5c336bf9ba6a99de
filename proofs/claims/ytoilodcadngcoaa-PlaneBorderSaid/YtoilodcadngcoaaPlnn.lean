/-
  Plain numbers of layer 10: the projection and its inverse in integers; the origin's own point.
-/
import Derived.Test.YtoilodcadngcoaaLinn
import Derived.Test.YtoilodcadngcoaaSphn
namespace Go.Proofs.Ytoilodcadngcoaa
set_option linter.unusedVariables false
set_option linter.unusedSimpArgs false
theorem rnd_r30 (n : Int) : rnd 2 n 1073741824 = r30 n := by
  unfold rnd r30
  rw [if_neg (by decide), if_neg (by decide), Int.fdiv_eq_ediv_of_nonneg _ (by omega)]
  omega
theorem rnd2_lim (n d m : Int) (hd : 0 < d) (h0 : -(m * d) ≤ n) (h1 : n ≤ m * d) : -m ≤ rnd 2 n d ∧ rnd 2 n d ≤ m := by
  unfold rnd
  rw [if_neg (by decide), if_neg (by decide), Int.fdiv_eq_ediv_of_nonneg _ (by omega)]
  obtain ⟨a, b⟩ := div_bd (2 * n + d) (2 * d) (by omega)
  generalize (2 * n + d) / (2 * d) = q at *
  have e : q * (2 * d) = 2 * (q * d) := by grind
  constructor
  · rcases Int.lt_or_le q (-m) with h | h
    · have := Int.mul_le_mul_of_nonneg_right (show q ≤ -m - 1 by omega) (show 0 ≤ d by omega)
      have e2 : (-m - 1) * d = -(m * d) - d := by grind
      omega
    · exact h
  · rcases Int.lt_or_le m q with h | h
    · have := Int.mul_le_mul_of_nonneg_right (show m + 1 ≤ q by omega) (show 0 ≤ d by omega)
      have e2 : (m + 1) * d = m * d + d := by grind
      omega
    · exact h
theorem mq_fit (a b c m : Int) (hc : 0 < c) (hm : m ≤ 9223372036854775807) (h0 : -(m * c) ≤ a * b) (h1 : a * b ≤ m * c) : mqv 2 a b c = rnd 2 (a * b) c ∧ mqe 2 a b c = 0 := by
  have r := rnd2_lim (a * b) c m hc h0 h1
  have f : fit64 (rnd 2 (a * b) c) = true := by unfold fit64; exact decide_eq_true (by omega)
  have hn : ¬ c = 0 := by omega
  unfold mqv mqe
  rw [f]
  simp [hn]
def pjE (E N U : Int) : Int := if U ≤ 0 then 2 else if pokB (rnd 2 (20626481 * E) U) (rnd 2 (20626481 * N) U) = true then 0 else 2
def pjX (E N U : Int) : Int := if pjE E N U = 0 then rnd 2 (20626481 * E) U else 0
def pjY (E N U : Int) : Int := if pjE E N U = 0 then rnd 2 (20626481 * N) U else 0
theorem pj_ok {E N U : Int} (h : 0 < U) (hp : pokB (rnd 2 (20626481 * E) U) (rnd 2 (20626481 * N) U) = true) : pjE E N U = 0 ∧ pjX E N U = rnd 2 (20626481 * E) U ∧ pjY E N U = rnd 2 (20626481 * N) U := by
  have e : pjE E N U = 0 := by unfold pjE; rw [if_neg (by omega), if_pos hp]
  exact ⟨e, by unfold pjX; rw [if_pos e], by unfold pjY; rw [if_pos e]⟩
theorem pj_no {E N U : Int} (h : U ≤ 0 ∨ pokB (rnd 2 (20626481 * E) U) (rnd 2 (20626481 * N) U) = false) : pjE E N U = 2 ∧ pjX E N U = 0 ∧ pjY E N U = 0 := by
  have e : pjE E N U = 2 := by
    unfold pjE
    rcases h with h | h
    · rw [if_pos h]
    · rw [h]; split <;> rfl
  exact ⟨e, by unfold pjX; rw [e]; rfl, by unfold pjY; rw [e]; rfl⟩
theorem pj_cases (E N U : Int) : (pjE E N U = 0 ∧ pokB (pjX E N U) (pjY E N U) = true) ∨ (pjE E N U = 2 ∧ pjX E N U = 0 ∧ pjY E N U = 0) := by
  by_cases h : U ≤ 0
  · exact Or.inr (pj_no (Or.inl h))
  · cases hp : pokB (rnd 2 (20626481 * E) U) (rnd 2 (20626481 * N) U)
    · exact Or.inr (pj_no (Or.inr hp))
    · obtain ⟨a, b, c⟩ := pj_ok (show 0 < U by omega) hp
      exact Or.inl ⟨a, by rw [b, c]; exact hp⟩
/-! the inverse -/
def frX (la lo X Y : Int) : Int := rnd 2 (20626481 * uX la lo - sinV lo * X - fA la lo * Y) 20626481
def frY (la lo X Y : Int) : Int := rnd 2 (20626481 * uY la lo + cosV lo * X - fB la lo * Y) 20626481
def frZ (la lo Y : Int) : Int := rnd 2 (20626481 * uZ la lo + cosV la * Y) 20626481
theorem mul_u (s X : Int) (s0 : -1073741824 ≤ s) (s1 : s ≤ 1073741824) (X0 : -2000000 ≤ X) (X1 : X ≤ 2000000) : -2147483648000000 ≤ s * X ∧ s * X ≤ 2147483648000000 := by
  have := mul_sb2 s X 1073741824 2000000 s0 s1 X0 X1; omega
theorem mq_one (x : Int) (h0 : -30000000000000000 ≤ x) (h1 : x ≤ 30000000000000000) : mqv 2 x 1 20626481 = rnd 2 x 20626481 ∧ mqe 2 x 1 20626481 = 0 ∧ -1500000000 ≤ rnd 2 x 20626481 ∧ rnd 2 x 20626481 ≤ 1500000000 := by
  have a := mq_fit x 1 20626481 1500000000 (by omega) (by omega) (by omega) (by omega)
  have b := rnd2_lim x 20626481 1500000000 (by omega) (by omega) (by omega)
  rw [Int.mul_one] at a
  exact ⟨a.1, a.2, b⟩
theorem mq_scale (x : Int) (h0 : -1152921504606846976 ≤ x) (h1 : x ≤ 1152921504606846976) : mqv 2 x 1 1073741824 = r30 x ∧ mqe 2 x 1 1073741824 = 0 := by
  have a := mq_fit x 1 1073741824 1073741824 (by omega) (by omega) (by omega) (by omega)
  rw [Int.mul_one, rnd_r30] at a
  exact a
/-! the origin's own components -/
theorem r30_err (x : Int) : -536870912 ≤ 1073741824 * r30 x - x ∧ 1073741824 * r30 x - x ≤ 536870912 := by unfold r30; omega
theorem lim_mul (x e m : Int) (x0 : -1073741824 ≤ x) (x1 : x ≤ 1073741824) (e0 : -m ≤ e) (e1 : e ≤ m) : -(1073741824 * m) ≤ x * e ∧ x * e ≤ 1073741824 * m := mul_sb2 x e 1073741824 m x0 x1 e0 e1
theorem own_E (la lo : Int) : -1 ≤ lcE la lo (uX la lo) (uY la lo) (uZ la lo) ∧ lcE la lo (uX la lo) (uY la lo) (uZ la lo) ≤ 1 := by
  have hC := cosV_bd lo; have hS := sinV_bd lo
  have e1 := r30_err (cosV la * cosV lo); have e2 := r30_err (cosV la * sinV lo)
  obtain ⟨p, hp⟩ : ∃ p, 1073741824 * r30 (cosV la * cosV lo) - cosV la * cosV lo = p := ⟨_, rfl⟩
  obtain ⟨q, hq⟩ : ∃ q, 1073741824 * r30 (cosV la * sinV lo) - cosV la * sinV lo = q := ⟨_, rfl⟩
  rw [hp] at e1; rw [hq] at e2
  have a := lim_mul (cosV lo) q 536870912 hC.1 hC.2 e2.1 e2.2
  have b := lim_mul (sinV lo) p 536870912 hS.1 hS.2 e1.1 e1.2
  have h : 1073741824 * (cosV lo * uY la lo - sinV lo * uX la lo) = cosV lo * q - sinV lo * p := by
    rw [← hp, ← hq]; unfold uX uY; grind
  unfold lcE
  unfold r30
  omega
theorem own_N (la lo : Int) : -16 ≤ lcN la lo (uX la lo) (uY la lo) (uZ la lo) ∧ lcN la lo (uX la lo) (uY la lo) (uZ la lo) ≤ 16 := by
  have hC := cosV_bd lo; have hS := sinV_bd lo; have hc := cosV_bd la; have hs := sinV_bd la
  have n := sc_near lo
  have e1 := r30_err (cosV la * cosV lo); have e2 := r30_err (cosV la * sinV lo)
  have e3 := r30_err (sinV la * cosV lo); have e4 := r30_err (sinV la * sinV lo)
  unfold lcN fA fB uX uY uZ
  generalize cosV lo = C at *
  generalize sinV lo = S at *
  generalize cosV la = c at *
  generalize sinV la = s at *
  obtain ⟨p, hp⟩ : ∃ p, 1073741824 * r30 (c * C) - c * C = p := ⟨_, rfl⟩
  obtain ⟨q, hq⟩ : ∃ q, 1073741824 * r30 (c * S) - c * S = q := ⟨_, rfl⟩
  obtain ⟨u, hu⟩ : ∃ q, 1073741824 * r30 (s * C) - s * C = q := ⟨_, rfl⟩
  obtain ⟨v, hv⟩ : ∃ q, 1073741824 * r30 (s * S) - s * S = q := ⟨_, rfl⟩
  rw [hp] at e1; rw [hq] at e2; rw [hu] at e3; rw [hv] at e4
  generalize r30 (c * C) = A at *
  generalize r30 (c * S) = B at *
  generalize r30 (s * C) = F at *
  generalize r30 (s * S) = G at *
  obtain ⟨T, hT⟩ : ∃ T, S * S + C * C - 1152921504606846976 = T := ⟨_, rfl⟩
  rw [hT] at n
  have m1 := lim_mul C p 536870912 hC.1 hC.2 e1.1 e1.2
  have m2 := lim_mul S q 536870912 hS.1 hS.2 e2.1 e2.2
  have m3 := lim_mul C u 536870912 hC.1 hC.2 e3.1 e3.2
  have m4 := lim_mul S v 536870912 hS.1 hS.2 e4.1 e4.2
  have k1 := lim_mul s (C * p + S * q) 1152921504606846976 hs.1 hs.2 (by omega) (by omega)
  have k2 := lim_mul c (C * u + S * v) 1152921504606846976 hc.1 hc.2 (by omega) (by omega)
  have k3 := lim_mul s T 5368709120 hs.1 hs.2 n.1 n.2
  have k4 := lim_mul c (s * T) 5764607523034234880 hc.1 hc.2 (by omega) (by omega)
  have t1 := mul_sb2 u p 536870912 536870912 e3.1 e3.2 e1.1 e1.2
  have t2 := mul_sb2 v q 536870912 536870912 e4.1 e4.2 e2.1 e2.2
  have h : 1152921504606846976 * (c * s - F * A - G * B) = -(c * (s * T)) - s * (C * p + S * q) - c * (C * u + S * v) - u * p - v * q := by
    rw [← hT, ← hp, ← hq, ← hu, ← hv]; grind
  unfold r30
  omega
theorem own_U (la lo : Int) : 1000000000 ≤ lcU la lo (uX la lo) (uY la lo) (uZ la lo) := by
  have hC := cosV_bd lo; have hS := sinV_bd lo; have hc := cosV_bd la; have hs := sinV_bd la
  have n := sc_near lo; have n2 := sc_near la
  have e1 := r30_err (cosV la * cosV lo); have e2 := r30_err (cosV la * sinV lo)
  unfold lcU dot3 uX uY uZ
  generalize cosV lo = C at *
  generalize sinV lo = S at *
  generalize cosV la = c at *
  generalize sinV la = s at *
  obtain ⟨p, hp⟩ : ∃ p, 1073741824 * r30 (c * C) - c * C = p := ⟨_, rfl⟩
  obtain ⟨q, hq⟩ : ∃ q, 1073741824 * r30 (c * S) - c * S = q := ⟨_, rfl⟩
  rw [hp] at e1; rw [hq] at e2
  generalize r30 (c * C) = A at *
  generalize r30 (c * S) = B at *
  obtain ⟨T, hT⟩ : ∃ T, S * S + C * C - 1152921504606846976 = T := ⟨_, rfl⟩
  rw [hT] at n
  have m1 := lim_mul C p 536870912 hC.1 hC.2 e1.1 e1.2
  have m2 := lim_mul S q 536870912 hS.1 hS.2 e2.1 e2.2
  have k1 := lim_mul c (C * p + S * q) 1152921504606846976 hc.1 hc.2 (by omega) (by omega)
  have cc := mul_sb2 c c 1073741824 1073741824 hc.1 hc.2 hc.1 hc.2
  have k3 := mul_sb2 (c * c) T 1152921504606846976 5368709120 (by omega) (by omega) n.1 n.2
  have pp := sq_nneg p; have qq := sq_nneg q
  have h : 1152921504606846976 * (A * A + B * B + s * s) = 1152921504606846976 * (c * c + s * s) + c * c * T + 2 * (c * (C * p + S * q)) + p * p + q * q := by
    rw [← hT, ← hp, ← hq]; grind
  unfold r30
  omega
theorem own_pt (la lo : Int) : pjE (lcE la lo (uX la lo) (uY la lo) (uZ la lo)) (lcN la lo (uX la lo) (uY la lo) (uZ la lo)) (lcU la lo (uX la lo) (uY la lo) (uZ la lo)) = 0 ∧ pjX (lcE la lo (uX la lo) (uY la lo) (uZ la lo)) (lcN la lo (uX la lo) (uY la lo) (uZ la lo)) (lcU la lo (uX la lo) (uY la lo) (uZ la lo)) = 0 ∧ pjY (lcE la lo (uX la lo) (uY la lo) (uZ la lo)) (lcN la lo (uX la lo) (uY la lo) (uZ la lo)) (lcU la lo (uX la lo) (uY la lo) (uZ la lo)) = 0 := by
  have a := own_E la lo; have b := own_N la lo; have c := own_U la lo
  generalize lcE la lo (uX la lo) (uY la lo) (uZ la lo) = E at *
  generalize lcN la lo (uX la lo) (uY la lo) (uZ la lo) = N at *
  generalize lcU la lo (uX la lo) (uY la lo) (uZ la lo) = U at *
  have z : ∀ n : Int, -1000000000 < 2 * n → 2 * n < 1000000000 → rnd 2 n U = 0 := by
    intro n h0 h1
    unfold rnd
    rw [if_neg (by decide), if_neg (by decide)]
    exact div_of _ _ _ (by omega) (by omega) (by omega)
  obtain ⟨x, y, w⟩ := pj_ok (E := E) (N := N) (U := U) (by omega) (by rw [z _ (by omega) (by omega), z _ (by omega) (by omega)]; decide)
  exact ⟨x, y.trans (z _ (by omega) (by omega)), w.trans (z _ (by omega) (by omega))⟩
end Go.Proofs.Ytoilodcadngcoaa
