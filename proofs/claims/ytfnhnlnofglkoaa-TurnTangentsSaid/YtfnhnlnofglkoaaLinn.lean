/-
  Plain numbers of layer 11: sides, distances, offsets, feet, meeting points and rays, in integers.
-/
import Derived.Test.YtfnhnlnofglkoaaTrgp
import Derived.Test.YtfnhnlnofglkoaaWidn
namespace Go.Proofs.Ytfnhnlnofglkoaa
set_option linter.unusedVariables false
set_option linter.unusedSimpArgs false

def pokB (x y : Int) : Bool := decide (-2000000 ≤ x ∧ x ≤ 2000000 ∧ -2000000 ≤ y ∧ y ≤ 2000000)
def crs (u v x y : Int) : Int := u * y - v * x
def dtp (u v x y : Int) : Int := u * x + v * y
def sgn (x : Int) : Int := if x < 0 then -1 else if 0 < x then 1 else 0
theorem pok_yes {x y : Int} (h : pokB x y = true) : -2000000 ≤ x ∧ x ≤ 2000000 ∧ -2000000 ≤ y ∧ y ≤ 2000000 := by unfold pokB at h; exact of_decide_eq_true h
theorem pok_no {x y : Int} (h : pokB x y = false) : x < -2000000 ∨ 2000000 < x ∨ y < -2000000 ∨ 2000000 < y := by
  unfold pokB at h; have := of_decide_eq_false h; omega
theorem clamp_sgn (x : Int) : clampI x (-1) 1 = sgn x := by unfold clampI sgn; (repeat' split) <;> omega
theorem sgn_bd (x : Int) : -1 ≤ sgn x ∧ sgn x ≤ 1 := by unfold sgn; (repeat' split) <;> omega
theorem sgn_neg (x : Int) : sgn (-x) = -sgn x := by unfold sgn; (repeat' split) <;> omega
theorem mul_lim (x y m n : Int) (h0 : -m ≤ x) (h1 : x ≤ m) (h2 : -n ≤ y) (h3 : y ≤ n) : -(m * n) ≤ x * y ∧ x * y ≤ m * n := mul_sb2 x y m n h0 h1 h2 h3
theorem lim4 (u v : Int) (u0 : -4000000 ≤ u) (u1 : u ≤ 4000000) (v0 : -4000000 ≤ v) (v1 : v ≤ 4000000) : -16000000000000 ≤ u * v ∧ u * v ≤ 16000000000000 := by
  have := mul_sb2 u v 4000000 4000000 u0 u1 v0 v1; omega
theorem sq_pos (x : Int) (h : x ≠ 0) : 0 < x * x := by
  rcases Int.lt_or_gt_of_ne h with h | h
  · have := Int.mul_pos (show 0 < -x by omega) (show 0 < -x by omega); rw [Int.neg_mul_neg] at this; exact this
  · exact Int.mul_pos h h
theorem sq_nneg (x : Int) : 0 ≤ x * x := by
  by_cases h : x = 0
  · subst h; decide
  · exact Int.le_of_lt (sq_pos x h)
theorem dtp_pos (u v : Int) (h : ¬ (u = 0 ∧ v = 0)) : 0 < dtp u v u v := by
  unfold dtp
  have a := sq_nneg u; have b := sq_nneg v
  by_cases hu : u = 0
  · have := sq_pos v (by omega); omega
  · have := sq_pos u hu; omega
/-! sides -/
theorem crs_rot (ax ay bx by_ px py : Int) : crs (px - bx) (py - by_) (ax - bx) (ay - by_) = crs (bx - ax) (by_ - ay) (px - ax) (py - ay) := by unfold crs; grind
theorem crs_turn (ax ay bx by_ px py : Int) : crs (ax - bx) (ay - by_) (px - bx) (py - by_) = -crs (bx - ax) (by_ - ay) (px - ax) (py - ay) := by unfold crs; grind
theorem dtp_back (u v : Int) : dtp u v (-u) (-v) = -dtp u v u v := by unfold dtp; grind
theorem dtp_neg2 (u v : Int) : dtp (-u) (-v) (-u) (-v) = dtp u v u v := by unfold dtp; grind
/-! squares and roots -/
theorem lt_of_sq {a b : Int} (hb : 0 ≤ b) (h : a * a < b * b) : a < b := by
  rcases Int.lt_or_le a b with h1 | h1
  · exact h1
  · have := Int.mul_le_mul h1 h1 hb (by omega); omega
theorem abs_lt_of_sq {a b : Int} (hb : 0 ≤ b) (h : a * a < b * b) : -b < a ∧ a < b := by
  refine ⟨?_, lt_of_sq hb h⟩
  have := lt_of_sq (a := -a) hb (by rw [Int.neg_mul_neg]; exact h)
  omega
theorem le_of_sq {a b : Int} (hb : 0 ≤ b) (h : a * a ≤ b * b) : a ≤ b := by
  rcases Int.lt_or_le b a with h1 | h1
  · have h2 : (b + 1) * (b + 1) ≤ a * a := Int.mul_le_mul (by omega) (by omega) (by omega) (by omega)
    have h3 : (b + 1) * (b + 1) = b * b + 2 * b + 1 := by grind
    omega
  · exact h1
theorem abs_le_of_sq {a b : Int} (hb : 0 ≤ b) (h : a * a ≤ b * b) : -b ≤ a ∧ a ≤ b := by
  refine ⟨?_, le_of_sq hb h⟩
  have := le_of_sq (a := -a) hb (by rw [Int.neg_mul_neg]; exact h)
  omega
theorem isq_le (n k : Int) (h0 : 0 ≤ n) (h1 : n < 18446744073709551616) (hk : 0 ≤ k) (h : n < (k + 1) * (k + 1)) : isq n ≤ k := by
  obtain ⟨a, b, c, d⟩ := isq_ok n h0 h1
  have := lt_of_sq (a := isq n) (b := k + 1) (by omega) (by omega)
  omega
theorem isq_ge (n k : Int) (h0 : 0 ≤ n) (h1 : n < 18446744073709551616) (hk : 0 ≤ k) (h : k * k ≤ n) : k ≤ isq n := by
  obtain ⟨a, b, c, d⟩ := isq_ok n h0 h1
  have := lt_of_sq (a := k) (b := isq n + 1) (by omega) (by omega)
  omega
/-- Cauchy and Schwarz -/
theorem cauchy (u v x y : Int) : dtp u v x y * dtp u v x y ≤ dtp u v u v * dtp x y x y := by
  have h : dtp u v u v * dtp x y x y - dtp u v x y * dtp u v x y = crs u v x y * crs u v x y := by unfold dtp crs; grind
  have := sq_nneg (crs u v x y)
  omega
theorem cauchy' (u v x y : Int) : crs u v x y * crs u v x y ≤ dtp u v u v * dtp x y x y := by
  have h : dtp u v u v * dtp x y x y - crs u v x y * crs u v x y = dtp u v x y * dtp u v x y := by unfold dtp crs; grind
  have := sq_nneg (dtp u v x y)
  omega
theorem dtp_add (u v x y : Int) : dtp (u + x) (v + y) (u + x) (v + y) = dtp u v u v + dtp x y x y + 2 * dtp u v x y := by unfold dtp; grind
theorem dtp_nn (u v : Int) : 0 ≤ dtp u v u v := by unfold dtp; have := sq_nneg u; have := sq_nneg v; omega
/-- |u|² ≤ A < a², |r|² ≤ B < b²: |u + r|² < (a + b)² -/
theorem tri_lt (u v x y a b : Int) (a0 : 0 < a) (b0 : 0 < b) (ha : dtp u v u v < a * a) (hb : dtp x y x y < b * b) : dtp (u + x) (v + y) (u + x) (v + y) < (a + b) * (a + b) := by
  rw [dtp_add]
  have c := cauchy u v x y
  have n1 := dtp_nn u v; have n2 := dtp_nn x y
  have m : dtp u v u v * dtp x y x y ≤ (a * a) * (b * b) := Int.mul_le_mul (by omega) (by omega) n2 (by have := sq_nneg a; omega)
  have e : (a * a) * (b * b) = (a * b) * (a * b) := by grind
  have hab : 0 ≤ a * b := Int.mul_nonneg (by omega) (by omega)
  have := (abs_le_of_sq hab (show dtp u v x y * dtp u v x y ≤ (a * b) * (a * b) by omega)).2
  have e2 : (a + b) * (a + b) = a * a + b * b + 2 * (a * b) := by grind
  omega
theorem isq_tri (u v x y : Int) (h0 : dtp u v u v < 4611686018427387904) (h1 : dtp x y x y < 4611686018427387904) (h2 : dtp (u + x) (v + y) (u + x) (v + y) < 4611686018427387904) :
    isq (dtp (u + x) (v + y) (u + x) (v + y)) ≤ isq (dtp u v u v) + isq (dtp x y x y) + 1 := by
  obtain ⟨a0, a1, a2, a3⟩ := isq_ok (dtp u v u v) (dtp_nn _ _) (by omega)
  obtain ⟨b0, b1, b2, b3⟩ := isq_ok (dtp x y x y) (dtp_nn _ _) (by omega)
  refine isq_le _ _ (dtp_nn _ _) (by omega) (by omega) ?_
  have := tri_lt u v x y (isq (dtp u v u v) + 1) (isq (dtp x y x y) + 1) (by omega) (by omega) a2 b2
  have e : isq (dtp u v u v) + 1 + (isq (dtp x y x y) + 1) = isq (dtp u v u v) + isq (dtp x y x y) + 1 + 1 := by omega
  rw [e] at this
  exact this
/-! the arc tangent of the opposite direction -/
theorem qsn_quarter : qsn 32400000 = 1073741824 := by decide +kernel
theorem les_zero (m : Int) (h : 0 < m) : les m 0 = 0 := by
  refine grt_is _ _ _ _ (by omega) (by omega) ?_ ?_
  · intro c c0 c1
    have : c = 0 := by omega
    subst this
    have e : ssn 0 = 0 := by decide +kernel
    unfold lesP; rw [e]; simp
  · intro c c0 c1
    have e : qsn c = ssn c := by unfold qsn; rw [if_pos c1]
    have p := qsn_pos c c0 (by omega)
    have := Int.mul_pos p h
    unfold lesP; rw [← e]
    exact decide_eq_false (by omega)
theorem at2_back (y x : Int) (y0 : -2147483647 ≤ y) (y1 : y ≤ 2147483647) (x0 : -2147483647 ≤ x) (x1 : x ≤ 2147483647) (hz : ¬ (x = 0 ∧ y = 0)) :
    0 ≤ at2V y x ∧ at2V y x < 129600000 ∧ at2V (-y) (-x) = trn (at2V y x) 64800000 ∧ at2E y x = 0 ∧ at2E (-y) (-x) = 0 := by
  obtain ⟨a1, a2⟩ := at2_good y x (smB_of y y0 y1) (smB_of x x0 x1) hz
  obtain ⟨b1, b2⟩ := at2_good (-y) (-x) (smB_of (-y) (by omega) (by omega)) (smB_of (-x) (by omega) (by omega)) (by omega)
  have q2 : at2Q (-y) (-x) = at2Q y x := at2Q_iabs _ _ _ _ (iabs_flip y) (iabs_flip x)
  obtain ⟨q0, q1⟩ := at2Q_bd y x
  have qx : x = 0 → at2Q y x = 32400000 := by
    intro h
    subst h
    unfold at2Q
    rw [iabs_pos 0 (by omega), if_pos (by unfold iabs; split <;> omega), les_zero _ (by unfold iabs; split <;> omega)]; rfl
  have qy : y = 0 → at2Q y x = 0 := by
    intro h
    subst h
    unfold at2Q
    rw [iabs_pos 0 (by omega), if_neg (by unfold iabs; split <;> omega), les_zero _ (by unfold iabs; split <;> omega)]
  rw [q2] at b2
  generalize at2Q y x = q at *
  rw [a2, b2]
  refine ⟨?_, ?_, ?_, a1, b1⟩
  all_goals
    clear a1 b1 a2 b2 q2
    (try unfold trn)
    unfold nrm
    by_cases hx : x = 0
    · have := qx hx; (repeat' split) <;> omega
    · by_cases hy : y = 0
      · have := qy hy; (repeat' split) <;> omega
      · (repeat' split) <;> omega
/-! lengths: the root of n n / s, with a sign -/
def rtl (n s : Int) : Int := isq (n * n / s)
def len (n s : Int) : Int := if n < 0 then -rtl n s else rtl n s
theorem ediv_le_of (n s k : Int) (hs : 0 < s) (h : n ≤ k * s) : n / s ≤ k := by
  rcases Int.lt_or_le k (n / s) with h1 | h1
  · have := div_bd n s hs
    have h2 : (k + 1) * s ≤ n / s * s := Int.mul_le_mul_of_nonneg_right (by omega) (by omega)
    rw [Int.add_mul] at h2
    omega
  · exact h1
/-- what a length is, for n n ≤ s t -/
theorem rtl_ok (n s t : Int) (hs : 0 < s) (t1 : t < 4611686018427387904) (h : n * n ≤ t * s) :
    0 ≤ n * n / s ∧ n * n / s ≤ t ∧ 0 ≤ rtl n s ∧ rtl n s * rtl n s * s ≤ n * n ∧ n * n < (rtl n s + 1) * (rtl n s + 1) * s ∧ rtl n s ≤ isq t := by
  have q0 : 0 ≤ n * n / s := Int.ediv_nonneg (sq_nneg n) (by omega)
  have q1 := ediv_le_of (n * n) s t hs h
  obtain ⟨d0, d1⟩ := div_bd (n * n) s hs
  obtain ⟨a0, a1, a2, a3⟩ := isq_ok (n * n / s) q0 (by omega)
  refine ⟨q0, q1, a0, ?_, ?_, ?_⟩
  · have : isq (n * n / s) * isq (n * n / s) * s ≤ n * n / s * s := Int.mul_le_mul_of_nonneg_right a1 (by omega)
    show isq (n * n / s) * isq (n * n / s) * s ≤ n * n
    omega
  · have h3 : (n * n / s + 1) * s ≤ (isq (n * n / s) + 1) * (isq (n * n / s) + 1) * s := Int.mul_le_mul_of_nonneg_right (by omega) (by omega)
    rw [Int.add_mul] at h3
    show n * n < (isq (n * n / s) + 1) * (isq (n * n / s) + 1) * s
    omega
  · exact isq_ge t _ (by omega) (by omega) a0 (by show isq (n * n / s) * isq (n * n / s) ≤ t; omega)
theorem len_neg (n s : Int) : len (-n) s = -len n s := by
  have e : rtl (-n) s = rtl n s := by unfold rtl; rw [Int.neg_mul_neg]
  unfold len
  rw [e]
  by_cases h : n = 0
  · subst h
    have : rtl 0 s = 0 := by unfold rtl; rw [show (0 : Int) * 0 = 0 from rfl, Int.zero_ediv]; decide +kernel
    simp [this]
  · (repeat' split) <;> omega
theorem len_abs (n s : Int) (h : 0 ≤ rtl n s) : (len n s = rtl n s ∨ len n s = -rtl n s) ∧ (0 ≤ len n s → len n s = rtl n s ∨ rtl n s = 0) := by
  unfold len; split <;> omega
/-! rounded parts -/
theorem rnd2_bd (n d : Int) (hd : d ≠ 0) : -iabs d ≤ 2 * (d * rnd 2 n d - n) ∧ 2 * (d * rnd 2 n d - n) ≤ iabs d := by
  have go : ∀ n d : Int, 0 < d → -d ≤ 2 * (d * rnd 2 n d - n) ∧ 2 * (d * rnd 2 n d - n) ≤ d := by
    intro n d hd
    unfold rnd
    rw [if_neg (by decide), if_neg (by decide), Int.fdiv_eq_ediv_of_nonneg _ (by omega)]
    obtain ⟨a, b⟩ := div_bd (2 * n + d) (2 * d) (by omega)
    generalize (2 * n + d) / (2 * d) = q at *
    have e : q * (2 * d) = 2 * (d * q) := by grind
    omega
  rcases Int.lt_or_gt_of_ne hd with h | h
  · have := go (-n) (-d) (by omega)
    rw [rnd_flip, Int.neg_mul, iabs_neg d (by omega)] at *
    omega
  · have := go n d h
    rw [iabs_pos d (by omega)]
    exact this
theorem sq_le_abs (x s : Int) (h0 : -s ≤ x) (h1 : x ≤ s) : x * x ≤ s * s := (mul_sb2 x x s s h0 h1 h0 h1).2
theorem half_sq (x y s : Int) (x0 : -s ≤ 2 * x) (x1 : 2 * x ≤ s) (y0 : -s ≤ 2 * y) (y1 : 2 * y ≤ s) : 2 * dtp x y x y ≤ s * s := by
  have a := sq_le_abs (2 * x) s x0 x1
  have b := sq_le_abs (2 * y) s y0 y1
  have e : 2 * x * (2 * x) = 4 * (x * x) := by grind
  have f : 2 * y * (2 * y) = 4 * (y * y) := by grind
  unfold dtp
  omega
/-- |u|² < A² s², 2 |r|² ≤ s²: |u + r| is less than (A + 3/4) s -/
theorem near34 (U V x y s A : Int) (A0 : 0 < A) (hU : dtp U V U V < A * A * (s * s)) (hr : 2 * dtp x y x y ≤ s * s) :
    16 * dtp (U + x) (V + y) (U + x) (V + y) < (4 * A + 3) * (4 * A + 3) * (s * s) := by
  rw [dtp_add]
  have c := cauchy U V x y
  have n1 := dtp_nn U V; have n2 := dtp_nn x y
  have ss := sq_nneg s
  have m : dtp U V U V * (2 * dtp x y x y) ≤ (A * A * (s * s)) * (s * s) := Int.mul_le_mul (by omega) hr (by omega) (by omega)
  have e1 : dtp U V U V * (2 * dtp x y x y) = 2 * (dtp U V U V * dtp x y x y) := by grind
  have e2 : (3 * (A * (s * s))) * (3 * (A * (s * s))) = 9 * ((A * A * (s * s)) * (s * s)) := by grind
  have e3 : (4 * dtp U V x y) * (4 * dtp U V x y) = 16 * (dtp U V x y * dtp U V x y) := by grind
  have As : 0 ≤ A * (s * s) := Int.mul_nonneg (by omega) ss
  have AA : 0 ≤ (A * A * (s * s)) * (s * s) := Int.mul_nonneg (Int.mul_nonneg (sq_nneg A) ss) ss
  have g := (abs_le_of_sq (a := 4 * dtp U V x y) (b := 3 * (A * (s * s))) (by omega) (by omega)).2
  have e4 : (4 * A + 3) * (4 * A + 3) * (s * s) = 16 * (A * A * (s * s)) + 24 * (A * (s * s)) + 9 * (s * s) := by grind
  omega
theorem lt_of_mul {a b s : Int} (hs : 0 < s) (h : a * s < b * s) : a < b := Int.lt_of_mul_lt_mul_right h (by omega)
/-- a rounded foot: its distance from the point and the offset differ by at most 1 -/
theorem foot_near (dx dy qx qy fx fy m : Int) (hs : 0 < dtp dx dy dx dy) (hE : dtp (qx - fx) (qy - fy) (qx - fx) (qy - fy) < 4611686018427387904)
    (hx : -dtp dx dy dx dy ≤ 2 * (dtp dx dy dx dy * fx - dx * dtp dx dy qx qy) ∧ 2 * (dtp dx dy dx dy * fx - dx * dtp dx dy qx qy) ≤ dtp dx dy dx dy)
    (hy : -dtp dx dy dx dy ≤ 2 * (dtp dx dy dx dy * fy - dy * dtp dx dy qx qy) ∧ 2 * (dtp dx dy dx dy * fy - dy * dtp dx dy qx qy) ≤ dtp dx dy dx dy)
    (m0 : 0 ≤ m) (hm0 : m * m * dtp dx dy dx dy ≤ crs dx dy qx qy * crs dx dy qx qy) (hm1 : crs dx dy qx qy * crs dx dy qx qy < (m + 1) * (m + 1) * dtp dx dy dx dy) :
    isq (dtp (qx - fx) (qy - fy) (qx - fx) (qy - fy)) ≤ m + 1 ∧ m ≤ isq (dtp (qx - fx) (qy - fy) (qx - fx) (qy - fy)) + 1 := by
  have i1 : dtp (-(dy * crs dx dy qx qy)) (dx * crs dx dy qx qy) (-(dy * crs dx dy qx qy)) (dx * crs dx dy qx qy) = crs dx dy qx qy * crs dx dy qx qy * dtp dx dy dx dy := by unfold dtp; grind
  have i2 : -(dy * crs dx dy qx qy) = dtp dx dy dx dy * qx - dx * dtp dx dy qx qy := by unfold dtp crs; grind
  have i3 : dx * crs dx dy qx qy = dtp dx dy dx dy * qy - dy * dtp dx dy qx qy := by unfold dtp crs; grind
  generalize crs dx dy qx qy = cr at *
  generalize dtp dx dy qx qy = num at *
  generalize dtp dx dy dx dy = s at *
  have i4 : dtp (s * (qx - fx)) (s * (qy - fy)) (s * (qx - fx)) (s * (qy - fy)) = dtp (qx - fx) (qy - fy) (qx - fx) (qy - fy) * (s * s) := by unfold dtp; grind
  have ss : 0 < s * s := Int.mul_pos hs hs
  have k1 : cr * cr * s < (m + 1) * (m + 1) * (s * s) := by
    have := Int.mul_lt_mul_of_pos_right hm1 hs
    rw [Int.mul_assoc ((m + 1) * (m + 1))] at this
    exact this
  have u1 : -(dy * cr) + (dx * num - s * fx) = s * (qx - fx) := by rw [i2, Int.mul_sub]; omega
  have u2 : dx * cr + (dy * num - s * fy) = s * (qy - fy) := by rw [i3, Int.mul_sub]; omega
  have v1 : s * (qx - fx) + (s * fx - dx * num) = -(dy * cr) := by rw [i2, Int.mul_sub]; omega
  have v2 : s * (qy - fy) + (s * fy - dy * num) = dx * cr := by rw [i3, Int.mul_sub]; omega
  have n1 := near34 (-(dy * cr)) (dx * cr) (dx * num - s * fx) (dy * num - s * fy) s (m + 1) (by omega) (by rw [i1]; exact k1) (half_sq _ _ s (by omega) (by omega) (by omega) (by omega))
  rw [u1, u2, i4] at n1
  have nn := dtp_nn (qx - fx) (qy - fy)
  obtain ⟨a0, a1, a2, a3⟩ := isq_ok (dtp (qx - fx) (qy - fy) (qx - fx) (qy - fy)) nn (by omega)
  have n2 := near34 (s * (qx - fx)) (s * (qy - fy)) (s * fx - dx * num) (s * fy - dy * num) s (isq (dtp (qx - fx) (qy - fy) (qx - fx) (qy - fy)) + 1) (by omega) (by rw [i4]; exact Int.mul_lt_mul_of_pos_right a2 ss) (half_sq _ _ s (by omega) (by omega) (by omega) (by omega))
  rw [v1, v2, i1] at n2
  generalize isq (dtp (qx - fx) (qy - fy) (qx - fx) (qy - fy)) = k at *
  generalize dtp (qx - fx) (qy - fy) (qx - fx) (qy - fy) = E at *
  constructor
  · have n3 : 16 * E < (4 * (m + 1) + 3) * (4 * (m + 1) + 3) := lt_of_mul ss (by rw [Int.mul_assoc 16]; exact n1)
    have e5 : (4 * (m + 1) + 3) * (4 * (m + 1) + 3) = 16 * ((m + 2) * (m + 2)) - 8 * m - 15 := by grind
    have := lt_of_sq (a := k) (b := m + 2) (by omega) (by omega)
    omega
  · have k2 : m * m * (s * s) ≤ cr * cr * s := by
      have := Int.mul_le_mul_of_nonneg_right hm0 (show 0 ≤ s by omega)
      rw [Int.mul_assoc (m * m)] at this
      exact this
    have n3 : 16 * (m * m) < (4 * (k + 1) + 3) * (4 * (k + 1) + 3) := lt_of_mul ss (by rw [Int.mul_assoc 16]; omega)
    have e5 : (4 * (k + 1) + 3) * (4 * (k + 1) + 3) = 16 * ((k + 2) * (k + 2)) - 8 * k - 15 := by grind
    have := lt_of_sq (a := m) (b := k + 2) (by omega) (by omega)
    omega
/-- a rounded point of a line lies on it -/
theorem on_line (u v rx ry den cr : Int) (hd : den ≠ 0) (h : den * cr = crs u v rx ry) (r2 : 2 * dtp rx ry rx ry ≤ den * den) (s0 : 0 < dtp u v u v) : cr * cr < dtp u v u v := by
  have c := cauchy' u v rx ry
  rw [← h] at c
  have dd := sq_pos den hd
  have m := Int.mul_le_mul_of_nonneg_left r2 (show 0 ≤ dtp u v u v by omega)
  have e1 : dtp u v u v * (2 * dtp rx ry rx ry) = 2 * (dtp u v u v * dtp rx ry rx ry) := by grind
  have e2 : 2 * (den * cr * (den * cr)) = 2 * (cr * cr) * (den * den) := by grind
  have : 2 * (cr * cr) * (den * den) ≤ dtp u v u v * (den * den) := by omega
  have := Int.le_of_mul_le_mul_right this dd
  have := sq_nneg cr
  omega
theorem len_zero (n s : Int) (h : n * n < s) : len n s = 0 := by
  have e : n * n / s = 0 := Int.ediv_eq_zero_of_lt (sq_nneg n) h
  unfold len rtl
  rw [e, show isq 0 = 0 by decide +kernel]
  split <;> rfl
theorem meet_a (dx dy fx fy num den : Int) (hd : den ≠ 0) (s0 : 0 < dtp dx dy dx dy)
    (hx : -iabs den ≤ 2 * (den * fx - dx * num) ∧ 2 * (den * fx - dx * num) ≤ iabs den) (hy : -iabs den ≤ 2 * (den * fy - dy * num) ∧ 2 * (den * fy - dy * num) ≤ iabs den) :
    len (crs dx dy fx fy) (dtp dx dy dx dy) = 0 := by
  have q := half_sq (den * fx - dx * num) (den * fy - dy * num) (iabs den) hx.1 hx.2 hy.1 hy.2
  have ea : iabs den * iabs den = den * den := by unfold iabs; split <;> simp [Int.neg_mul_neg]
  rw [ea] at q
  exact len_zero _ _ (on_line dx dy (den * fx - dx * num) (den * fy - dy * num) den _ hd (by unfold crs; grind) q s0)
theorem meet_c (dx dy ex ey gx gy fx fy : Int) (hd : crs dx dy ex ey ≠ 0) (s0 : 0 < dtp ex ey ex ey)
    (hx : -iabs (crs dx dy ex ey) ≤ 2 * (crs dx dy ex ey * fx - dx * crs (-gx) (-gy) ex ey) ∧ 2 * (crs dx dy ex ey * fx - dx * crs (-gx) (-gy) ex ey) ≤ iabs (crs dx dy ex ey))
    (hy : -iabs (crs dx dy ex ey) ≤ 2 * (crs dx dy ex ey * fy - dy * crs (-gx) (-gy) ex ey) ∧ 2 * (crs dx dy ex ey * fy - dy * crs (-gx) (-gy) ex ey) ≤ iabs (crs dx dy ex ey)) :
    len (crs ex ey (gx + fx) (gy + fy)) (dtp ex ey ex ey) = 0 := by
  have q := half_sq _ _ (iabs (crs dx dy ex ey)) hx.1 hx.2 hy.1 hy.2
  have ea : iabs (crs dx dy ex ey) * iabs (crs dx dy ex ey) = crs dx dy ex ey * crs dx dy ex ey := by unfold iabs; split <;> simp [Int.neg_mul_neg]
  rw [ea] at q
  exact len_zero _ _ (on_line ex ey _ _ (crs dx dy ex ey) _ hd (by unfold crs; grind) q s0)
/-- a point at a distance on a course -/
theorem ray_near (S C fx fy d D : Int) (hD : D = iabs d) (D1 : D ≤ 8000000) (hT0 : -5368709120 ≤ S * S + C * C - 1152921504606846976) (hT1 : S * S + C * C - 1152921504606846976 ≤ 5368709120)
    (hx : -1073741824 ≤ 2 * (1073741824 * fx - S * d) ∧ 2 * (1073741824 * fx - S * d) ≤ 1073741824) (hy : -1073741824 ≤ 2 * (1073741824 * fy - C * d) ∧ 2 * (1073741824 * fy - C * d) ≤ 1073741824)
    (hE : dtp fx fy fx fy < 4611686018427387904) : isq (dtp fx fy fx fy) ≤ D + 1 ∧ D ≤ isq (dtp fx fy fx fy) + 1 := by
  have D0 : 0 ≤ D := by rw [hD]; unfold iabs; split <;> omega
  have dd : d * d = D * D := by rw [hD]; unfold iabs; split <;> simp [Int.neg_mul_neg]
  have i1 : dtp (S * d) (C * d) (S * d) (C * d) = D * D * (S * S + C * C) := by rw [← dd]; unfold dtp; grind
  have i4 : dtp (1073741824 * fx) (1073741824 * fy) (1073741824 * fx) (1073741824 * fy) = dtp fx fy fx fy * (1073741824 * 1073741824) := by unfold dtp; grind
  obtain ⟨DD0, DD1⟩ : 0 ≤ D * D ∧ D * D ≤ 8000000 * D := ⟨Int.mul_nonneg D0 D0, Int.mul_le_mul_of_nonneg_right D1 D0⟩
  obtain ⟨T, hT⟩ : ∃ T, S * S + C * C = 1152921504606846976 + T := ⟨S * S + C * C - 1152921504606846976, by omega⟩
  rw [hT] at i1 hT0 hT1
  have t0 : -(D * D * 5368709120) ≤ D * D * T := by
    have := Int.mul_le_mul_of_nonneg_left (show -5368709120 ≤ T by omega) DD0
    rw [Int.mul_neg] at this; exact this
  have t1 : D * D * T ≤ D * D * 5368709120 := Int.mul_le_mul_of_nonneg_left (by omega) DD0
  rw [Int.mul_add] at i1
  have nn := dtp_nn fx fy
  obtain ⟨a0, a1, a2, a3⟩ := isq_ok (dtp fx fy fx fy) nn (by omega)
  have e8 : (D + 1) * (D + 1) * (1073741824 * 1073741824) = D * D * 1152921504606846976 + D * 2305843009213693952 + 1152921504606846976 := by grind
  have n1 := near34 (S * d) (C * d) (1073741824 * fx - S * d) (1073741824 * fy - C * d) 1073741824 (D + 1) (by omega) (by omega) (half_sq _ _ _ hx.1 hx.2 hy.1 hy.2)
  rw [show S * d + (1073741824 * fx - S * d) = 1073741824 * fx by omega, show C * d + (1073741824 * fy - C * d) = 1073741824 * fy by omega, i4] at n1
  have n2 := near34 (1073741824 * fx) (1073741824 * fy) (S * d - 1073741824 * fx) (C * d - 1073741824 * fy) 1073741824 (isq (dtp fx fy fx fy) + 1) (by omega) (by rw [i4]; exact Int.mul_lt_mul_of_pos_right a2 (by decide)) (half_sq _ _ _ (by omega) (by omega) (by omega) (by omega))
  rw [show 1073741824 * fx + (S * d - 1073741824 * fx) = S * d by omega, show 1073741824 * fy + (C * d - 1073741824 * fy) = C * d by omega, i1] at n2
  generalize isq (dtp fx fy fx fy) = k at *
  generalize dtp fx fy fx fy = E at *
  constructor
  · have n3 : 16 * E < (4 * (D + 1) + 3) * (4 * (D + 1) + 3) := lt_of_mul (s := 1073741824 * 1073741824) (by decide) (by rw [Int.mul_assoc 16]; exact n1)
    have e5 : (4 * (D + 1) + 3) * (4 * (D + 1) + 3) = 16 * ((D + 2) * (D + 2)) - 8 * D - 15 := by grind
    have := lt_of_sq (a := k) (b := D + 2) (by omega) (by omega)
    omega
  · rcases Int.lt_or_le (k + 1) D with h | h
    · have e6 : (4 * (k + 1) + 3) * (4 * (k + 1) + 3) * (1073741824 * 1073741824) ≤ (4 * D - 1) * (4 * D - 1) * (1073741824 * 1073741824) := by
        refine Int.mul_le_mul_of_nonneg_right (Int.mul_le_mul (by omega) (by omega) (by omega) (by omega)) (by decide)
      have e7 : (4 * D - 1) * (4 * D - 1) * (1073741824 * 1073741824) = 16 * (D * D * 1152921504606846976) - D * 9223372036854775808 + 1152921504606846976 := by grind
      omega
    · exact h
end Go.Proofs.Ytfnhnlnofglkoaa
