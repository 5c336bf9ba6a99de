/-
  Plain numbers of layer 13: the wind triangle.
-/
import Derived.Test.YtfpgdicacjkfoaaGreatDoorSphn
import Derived.Test.YtfpgdicacjkfoaaGreatDoorTrge
namespace Go.Proofs.YtfpgdicacjkfoaaGreatDoor
set_option linter.unusedVariables false
set_option linter.unusedSimpArgs false

theorem mq_scale' (x : Int) (h0 : -1152921504606846976 ≤ x) (h1 : x ≤ 1152921504606846976) : mqv 2 x 1 1073741824 = r30 x ∧ mqe 2 x 1 1073741824 = 0 := by
  have e : rnd 2 (x * 1) 1073741824 = r30 x := by
    rw [Int.mul_one]
    unfold rnd r30
    rw [if_neg (by decide), if_neg (by decide), Int.fdiv_eq_ediv_of_nonneg _ (by omega)]
    omega
  have g : fit64 (r30 x) = true := by unfold fit64 r30; simp; omega
  unfold mqv mqe
  rw [e, g]
  exact ⟨rfl, rfl⟩
def wsm (v : Int) : Bool := decide (-400 ≤ v) && decide (v ≤ 400)
def wok (x y : Int) : Bool := wsm x && wsm y
def unt (x : Int) : Int := (x + 524288) / 1048576
def alo (c x y : Int) : Int := unt (x * sinV c + y * cosV c)
def acr (c x y : Int) : Int := unt (x * cosV c - y * sinV c)
def rt (c t x y : Int) : Int := isq (t * 1024 * (t * 1024) - acr c x y * acr c x y)
def gE (c t x y : Int) : Int := if wok x y = false ∨ t < 1 ∨ 4000 < t then 1 else if t * 1024 ≤ iabs (acr c x y) then 10 else if alo c x y + rt c t x y < 1024 then 10 else 0
def gG (c t x y : Int) : Int := if gE c t x y = 0 then alo c x y + rt c t x y else 0
def gD (c t x y : Int) : Int := if gE c t x y = 0 then dif 0 (at2V (-acr c x y) (rt c t x y)) else 0
def tkX (h t x : Int) : Int := unt (t * sinV h + x * 1073741824)
def tkY (h t y : Int) : Int := unt (t * cosV h + y * 1073741824)
def kE (h t x y : Int) : Int := if wok x y = false ∨ t < 1 ∨ 4000 < t then 1 else if hyV (tkX h t x) (tkY h t y) < 1024 then 10 else 0
def kC (h t x y : Int) : Int := if kE h t x y = 0 then at2V (tkX h t x) (tkY h t y) else 0
def kG (h t x y : Int) : Int := if kE h t x y = 0 then hyV (tkX h t x) (tkY h t y) else 0
def ofE (s : Int) : Int := if s < 0 ∨ 400 < s then 1 else 0
def ofX (f s : Int) : Int := if ofE s = 0 then r30 (-s * sinV f) else 0
def ofY (f s : Int) : Int := if ofE s = 0 then r30 (-s * cosV f) else 0
def pE (x y : Int) : Int := if wok x y = false then 1 else 0
def pA (c x y : Int) : Int := if pE x y = 0 then alo c x y else 0
def pC (c x y : Int) : Int := if pE x y = 0 then acr c x y else 0
def fA1 (x y : Int) : Int := if pE x y = 0 then at2V (-x) (-y) else 0
def fS1 (x y : Int) : Int := if pE x y = 0 then hyV x y else 0
theorem wsm_yes {v : Int} (h : wsm v = true) : -400 ≤ v ∧ v ≤ 400 := by unfold wsm at h; simp at h; exact h
theorem wsm_no {v : Int} (h : wsm v = false) : v < -400 ∨ 400 < v := by unfold wsm at h; simp at h; omega
theorem wsm_is {v : Int} (h0 : -400 ≤ v) (h1 : v ≤ 400) : wsm v = true := by unfold wsm; simp; omega
theorem wsm_not {v : Int} (h : v < -400 ∨ 400 < v) : wsm v = false := by unfold wsm; simp; omega
theorem wok_yes {x y : Int} (h : wok x y = true) : -400 ≤ x ∧ x ≤ 400 ∧ -400 ≤ y ∧ y ≤ 400 := by
  unfold wok at h; simp at h
  have a := wsm_yes h.1; have b := wsm_yes h.2; omega
theorem wok_is {x y : Int} (h0 : -400 ≤ x) (h1 : x ≤ 400) (h2 : -400 ≤ y) (h3 : y ≤ 400) : wok x y = true := by
  unfold wok; rw [wsm_is h0 h1, wsm_is h2 h3]; rfl
theorem wprod (x c : Int) (h0 : -4000 ≤ x) (h1 : x ≤ 4000) : (-4294967296000 ≤ x * sinV c ∧ x * sinV c ≤ 4294967296000) ∧ (-4294967296000 ≤ x * cosV c ∧ x * cosV c ≤ 4294967296000) := by
  have a := sinV_bd c
  have b := cosV_bd c
  exact ⟨mul_sb' _ _ 4000 1073741824 h0 h1 a.1 a.2, mul_sb' _ _ 4000 1073741824 h0 h1 b.1 b.2⟩
theorem wprod4 (x c : Int) (h0 : -400 ≤ x) (h1 : x ≤ 400) : (-429496729600 ≤ x * sinV c ∧ x * sinV c ≤ 429496729600) ∧ (-429496729600 ≤ x * cosV c ∧ x * cosV c ≤ 429496729600) := by
  have a := sinV_bd c
  have b := cosV_bd c
  exact ⟨mul_sb' _ _ 400 1073741824 h0 h1 a.1 a.2, mul_sb' _ _ 400 1073741824 h0 h1 b.1 b.2⟩
theorem part_bd (c : Int) {x y : Int} (h0 : -400 ≤ x) (h1 : x ≤ 400) (h2 : -400 ≤ y) (h3 : y ≤ 400) : (-819200 ≤ alo c x y ∧ alo c x y ≤ 819200) ∧ (-819200 ≤ acr c x y ∧ acr c x y ≤ 819200) := by
  have a := wprod4 x c h0 h1
  have b := wprod4 y c h2 h3
  unfold alo acr unt; omega
theorem tk_bd (h t : Int) {x : Int} (t0 : 1 ≤ t) (t1 : t ≤ 4000) (h0 : -400 ≤ x) (h1 : x ≤ 400) : (-4505600 ≤ tkX h t x ∧ tkX h t x ≤ 4505600) ∧ (-4505600 ≤ tkY h t x ∧ tkY h t x ≤ 4505600) := by
  have a := wprod t h (by omega) t1
  unfold tkX tkY unt; omega
theorem sq_iabs (a : Int) : iabs a * iabs a = a * a := by
  unfold iabs; split
  · rw [Int.neg_mul_neg]
  · rfl
theorem iabs_nn (a : Int) : 0 ≤ iabs a ∧ a ≤ iabs a ∧ -a ≤ iabs a := by unfold iabs; split <;> omega
theorem sq_le {a b : Int} (h0 : 0 ≤ a) (h : a ≤ b) : a * a ≤ b * b := Int.mul_le_mul h h h0 (by omega)
theorem isq_mono {m n : Int} (h0 : 0 ≤ m) (h : m ≤ n) (h1 : n < 18446744073709551616) : isq m ≤ isq n := by
  obtain ⟨a0, a1, a2, _⟩ := isq_ok m h0 (by omega)
  obtain ⟨b0, b1, b2, _⟩ := isq_ok n (by omega) h1
  rcases Int.lt_or_le (isq n) (isq m) with k | k
  · have := sq_le (a := isq n + 1) (b := isq m) (by omega) (by omega)
    omega
  · exact k
/-- the root of T² - b² -/
theorem root_bd (T b : Int) (b0 : 0 ≤ b) (b1 : b < T) (h1 : T ≤ 4096000) (h2 : 1024 ≤ T) : isq (T * T - b * b) ≤ T ∧ T - b ≤ isq (T * T - b * b) ∧ 1 ≤ isq (T * T - b * b) := by
  have q1 := sq_le (a := T) (b := 4096000) (by omega) h1
  have q2 := sq_le (a := b) (b := T - 1) b0 (by omega)
  have q3 := Int.mul_nonneg b0 b0
  have e2 : (T - 1) * (T - 1) = T * T - 2 * T + 1 := by rw [Int.sub_mul, Int.mul_sub]; omega
  obtain ⟨a0, a1, a2, _⟩ := isq_ok (T * T - b * b) (by omega) (by omega)
  generalize isq (T * T - b * b) = r at *
  refine ⟨?_, ?_, ?_⟩
  · rcases Int.lt_or_le T r with k | k
    · have := sq_le (a := T + 1) (b := r) (by omega) (by omega)
      have e : (T + 1) * (T + 1) = T * T + 2 * T + 1 := by rw [Int.add_mul, Int.mul_add]; omega
      omega
    · exact k
  · rcases Int.lt_or_le r (T - b) with k | k
    · have := sq_le (a := r + 1) (b := T - b) (by omega) (by omega)
      have e : (T - b) * (T - b) = T * T - 2 * (T * b) + b * b := by rw [Int.sub_mul, Int.mul_sub, Int.mul_sub, Int.mul_comm b T]; omega
      have e3 : b * b ≤ T * b := Int.mul_le_mul_of_nonneg_right (by omega) b0
      omega
    · exact k
  · rcases Int.lt_or_le r 1 with k | k
    · have := sq_le (a := r + 1) (b := 1) (by omega) (by omega)
      omega
    · exact k
theorem grt_stop (p : Int → Bool) (lo hi : Int) (h : lo ≤ hi) : grt p lo hi = hi ∨ p (grt p lo hi + 1) = false := by
  have := grt_ind p (fun a b r => b = hi ∨ p (b + 1) = false → r = hi ∨ p (r + 1) = false) ?_ ?_ ?_ _ lo hi rfl h
  · exact this (Or.inl rfl)
  · intro a b e hh; rw [e]; exact hh
  · intro a b r h1 hp k hh; exact k hh
  · intro a b r h1 hp k hh; exact k (Or.inr (by rw [show (a + b + 1) / 2 - 1 + 1 = (a + b + 1) / 2 by omega]; exact hp))
theorem les_pos (m n : Int) (m0 : 0 ≤ m) (m1 : m ≤ 4096000) (n1 : 1 ≤ n) : 1 ≤ les m n := by
  have b := les_bd m n
  rcases grt_stop (lesP m n) 0 16200000 (by omega) with h | h
  · unfold les; omega
  · rcases Int.lt_or_le (les m n) 1 with k | k
    · exfalso
      have e : les m n = 0 := by omega
      unfold les at e
      rw [e] at h
      unfold lesP at h
      have v1 : ssn (0 + 1) ≤ 100 ∧ 0 ≤ ssn (0 + 1) := by decide +kernel
      have v2 : 1073741000 ≤ qsn (32400000 - (0 + 1)) := by decide +kernel
      generalize ssn (0 + 1) = s at *
      generalize qsn (32400000 - (0 + 1)) = q at *
      have p1 := Int.mul_le_mul v1.1 m1 m0 (by omega : (0 : Int) ≤ 100)
      have p2 := Int.mul_le_mul v2 n1 (by omega) (by omega : (0 : Int) ≤ q)
      simp at h
      omega
    · exact k
theorem les_zero (m : Int) (m0 : 1 ≤ m) : les m 0 = 0 := by
  unfold les
  refine grt_is _ 0 0 16200000 (by omega) (by omega) ?_ ?_
  · intro c c0 c1
    have : c = 0 := by omega
    subst this
    have v : ssn 0 = 0 := by decide +kernel
    unfold lesP; rw [v]; simp
  · intro c c0 c1
    have h := ssn_mono 0 (by omega) c.toNat (by omega)
    rw [show (0 : Int) + (c.toNat : Int) = c by omega] at h
    have v : ssn 0 = 0 := by decide +kernel
    unfold lesP
    have : 0 < ssn c * m := Int.mul_pos (by omega) (by omega)
    simp; omega
theorem at2Q_in (y x : Int) (y0 : y ≠ 0) (y1 : iabs y ≤ 4096000) (x0 : 1 ≤ x) (x1 : x ≤ 4096000) : 1 ≤ at2Q y x ∧ at2Q y x ≤ 32399999 := by
  have ex : iabs x = x := by unfold iabs; rw [if_neg (by omega)]
  have ey : 1 ≤ iabs y := by unfold iabs; split <;> omega
  unfold at2Q
  rw [ex]
  split
  · have a := les_pos (iabs y) x (by omega) y1 x0
    have b := les_bd (iabs y) x
    omega
  · have a := les_pos x (iabs y) (by omega) x1 ey
    have b := les_bd x (iabs y)
    omega
theorem turn_sign (y x : Int) (y1 : iabs y ≤ 4096000) (x0 : 1 ≤ x) (x1 : x ≤ 4096000) : (dif 0 (at2V y x) < 0 ↔ y < 0) ∧ (0 < dif 0 (at2V y x) ↔ 0 < y) ∧ -32400000 < dif 0 (at2V y x) ∧ dif 0 (at2V y x) < 32400000 := by
  have by_ := iabs_nn y
  have sy := smB_yes y (by omega) (by omega)
  have sx := smB_yes x (by omega) (by omega)
  have e : at2V y x = if y < 0 then nrm (-at2Q y x) else at2Q y x := by
    unfold at2V
    rw [if_neg (by simp [sy, sx]), if_neg (by omega), if_neg (by omega), if_neg (by omega)]
  rw [e]
  by_cases z : y = 0
  · subst z
    have q : at2Q 0 x = 0 := by
      have ex : iabs x = x := by unfold iabs; rw [if_neg (by omega)]
      unfold at2Q; rw [ex, show iabs 0 = 0 from rfl, if_neg (by omega)]; exact les_zero x x0
    rw [if_neg (by omega), q]
    decide
  · obtain ⟨q0, q1⟩ := at2Q_in y x z y1 x0 x1
    generalize at2Q y x = Q at *
    split
    · unfold dif swp nrm; split <;> omega
    · unfold dif swp nrm; split <;> omega
/-- P13.3, P13.4: how the ground speed and the drift lie -/
theorem g_bounds {c t x y : Int} (h : gE c t x y = 0) : gG c t x y - t * 1024 - alo c x y ≤ 0 ∧ -iabs (acr c x y) ≤ gG c t x y - t * 1024 - alo c x y ∧ (gD c t x y < 0 ↔ 0 < acr c x y) ∧ (0 < gD c t x y ↔ acr c x y < 0) ∧ -32400000 < gD c t x y ∧ gD c t x y < 32400000 ∧ wok x y = true ∧ 1 ≤ t ∧ t ≤ 4000 := by
  have hG : gG c t x y = alo c x y + rt c t x y := if_pos h
  have hD : gD c t x y = dif 0 (at2V (-acr c x y) (rt c t x y)) := if_pos h
  rw [hG, hD]
  have h1 : ¬ (wok x y = false ∨ t < 1 ∨ 4000 < t) := fun k => by unfold gE at h; rw [if_pos k] at h; omega
  have h2 : ¬ (t * 1024 ≤ iabs (acr c x y)) := fun k => by unfold gE at h; rw [if_neg h1, if_pos k] at h; omega
  have hw : wok x y = true := by cases e : wok x y with | true => rfl | false => exact absurd (Or.inl e) h1
  have hr : rt c t x y = isq (t * 1024 * (t * 1024) - iabs (acr c x y) * iabs (acr c x y)) := by rw [sq_iabs]; rfl
  have hn := iabs_nn (acr c x y)
  obtain ⟨r0, r1, r2⟩ := root_bd (t * 1024) (iabs (acr c x y)) hn.1 (by omega) (by omega) (by omega)
  rw [← hr] at r0 r1 r2
  have ia : iabs (-acr c x y) = iabs (acr c x y) := by unfold iabs; (repeat' split) <;> omega
  obtain ⟨s1, s2, s3, s4⟩ := turn_sign (-acr c x y) (rt c t x y) (by omega) r2 (by omega)
  refine ⟨by omega, by omega, ?_, ?_, s3, s4, hw, by omega, by omega⟩
  · rw [s1]; omega
  · rw [s2]; omega
end Go.Proofs.YtfpgdicacjkfoaaGreatDoor
