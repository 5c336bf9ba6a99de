/-
  Plain numbers of layer 2: carries, borrows, the guess of a long division, quotients with a sign.
-/
import Derived.Test.YtfmijkbmedfcfaaNum
namespace Go.Proofs.Ytfmijkbmedfcfaa
open Go.RowKit
set_option linter.unusedVariables false
set_option linter.unusedSimpArgs false

def wh (v : Int) : Int := v / 18446744073709551616
def wl (v : Int) : Int := v % 18446744073709551616
theorem wv (v : Int) : v = wh v * 18446744073709551616 + wl v ∧ 0 ≤ wl v ∧ wl v ≤ 18446744073709551615 := by unfold wh wl; omega
theorem wh_of (h l : Int) (l0 : 0 ≤ l) (l1 : l ≤ 18446744073709551615) : wh (h * 18446744073709551616 + l) = h := by unfold wh; omega
theorem wl_of (h l : Int) (l0 : 0 ≤ l) (l1 : l ≤ 18446744073709551615) : wl (h * 18446744073709551616 + l) = l := by unfold wl; omega
theorem w_ext {u v : Int} (h1 : wh u = wh v) (h2 : wl u = wl v) : u = v := by
  have := wv u; have := wv v; omega

/-! bits at the top -/
theorem top_or (a b : Nat) : (a ||| b) / 9223372036854775808 = (a / 9223372036854775808) ||| (b / 9223372036854775808) := by
  have e : (9223372036854775808 : Nat) = 2 ^ 63 := rfl
  rw [e, ← Nat.shiftRight_eq_div_pow, ← Nat.shiftRight_eq_div_pow, ← Nat.shiftRight_eq_div_pow, Nat.shiftRight_or_distrib]
theorem top_and (a b : Nat) : (a &&& b) / 9223372036854775808 = (a / 9223372036854775808) &&& (b / 9223372036854775808) := by
  have e : (9223372036854775808 : Nat) = 2 ^ 63 := rfl
  rw [e, ← Nat.shiftRight_eq_div_pow, ← Nat.shiftRight_eq_div_pow, ← Nat.shiftRight_eq_div_pow, Nat.shiftRight_and_distrib]
theorem top_xor (a b : Nat) : (a ^^^ b) / 9223372036854775808 = (a / 9223372036854775808) ^^^ (b / 9223372036854775808) := by
  have e : (9223372036854775808 : Nat) = 2 ^ 63 := rfl
  rw [e, ← Nat.shiftRight_eq_div_pow, ← Nat.shiftRight_eq_div_pow, ← Nat.shiftRight_eq_div_pow, Nat.shiftRight_xor_distrib]
theorem and_lt (a b : Nat) (h : a < 18446744073709551616) : a &&& b < 18446744073709551616 := Nat.lt_of_le_of_lt Nat.and_le_left h
theorem or_lt (a b : Nat) (h : a < 18446744073709551616) (k : b < 18446744073709551616) : a ||| b < 18446744073709551616 := Nat.or_lt_two_pow (n := 64) h k
theorem xor_lt (a b : Nat) (h : a < 18446744073709551616) (k : b < 18446744073709551616) : a ^^^ b < 18446744073709551616 := Nat.xor_lt_two_pow (n := 64) h k
theorem carry_top (x y s c : Int) (x0 : 0 ≤ x) (x1 : x ≤ 18446744073709551615) (y0 : 0 ≤ y) (y1 : y ≤ 18446744073709551615) (hc : c = 0 ∨ c = 1) (hs : s = (x + y + c) % 18446744073709551616) :
    bits .or .u64 (bits .and .u64 x y) (bits .andNot .u64 (bits .or .u64 x y) s) / 9223372036854775808 = (x + y + c) / 18446744073709551616 := by
  obtain ⟨a, rfl⟩ := Int.eq_ofNat_of_zero_le x0
  obtain ⟨b, rfl⟩ := Int.eq_ofNat_of_zero_le y0
  have s0 : 0 ≤ s := by omega
  obtain ⟨d, rfl⟩ := Int.eq_ofNat_of_zero_le s0
  rw [u64_and_nat a b (by omega) (by omega), u64_or_nat a b (by omega) (by omega), u64_andNot_nat _ d (or_lt _ _ (by omega) (by omega)) (by omega), u64_or_nat _ _ (and_lt _ _ (by omega)) (and_lt _ _ (or_lt _ _ (by omega) (by omega)))]
  have e : (((a &&& b) ||| ((a ||| b) &&& (18446744073709551615 - d))) / 9223372036854775808) = (a + b + c.toNat) / 18446744073709551616 := by
    rw [top_or, top_and, top_and, top_or]
    have ha : a / 9223372036854775808 = 0 ∨ a / 9223372036854775808 = 1 := by omega
    have hb : b / 9223372036854775808 = 0 ∨ b / 9223372036854775808 = 1 := by omega
    have hd : (18446744073709551615 - d) / 9223372036854775808 = 1 - d / 9223372036854775808 := by omega
    have hd' : d / 9223372036854775808 = 0 ∨ d / 9223372036854775808 = 1 := by omega
    rw [hd]
    rcases ha with ha | ha <;> rcases hb with hb | hb <;> rcases hd' with hd' | hd' <;> rw [ha, hb, hd'] <;> simp <;> omega
  omega
theorem borrow_top (x y s c : Int) (x0 : 0 ≤ x) (x1 : x ≤ 18446744073709551615) (y0 : 0 ≤ y) (y1 : y ≤ 18446744073709551615) (hc : c = 0 ∨ c = 1) (hs : s = (x - y - c) % 18446744073709551616) :
    bits .or .u64 (bits .and .u64 (18446744073709551615 - x) y) (bits .and .u64 (18446744073709551615 - bits .xor .u64 x y) s) / 9223372036854775808 = -((x - y - c) / 18446744073709551616) := by
  obtain ⟨a, rfl⟩ := Int.eq_ofNat_of_zero_le x0
  obtain ⟨b, rfl⟩ := Int.eq_ofNat_of_zero_le y0
  have s0 : 0 ≤ s := by omega
  obtain ⟨d, rfl⟩ := Int.eq_ofNat_of_zero_le s0
  have hx := xor_lt a b (by omega) (by omega)
  rw [u64_xor_nat a b (by omega) (by omega), show (18446744073709551615 - (a : Int)) = ((18446744073709551615 - a : Nat) : Int) from by omega, show (18446744073709551615 - ((a ^^^ b : Nat) : Int)) = ((18446744073709551615 - (a ^^^ b) : Nat) : Int) from by omega,
    u64_and_nat _ b (by omega) (by omega), u64_and_nat _ d (by omega) (by omega), u64_or_nat _ _ (and_lt _ _ (by omega)) (and_lt _ _ (by omega))]
  have e : (((18446744073709551615 - a) &&& b) ||| ((18446744073709551615 - (a ^^^ b)) &&& d)) / 9223372036854775808 = (if (a : Int) - b - c < 0 then 1 else 0) := by
    rw [top_or, top_and, top_and]
    have hxt := top_xor a b
    have ha : a / 9223372036854775808 = 0 ∨ a / 9223372036854775808 = 1 := by omega
    have hb : b / 9223372036854775808 = 0 ∨ b / 9223372036854775808 = 1 := by omega
    have h1 : (18446744073709551615 - a) / 9223372036854775808 = 1 - a / 9223372036854775808 := by omega
    have h2 : (18446744073709551615 - (a ^^^ b)) / 9223372036854775808 = 1 - (a ^^^ b) / 9223372036854775808 := by omega
    have hd' : d / 9223372036854775808 = 0 ∨ d / 9223372036854775808 = 1 := by omega
    rw [h1, h2, hxt]
    rcases ha with ha | ha <;> rcases hb with hb | hb <;> rcases hd' with hd' | hd' <;> rw [ha, hb, hd'] <;> simp <;> omega
  have e2 : ((((18446744073709551615 - a) &&& b) ||| ((18446744073709551615 - (a ^^^ b)) &&& d) : Nat) : Int) / 9223372036854775808 = (if (a : Int) - b - c < 0 then 1 else 0) := by
    split at e
    · rename_i h; rw [if_pos h]; omega
    · rename_i h; rw [if_neg h]; omega
  rw [e2]
  split <;> omega

/-! the guess -/
theorem div_bd (m d : Int) (hd : 0 < d) : m / d * d ≤ m ∧ m < m / d * d + d := by
  have h1 := Int.emod_add_mul_ediv m d
  have h2 := Int.emod_nonneg m (show d ≠ 0 by omega)
  have h3 := Int.emod_lt_of_pos m hd
  rw [Int.mul_comm] at h1
  omega
theorem div_uniq (m d q : Int) (hd : 0 < d) (h1 : q * d ≤ m) (h2 : m < q * d + d) : m / d = q := by
  have h := div_bd m d hd
  by_cases c : m / d = q
  · exact c
  · exfalso
    rcases Int.lt_or_gt_of_ne c with c | c
    · have := Int.mul_le_mul_of_nonneg_right (show m / d + 1 ≤ q by omega) (show 0 ≤ d by omega)
      rw [Int.add_mul] at this; omega
    · have := Int.mul_le_mul_of_nonneg_right (show q + 1 ≤ m / d by omega) (show 0 ≤ d by omega)
      rw [Int.add_mul] at this; omega
theorem mod_of (m d q : Int) (h : m / d = q) : m % d = m - q * d := by
  have := Int.emod_add_mul_ediv m d
  rw [h, Int.mul_comm] at this; omega
/-- t = 2^(64 - shift); the divisor without its last bits; the first guess less one is not too great -/
theorem guess_low (m d t l g : Int) (hm0 : 0 ≤ m) (hm : m < 340282366920938463463374607431768211456) (ht : 2 ≤ t) (hl : l = d / t) (hl0 : 9223372036854775808 ≤ l) (hd : 18446744073709551616 ≤ d) (hg : g = m / (l * t)) :
    0 ≤ g ∧ g * t < 36893488147419103232 ∧ (1 ≤ g → (g - 1) * d ≤ m) ∧ m < (g + 1) * d := by
  obtain ⟨a1, a2⟩ := div_bd d t (by omega)
  rw [← hl] at a1 a2
  have lt0 : 18446744073709551616 ≤ l * t := by
    have := Int.mul_le_mul hl0 ht (by omega) (by omega)
    omega
  obtain ⟨b1, b2⟩ := div_bd m (l * t) (by omega)
  rw [← hg] at b1 b2
  have g0 : 0 ≤ g := by rw [hg]; exact Int.ediv_nonneg hm0 (by omega)
  have gt : g * t < 36893488147419103232 := by
    have h1 : g * (9223372036854775808 * t) ≤ g * (l * t) := Int.mul_le_mul_of_nonneg_left (Int.mul_le_mul_of_nonneg_right hl0 (by omega)) g0
    rw [Int.mul_left_comm] at h1
    omega
  refine ⟨g0, gt, fun g1 => ?_, ?_⟩
  · -- g * d ≤ g * (l t) + g (t - 1)
    have h1 : g * d ≤ g * (l * t + (t - 1)) := Int.mul_le_mul_of_nonneg_left (by omega) g0
    rw [Int.mul_add, Int.mul_sub] at h1
    have h2 : g * t - g * 1 ≤ d := by
      by_cases c : t = 2
      · subst c; omega
      · by_cases c3 : t = 3
        · subst c3
          have := Int.mul_le_mul_of_nonneg_right hl0 (show (0 : Int) ≤ 3 by omega)
          omega
        · have := Int.mul_le_mul hl0 (show 4 ≤ t by omega) (by omega) (by omega)
          omega
    rw [Int.sub_mul]; omega
  · have h1 : (g + 1) * (l * t) ≤ (g + 1) * d := Int.mul_le_mul_of_nonneg_left a1 (by omega)
    rw [Int.add_mul] at h1
    omega
theorem div_div (m a b : Int) (ha : 0 < a) (hb : 0 < b) : m / a / b = m / (a * b) := by
  rw [Int.ediv_ediv_of_nonneg (by omega)]

/-! magnitudes with a sign -/
def wmag (u : Int) : Int := if u < 0 then -u else u
def wfit (u : Int) : Bool := decide (-170141183460469231731687303715884105728 ≤ u ∧ u < 170141183460469231731687303715884105728)
def wval (u : Int) : Int := if wfit u then u else 0
def sgd (n : Bool) (m : Int) : Int := if n then -m else m
theorem wmag_bd (u : Int) (h0 : -170141183460469231731687303715884105728 ≤ u) (h1 : u < 170141183460469231731687303715884105728) : 0 ≤ wmag u ∧ wmag u ≤ 170141183460469231731687303715884105728 := by
  unfold wmag; split <;> omega
theorem wfit_yes {u : Int} (h0 : -170141183460469231731687303715884105728 ≤ u) (h1 : u < 170141183460469231731687303715884105728) : wfit u = true ∧ wval u = u := by
  have : wfit u = true := by unfold wfit; exact decide_eq_true ⟨h0, h1⟩
  exact ⟨this, by unfold wval; rw [this]; rfl⟩
theorem wfit_no {u : Int} (h : u < -170141183460469231731687303715884105728 ∨ 170141183460469231731687303715884105728 ≤ u) : wfit u = false ∧ wval u = 0 := by
  have : wfit u = false := by unfold wfit; exact decide_eq_false (by omega)
  exact ⟨this, by unfold wval; rw [this]; rfl⟩
/-- the quotient, rounded by a way: 0 down, 1 up, 2 to the nearest, halves up -/
def wqn (u v : Int) : Bool := decide (u < 0) != decide (v < 0)
def wqm (way u v : Int) : Int := wmag u / wmag v + bi (gr way (wmag u % wmag v) (wmag v) (wqn u v))
def wq (way u v : Int) : Int := sgd (wqn u v) (wqm way u v)
def wqV (way u v : Int) : Int := if v = 0 then 0 else wval (wq way u v)
def wqE (way u v : Int) : Bool := if v = 0 then false else wfit (wq way u v)
theorem guess_all (m dh dl : Int) (s : Nat) (hs : s ≤ 63) (m0 : 0 ≤ m) (m1 : m < 340282366920938463463374607431768211456) (h0 : 0 < dh) (h1 : 9223372036854775808 ≤ dh * 2 ^ s) (h2 : dh * 2 ^ s ≤ 18446744073709551615) (l0 : 0 ≤ dl) (l1 : dl ≤ 18446744073709551615) :
    ∃ l x g : Int, bits .or .u64 (IntKind.u64.wrap (dh * 2 ^ s)) (dl / 2 ^ (64 - s)) = l ∧ 9223372036854775808 ≤ l ∧ l ≤ 18446744073709551615
      ∧ bits .or .u64 (IntKind.u64.wrap (wh m * 9223372036854775808)) (wl m / 2) = x ∧ 0 ≤ x ∧ x ≤ 18446744073709551615 ∧ wh m / 2 * 18446744073709551616 + x = m / 2 ∧ wh m / 2 < l ∧ 0 ≤ wh m / 2
      ∧ 0 ≤ m / 2 / l ∧ m / 2 / l ≤ 18446744073709551615 ∧ m / 2 / l / 2 ^ (63 - s) = g ∧ 0 ≤ g ∧ g ≤ 18446744073709551615 ∧ (1 ≤ g → (g - 1) * (dh * 18446744073709551616 + dl) ≤ m) ∧ m < (g + 1) * (dh * 18446744073709551616 + dl) := by
  have ⟨p1, p2, p3⟩ := pow_shift dl s hs l0 l1
  have hp : (0 : Int) < 2 ^ (63 - s) := Int.pow_pos (by omega)
  have hq : (0 : Int) < 2 ^ s := Int.pow_pos (by omega)
  have et : (2 : Int) ^ (64 - s) = 2 * 2 ^ (63 - s) := by rw [show 64 - s = (63 - s) + 1 from by omega, Int.pow_succ, Int.mul_comm]
  have e64 : (2 : Int) ^ (64 - s) * 2 ^ s = 18446744073709551616 := by rw [← Int.pow_add, show 64 - s + s = 64 from by omega]; rfl
  have dh0 : 0 ≤ dh * 2 ^ s := Int.mul_nonneg (by omega) (by omega)
  have j1 : bits .or .u64 (IntKind.u64.wrap (dh * 2 ^ s)) (dl / 2 ^ (64 - s)) = dh * 2 ^ s + dl / 2 ^ (64 - s) := by
    rw [IntWalk.u64_in _ (by omega)]
    exact or_join _ _ s (by omega) dh0 (by omega) (by simp) p1 p2
  have hle : dh * 2 ^ s + dl / 2 ^ (64 - s) ≤ 18446744073709551615 := by
    have : dh * 2 ^ s % 2 ^ s = 0 := by simp
    have h64 : (18446744073709551616 : Int) % 2 ^ s = 0 := by rw [← e64]; simp
    -- both are multiples of 2^s
    obtain ⟨k, hk⟩ : ∃ k : Int, (18446744073709551616 : Int) = k * 2 ^ s := ⟨2 ^ (64 - s), e64.symm⟩
    have hlt : dh < k := by
      have : dh * 2 ^ s < k * 2 ^ s := by omega
      exact Int.lt_of_mul_lt_mul_right this (by omega)
    have h3 : (dh + 1) * 2 ^ s ≤ k * 2 ^ s := Int.mul_le_mul_of_nonneg_right (by omega) (by omega)
    rw [Int.add_mul] at h3
    omega
  have hw0 : 0 ≤ wh m := by unfold wh; omega
  have hw1 : wh m ≤ 18446744073709551615 := by unfold wh; omega
  obtain ⟨em, a0, a1⟩ := wv m
  have j2 : bits .or .u64 (IntKind.u64.wrap (wh m * 9223372036854775808)) (wl m / 2) = wh m % 2 * 9223372036854775808 + wl m / 2 := by
    have e : IntKind.u64.wrap (wh m * 9223372036854775808) = wh m % 2 * 9223372036854775808 := by rw [IntKind.wrap_u64]; omega
    rw [e]
    exact or_join _ _ 63 (by omega) (by omega) (by omega) (by show _ % 9223372036854775808 = 0; omega) (by omega) (by show _ < 9223372036854775808; omega)
  have ed : (dh * 18446744073709551616 + dl) / 2 ^ (64 - s) = dh * 2 ^ s + dl / 2 ^ (64 - s) := by
    rw [← e64, Int.mul_left_comm, Int.add_comm, Int.add_mul_ediv_left _ _ (by omega), Int.add_comm]
  have hd : 18446744073709551616 ≤ dh * 18446744073709551616 + dl := by omega
  have eg : m / 2 / (dh * 2 ^ s + dl / 2 ^ (64 - s)) / 2 ^ (63 - s) = m / ((dh * 2 ^ s + dl / 2 ^ (64 - s)) * 2 ^ (64 - s)) := by
    rw [div_div m 2 _ (by omega) (by omega), div_div _ _ _ (by omega) (by omega), et]
    congr 1
    rw [Int.mul_right_comm, Int.mul_comm]
  have ht2 : 2 ≤ (2 : Int) ^ (64 - s) := by rw [et]; omega
  obtain ⟨g0, g1, g2, g3⟩ := guess_low m (dh * 18446744073709551616 + dl) (2 ^ (64 - s)) (dh * 2 ^ s + dl / 2 ^ (64 - s)) _ m0 m1 ht2 ed.symm (by omega) hd rfl
  have hm2 : m / 2 / (dh * 2 ^ s + dl / 2 ^ (64 - s)) ≤ 18446744073709551615 := by
    have h4 := Int.ediv_lt_of_lt_mul (a := m / 2) (b := 18446744073709551616) (c := dh * 2 ^ s + dl / 2 ^ (64 - s)) (by omega) (by
      have := Int.mul_le_mul_of_nonneg_left (show 9223372036854775808 ≤ dh * 2 ^ s + dl / 2 ^ (64 - s) by omega) (show (0 : Int) ≤ 18446744073709551616 by omega)
      omega)
    omega
  have hg1 : m / 2 / (dh * 2 ^ s + dl / 2 ^ (64 - s)) / 2 ^ (63 - s) ≤ 18446744073709551615 := by
    have := Int.ediv_le_self (a := m / 2 / (dh * 2 ^ s + dl / 2 ^ (64 - s))) (2 ^ (63 - s)) (Int.ediv_nonneg (by omega) (by omega))
    omega
  exact ⟨_, _, _, j1, by omega, hle, j2, by omega, by omega, by omega, by omega, by omega, Int.ediv_nonneg (by omega) (by omega), hm2, rfl, by rw [eg]; exact g0, hg1, by rw [eg]; exact g2, by rw [eg]; exact g3⟩
theorem word_mul (g dh dl : Int) (g0 : 0 ≤ g) (h0 : 0 ≤ dh) (l0 : 0 ≤ dl) (h : g * (dh * 18446744073709551616 + dl) < 340282366920938463463374607431768211456) :
    (g * dl / 18446744073709551616 + g * dh % 18446744073709551616) % 18446744073709551616 = wh (g * (dh * 18446744073709551616 + dl)) ∧ g * dl % 18446744073709551616 = wl (g * (dh * 18446744073709551616 + dl)) := by
  have e : g * (dh * 18446744073709551616 + dl) = g * dh * 18446744073709551616 + g * dl := by rw [Int.mul_add, Int.mul_assoc]
  have x0 := Int.mul_nonneg g0 h0
  have y0 := Int.mul_nonneg g0 l0
  rw [e] at h ⊢
  generalize g * dh = X at *
  generalize g * dl = Y at *
  unfold wh wl
  omega
/-- a division by one word, word by word -/
theorem div_words (m d : Int) (m0 : 0 ≤ m) (m1 : m < 340282366920938463463374607431768211456) (d0 : 0 < d) (d1 : d ≤ 18446744073709551615) :
    wh (m / d) = wh m / d ∧ wl (m / d) = (wh m % d * 18446744073709551616 + wl m) / d ∧ (wh m % d * 18446744073709551616 + wl m) % d = m % d ∧ wh m % d < d ∧ 0 ≤ wh m % d ∧ 0 ≤ wh m / d := by
  have em := wv m
  have w0 : 0 ≤ wh m := by unfold wh; omega
  have r1 := Int.emod_nonneg (wh m) (show d ≠ 0 by omega)
  have r2 := Int.emod_lt_of_pos (wh m) d0
  have e1 := Int.emod_add_mul_ediv (wh m) d
  have q0 : 0 ≤ wh m / d := Int.ediv_nonneg w0 (by omega)
  generalize wh m % d = r at *
  generalize wh m / d = q at *
  have t0 : 0 ≤ (r * 18446744073709551616 + wl m) / d := Int.ediv_nonneg (by omega) (by omega)
  have t1 : (r * 18446744073709551616 + wl m) / d < 18446744073709551616 := Int.ediv_lt_of_lt_mul (by omega) (by
    have := Int.mul_le_mul_of_nonneg_right (show r + 1 ≤ d by omega) (show (0 : Int) ≤ 18446744073709551616 by omega)
    rw [Int.add_mul] at this
    rw [Int.mul_comm 18446744073709551616 d]
    omega)
  have hm : m = q * 18446744073709551616 * d + (r * 18446744073709551616 + wl m) := by
    have : q * 18446744073709551616 * d = d * q * 18446744073709551616 := by rw [Int.mul_right_comm, Int.mul_comm q d]
    rw [this]; omega
  have eq : m / d = q * 18446744073709551616 + (r * 18446744073709551616 + wl m) / d := by
    conv => lhs; rw [hm]
    rw [Int.add_comm, Int.add_mul_ediv_right _ _ (by omega), Int.add_comm]
  have er : (r * 18446744073709551616 + wl m) % d = m % d := by
    conv => rhs; rw [hm]
    rw [Int.add_comm (q * 18446744073709551616 * d), Int.add_mul_emod_self_right]
  exact ⟨by rw [eq, wh_of _ _ t0 (by omega)], by rw [eq, wl_of _ _ t0 (by omega)], er, r2, r1, q0⟩
end Go.Proofs.Ytfmijkbmedfcfaa
