/-
  Plain numbers: rounded quotients, partial products, digits of a long division. Nothing of the program.
-/
import Derived.Laws.Bits64
import Derived.Laws.BitsAllLaws
import Derived.IntWalk
namespace Go.Proofs.Ytfmijkbmedfcfaa
open Go.RowKit
set_option linter.unusedVariables false
set_option linter.unusedSimpArgs false

/-! plain numbers -/
def rnd (way n d : Int) : Int := if way = 0 then n.fdiv d else if way = 1 then -((-n).fdiv d) else (2 * n + d).fdiv (2 * d)
def fit64 (x : Int) : Bool := decide (-9223372036854775808 ≤ x ∧ x ≤ 9223372036854775807)
def mqe (way a b c : Int) : Int := if c = 0 then 1 else if fit64 (rnd way (a * b) c) then 0 else 2
def mqv (way a b c : Int) : Int := if c = 0 then 0 else if fit64 (rnd way (a * b) c) then rnd way (a * b) c else 0
/-- does rounding make the magnitude greater -/
def gr (way r d : Int) (neg : Bool) : Bool :=
  if r = 0 then false else if way = 0 then neg else if way = 1 then !neg else if neg then decide (d < 2 * r) else decide (d ≤ 2 * r)
def bi (b : Bool) : Int := if b then 1 else 0

theorem rnd_flip (way n d : Int) : rnd way (-n) (-d) = rnd way n d := by
  unfold rnd
  have h1 : (-n).fdiv (-d) = n.fdiv d := Int.neg_fdiv_neg ..
  have h2 : (- -n).fdiv (-d) = (-n).fdiv d := Int.neg_fdiv_neg ..
  have h3 : (2 * -n + -d).fdiv (2 * -d) = (2 * n + d).fdiv (2 * d) := by
    rw [show (2 * -n + -d) = -(2 * n + d) from by omega, show (2 * -d) = -(2 * d) from by omega]; exact Int.neg_fdiv_neg ..
  rw [h1, h2, h3]

theorem div_of (x d q : Int) (hd : 0 < d) (h1 : q * d ≤ x) (h2 : x < q * d + d) : x.fdiv d = q := by
  rw [Int.fdiv_eq_ediv_of_nonneg _ (by omega)]
  have e : x = (x - q * d) + q * d := by omega
  rw [e, Int.add_mul_ediv_right _ _ (by omega), Int.ediv_eq_zero_of_lt (by omega) (by omega)]; omega

theorem rnd_pos (way q r d : Int) (hw : way = 0 ∨ way = 1 ∨ way = 2) (hd : 0 < d) (h1 : 0 ≤ r) (h2 : r < d) : rnd way (q * d + r) d = q + bi (gr way r d false) := by
  rcases hw with rfl | rfl | rfl
  · simp only [rnd, gr, bi]; simp
    exact div_of _ _ _ hd (by omega) (by omega)
  · simp only [rnd, gr, bi]; simp
    by_cases h : r = 0
    · subst h; simp
      rw [div_of (-(q * d)) d (-q) hd (by rw [Int.neg_mul]; omega) (by rw [Int.neg_mul]; omega)]; omega
    · simp [h]
      rw [div_of (-(q * d + r)) d (-q - 1) hd (by rw [Int.sub_mul, Int.neg_mul]; omega) (by rw [Int.sub_mul, Int.neg_mul]; omega)]; omega
  · simp only [rnd, gr, bi]; simp
    by_cases h : r = 0
    · subst h; simp
      exact div_of _ _ _ (by omega) (by rw [show q * (2 * d) = 2 * (q * d) from by rw [Int.mul_left_comm]]; omega) (by rw [show q * (2 * d) = 2 * (q * d) from by rw [Int.mul_left_comm]]; omega)
    · simp [h]
      by_cases h3 : d ≤ 2 * r
      · simp [h3]
        refine div_of _ _ _ (by omega) ?_ ?_ <;> rw [show (q + 1) * (2 * d) = 2 * (q * d) + 2 * d from by rw [Int.add_mul, Int.mul_left_comm]; omega] <;> omega
      · simp [h3]
        refine div_of _ _ _ (by omega) ?_ ?_ <;> rw [show q * (2 * d) = 2 * (q * d) from by rw [Int.mul_left_comm]] <;> omega

theorem rnd_neg (way q r d : Int) (hw : way = 0 ∨ way = 1 ∨ way = 2) (hd : 0 < d) (h1 : 0 ≤ r) (h2 : r < d) : rnd way (-(q * d + r)) d = -(q + bi (gr way r d true)) := by
  rcases hw with rfl | rfl | rfl
  · simp only [rnd, gr, bi]; simp
    by_cases h : r = 0
    · subst h; simp
      rw [div_of (-(q * d)) d (-q) hd (by rw [Int.neg_mul]; omega) (by rw [Int.neg_mul]; omega)]
    · simp [h]
      rw [div_of (-(q * d + r)) d (-q - 1) hd (by rw [Int.sub_mul, Int.neg_mul]; omega) (by rw [Int.sub_mul, Int.neg_mul]; omega)]; omega
  · simp only [rnd, gr, bi]; simp
    rw [div_of _ d q hd (by omega) (by omega)]
  · simp only [rnd, gr, bi]; simp
    by_cases h : r = 0
    · subst h; simp
      refine div_of _ _ _ (by omega) ?_ ?_ <;> rw [show -q * (2 * d) = - (2 * (q * d)) from by rw [Int.neg_mul, Int.mul_left_comm]] <;> omega
    · simp [h]
      by_cases h3 : d < 2 * r
      · simp [h3]
        refine div_of _ _ _ (by omega) ?_ ?_ <;> rw [show -(q + 1) * (2 * d) = - (2 * (q * d)) - 2 * d from by rw [Int.neg_mul, Int.add_mul, Int.mul_left_comm]; omega] <;> omega
      · simp [h3]
        refine div_of _ _ _ (by omega) ?_ ?_ <;> rw [show -q * (2 * d) = - (2 * (q * d)) from by rw [Int.neg_mul, Int.mul_left_comm]] <;> omega
theorem and32 (a : Int) (h0 : 0 ≤ a) (h1 : a ≤ 18446744073709551615) : bits .and .u64 a 4294967295 = a % 4294967296 := by
  rw [u64_and a 4294967295 h0 (by omega) (by omega) (by omega)]
  have e : (4294967295 : Int).toNat = 4294967295 := rfl
  rw [e, nat_mask32]; omega
theorem or_join (x y : Int) (k : Nat) (hk : k ≤ 64) (h0 : 0 ≤ x) (h1 : x ≤ 18446744073709551615) (hx : x % 2 ^ k = 0) (h2 : 0 ≤ y) (h3 : y < 2 ^ k) : bits .or .u64 x y = x + y := by
  have h4 : (2 : Int) ^ k ≤ 2 ^ 64 := by
    have := Nat.pow_le_pow_right (n := 2) (by omega) hk
    exact_mod_cast this
  rw [u64_or x y h0 (by omega) h2 (by omega)]
  have e : x.toNat ||| y.toNat = x.toNat + y.toNat := by
    refine nat_join k _ _ ?_ ?_
    · have : ((x.toNat % 2 ^ k : Nat) : Int) = 0 := by push_cast; rw [Int.toNat_of_nonneg h0]; exact hx
      exact_mod_cast this
    · have : ((y.toNat : Nat) : Int) < ((2 ^ k : Nat) : Int) := by rw [Int.toNat_of_nonneg h2]; push_cast; exact h3
      exact_mod_cast this
  rw [e]; omega

theorem le_mul (x y m n : Int) (h0 : 0 ≤ x) (h1 : x ≤ m) (h2 : 0 ≤ y) (h3 : y ≤ n) : 0 ≤ x * y ∧ x * y ≤ m * n :=
  ⟨Int.mul_nonneg h0 h2, Int.mul_le_mul h1 h3 h2 (by omega)⟩

/-- the four products of halves -/
theorem mul64_math (a b : Int) (h0 : 0 ≤ a) (h1 : a ≤ 18446744073709551615) (h2 : 0 ≤ b) (h3 : b ≤ 18446744073709551615) :
    ∃ p q r s : Int, p = (a / 4294967296) * (b / 4294967296) ∧ q = (a / 4294967296) * (b % 4294967296) ∧ r = (a % 4294967296) * (b / 4294967296) ∧ s = (a % 4294967296) * (b % 4294967296)
      ∧ 0 ≤ p ∧ p ≤ 18446744065119617025 ∧ 0 ≤ q ∧ q ≤ 18446744065119617025 ∧ 0 ≤ r ∧ r ≤ 18446744065119617025 ∧ 0 ≤ s ∧ s ≤ 18446744065119617025
      ∧ a * b = p * 18446744073709551616 + (q + r) * 4294967296 + s := by
  refine ⟨_, _, _, _, rfl, rfl, rfl, rfl, ?_⟩
  have b1 := le_mul (a / 4294967296) (b / 4294967296) 4294967295 4294967295 (by omega) (by omega) (by omega) (by omega)
  have b2 := le_mul (a / 4294967296) (b % 4294967296) 4294967295 4294967295 (by omega) (by omega) (by omega) (by omega)
  have b3 := le_mul (a % 4294967296) (b / 4294967296) 4294967295 4294967295 (by omega) (by omega) (by omega) (by omega)
  have b4 := le_mul (a % 4294967296) (b % 4294967296) 4294967295 4294967295 (by omega) (by omega) (by omega) (by omega)
  refine ⟨b1.1, b1.2, b2.1, b2.2, b3.1, b3.2, b4.1, b4.2, ?_⟩
  have ea : a = (a / 4294967296) * 4294967296 + a % 4294967296 := by omega
  have eb : b = (b / 4294967296) * 4294967296 + b % 4294967296 := by omega
  generalize a / 4294967296 = a1 at *
  generalize b / 4294967296 = b1 at *
  generalize a % 4294967296 = a0 at *
  generalize b % 4294967296 = b0 at *
  subst ea eb
  grind

theorem mul_hi (a b : Int) (h0 : 0 ≤ a) (h1 : a ≤ 18446744073709551615) (h2 : 0 ≤ b) (h3 : b ≤ 18446744073709551615) :
    (a / 4294967296) * (b / 4294967296) + ((a / 4294967296) * (b % 4294967296) + (a % 4294967296) * (b % 4294967296) / 4294967296) / 4294967296
      + (((a / 4294967296) * (b % 4294967296) + (a % 4294967296) * (b % 4294967296) / 4294967296) % 4294967296 + (a % 4294967296) * (b / 4294967296)) / 4294967296
      = a * b / 18446744073709551616 := by
  obtain ⟨p, q, r, s, ep, eq, er, es, hp, hp', hq, hq', hr, hr', hs, hs', e⟩ := mul64_math a b h0 h1 h2 h3
  rw [← ep, ← eq, ← er, ← es, e]; clear ep eq er es e; omega
theorem mul_lo (a b : Int) (h0 : 0 ≤ a) (h1 : a ≤ 18446744073709551615) (h2 : 0 ≤ b) (h3 : b ≤ 18446744073709551615) :
    (((a % 4294967296) * (b / 4294967296) + ((a / 4294967296) * (b % 4294967296) + (a % 4294967296) * (b % 4294967296) / 4294967296) % 4294967296) * 4294967296) % 18446744073709551616 + (a % 4294967296) * (b % 4294967296) % 4294967296
      = a * b % 18446744073709551616 := by
  obtain ⟨p, q, r, s, ep, eq, er, es, hp, hp', hq, hq', hr, hr', hs, hs', e⟩ := mul64_math a b h0 h1 h2 h3
  rw [← eq, ← er, ← es, e]; clear ep eq er es e; omega

/-- one digit of a long division: B = 2^32, y = y1 * B + y0 with y1 at least 2^31, u < y, t = u * B + v the part to divide -/
theorem digit_le (y1 y0 u v q : Int)
    (h : q * y0 ≤ (u - q * y1) * 4294967296 + v) : q * (y1 * 4294967296 + y0) ≤ u * 4294967296 + v := by
  rw [Int.mul_add, ← Int.mul_assoc]
  rw [Int.sub_mul] at h; omega
theorem digit_gt (y1 y0 u v q : Int) 
    (h : (u - q * y1) * 4294967296 + v < q * y0) : u * 4294967296 + v < q * (y1 * 4294967296 + y0) := by
  rw [Int.mul_add, ← Int.mul_assoc]
  rw [Int.sub_mul] at h; omega
/-- the true digit -/
def dig (y t : Int) : Int := t / y
theorem dig_ge (y t q : Int) (hy : 0 < y) (h : q * y ≤ t) : q ≤ dig y t := by
  unfold dig; exact (Int.le_ediv_iff_mul_le hy).2 h
theorem dig_lt (y t q : Int) (hy : 0 < y) (h : t < q * y) : dig y t < q := by
  unfold dig; exact (Int.ediv_lt_iff_lt_mul hy).2 h
theorem dig_mul (y t : Int) (hy : 0 < y) : dig y t * y ≤ t ∧ t < dig y t * y + y := by
  unfold dig; have := Int.emod_add_mul_ediv t y; have h1 := Int.emod_nonneg t (show y ≠ 0 by omega); have h2 := Int.emod_lt_of_pos t hy
  rw [Int.mul_comm]; omega
/-- at the start the digit is too great by at most 1 over 2^32 -/
theorem dig_start (y1 y0 u v : Int) (hy1 : 2147483648 ≤ y1) (hy1' : y1 ≤ 4294967295) (hy0 : 0 ≤ y0) (hy0' : y0 ≤ 4294967295) (hu : 0 ≤ u) (hlt : u < y1 * 4294967296 + y0) (hv : 0 ≤ v) (hv' : v ≤ 4294967295) :
    dig (y1 * 4294967296 + y0) (u * 4294967296 + v) ≤ u / y1 ∧ u / y1 ≤ 4294967297 ∧ 0 ≤ u / y1 ∧ 0 ≤ u - (u / y1) * y1 ∧ u - (u / y1) * y1 < y1 := by
  have hm := Int.emod_add_mul_ediv u y1
  have h1 := Int.emod_nonneg u (show y1 ≠ 0 by omega)
  have h2 := Int.emod_lt_of_pos u (show 0 < y1 by omega)
  have h0 : 0 ≤ u / y1 := Int.ediv_nonneg hu (by omega)
  rw [Int.mul_comm] at hm
  refine ⟨?_, ?_, h0, by omega, by omega⟩
  · have := dig_lt (y1 * 4294967296 + y0) (u * 4294967296 + v) (u / y1 + 1) (by omega) ?_
    · omega
    · refine digit_gt y1 y0 u v _ ?_
      have e : (u / y1 + 1) * y1 = u / y1 * y1 + y1 := by rw [Int.add_mul]; omega
      rw [e]
      have := le_mul (u / y1 + 1) y0 (u / y1 + 1) y0 (by omega) (by omega) hy0 (by omega)
      omega
  · have : u / y1 < 4294967298 := by
      rw [Int.ediv_lt_iff_lt_mul (by omega)]; omega
    omega
theorem dig_bd (y t : Int) (hy : 0 < y) (ht : 0 ≤ t) (h : t < y * 4294967296) : 0 ≤ dig y t ∧ dig y t ≤ 4294967295 := by
  have h1 := dig_lt y t 4294967296 hy (by rw [Int.mul_comm]; exact h)
  have h2 : 0 ≤ dig y t := Int.ediv_nonneg ht (by omega)
  omega

/-! the length of a number in bits -/
def nlen (n : Nat) : Nat := if n = 0 then 0 else Nat.log2 n + 1
theorem nlen_of (n L : Nat) (h1 : 2 ^ L ≤ n) (h2 : n < 2 ^ (L + 1)) : nlen n = L + 1 := by
  have h0 : n ≠ 0 := by have := Nat.two_pow_pos L; omega
  unfold nlen; rw [if_neg h0, (Nat.log2_eq_iff h0).2 ⟨h1, h2⟩]
theorem nlen_bd (n : Nat) (h0 : n ≠ 0) : 1 ≤ nlen n ∧ 2 ^ (nlen n - 1) ≤ n ∧ n < 2 ^ nlen n := by
  have h := (Nat.log2_eq_iff (n := n) (k := n.log2) h0).1 rfl
  unfold nlen; rw [if_neg h0]; exact ⟨by omega, by simpa using h.1, h.2⟩
theorem nlen_shift (n k : Nat) (h : 2 ^ k ≤ n) : nlen n = nlen (n / 2 ^ k) + k := by
  have hp := Nat.two_pow_pos k
  have h0 : n / 2 ^ k ≠ 0 := by have := Nat.div_pos h hp; omega
  have ⟨a1, a2, a3⟩ := nlen_bd _ h0
  have e : nlen n = (nlen (n / 2 ^ k) - 1 + k) + 1 := by
    refine nlen_of _ _ ?_ ?_
    · rw [Nat.pow_add]; exact (Nat.le_div_iff_mul_le hp).1 a2
    · rw [show nlen (n / 2 ^ k) - 1 + k + 1 = nlen (n / 2 ^ k) + k from by omega, Nat.pow_add]; exact (Nat.div_lt_iff_lt_mul hp).1 a3
  omega
def blen (a : Int) : Int := nlen a.toNat
theorem blen_shift (a : Int) (k : Nat) (m : Int) (hm : m = 2 ^ k) (h : m ≤ a) : blen a = blen (a / m) + k := by
  subst hm
  have hp := Nat.two_pow_pos k
  have h' : 2 ^ k ≤ a.toNat := by
    have : ((2 ^ k : Nat) : Int) ≤ a := by push_cast; exact h
    omega
  have e : (a / 2 ^ k).toNat = a.toNat / 2 ^ k := by
    have hp' : (0 : Int) < 2 ^ k := by exact_mod_cast hp
    obtain ⟨n, rfl⟩ := Int.eq_ofNat_of_zero_le (show 0 ≤ a by omega)
    have h4 : ((n : Int) / 2 ^ k) = ((n / 2 ^ k : Nat) : Int) := by push_cast; rfl
    rw [h4]; rfl
  unfold blen; rw [nlen_shift _ _ h', e]; omega
theorem blen_bd (a : Int) (h : 0 < a) (h1 : a ≤ 18446744073709551615) : ∃ s : Nat, s ≤ 63 ∧ blen a = 64 - (s : Int) ∧ 9223372036854775808 ≤ a * 2 ^ s ∧ a * 2 ^ s ≤ 18446744073709551615 := by
  have ⟨a1, a2, a3⟩ := nlen_bd a.toNat (by omega)
  have hL : nlen a.toNat ≤ 64 := by
    have : 2 ^ (nlen a.toNat - 1) < 2 ^ 64 := by omega
    have := (Nat.pow_lt_pow_iff_right (a := 2) (by omega)).1 this
    omega
  refine ⟨64 - nlen a.toNat, by omega, by unfold blen; omega, ?_⟩
  obtain ⟨n, rfl⟩ := Int.eq_ofNat_of_zero_le (Int.le_of_lt h)
  simp only [Int.toNat_natCast] at *
  generalize hk : nlen n = L at *
  have e1 : 2 ^ (L - 1) * 2 ^ (64 - L) = 2 ^ 63 := by rw [← Nat.pow_add]; congr 1; omega
  have e2 : 2 ^ L * 2 ^ (64 - L) = 2 ^ 64 := by rw [← Nat.pow_add]; congr 1; omega
  have h4 : 2 ^ 63 ≤ n * 2 ^ (64 - L) := by rw [← e1]; exact Nat.mul_le_mul_right _ a2
  have h5 : n * 2 ^ (64 - L) < 2 ^ 64 := by rw [← e2]; exact Nat.mul_lt_mul_of_pos_right a3 (Nat.two_pow_pos _)
  have h6 : ((n : Int) * 2 ^ (64 - L)) = ((n * 2 ^ (64 - L) : Nat) : Int) := by push_cast; rfl
  rw [h6]; omega
def len8 : ByteArray := ⟨#[0, 1, 2, 2, 3, 3, 3, 3, 4, 4, 4, 4, 4, 4, 4, 4, 5, 5, 5, 5, 5, 5, 5, 5, 5, 5, 5, 5, 5, 5, 5, 5, 6, 6, 6, 6, 6, 6, 6, 6, 6, 6, 6, 6, 6, 6, 6, 6, 6, 6, 6, 6, 6, 6, 6, 6, 6, 6, 6, 6, 6, 6, 6, 6, 7, 7, 7, 7, 7, 7, 7, 7, 7, 7, 7, 7, 7, 7, 7, 7, 7, 7, 7, 7, 7, 7, 7, 7, 7, 7, 7, 7, 7, 7, 7, 7, 7, 7, 7, 7, 7, 7, 7, 7, 7, 7, 7, 7, 7, 7, 7, 7, 7, 7, 7, 7, 7, 7, 7, 7, 7, 7, 7, 7, 7, 7, 7, 7, 8, 8, 8, 8, 8, 8, 8, 8, 8, 8, 8, 8, 8, 8, 8, 8, 8, 8, 8, 8, 8, 8, 8, 8, 8, 8, 8, 8, 8, 8, 8, 8, 8, 8, 8, 8, 8, 8, 8, 8, 8, 8, 8, 8, 8, 8, 8, 8, 8, 8, 8, 8, 8, 8, 8, 8, 8, 8, 8, 8, 8, 8, 8, 8, 8, 8, 8, 8, 8, 8, 8, 8, 8, 8, 8, 8, 8, 8, 8, 8, 8, 8, 8, 8, 8, 8, 8, 8, 8, 8, 8, 8, 8, 8, 8, 8, 8, 8, 8, 8, 8, 8, 8, 8, 8, 8, 8, 8, 8, 8, 8, 8, 8, 8, 8, 8, 8, 8, 8, 8, 8, 8, 8, 8, 8, 8, 8, 8]⟩
theorem len8_all : ∀ n : Fin 256, (len8.get! n.val).toNat = nlen n.val := by decide +kernel
theorem len8_at (t : ByteArray) (ht : t = len8) (n : Nat) (h : n < t.size) (h' : n < 256) : (t[n]).toNat = nlen n := by
  subst ht
  have := len8_all ⟨n, h'⟩
  rw [← this]
  have e : len8.get! n = len8[n] := by
    show len8.data[n]! = len8.data[n]
    rw [getElem!_pos len8.data n h]
  rw [e]

/-! a long division of two words by one: y = c * 2^s with its top bit set -/
theorem pow_shift (b : Int) (s : Nat) (hs : s ≤ 63) (h0 : 0 ≤ b) (h1 : b ≤ 18446744073709551615) :
    0 ≤ b / 2 ^ (64 - s) ∧ b / 2 ^ (64 - s) < 2 ^ s ∧ b * 2 ^ s = (b / 2 ^ (64 - s)) * 18446744073709551616 + (b * 2 ^ s) % 18446744073709551616 := by
  have e : (2 : Int) ^ (64 - s) * 2 ^ s = 18446744073709551616 := by rw [← Int.pow_add, show 64 - s + s = 64 from by omega]; rfl
  have hp : (0 : Int) < 2 ^ (64 - s) := Int.pow_pos (by omega)
  have hq : (0 : Int) < 2 ^ s := Int.pow_pos (by omega)
  have hm := Int.emod_add_mul_ediv b (2 ^ (64 - s))
  have h2 := Int.emod_nonneg b (show (2 : Int) ^ (64 - s) ≠ 0 by omega)
  have h3 := Int.emod_lt_of_pos b hp
  refine ⟨Int.ediv_nonneg h0 (by omega), ?_, ?_⟩
  · rw [Int.ediv_lt_iff_lt_mul hp, Int.mul_comm, e]; omega
  · generalize b / 2 ^ (64 - s) = d at *
    generalize b % 2 ^ (64 - s) = m at *
    have e2 : b * 2 ^ s = d * 18446744073709551616 + m * 2 ^ s := by rw [← hm, Int.add_mul, Int.mul_right_comm, e]; rw [Int.mul_comm d]; omega
    have h4 : 0 ≤ m * 2 ^ s := Int.mul_nonneg h2 (by omega)
    have h5 : m * 2 ^ s < 18446744073709551616 := by rw [← e]; exact Int.mul_lt_mul_of_pos_right h3 hq
    rw [e2]; omega
/-- what the shifts give: u and v are the words of (a * 2^64 + b) * 2^s -/
theorem norm_words (a b c : Int) (s : Nat) (hs : s ≤ 63) (h0 : 0 ≤ a) (h2 : 0 ≤ b) (h3 : b ≤ 18446744073709551615) (h6 : a < c) (hc : c * 2 ^ s ≤ 18446744073709551615) :
    ∃ u v : Int, bits .or .u64 (IntKind.u64.wrap (a * 2 ^ s)) (b / 2 ^ (64 - s)) = u ∧ IntKind.u64.wrap (b * 2 ^ s) = v ∧ 0 ≤ u ∧ u < c * 2 ^ s ∧ 0 ≤ v ∧ v ≤ 18446744073709551615 ∧ u * 18446744073709551616 + v = (a * 18446744073709551616 + b) * 2 ^ s := by
  have ⟨p1, p2, p3⟩ := pow_shift b s hs h2 h3
  have hq : (0 : Int) < 2 ^ s := Int.pow_pos (by omega)
  have ha : 0 ≤ a * 2 ^ s := Int.mul_nonneg h0 (by omega)
  have ha2 : a * 2 ^ s + 2 ^ s ≤ c * 2 ^ s := by
    have : (a + 1) * 2 ^ s ≤ c * 2 ^ s := Int.mul_le_mul_of_nonneg_right (by omega) (by omega)
    rw [Int.add_mul] at this; omega
  refine ⟨a * 2 ^ s + b / 2 ^ (64 - s), (b * 2 ^ s) % 18446744073709551616, ?_, IntKind.wrap_u64 _, by omega, by omega, by omega, by omega, ?_⟩
  · rw [IntWalk.u64_in _ (by omega)]
    exact or_join _ _ s (by omega) ha (by omega) (by simp) p1 p2
  · generalize b / 2 ^ (64 - s) = d at *
    rw [Int.add_mul (a * 18446744073709551616), p3, Int.add_mul, Int.mul_right_comm]; omega
theorem shift_back (t c : Int) (s : Nat) (hc : 0 < c) : dig (c * 2 ^ s) (t * 2 ^ s) = t / c ∧ (t * 2 ^ s - dig (c * 2 ^ s) (t * 2 ^ s) * (c * 2 ^ s)) / 2 ^ s = t % c := by
  have hq : (0 : Int) < 2 ^ s := Int.pow_pos (by omega)
  have e : dig (c * 2 ^ s) (t * 2 ^ s) = t / c := by unfold dig; exact Int.mul_ediv_mul_of_pos_left _ _ hq
  refine ⟨e, ?_⟩
  rw [e, show t * 2 ^ s - t / c * (c * 2 ^ s) = (t - t / c * c) * 2 ^ s from by rw [Int.sub_mul, Int.mul_assoc], Int.mul_ediv_cancel _ (by omega), Int.emod_def, Int.mul_comm]
/-- two digits make the quotient -/
theorem two_digits (y u v1 v0 : Int) (hy : 0 < y) (hu : 0 ≤ u) (hlt : u < y) (h0 : 0 ≤ v1) (h1 : v1 ≤ 4294967295) (h2 : 0 ≤ v0) (h3 : v0 ≤ 4294967295) :
    let d1 := dig y (u * 4294967296 + v1)
    let m := u * 4294967296 + v1 - d1 * y
    let d0 := dig y (m * 4294967296 + v0)
    0 ≤ d1 ∧ d1 ≤ 4294967295 ∧ 0 ≤ m ∧ m < y ∧ 0 ≤ d0 ∧ d0 ≤ 4294967295 ∧ d1 * 4294967296 + d0 = dig y (u * 18446744073709551616 + (v1 * 4294967296 + v0)) ∧ m * 4294967296 + v0 - d0 * y = u * 18446744073709551616 + (v1 * 4294967296 + v0) - (d1 * 4294967296 + d0) * y ∧ 0 ≤ m * 4294967296 + v0 - d0 * y ∧ m * 4294967296 + v0 - d0 * y < y := by
  intro d1 m d0
  have hb1 := dig_bd y (u * 4294967296 + v1) hy (by omega) (by omega)
  have hm1 := dig_mul y (u * 4294967296 + v1) hy
  have hm : 0 ≤ m ∧ m < y := by show 0 ≤ u * 4294967296 + v1 - dig y (u * 4294967296 + v1) * y ∧ _; constructor <;> (try show u * 4294967296 + v1 - dig y (u * 4294967296 + v1) * y < y) <;> omega
  have hb0 := dig_bd y (m * 4294967296 + v0) hy (by omega) (by omega)
  have hm0 := dig_mul y (m * 4294967296 + v0) hy
  have e : m * 4294967296 + v0 - d0 * y = u * 18446744073709551616 + (v1 * 4294967296 + v0) - (d1 * 4294967296 + d0) * y := by
    show (u * 4294967296 + v1 - d1 * y) * 4294967296 + v0 - d0 * y = _
    rw [Int.add_mul (d1 * 4294967296), Int.mul_right_comm d1]; omega
  refine ⟨hb1.1, hb1.2, hm.1, hm.2, hb0.1, hb0.2, ?_, e, ?_, ?_⟩
  · have h4 := dig_ge y (u * 18446744073709551616 + (v1 * 4294967296 + v0)) (d1 * 4294967296 + d0) hy (by
      show _ ≤ _
      have : 0 ≤ m * 4294967296 + v0 - d0 * y := by show 0 ≤ m * 4294967296 + v0 - dig y (m * 4294967296 + v0) * y; omega
      omega)
    have h5 := dig_lt y (u * 18446744073709551616 + (v1 * 4294967296 + v0)) (d1 * 4294967296 + d0 + 1) hy (by
      have : m * 4294967296 + v0 - d0 * y < y := by show m * 4294967296 + v0 - dig y (m * 4294967296 + v0) * y < y; omega
      rw [Int.add_mul]; omega)
    omega
  · show 0 ≤ m * 4294967296 + v0 - dig y (m * 4294967296 + v0) * y; omega
  · show m * 4294967296 + v0 - dig y (m * 4294967296 + v0) * y < y; omega
/-- the loop that corrects a digit: at the true digit its test is false; above it the test is true, and a step goes down -/
theorem digit_stop (y1 y0 u v q : Int) (hy1 : 2147483648 ≤ y1) (hy0 : 0 ≤ y0) (h : q * (y1 * 4294967296 + y0) ≤ u * 4294967296 + v) : q * y0 ≤ 4294967296 * (u - q * y1) + v := by
  rw [Int.mul_add, ← Int.mul_assoc] at h
  rw [Int.mul_sub]; rw [Int.mul_comm 4294967296 (q * y1)]; omega
theorem digit_go (y1 y0 u v q : Int) (hy1 : 2147483648 ≤ y1) (hy0 : 0 ≤ y0) (h : u * 4294967296 + v < q * (y1 * 4294967296 + y0)) : 4294967296 * (u - q * y1) + v < q * y0 := by
  rw [Int.mul_add, ← Int.mul_assoc] at h
  rw [Int.mul_sub]; rw [Int.mul_comm 4294967296 (q * y1)]; omega

/-! sign and magnitude -/
def neg3 (a b c : Int) : Bool := !(!(decide (a < 0) == decide (b < 0)) == decide (c < 0))
theorem mag_rnd (way a b c : Int) (hw : way = 0 ∨ way = 1 ∨ way = 2) (hc : c ≠ 0) :
    rnd way (a * b) c = if neg3 a b c then -((a.natAbs : Int) * b.natAbs / c.natAbs + bi (gr way ((a.natAbs : Int) * b.natAbs % c.natAbs) c.natAbs true)) else (a.natAbs : Int) * b.natAbs / c.natAbs + bi (gr way ((a.natAbs : Int) * b.natAbs % c.natAbs) c.natAbs false) := by
  have hD : (0 : Int) < c.natAbs := by omega
  have hm := Int.emod_add_mul_ediv ((a.natAbs : Int) * b.natAbs) c.natAbs
  have h1 := Int.emod_nonneg ((a.natAbs : Int) * b.natAbs) (show (c.natAbs : Int) ≠ 0 by omega)
  have h2 := Int.emod_lt_of_pos ((a.natAbs : Int) * b.natAbs) hD
  rw [Int.mul_comm (c.natAbs : Int)] at hm
  have hp := rnd_pos way ((a.natAbs : Int) * b.natAbs / c.natAbs) _ c.natAbs hw hD h1 h2
  have hn := rnd_neg way ((a.natAbs : Int) * b.natAbs / c.natAbs) _ c.natAbs hw hD h1 h2
  rw [show (a.natAbs : Int) * b.natAbs / c.natAbs * c.natAbs + (a.natAbs : Int) * b.natAbs % c.natAbs = (a.natAbs : Int) * b.natAbs from by omega] at hp hn
  have ea : (a.natAbs : Int) = if a < 0 then -a else a := by split <;> omega
  have eb : (b.natAbs : Int) = if b < 0 then -b else b := by split <;> omega
  have ec : (c.natAbs : Int) = if c < 0 then -c else c := by split <;> omega
  by_cases ha : a < 0 <;> by_cases hb : b < 0 <;> by_cases hc' : c < 0 <;> simp only [neg3, ha, hb, hc', decide_true, decide_false] <;> simp only [ha, hb, hc', if_true, if_false] at ea eb ec <;> rw [ea, eb, ec] at hp hn ⊢ <;> (try simp only [Int.neg_mul, Int.mul_neg, Int.neg_neg] at hp hn ⊢) <;> first | rw [if_pos (by decide)] | rw [if_neg (by decide)]
  all_goals first | (rw [← hp]; done) | (rw [← hn]; done) | (rw [← rnd_flip]; (try simp only [Int.neg_neg]); first | exact hp | exact hn)
theorem gr_bi (b : Bool) : bi b = 0 ∧ b = false ∨ bi b = 1 ∧ b = true := by cases b <;> simp [bi]
/-- the value and the error of a magnitude with a sign -/
def sgE (x : Int) (n : Bool) : Int := if 9223372036854775808 < x ∨ (x = 9223372036854775808 ∧ n = false) then 2 else 0
def sgV (x : Int) (n : Bool) : Int := if 9223372036854775808 < x ∨ (x = 9223372036854775808 ∧ n = false) then 0 else if n then -x else x
theorem mq_sg (way a b c : Int) (hw : way = 0 ∨ way = 1 ∨ way = 2) (hc : c ≠ 0) (n : Bool) (hn : neg3 a b c = n) (q r : Int) (hq : (a.natAbs : Int) * b.natAbs / c.natAbs = q) (hr : (a.natAbs : Int) * b.natAbs % c.natAbs = r) (hq0 : 0 ≤ q) :
    mqe way a b c = sgE (q + bi (gr way r c.natAbs n)) n ∧ mqv way a b c = sgV (q + bi (gr way r c.natAbs n)) n := by
  have h := mag_rnd way a b c hw hc
  rw [hq, hr, hn] at h
  unfold mqe mqv sgE sgV fit64
  rw [if_neg hc, if_neg hc, h]
  have hb := gr_bi (gr way r c.natAbs n)
  cases n <;> simp <;> generalize hg : bi (gr way r _ _) = g at * <;> (constructor <;> (repeat' split) <;> first | rfl | omega)
/-- beyond 2^63 no rounding helps -/
theorem mq_far (way a b c : Int) (hw : way = 0 ∨ way = 1 ∨ way = 2) (hc : c ≠ 0) (q : Int) (hq : (a.natAbs : Int) * b.natAbs / c.natAbs = q) (h : 9223372036854775808 < q) : mqe way a b c = 2 ∧ mqv way a b c = 0 := by
  have ⟨h1, h2⟩ := mq_sg way a b c hw hc _ rfl q _ hq rfl (by omega)
  have hb := gr_bi (gr way ((a.natAbs : Int) * b.natAbs % c.natAbs) c.natAbs (neg3 a b c))
  rw [h1, h2]; unfold sgE sgV
  rw [if_pos (by omega), if_pos (by omega)]; exact ⟨rfl, rfl⟩
theorem natAbs_bd (a : Int) (h0 : -9223372036854775808 ≤ a) (h1 : a ≤ 9223372036854775807) : 0 ≤ (a.natAbs : Int) ∧ (a.natAbs : Int) ≤ 9223372036854775808 := by omega

theorem tmod_neg (a b : Int) (hb : 0 < b) (h : a.tmod b < 0) : a.tmod b + b = a % b ∧ -b < a.tmod b := by
  have h1 := Int.tmod_add_mul_tdiv a b
  have h2 := Int.lt_tmod_of_pos a hb
  refine ⟨?_, h2⟩
  have e : a = a.tmod b + b + b * (a.tdiv b - 1) := by rw [Int.mul_sub]; omega
  calc a.tmod b + b = (a.tmod b + b) % b := (Int.emod_eq_of_lt (by omega) (by omega)).symm
    _ = (a.tmod b + b + b * (a.tdiv b - 1)) % b := (Int.add_mul_emod_self_left _ _ _).symm
    _ = a % b := by rw [← e]
theorem tmod_pos (a b : Int) (hb : 0 < b) (h : 0 ≤ a.tmod b) : a.tmod b = a % b := by
  have h1 := Int.tmod_add_mul_tdiv a b
  have h2 := Int.tmod_lt_of_pos a hb
  calc a.tmod b = (a.tmod b) % b := (Int.emod_eq_of_lt (by omega) (by omega)).symm
    _ = (a.tmod b + b * (a.tdiv b)) % b := (Int.add_mul_emod_self_left _ _ _).symm
    _ = a % b := by rw [h1]
def modV (a b : Int) : Int := if b < 1 then 0 else a % b
def modE (b : Int) : Int := if b < 1 then 1 else 0
/-- saturation -/
def sat (x : Int) : Int := if x < -9223372036854775808 then -9223372036854775808 else if 9223372036854775807 < x then 9223372036854775807 else x
def clampI (x lo hi : Int) : Int := if x < lo then lo else if hi < x then hi else x
/-- a product, saturated, as quotients see it -/
theorem sat_mul (a b : Int) : sat (a * b) = if mqe 0 a b 1 = 0 then mqv 0 a b 1 else if (!(decide (a < 0) == decide (b < 0))) then -9223372036854775808 else 9223372036854775807 := by
  have e : rnd 0 (a * b) 1 = a * b := by simp [rnd]
  unfold mqe mqv sat fit64
  rw [e]; simp
  by_cases h : -9223372036854775808 ≤ a * b ∧ a * b ≤ 9223372036854775807
  · simp [h]; rw [if_neg (by omega), if_neg (by omega)]
  · rw [if_neg h]
    by_cases h2 : a * b < 0
    · rw [if_pos (by omega)]
      have hne : ¬ (a < 0 ↔ b < 0) := by
        intro hh
        by_cases ha : a < 0
        · have := Int.mul_pos_of_neg_of_neg ha (hh.1 ha); omega
        · have := Int.mul_nonneg (show 0 ≤ a by omega) (show 0 ≤ b by have : ¬ b < 0 := fun x => ha (hh.2 x)
                                                                      omega)
          omega
      simp [hne]
    · rw [if_neg (by omega), if_pos (by omega)]
      have hne : (a < 0 ↔ b < 0) := by
        constructor
        · intro ha
          by_cases hb : b < 0
          · exact hb
          · have := Int.mul_nonneg_of_nonpos_of_nonpos (show a ≤ 0 by omega) (show -b ≤ 0 by omega)
            rw [Int.mul_neg] at this; omega
        · intro hb
          by_cases ha : a < 0
          · exact ha
          · have := Int.mul_nonneg_of_nonpos_of_nonpos (show -a ≤ 0 by omega) (show b ≤ 0 by omega)
            rw [Int.neg_mul] at this; omega
      simp [hne]

/-! square roots, bit by bit -/
theorem ofInt_i64 (a : Nat) (ha : a < 18446744073709551616) : (BitVec.ofInt 64 (a : Int)).toNat = a := ofInt_u64 a ha
theorem i64_or_join (x y k : Nat) (h1 : x + y < 9223372036854775808) (hx : x % 2 ^ k = 0) (h3 : y < 2 ^ k) : bits .or .i64 (x : Int) (y : Int) = ((x + y : Nat) : Int) := by
  have e : x ||| y = x + y := nat_join k x y hx h3
  show IntKind.i64.wrap ((BitVec.ofInt 64 (x : Int) ||| BitVec.ofInt 64 (y : Int)).toNat : Int) = _
  rw [BitVec.toNat_or, ofInt_u64 x (by omega), ofInt_u64 y (by omega), e]
  exact IntWalk.i64_in _ (by omega)
def isqS (n : Nat) : Nat → Nat → Nat
  | 0, r => r
  | k + 1, r => isqS n k (if (r + 2 ^ k) * (r + 2 ^ k) ≤ n then r + 2 ^ k else r)
theorem isqS_ok (n : Nat) : ∀ (k r : Nat), r * r ≤ n → n < (r + 2 ^ k) * (r + 2 ^ k) → isqS n k r * isqS n k r ≤ n ∧ n < (isqS n k r + 1) * (isqS n k r + 1) := by
  intro k
  induction k with
  | zero => intro r h1 h2; exact ⟨h1, h2⟩
  | succ k ih =>
    intro r h1 h2
    show isqS n k (if (r + 2 ^ k) * (r + 2 ^ k) ≤ n then r + 2 ^ k else r) * isqS n k (if (r + 2 ^ k) * (r + 2 ^ k) ≤ n then r + 2 ^ k else r) ≤ n ∧ n < (isqS n k (if (r + 2 ^ k) * (r + 2 ^ k) ≤ n then r + 2 ^ k else r) + 1) * (isqS n k (if (r + 2 ^ k) * (r + 2 ^ k) ≤ n then r + 2 ^ k else r) + 1)
    by_cases h : (r + 2 ^ k) * (r + 2 ^ k) ≤ n
    · rw [if_pos h]; refine ih _ h ?_
      rw [show r + 2 ^ k + 2 ^ k = r + 2 ^ (k + 1) from by rw [Nat.pow_succ]; omega]; exact h2
    · rw [if_neg h]; exact ih _ h1 (by omega)
def isq (n : Int) : Int := if n < 0 then 0 else isqS n.toNat 32 0
def isqUp (n : Int) : Int := if isq n * isq n < n then isq n + 1 else isq n
theorem isq_ok (n : Int) (h0 : 0 ≤ n) (h1 : n < 18446744073709551616) : 0 ≤ isq n ∧ isq n * isq n ≤ n ∧ n < (isq n + 1) * (isq n + 1) ∧ isq n ≤ 4294967295 := by
  have h := isqS_ok n.toNat 32 0 (by omega) (by show n.toNat < (0 + 2 ^ 32) * (0 + 2 ^ 32); omega)
  unfold isq; rw [if_neg (by omega)]
  generalize isqS n.toNat 32 0 = s at *
  have e1 : ((s * s : Nat) : Int) = (s : Int) * s := by push_cast; rfl
  have e2 : (((s + 1) * (s + 1) : Nat) : Int) = ((s : Int) + 1) * (s + 1) := by push_cast; rfl
  refine ⟨by omega, by omega, by omega, ?_⟩
  have h3 : s < 4294967296 := by
    refine Nat.lt_of_not_le fun hh => ?_
    have := Nat.mul_le_mul hh hh
    omega
  omega

theorem clampI_bd (x lo hi : Int) (h : lo ≤ hi) : lo ≤ clampI x lo hi ∧ clampI x lo hi ≤ hi := by
  unfold clampI; split <;> (try split) <;> omega
theorem clampI_neg (x m : Int) (h : 0 ≤ m) : clampI (-x) (-m) m = -clampI x (-m) m := by
  unfold clampI; split <;> split <;> (try split) <;> (try split) <;> omega
theorem clampI_mono (x y lo hi : Int) (hl : lo ≤ hi) (h : x ≤ y) : clampI x lo hi ≤ clampI y lo hi := by
  unfold clampI; split <;> split <;> (try split) <;> (try split) <;> omega
end Go.Proofs.Ytfmijkbmedfcfaa
