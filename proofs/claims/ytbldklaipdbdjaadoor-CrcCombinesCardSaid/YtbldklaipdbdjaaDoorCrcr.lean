/-
  Own arithmetic: damage of a sealed string: bursts of at most 32 bits, pairs of bits.
-/
import Derived.Test.YtbldklaipdbdjaaDoorCrcf
namespace Go.Proofs.YtbldklaipdbdjaaDoor
theorem itb_add (x a : Nat) : ∀ b, itb x (a + b) = itb (itb x a) b
  | 0 => rfl
  | b + 1 => by show bst (itb x (a + b)) = bst (itb (itb x a) b); rw [itb_add x a b]
theorem itst8_itb (x : Nat) : ∀ n, itst8 n x = itb x (8 * n)
  | 0 => rfl
  | n + 1 => by
    show st8 (itst8 n x) = itb x (8 * (n + 1))
    rw [itst8_itb x n, show 8 * (n + 1) = 8 * n + 8 by omega, itb_add]; rfl
theorem itb_xor (x y : Nat) : ∀ k, itb (x ^^^ y) k = itb x k ^^^ itb y k
  | 0 => rfl
  | k + 1 => by show bst _ = bst _ ^^^ bst _; rw [itb_xor x y k, bst_xor]
theorem itb_zero (z : Nat) (h : z < 4294967296) : ∀ k, itb z k = 0 → z = 0
  | 0, e => e
  | k + 1, e => itb_zero z h k (bst_zero _ (itb_lt z h k) e)
theorem itb_inj (x y : Nat) (hx : x < 4294967296) (hy : y < 4294967296) (k : Nat) (e : itb x k = itb y k) : x = y := by
  have h : itb (x ^^^ y) k = 0 := by rw [itb_xor, e, Nat.xor_self]
  exact xor_eq_zero (itb_zero _ (Nat.xor_lt_two_pow (n := 32) hx hy) k h)
theorem itb_shift (x : Nat) : ∀ B, itb (x * 2 ^ B) B = x
  | 0 => by simp [itb]
  | B + 1 => by
    rw [show B + 1 = 1 + B by omega, itb_add]
    have : itb (x * 2 ^ (1 + B)) 1 = x * 2 ^ B := by
      show bst (x * 2 ^ (1 + B)) = _
      rw [show x * 2 ^ (1 + B) = 2 * (x * 2 ^ B) by rw [Nat.pow_add, Nat.pow_one, Nat.mul_left_comm], bst_even]
    rw [this, itb_shift x B]
theorem msk_bit (B pat : Nat) : ∀ k i b, (msk (B : Int) pat k i).testBit b = (decide (b < 8 ∧ B ≤ 8 * i + b ∧ 8 * i + b < B + k) && pat.testBit (8 * i + b - B))
  | 0, i, b => by
    rw [show msk (B : Int) pat 0 i = 0 from rfl, Nat.zero_testBit]
    rw [decide_eq_false (by omega)]; rfl
  | k + 1, i, b => by
    have ih := msk_bit B pat k i b
    have hB : ((B : Int) + k).toNat = B + k := by omega
    have hpb : pat.testBit k = decide (pat / 2 ^ k % 2 = 1) := Nat.testBit_eq_decide_div_mod_eq
    unfold msk
    rw [hB]
    by_cases h1 : 8 * i + b = B + k ∧ b < 8
    · have hi : i = (B + k) / 8 := by omega
      have hb : b = (B + k) % 8 := by omega
      have e0 : decide (b < 8 ∧ B ≤ 8 * i + b ∧ 8 * i + b < B + k) = false := decide_eq_false (by omega)
      have e1 : decide (b < 8 ∧ B ≤ 8 * i + b ∧ 8 * i + b < B + (k + 1)) = true := decide_eq_true (by omega)
      rw [e0] at ih
      rw [e1, show 8 * i + b - B = k by omega, hpb]
      by_cases h2 : pat / 2 ^ k % 2 = 1
      · rw [if_pos ⟨h2, hi⟩, Nat.testBit_xor, ih, Nat.testBit_two_pow, ← hb]
        simp [h2]
      · rw [if_neg (fun h => h2 h.1), ih]
        simp [h2]
    · have e1 : decide (b < 8 ∧ B ≤ 8 * i + b ∧ 8 * i + b < B + (k + 1)) = decide (b < 8 ∧ B ≤ 8 * i + b ∧ 8 * i + b < B + k) := decide_eq_decide.2 (by omega)
      rw [e1, ← ih]
      by_cases h2 : pat / 2 ^ k % 2 = 1 ∧ i = (B + k) / 8
      · rw [if_pos h2, Nat.testBit_xor, Nat.testBit_two_pow]
        have : decide ((B + k) % 8 = b) = false := decide_eq_false (by omega)
        rw [this]; simp
      · rw [if_neg h2]
theorem byteOf_bit (x i b : Nat) : (byteOf x i).testBit b = (decide (b < 8) && x.testBit (8 * i + b)) := by
  unfold byteOf
  rw [show (256 : Nat) ^ i = 2 ^ (8 * i) by rw [Nat.pow_mul], show x / 2 ^ (8 * i) % 256 = x / 2 ^ (8 * i) % 2 ^ 8 by rfl, Nat.testBit_mod_two_pow, Nat.testBit_div_two_pow, Nat.add_comm b]
theorem msk_byte (B pat i : Nat) (hp : pat < 4294967296) : msk (B : Int) pat 32 i = byteOf (pat * 2 ^ B) i := by
  apply Nat.eq_of_testBit_eq
  intro b
  rw [msk_bit, byteOf_bit, Nat.testBit_mul_two_pow]
  by_cases h : b < 8
  · by_cases h2 : B ≤ 8 * i + b
    · by_cases h3 : 8 * i + b < B + 32
      · simp [h, h2, h3]
      · have : pat.testBit (8 * i + b - B) = false := Nat.testBit_lt_two_pow (Nat.lt_of_lt_of_le (show pat < 2 ^ 32 by omega) (Nat.pow_le_pow_right (by omega) (by omega)))
        simp [h, h2, this]
    · simp [h2]
  · simp [h]
/-- the damage alone, put into an empty register -/
theorem rg_msk (B pat n : Nat) (hp : pat < 4294967296) (hB : B ≤ 8 * n) (hn : pat * 2 ^ B < 256 ^ n) : rg (fun i => ((msk (B : Int) pat 32 i : Nat) : Int)) 0 n = itb pat (8 * n - B) := by
  have h := feeds 0 (pat * 2 ^ B) (fun i => ((msk (B : Int) pat 32 i : Nat) : Int)) n (fun i _ => by simp [msk_byte B pat i hp])
  rw [Nat.zero_xor, Nat.div_eq_of_lt hn, Nat.xor_zero, itst8_itb] at h
  rw [h, show 8 * n = B + (8 * n - B) by omega, itb_add, itb_shift, show B + (8 * n - B) - B = 8 * n - B by omega]
theorem ok_lt (B pat n : Nat) (hp : pat < 4294967296) (hB : B ≤ 8 * n) (h : okA n (B : Int) pat) : pat * 2 ^ B < 256 ^ n := by
  have h1 : pat < 2 ^ (8 * n - B) := by
    apply Nat.lt_pow_two_of_testBit
    intro i hi
    by_cases h32 : i < 32
    · rw [Nat.testBit_eq_decide_div_mod_eq]
      refine decide_eq_false (fun hb => ?_)
      have := h i h32 hb
      omega
    · exact Nat.testBit_lt_two_pow (Nat.lt_of_lt_of_le (show pat < 2 ^ 32 by omega) (Nat.pow_le_pow_right (by omega) (by omega)))
  have h2 := Nat.mul_lt_mul_of_pos_right h1 (Nat.two_pow_pos B)
  rw [← Nat.pow_add, show 8 * n - B + B = 8 * n by omega] at h2
  rwa [show (256 : Nat) ^ n = 2 ^ (8 * n) by rw [Nat.pow_mul]]
theorem rg_flip (F : Nat → Int) (B pat n r : Nat) (hp : pat < 4294967296) (hB : B ≤ 8 * n) (h : okA n (B : Int) pat) : rg (flF F (B : Int) pat 32) r n = rg F r n ^^^ itb pat (8 * n - B) := by
  have e := rg_xor (flF F (B : Int) pat 32) F (fun i => ((msk (B : Int) pat 32 i : Nat) : Int)) r 0 n (fun i _ => by simp [flF])
  rw [Nat.xor_zero] at e
  rw [e, rg_msk B pat n hp hB (ok_lt B pat n hp hB h)]
theorem xor_cancel {x y : Nat} (h : x ^^^ y = x) : y = 0 := by
  have : x ^^^ (x ^^^ y) = x ^^^ x := by rw [h]
  rwa [← Nat.xor_assoc, Nat.xor_self, Nat.zero_xor] at this
theorem burst_found (F : Nat → Int) (B pat n : Nat) (hp : pat < 4294967296) (h0 : pat ≠ 0) (hB : B ≤ 8 * n) (h : okA n (B : Int) pat) (hF : cks 0 F n = 558161692) : cks 0 (flF F (B : Int) pat 32) n ≠ 558161692 := by
  intro e
  rw [cks_0] at e hF
  have e2 : rg (flF F (B : Int) pat 32) 4294967295 n = rg F 4294967295 n := by omega
  rw [rg_flip F B pat n _ hp hB h] at e2
  exact h0 (itb_zero pat hp _ (xor_cancel e2))
def chk : Nat → Nat → Bool | 0, _ => true | k + 1, x => x != 1 && chk k (bst x)
theorem chk_ok : ∀ k x, chk k x = true → ∀ d, d < k → itb x d ≠ 1
  | 0, _, _, d, h => by omega
  | k + 1, x, hc, d, h => by
    unfold chk at hc
    simp only [Bool.and_eq_true, bne_iff_ne] at hc
    cases d with
    | zero => exact hc.1
    | succ d =>
      have := chk_ok k (bst x) hc.2 d (by omega)
      rw [show d + 1 = 1 + d by omega, itb_add]
      exact this
theorem chk1 : chk 8191 (bst 1) = true := by decide +kernel
theorem order (d : Nat) (h0 : 0 < d) (h1 : d ≤ 8191) : itb 1 d ≠ 1 := by
  have := chk_ok 8191 (bst 1) chk1 (d - 1) (by omega)
  rw [show d = 1 + (d - 1) by omega, itb_add]; exact this
theorem pair_ne (a b : Nat) (ha : a ≤ 8192) (hb : b ≤ 8192) (ha0 : 0 < a) (hb0 : 0 < b) (h : a ≠ b) : itb 1 a ≠ itb 1 b := by
  have key : ∀ a b, b ≤ 8192 → 0 < a → a < b → itb 1 a ≠ itb 1 b := by
    intro a b hb ha h e
    rw [show b = (b - a) + a by omega, itb_add] at e
    exact order (b - a) (by omega) (by omega) (itb_inj 1 _ (by omega) (itb_lt 1 (by omega) _) a e).symm
  by_cases k : a < b
  · exact key a b hb ha0 k
  · exact fun e => key b a ha hb0 (by omega) e.symm
theorem pair_found (F : Nat → Int) (i j n : Nat) (hi : i < 8 * n) (hj : j < 8 * n) (hn : n ≤ 1024) (hij : i ≠ j) (h1 : okA n (i : Int) 1) (h2 : okA n (j : Int) 1) (hF : cks 0 F n = 558161692) : cks 0 (flF (flF F (i : Int) 1 32) (j : Int) 1 32) n ≠ 558161692 := by
  intro e
  rw [cks_0] at e hF
  have e2 : rg (flF (flF F (i : Int) 1 32) (j : Int) 1 32) 4294967295 n = rg F 4294967295 n := by omega
  rw [rg_flip _ j 1 n _ (by omega) (by omega) h2, rg_flip F i 1 n _ (by omega) (by omega) h1, Nat.xor_assoc] at e2
  have := xor_eq_zero (xor_cancel e2)
  exact pair_ne (8 * n - i) (8 * n - j) (by omega) (by omega) (by omega) (by omega) (by omega) this
theorem ok_one (n i : Nat) (hi : i < 8 * n) : okA n (i : Int) 1 := by
  intro k hk hb
  have : k = 0 := by
    by_cases h : k = 0
    · exact h
    · have : 1 / 2 ^ k = 0 := Nat.div_eq_of_lt (Nat.one_lt_two_pow h)
      rw [this] at hb; omega
  subst this
  omega
end Go.Proofs.YtbldklaipdbdjaaDoor
