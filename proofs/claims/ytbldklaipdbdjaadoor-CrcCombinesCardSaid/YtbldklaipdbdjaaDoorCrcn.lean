/-
  Own arithmetic: checksums of sealed strings, linear maps of registers.
-/
import Derived.Test.YtbldklaipdbdjaaDoorCrcm
namespace Go.Proofs.YtbldklaipdbdjaaDoor
def st8 (r : Nat) : Nat := st4 (st4 r)
theorem st8_xor (x y : Nat) : st8 (x ^^^ y) = st8 x ^^^ st8 y := by unfold st8; rw [st4_xor, st4_xor]
theorem st8_hi (q : Nat) : st8 (256 * q) = q := by
  unfold st8; rw [show 256 * q = 16 * (16 * q) by omega, st4_hi, st4_hi]
theorem st8_lt (r : Nat) (h : r < 4294967296) : st8 r < 4294967296 := st4_lt _ (st4_lt _ h)
theorem xor4 (a b c d : Nat) : (a ^^^ b) ^^^ (c ^^^ d) = (a ^^^ c) ^^^ (b ^^^ d) := by
  rw [Nat.xor_assoc, Nat.xor_assoc, ← Nat.xor_assoc b, ← Nat.xor_assoc c, Nat.xor_comm b c]
theorem byt_xor (r b s c : Nat) : byt (r ^^^ s) (b ^^^ c) = byt r b ^^^ byt s c := by
  show st8 _ = st8 _ ^^^ st8 _
  rw [← st8_xor, xor4]
theorem split256 (r : Nat) : r = (256 * (r / 256)) ^^^ (r % 256) := by
  apply Nat.eq_of_testBit_eq
  intro i
  have h1 := Nat.testBit_two_pow_mul_add (r / 256) (show r % 256 < 2 ^ 8 by omega) i
  have h2 := Nat.testBit_two_pow_mul_add (r / 256) (show 0 < 2 ^ 8 by omega) i
  have e : 2 ^ 8 * (r / 256) + r % 256 = r := by omega
  rw [e] at h1
  rw [Nat.testBit_xor, h1]
  rw [Nat.add_zero] at h2
  rw [show 256 * (r / 256) = 2 ^ 8 * (r / 256) by omega, h2]
  split
  · simp
  · rename_i h
    have : (r % 256).testBit i = false := Nat.testBit_lt_two_pow (Nat.lt_of_lt_of_le (show r % 256 < 2 ^ 8 by omega) (Nat.pow_le_pow_right (by omega) (by omega)))
    simp [this]
theorem xor_low (y : Nat) : y ^^^ (y % 256) = 256 * (y / 256) := by
  have h : y ^^^ (y % 256) = ((256 * (y / 256)) ^^^ (y % 256)) ^^^ (y % 256) := congrArg (fun t => t ^^^ (y % 256)) (split256 y)
  rw [Nat.xor_assoc (256 * (y / 256)), Nat.xor_self, Nat.xor_zero] at h
  exact h
theorem xor_self_left (x y : Nat) : (x ^^^ y) ^^^ y = x := by rw [Nat.xor_assoc, Nat.xor_self, Nat.xor_zero]
/-- a byte of a number goes into a register that holds the number -/
theorem feed (a y : Nat) : byt (a ^^^ y) (y % 256) = st8 a ^^^ (y / 256) := by
  show st8 _ = _
  rw [Nat.xor_assoc, xor_low, st8_xor, st8_hi]
def itst8 : Nat → Nat → Nat | 0, a => a | k + 1, a => st8 (itst8 k a)
theorem itst8_xor (k x y : Nat) : itst8 k (x ^^^ y) = itst8 k x ^^^ itst8 k y := by
  induction k with
  | zero => rfl
  | succ k ih => simp only [itst8]; rw [ih, st8_xor]
theorem itst8_lt (k a : Nat) (h : a < 4294967296) : itst8 k a < 4294967296 := by
  induction k with
  | zero => exact h
  | succ k ih => exact st8_lt _ ih
/-- the bytes of a number, the lowest first -/
def byteOf (x i : Nat) : Nat := x / 256 ^ i % 256
theorem byteOf_lt (x i : Nat) : byteOf x i < 256 := by unfold byteOf; omega
/-- a register behind the first k bytes of a number -/
theorem feeds (r x : Nat) (F : Nat → Int) : ∀ k, (∀ i, i < k → (F i).toNat = byteOf x i) → rg F r k = itst8 k (r ^^^ x) ^^^ (x / 256 ^ k)
  | 0, _ => by simp [rg, itst8, Nat.xor_assoc]
  | k + 1, h => by
    rw [rg, feeds r x F k (fun i hi => h i (by omega)), h k (by omega)]
    show byt _ (x / 256 ^ k % 256) = _
    rw [feed, Nat.div_div_eq_div_mul, ← Nat.pow_succ]; rfl
theorem rg_add (F : Nat → Int) (r n : Nat) : ∀ k, rg F r (n + k) = rg (fun i => F (n + i)) (rg F r n) k
  | 0 => rfl
  | k + 1 => by rw [← Nat.add_assoc, rg, rg_add F r n k]; rfl
theorem rg_congr {F G : Nat → Int} {r : Nat} : ∀ {k}, (∀ i, i < k → F i = G i) → rg F r k = rg G r k
  | 0, _ => rfl
  | k + 1, h => by rw [rg, rg, rg_congr (fun i hi => h i (by omega)), h k (by omega)]
theorem rg_xor (F G H : Nat → Int) (r s : Nat) : ∀ k, (∀ i, i < k → (F i).toNat = (G i).toNat ^^^ (H i).toNat) → rg F (r ^^^ s) k = rg G r k ^^^ rg H s k
  | 0, _ => rfl
  | k + 1, h => by rw [rg, rg, rg, rg_xor F G H r s k (fun i hi => h i (by omega)), h k (by omega), byt_xor]
theorem bst_zero (z : Nat) (h : z < 4294967296) (e : bst z = 0) : z = 0 := by
  unfold bst at e
  split at e
  · have : z / 2 = 3988292384 := by
      have : (z / 2 ^^^ 3988292384) ^^^ 3988292384 = 0 ^^^ 3988292384 := congrArg (fun t => t ^^^ 3988292384) e
      rwa [Nat.xor_assoc, Nat.xor_self, Nat.xor_zero, Nat.zero_xor] at this
    omega
  · omega
theorem st4_zero (z : Nat) (h : z < 4294967296) (e : st4 z = 0) : z = 0 := by
  have h1 := bst_lt z h
  have h2 := bst_lt _ h1
  have h3 := bst_lt _ h2
  exact bst_zero z h (bst_zero _ h1 (bst_zero _ h2 (bst_zero _ h3 e)))
theorem st8_zero (z : Nat) (h : z < 4294967296) (e : st8 z = 0) : z = 0 := st4_zero z h (st4_zero _ (st4_lt z h) e)
theorem itst8_zero (k z : Nat) (h : z < 4294967296) (e : itst8 k z = 0) : z = 0 := by
  induction k with
  | zero => exact e
  | succ k ih => exact ih (st8_zero _ (itst8_lt k z h) e)
theorem xor_eq_zero {x y : Nat} (h : x ^^^ y = 0) : x = y := by
  have : (x ^^^ y) ^^^ y = 0 ^^^ y := congrArg (fun t => t ^^^ y) h
  rwa [xor_self_left, Nat.zero_xor] at this
theorem itst8_inj (k x y : Nat) (hx : x < 4294967296) (hy : y < 4294967296) (e : itst8 k x = itst8 k y) : x = y := by
  have h : itst8 k (x ^^^ y) = 0 := by rw [itst8_xor, e, Nat.xor_self]
  exact xor_eq_zero (itst8_zero k _ (Nat.xor_lt_two_pow (n := 32) hx hy) h)
theorem ones_sub (b : Nat) (hb : b < 4294967296) : 4294967295 ^^^ b = 4294967295 - b := by
  apply Nat.eq_of_testBit_eq
  intro i
  have h1 := Nat.testBit_two_pow_sub_one 32 i
  have h2 := Nat.testBit_two_pow_sub_succ (n := 32) (x := b) (by omega) i
  rw [show (2 ^ 32 - 1 : Nat) = 4294967295 by decide] at h1
  rw [show (2 ^ 32 - (b + 1) : Nat) = 4294967295 - b by omega] at h2
  rw [Nat.testBit_xor, h1, h2]
  by_cases h : i < 32
  · simp [h]
  · have : b.testBit i = false := Nat.testBit_lt_two_pow (Nat.lt_of_lt_of_le (show b < 2 ^ 32 by omega) (Nat.pow_le_pow_right (by omega) (by omega)))
    simp [h, this]
theorem cks_0 (F : Nat → Int) (n : Nat) : cks 0 F n = 4294967295 - (rg F 4294967295 n : Int) := rfl
theorem cks_bd (F : Nat → Int) (n : Nat) (hF : ∀ i, i < n → 0 ≤ F i ∧ F i ≤ 255) : 0 ≤ cks 0 F n ∧ cks 0 F n ≤ 4294967295 := by
  have := rg_lt F (4294967295 - (0 : Int).toNat) n (by omega) hF n (by omega)
  unfold cks; omega
/-- the register of a checksum -/
theorem cks_rg (F : Nat → Int) (n : Nat) (hF : ∀ i, i < n → 0 ≤ F i ∧ F i ≤ 255) : (rg F 4294967295 n ^^^ (cks 0 F n).toNat : Nat) = 4294967295 := by
  have h := rg_lt F 4294967295 n (by omega) hF n (by omega)
  have e : (cks 0 F n).toNat = 4294967295 - rg F 4294967295 n := by rw [cks_0]; omega
  rw [e, ← ones_sub _ h, Nat.xor_comm, xor_self_left]
theorem itst8_ones : itst8 4 4294967295 = 3736805603 := by decide +kernel
/-- a sealed string has the residue for its checksum -/
theorem sealed_cks (F : Nat → Int) (n : Nat) (hF : ∀ i, i < n → 0 ≤ F i ∧ F i ≤ 255) (hS : ∀ i, i < 4 → (F (n + i)).toNat = byteOf (cks 0 F n).toNat i) : cks 0 F (n + 4) = 558161692 := by
  have hb := cks_bd F n hF
  have h := feeds (rg F 4294967295 n) (cks 0 F n).toNat (fun i => F (n + i)) 4 hS
  rw [cks_rg F n hF, itst8_ones, ← rg_add, Nat.div_eq_of_lt (by omega : (cks 0 F n).toNat < 256 ^ 4), Nat.xor_zero] at h
  show (4294967295 : Int) - (rg F 4294967295 (n + 4) : Nat) = _
  rw [h]; decide
/-- only a sealed string has it -/
theorem cks_sealed (F : Nat → Int) (n : Nat) (hF : ∀ i, i < n + 4 → 0 ≤ F i ∧ F i ≤ 255) (h : cks 0 F (n + 4) = 558161692) : ∀ i, i < 4 → (F (n + i)).toNat = byteOf (cks 0 F n).toNat i := by
  have f0 := hF n (by omega); have f1 := hF (n + 1) (by omega); have f2 := hF (n + 2) (by omega); have f3 := hF (n + 3) (by omega)
  have hb := cks_bd F n (fun i hi => hF i (by omega))
  have hl := rg_lt F 4294967295 n (by omega) (fun i hi => hF i (by omega)) n (by omega)
  obtain ⟨x, hx⟩ : ∃ x : Nat, x = (F n).toNat + 256 * (F (n + 1)).toNat + 65536 * (F (n + 2)).toNat + 16777216 * (F (n + 3)).toNat := ⟨_, rfl⟩
  have hx32 : x < 4294967296 := by omega
  have hby : ∀ i, i < 4 → (F (n + i)).toNat = byteOf x i := by
    intro i hi
    have : i = 0 ∨ i = 1 ∨ i = 2 ∨ i = 3 := by omega
    rcases this with rfl | rfl | rfl | rfl <;> simp only [byteOf, Nat.add_zero, Nat.pow_zero, Nat.div_one, show 256 ^ 1 = 256 from rfl, show 256 ^ 2 = 65536 from rfl, show 256 ^ 3 = 16777216 from rfl] <;> omega
  have hg := feeds (rg F 4294967295 n) x (fun i => F (n + i)) 4 hby
  rw [← rg_add, Nat.div_eq_of_lt (by omega : x < 256 ^ 4), Nat.xor_zero] at hg
  have hr : rg F 4294967295 (n + 4) = 3736805603 := by
    have : (4294967295 : Int) - (rg F 4294967295 (n + 4) : Nat) = 558161692 := h
    omega
  rw [hr, ← itst8_ones] at hg
  have e := itst8_inj 4 _ _ (by omega) (Nat.xor_lt_two_pow (n := 32) hl hx32) hg
  have e2 := cks_rg F n (fun i hi => hF i (by omega))
  have : x = (cks 0 F n).toNat := by
    have h1 : (rg F 4294967295 n ^^^ x) ^^^ rg F 4294967295 n = (rg F 4294967295 n ^^^ (cks 0 F n).toNat) ^^^ rg F 4294967295 n := by rw [← e, e2]
    rwa [Nat.xor_comm, ← Nat.xor_assoc, Nat.xor_self, Nat.zero_xor, Nat.xor_comm (rg F 4294967295 n ^^^ _), ← Nat.xor_assoc, Nat.xor_self, Nat.zero_xor] at h1
  rw [← this]; exact hby
/-- the checksum of an exclusive or of three strings -/
theorem cks_xor3 (X F G H : Nat → Int) (n : Nat) (hF : ∀ i, i < n → 0 ≤ F i ∧ F i ≤ 255) (hG : ∀ i, i < n → 0 ≤ G i ∧ G i ≤ 255) (hH : ∀ i, i < n → 0 ≤ H i ∧ H i ≤ 255)
    (hX : ∀ i, i < n → (X i).toNat = (F i).toNat ^^^ (G i).toNat ^^^ (H i).toNat) : (cks 0 X n).toNat = (cks 0 F n).toNat ^^^ (cks 0 G n).toNat ^^^ (cks 0 H n).toNat := by
  have f := rg_lt F 4294967295 n (by omega) hF n (by omega)
  have g := rg_lt G 4294967295 n (by omega) hG n (by omega)
  have h := rg_lt H 4294967295 n (by omega) hH n (by omega)
  have e0 := rg_xor (fun i => (((F i).toNat ^^^ (G i).toNat : Nat) : Int)) F G 4294967295 4294967295 n (fun i hi => by simp)
  have e1 := rg_xor X (fun i => (((F i).toNat ^^^ (G i).toNat : Nat) : Int)) H (4294967295 ^^^ 4294967295) 4294967295 n (fun i hi => by simp [hX i hi])
  rw [Nat.xor_self] at e0 e1
  rw [Nat.zero_xor, e0] at e1
  have ex : rg X 4294967295 n < 4294967296 := by rw [e1]; exact Nat.xor_lt_two_pow (n := 32) (Nat.xor_lt_two_pow (n := 32) f g) h
  have c : ∀ (Y : Nat → Int), rg Y 4294967295 n < 4294967296 → (cks 0 Y n).toNat = 4294967295 ^^^ rg Y 4294967295 n := fun Y hy => by
    rw [ones_sub _ hy, cks_0]; omega
  rw [c X ex, c F f, c G g, c H h, e1]
  rw [xor4 4294967295 _ 4294967295, Nat.xor_self, Nat.zero_xor, ← Nat.xor_assoc (rg F 4294967295 n ^^^ rg G 4294967295 n), Nat.xor_comm (rg F 4294967295 n ^^^ rg G 4294967295 n) 4294967295, Nat.xor_assoc 4294967295]
theorem cks_append (F : Nat → Int) (s : Int) (n m : Nat) (hF : ∀ i, i < n → 0 ≤ F i ∧ F i ≤ 255) (s0 : 0 ≤ s) (s1 : s ≤ 4294967295) : cks (cks s F n) (fun i => F (n + i)) m = cks s F (n + m) := by
  have h := rg_lt F (4294967295 - s.toNat) n (by omega) hF n (by omega)
  unfold cks
  rw [rg_add, show 4294967295 - ((4294967295 : Int) - (rg F (4294967295 - s.toNat) n : Nat)).toNat = rg F (4294967295 - s.toNat) n from by omega]
end Go.Proofs.YtbldklaipdbdjaaDoor
