/-
  Own arithmetic: the register of a checksum, bit by bit and by halves of a byte.
-/
import Derived.Laws.BitsAllLaws
namespace Go.Proofs.YtbldklaipdbdjaaDoor
def bst (r : Nat) : Nat := if r % 2 = 1 then (r / 2) ^^^ 3988292384 else r / 2
def st4 (r : Nat) : Nat := bst (bst (bst (bst r)))
def byt (r b : Nat) : Nat := st4 (st4 (r ^^^ b))
def nib : Nat → Nat
  | 0 => 0x00000000 | 1 => 0x1DB71064 | 2 => 0x3B6E20C8 | 3 => 0x26D930AC | 4 => 0x76DC4190 | 5 => 0x6B6B51F4 | 6 => 0x4DB26158 | 7 => 0x5005713C
  | 8 => 0xEDB88320 | 9 => 0xF00F9344 | 10 => 0xD6D6A3E8 | 11 => 0xCB61B38C | 12 => 0x9B64C2B0 | 13 => 0x86D3D2D4 | 14 => 0xA00AE278 | _ => 0xBDBDF21C
theorem xor_half (x y : Nat) : (x ^^^ y) / 2 = x / 2 ^^^ y / 2 := by
  have := Nat.shiftRight_xor_distrib (a := x) (b := y) (i := 1)
  simpa [Nat.shiftRight_eq_div_pow] using this
theorem xor_odd (x y : Nat) : (x ^^^ y) % 2 = (x % 2 + y % 2) % 2 := by
  have h := Nat.testBit_xor x y 0
  simp only [Nat.testBit_zero] at h
  have hx : x % 2 = 0 ∨ x % 2 = 1 := by omega
  have hy : y % 2 = 0 ∨ y % 2 = 1 := by omega
  have hz : (x ^^^ y) % 2 = 0 ∨ (x ^^^ y) % 2 = 1 := by omega
  rcases hx with hx | hx <;> rcases hy with hy | hy <;> rcases hz with hz | hz <;> simp_all
theorem bst_xor (x y : Nat) : bst (x ^^^ y) = bst x ^^^ bst y := by
  unfold bst
  rw [xor_odd, xor_half]
  have hx : x % 2 = 0 ∨ x % 2 = 1 := by omega
  have hy : y % 2 = 0 ∨ y % 2 = 1 := by omega
  rcases hx with hx | hx <;> rcases hy with hy | hy <;> simp only [hx, hy] <;> simp [Nat.xor_assoc]
  · rw [Nat.xor_comm 3988292384 (y / 2)]
  · rw [Nat.xor_comm 3988292384 (y / 2 ^^^ 3988292384), Nat.xor_assoc, Nat.xor_self, Nat.xor_zero]
theorem st4_xor (x y : Nat) : st4 (x ^^^ y) = st4 x ^^^ st4 y := by unfold st4; rw [bst_xor, bst_xor, bst_xor, bst_xor]
theorem bst_lt (r : Nat) (h : r < 4294967296) : bst r < 4294967296 := by
  unfold bst
  split
  · exact Nat.xor_lt_two_pow (n := 32) (by omega) (by omega)
  · omega
theorem st4_lt (r : Nat) (h : r < 4294967296) : st4 r < 4294967296 := bst_lt _ (bst_lt _ (bst_lt _ (bst_lt _ h)))
theorem byt_lt (r b : Nat) (h : r < 4294967296) (hb : b < 256) : byt r b < 4294967296 := st4_lt _ (st4_lt _ (Nat.xor_lt_two_pow (n := 32) h (by omega)))
theorem bst_even (q : Nat) : bst (2 * q) = q := by unfold bst; rw [if_neg (by omega)]; omega
theorem st4_hi (q : Nat) : st4 (16 * q) = q := by
  unfold st4
  rw [show 16 * q = 2 * (2 * (2 * (2 * q))) by omega, bst_even, bst_even, bst_even, bst_even]
theorem split16 (r : Nat) : r = (16 * (r / 16)) ^^^ (r % 16) := by
  apply Nat.eq_of_testBit_eq
  intro i
  have h1 := Nat.testBit_two_pow_mul_add (r / 16) (show r % 16 < 2 ^ 4 by omega) i
  have h2 := Nat.testBit_two_pow_mul_add (r / 16) (show 0 < 2 ^ 4 by omega) i
  have e : 2 ^ 4 * (r / 16) + r % 16 = r := by omega
  rw [e] at h1
  rw [Nat.testBit_xor, h1]
  rw [Nat.add_zero] at h2
  rw [show 16 * (r / 16) = 2 ^ 4 * (r / 16) by omega, h2]
  split
  · simp
  · rename_i h
    have : (r % 16).testBit i = false := Nat.testBit_lt_two_pow (Nat.lt_of_lt_of_le (show r % 16 < 2 ^ 4 by omega) (Nat.pow_le_pow_right (by omega) (by omega)))
    simp [this]
theorem st4_lo : ∀ t : Fin 16, st4 t.1 = nib t.1 := by decide +kernel
theorem st4_nib (r : Nat) : r / 16 ^^^ nib (r % 16) = st4 r := by
  have h := st4_lo ⟨r % 16, by omega⟩
  dsimp only at h
  have e : st4 r = st4 ((16 * (r / 16)) ^^^ (r % 16)) := congrArg st4 (split16 r)
  rw [e, st4_xor, st4_hi, h]
theorem nib_lt (t : Nat) : nib t < 4294967296 := by
  unfold nib; split <;> omega
/-- the register behind the first k bytes of F -/
def rg (F : Nat → Int) (r : Nat) : Nat → Nat
  | 0 => r
  | k + 1 => byt (rg F r k) (F k).toNat
theorem rg_lt (F : Nat → Int) (r n : Nat) (h : r < 4294967296) (hF : ∀ i, i < n → 0 ≤ F i ∧ F i ≤ 255) : ∀ k, k ≤ n → rg F r k < 4294967296
  | 0, _ => h
  | k + 1, hk => byt_lt _ _ (rg_lt F r n h hF k (by omega)) (by have := hF k (by omega); omega)
/-- the checksum -/
def cks (s : Int) (F : Nat → Int) (n : Nat) : Int := 4294967295 - (rg F (4294967295 - s.toNat) n : Int)
end Go.Proofs.YtbldklaipdbdjaaDoor
