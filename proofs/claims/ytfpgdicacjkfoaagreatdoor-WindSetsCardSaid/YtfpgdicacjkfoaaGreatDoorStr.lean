/-
  Own text: strings of decimal digits: numbers, texts, pieces. Nothing of the program.
-/
import Derived.Test.YtfpgdicacjkfoaaGreatDoorBase
import Derived.Laws.Strings
import Derived.WalkKit
import Derived.ProofKit
import Derived.OpenShut
import Derived.WalkLawsBesides
import Derived.WalkSpells
import Derived.Lib.Hide
import Derived.Deep.DeepCutAuto
import Derived.Deep.CutBlock
import Derived.Deep.QuietTactic
import Derived.BigQuiet
import Derived.Handy
import Derived.StillTailTactics
import Derived.IntWalk
import Derived.LoopN
import Derived.Deep.RegionHeld3
namespace Go.Proofs.YtfpgdicacjkfoaaGreatDoor
open Go.ChangeShapes Go.WideShapes Go.ChangeAt Go.RowKit
set_option linter.unusedVariables false
set_option linter.unusedSimpArgs false
def dgt (n : Int) : UInt8 := UInt8.ofNat (48 + n % 10).toNat
def numL (l : List UInt8) : Int := l.foldl (fun n c => 10 * n + ((c.toNat : Int) - 48)) 0
theorem numL_snoc (l : List UInt8) (c : UInt8) : numL (l ++ [c]) = 10 * numL l + ((c.toNat : Int) - 48) := by unfold numL; rw [List.foldl_append]; rfl
theorem take_snoc (s : ByteArray) (k : Nat) (h : k < s.size) : s.data.toList.take (k + 1) = s.data.toList.take k ++ [s[k]] := by
  rw [List.take_succ_eq_append_getElem (by simpa using h)]; rfl
theorem take_all (s : ByteArray) : s.data.toList.take s.size = s.data.toList := List.take_of_length_le (Nat.le_refl _)
def Dig (s : ByteArray) : Prop := ∀ k (h : k < s.size), 48 ≤ (s[k].toNat : Int) ∧ (s[k].toNat : Int) ≤ 57
theorem numL_bd (s : ByteArray) (hd : Dig s) : ∀ k, k ≤ s.size → k ≤ 9 → 0 ≤ numL (s.data.toList.take k) ∧ numL (s.data.toList.take k) < 10 ^ k
  | 0, _, _ => by simp [numL]
  | k + 1, h, h9 => by
    have ih := numL_bd s hd k (by omega) (by omega)
    have d := hd k (by omega)
    rw [take_snoc s k (by omega), numL_snoc, Int.pow_succ]
    omega
theorem p9 (k : Nat) (h : k ≤ 9) : (10 : Int) ^ k ≤ 1000000000 := by
  have : ∀ k : Fin 10, (10 : Int) ^ k.val ≤ 1000000000 := by decide
  exact this ⟨k, by omega⟩
theorem Dig.extract {s : ByteArray} (h : Dig s) (a b : Nat) : Dig (s.extract a b) := by
  intro k hk
  have hk' := hk
  rw [ByteArray.size_extract] at hk'
  have := h (a + k) (by omega)
  rwa [show (s.extract a b)[k] = s[a + k]'(by omega) from ByteArray.getElem_extract ..]
theorem nonempty (s : ByteArray) (h : 0 < s.size) : s.toList.isEmpty = false ∧ ¬ s.toList = [] := by
  have e : ¬ s.toList = [] := by
    rw [ByteArray.toList_eq]
    intro c
    have : s.data.toList.length = s.size := rfl
    rw [c] at this
    simp at this
    omega
  exact ⟨by simpa using e, e⟩
def digB (p : ByteArray) : Bool := p.data.toList.all (fun c => decide (48 ≤ (c.toNat : Int) ∧ (c.toNat : Int) ≤ 57))
theorem digB_iff (p : ByteArray) : digB p = true ↔ Dig p := by
  unfold digB Dig
  rw [List.all_eq_true]
  constructor
  · intro h k hk
    have := h (p[k]) (by show p.data[k] ∈ _; simp)
    simpa using this
  · intro h c hc
    obtain ⟨k, hk, e⟩ := List.getElem_of_mem hc
    have hk' : k < p.size := by simpa using hk
    have := h k hk'
    have e2 : p[k] = c := by rw [← e]; simp [ByteArray.getElem_eq_getElem_data]
    rw [e2] at this
    simpa using this
def vN (p : ByteArray) : Int := if digB p then numL p.data.toList else 0
theorem no_piece (s : ByteArray) (a b n : Nat) (hs : s.size = n) (h0 : a ≤ b) (h1 : b ≤ n) (hn : ¬ Dig s) : digB (s.extract 0 a) = false ∨ digB (s.extract a b) = false ∨ digB (s.extract b n) = false := by
  by_cases c1 : digB (s.extract 0 a) = true
  · by_cases c2 : digB (s.extract a b) = true
    · by_cases c3 : digB (s.extract b n) = true
      · exfalso; apply hn
        rw [digB_iff] at c1 c2 c3
        intro k hk
        have ge : ∀ x y j (h : j < (s.extract x y).size) (h' : x + j < s.size), (s.extract x y)[j] = s[x + j] := fun x y j h h' => ByteArray.getElem_extract ..
        rcases Nat.lt_or_ge k a with g | g
        · have hz : k < (s.extract 0 a).size := by rw [ByteArray.size_extract]; omega
          have := c1 k hz
          rw [ge 0 a k hz (by omega)] at this
          simpa using this
        · rcases Nat.lt_or_ge k b with g2 | g2
          · have hz : k - a < (s.extract a b).size := by rw [ByteArray.size_extract]; omega
            have := c2 (k - a) hz
            rw [ge a b (k - a) hz (by omega)] at this
            simpa [show a + (k - a) = k by omega] using this
          · have hz : k - b < (s.extract b n).size := by rw [ByteArray.size_extract]; omega
            have := c3 (k - b) hz
            rw [ge b n (k - b) hz (by omega)] at this
            simpa [show b + (k - b) = k by omega] using this
      · right; right; simpa using c3
    · right; left; simpa using c2
  · left; simpa using c1
theorem two_pieces (s : ByteArray) (a b : Nat) (h0 : a ≤ b) (h1 : b ≤ s.size) (b0 : digB (s.extract 0 a) = true) (b1 : digB (s.extract a b) = true) : digB (s.extract 0 b) = true := by
  by_cases c : digB (s.extract 0 b) = true
  · exact c
  · exfalso
    have hn : ¬ Dig (s.extract 0 b) := fun h => c ((digB_iff _).2 h)
    have hsz : (s.extract 0 b).size = b := by rw [ByteArray.size_extract]; omega
    apply hn
    intro k hk
    rw [digB_iff] at b0 b1
    have ge : ∀ x y j (h : j < (s.extract x y).size) (h' : x + j < s.size), (s.extract x y)[j] = s[x + j] := fun x y j h h' => ByteArray.getElem_extract ..
    rw [ge 0 b k hk (by omega)]
    rcases Nat.lt_or_ge k a with g | g
    · have hz : k < (s.extract 0 a).size := by rw [ByteArray.size_extract]; omega
      have := b0 k hz
      rw [ge 0 a k hz (by omega)] at this
      simpa using this
    · have hz : k - a < (s.extract a b).size := by rw [ByteArray.size_extract]; omega
      have := b1 (k - a) hz
      rw [ge a b (k - a) hz (by omega)] at this
      simpa [show a + (k - a) = k by omega] using this
theorem dgt_val (n : Int) (h : 0 ≤ n) : ((dgt n).toNat : Int) = 48 + n % 10 := by
  unfold dgt
  rw [UInt8.toNat_ofNat']
  omega
theorem dgt_ok (n : Int) (h : 0 ≤ n) : 48 ≤ ((dgt n).toNat : Int) ∧ ((dgt n).toNat : Int) ≤ 57 := by rw [dgt_val n h]; omega
theorem Dig.list {l : List UInt8} (h : ∀ c ∈ l, 48 ≤ (c.toNat : Int) ∧ (c.toNat : Int) ≤ 57) : Dig ⟨l.toArray⟩ := by
  intro k hk
  have hk' : k < l.length := by simpa [ByteArray.size] using hk
  have : (⟨l.toArray⟩ : ByteArray)[k] = l[k] := by simp [ByteArray.getElem_eq_getElem_data]
  rw [this]
  exact h _ (List.getElem_mem hk')
theorem dgt_eq (n : Int) (c : UInt8) (h0 : 0 ≤ n) (h : (c.toNat : Int) = 48 + n % 10) : dgt n = c := by
  apply UInt8.toNat_inj.1
  have := dgt_val n h0
  omega
theorem as4 (s : ByteArray) (h : s.size = 4) : ∃ c0 c1 c2 c3, s = ⟨#[c0, c1, c2, c3]⟩ := by
  obtain ⟨⟨l⟩⟩ := s
  match l, h with
  | [c0, c1, c2, c3], _ => exact ⟨c0, c1, c2, c3, rfl⟩
theorem as8 (s : ByteArray) (h : s.size = 8) : ∃ c0 c1 c2 c3 c4 c5 c6 c7, s = ⟨#[c0, c1, c2, c3, c4, c5, c6, c7]⟩ := by
  obtain ⟨⟨l⟩⟩ := s
  match l, h with
  | [c0, c1, c2, c3, c4, c5, c6, c7], _ => exact ⟨c0, c1, c2, c3, c4, c5, c6, c7, rfl⟩
theorem as9 (s : ByteArray) (h : s.size = 9) : ∃ c0 c1 c2 c3 c4 c5 c6 c7 c8, s = ⟨#[c0, c1, c2, c3, c4, c5, c6, c7, c8]⟩ := by
  obtain ⟨⟨l⟩⟩ := s
  match l, h with
  | [c0, c1, c2, c3, c4, c5, c6, c7, c8], _ => exact ⟨c0, c1, c2, c3, c4, c5, c6, c7, c8, rfl⟩
theorem numL2 (a b : UInt8) : numL [a, b] = 10 * (10 * 0 + ((a.toNat : Int) - 48)) + ((b.toNat : Int) - 48) := rfl
theorem numL3 (a b c : UInt8) : numL [a, b, c] = 10 * (10 * (10 * 0 + ((a.toNat : Int) - 48)) + ((b.toNat : Int) - 48)) + ((c.toNat : Int) - 48) := rfl
theorem numL4 (a b c d : UInt8) : numL [a, b, c, d] = 10 * (10 * (10 * (10 * 0 + ((a.toNat : Int) - 48)) + ((b.toNat : Int) - 48)) + ((c.toNat : Int) - 48)) + ((d.toNat : Int) - 48) := rfl
theorem as10 (s : ByteArray) (h : s.size = 10) : ∃ c0 c1 c2 c3 c4 c5 c6 c7 c8 c9, s = ⟨#[c0, c1, c2, c3, c4, c5, c6, c7, c8, c9]⟩ := by
  obtain ⟨⟨l⟩⟩ := s
  match l, h with
  | [c0, c1, c2, c3, c4, c5, c6, c7, c8, c9], _ => exact ⟨c0, c1, c2, c3, c4, c5, c6, c7, c8, c9, rfl⟩
theorem u8_of (c d : UInt8) (h : (c.toNat : Int) = (d.toNat : Int)) : c = d := UInt8.toNat_inj.1 (by omega)
theorem as5 (s : ByteArray) (h : s.size = 5) : ∃ c0 c1 c2 c3 c4, s = ⟨#[c0, c1, c2, c3, c4]⟩ := by
  obtain ⟨⟨l⟩⟩ := s
  match l, h with
  | [c0, c1, c2, c3, c4], _ => exact ⟨c0, c1, c2, c3, c4, rfl⟩
end Go.Proofs.YtfpgdicacjkfoaaGreatDoor
