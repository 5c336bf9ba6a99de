/-
  Own contracts: strings read as courses; the law of layer 4 on strings read as courses.
-/
import Derived.Test.YtofeijgcbjhkdaaAngs
import Derived.WalkKit
import Derived.ProofKit
import Derived.OpenShut
import Derived.WalkLawsBesides
import Derived.WalkSpells
import Derived.Lib.Hide
import Derived.Deep.DeepCutAuto
import Derived.Deep.CutBlock
import Derived.Deep.QuietTactic
import Derived.BigQuiet
import Derived.Handy
import Derived.StillTailTactics
import Derived.IntWalk
import Derived.LoopN
import Derived.Deep.RegionHeld3
namespace Go.Proofs.Ytofeijgcbjhkdaa
open Go.ChangeShapes Go.WideShapes Go.ChangeAt Go.RowKit
set_option linter.unusedVariables false
set_option linter.unusedSimpArgs false
theorem dgt_eq (n : Int) (c : UInt8) (h0 : 0 ≤ n) (h : (c.toNat : Int) = 48 + n % 10) : dgt n = c := by
  apply UInt8.toNat_inj.1
  have := dgt_val n h0
  omega
theorem as4 (s : ByteArray) (h : s.size = 4) : ∃ c0 c1 c2 c3, s = ⟨#[c0, c1, c2, c3]⟩ := by
  obtain ⟨⟨l⟩⟩ := s
  match l, h with
  | [c0, c1, c2, c3], _ => exact ⟨c0, c1, c2, c3, rfl⟩
theorem as8 (s : ByteArray) (h : s.size = 8) : ∃ c0 c1 c2 c3 c4 c5 c6 c7, s = ⟨#[c0, c1, c2, c3, c4, c5, c6, c7]⟩ := by
  obtain ⟨⟨l⟩⟩ := s
  match l, h with
  | [c0, c1, c2, c3, c4, c5, c6, c7], _ => exact ⟨c0, c1, c2, c3, c4, c5, c6, c7, rfl⟩
theorem as9 (s : ByteArray) (h : s.size = 9) : ∃ c0 c1 c2 c3 c4 c5 c6 c7 c8, s = ⟨#[c0, c1, c2, c3, c4, c5, c6, c7, c8]⟩ := by
  obtain ⟨⟨l⟩⟩ := s
  match l, h with
  | [c0, c1, c2, c3, c4, c5, c6, c7, c8], _ => exact ⟨c0, c1, c2, c3, c4, c5, c6, c7, c8, rfl⟩
theorem numL2 (a b : UInt8) : numL [a, b] = 10 * (10 * 0 + ((a.toNat : Int) - 48)) + ((b.toNat : Int) - 48) := rfl
theorem numL3 (a b c : UInt8) : numL [a, b, c] = 10 * (10 * (10 * 0 + ((a.toNat : Int) - 48)) + ((b.toNat : Int) - 48)) + ((c.toNat : Int) - 48) := rfl
theorem numL4 (a b c d : UInt8) : numL [a, b, c, d] = 10 * (10 * (10 * (10 * 0 + ((a.toNat : Int) - 48)) + ((b.toNat : Int) - 48)) + ((c.toNat : Int) - 48)) + ((d.toNat : Int) - 48) := rfl
theorem inv4 (s : ByteArray) (hs : s.size = 4) (hd : Dig s) : d4 (numL s.data.toList) = s := by
  obtain ⟨c0, c1, c2, c3, rfl⟩ := as4 s hs
  have q0 : 48 ≤ (c0.toNat : Int) ∧ (c0.toNat : Int) ≤ 57 := hd 0 (by show 0 < 4; omega)
  have q1 : 48 ≤ (c1.toNat : Int) ∧ (c1.toNat : Int) ≤ 57 := hd 1 (by show 1 < 4; omega)
  have q2 : 48 ≤ (c2.toNat : Int) ∧ (c2.toNat : Int) ≤ 57 := hd 2 (by show 2 < 4; omega)
  have q3 : 48 ≤ (c3.toNat : Int) ∧ (c3.toNat : Int) ≤ 57 := hd 3 (by show 3 < 4; omega)
  show d4 (numL [c0, c1, c2, c3]) = _
  rw [numL4]
  unfold d4
  rw [dgt_eq _ c0 (by omega) (by omega), dgt_eq _ c1 (by omega) (by omega), dgt_eq _ c2 (by omega) (by omega), dgt_eq _ c3 (by omega) (by omega)]
theorem inv_sx2 (s : ByteArray) (d m x c : Int) (hs : s.size = 8) (hd : Dig s) (n1 : numL (s.extract 0 2).data.toList = d) (n2 : numL (s.extract 2 4).data.toList = m) (n3 : numL (s.extract 4 6).data.toList = x) (n4 : numL (s.extract 6 8).data.toList = c) (m1 : m < 60) (x1 : x < 60) :
    sx2 (d * 360000 + m * 6000 + x * 100 + c) = s ∧ 0 ≤ d ∧ d ≤ 99 ∧ 0 ≤ m ∧ 0 ≤ x ∧ 0 ≤ c ∧ c ≤ 99 := by
  obtain ⟨c0, c1, c2, c3, c4, c5, c6, c7, rfl⟩ := as8 s hs
  have q0 : 48 ≤ (c0.toNat : Int) ∧ (c0.toNat : Int) ≤ 57 := hd 0 (by show 0 < 8; omega)
  have q1 : 48 ≤ (c1.toNat : Int) ∧ (c1.toNat : Int) ≤ 57 := hd 1 (by show 1 < 8; omega)
  have q2 : 48 ≤ (c2.toNat : Int) ∧ (c2.toNat : Int) ≤ 57 := hd 2 (by show 2 < 8; omega)
  have q3 : 48 ≤ (c3.toNat : Int) ∧ (c3.toNat : Int) ≤ 57 := hd 3 (by show 3 < 8; omega)
  have q4 : 48 ≤ (c4.toNat : Int) ∧ (c4.toNat : Int) ≤ 57 := hd 4 (by show 4 < 8; omega)
  have q5 : 48 ≤ (c5.toNat : Int) ∧ (c5.toNat : Int) ≤ 57 := hd 5 (by show 5 < 8; omega)
  have q6 : 48 ≤ (c6.toNat : Int) ∧ (c6.toNat : Int) ≤ 57 := hd 6 (by show 6 < 8; omega)
  have q7 : 48 ≤ (c7.toNat : Int) ∧ (c7.toNat : Int) ≤ 57 := hd 7 (by show 7 < 8; omega)
  have k0 : d = numL [c0, c1] := n1.symm
  have k1 : m = numL [c2, c3] := n2.symm
  have k2 : x = numL [c4, c5] := n3.symm
  have k3 : c = numL [c6, c7] := n4.symm
  rw [numL2] at k0
  rw [numL2] at k1 k2 k3
  refine ⟨?_, by omega, by omega, by omega, by omega, by omega, by omega⟩
  unfold sx2
  rw [show (d * 360000 + m * 6000 + x * 100 + c) / 360000 = d by omega, show (d * 360000 + m * 6000 + x * 100 + c) / 6000 % 60 = m by omega, show (d * 360000 + m * 6000 + x * 100 + c) / 100 % 60 = x by omega, show (d * 360000 + m * 6000 + x * 100 + c) % 100 = c by omega]
  unfold d2
  rw [dgt_eq _ c0 (by omega) (by omega), dgt_eq _ c1 (by omega) (by omega), dgt_eq _ c2 (by omega) (by omega), dgt_eq _ c3 (by omega) (by omega), dgt_eq _ c4 (by omega) (by omega), dgt_eq _ c5 (by omega) (by omega), dgt_eq _ c6 (by omega) (by omega), dgt_eq _ c7 (by omega) (by omega)]
  rfl
theorem bds2 (s : ByteArray) (hs : s.size = 8) (hd : Dig s) : 0 ≤ numL (s.extract 0 2).data.toList ∧ numL (s.extract 0 2).data.toList ≤ 99 ∧ 0 ≤ numL (s.extract 2 4).data.toList ∧ numL (s.extract 2 4).data.toList ≤ 99 ∧ 0 ≤ numL (s.extract 4 6).data.toList ∧ numL (s.extract 4 6).data.toList ≤ 99 ∧ 0 ≤ numL (s.extract 6 8).data.toList ∧ numL (s.extract 6 8).data.toList ≤ 99 := by
  obtain ⟨c0, c1, c2, c3, c4, c5, c6, c7, rfl⟩ := as8 s hs
  have q0 : 48 ≤ (c0.toNat : Int) ∧ (c0.toNat : Int) ≤ 57 := hd 0 (by show 0 < 8; omega)
  have q1 : 48 ≤ (c1.toNat : Int) ∧ (c1.toNat : Int) ≤ 57 := hd 1 (by show 1 < 8; omega)
  have q2 : 48 ≤ (c2.toNat : Int) ∧ (c2.toNat : Int) ≤ 57 := hd 2 (by show 2 < 8; omega)
  have q3 : 48 ≤ (c3.toNat : Int) ∧ (c3.toNat : Int) ≤ 57 := hd 3 (by show 3 < 8; omega)
  have q4 : 48 ≤ (c4.toNat : Int) ∧ (c4.toNat : Int) ≤ 57 := hd 4 (by show 4 < 8; omega)
  have q5 : 48 ≤ (c5.toNat : Int) ∧ (c5.toNat : Int) ≤ 57 := hd 5 (by show 5 < 8; omega)
  have q6 : 48 ≤ (c6.toNat : Int) ∧ (c6.toNat : Int) ≤ 57 := hd 6 (by show 6 < 8; omega)
  have q7 : 48 ≤ (c7.toNat : Int) ∧ (c7.toNat : Int) ≤ 57 := hd 7 (by show 7 < 8; omega)
  show 0 ≤ numL [c0, c1] ∧ numL [c0, c1] ≤ 99 ∧ 0 ≤ numL [c2, c3] ∧ numL [c2, c3] ≤ 99 ∧ 0 ≤ numL [c4, c5] ∧ numL [c4, c5] ≤ 99 ∧ 0 ≤ numL [c6, c7] ∧ numL [c6, c7] ≤ 99
  rw [numL2, numL2, numL2, numL2]
  omega
theorem inv_sx3 (s : ByteArray) (d m x c : Int) (hs : s.size = 9) (hd : Dig s) (n1 : numL (s.extract 0 3).data.toList = d) (n2 : numL (s.extract 3 5).data.toList = m) (n3 : numL (s.extract 5 7).data.toList = x) (n4 : numL (s.extract 7 9).data.toList = c) (m1 : m < 60) (x1 : x < 60) :
    sx3 (d * 360000 + m * 6000 + x * 100 + c) = s ∧ 0 ≤ d ∧ d ≤ 999 ∧ 0 ≤ m ∧ 0 ≤ x ∧ 0 ≤ c ∧ c ≤ 99 := by
  obtain ⟨c0, c1, c2, c3, c4, c5, c6, c7, c8, rfl⟩ := as9 s hs
  have q0 : 48 ≤ (c0.toNat : Int) ∧ (c0.toNat : Int) ≤ 57 := hd 0 (by show 0 < 9; omega)
  have q1 : 48 ≤ (c1.toNat : Int) ∧ (c1.toNat : Int) ≤ 57 := hd 1 (by show 1 < 9; omega)
  have q2 : 48 ≤ (c2.toNat : Int) ∧ (c2.toNat : Int) ≤ 57 := hd 2 (by show 2 < 9; omega)
  have q3 : 48 ≤ (c3.toNat : Int) ∧ (c3.toNat : Int) ≤ 57 := hd 3 (by show 3 < 9; omega)
  have q4 : 48 ≤ (c4.toNat : Int) ∧ (c4.toNat : Int) ≤ 57 := hd 4 (by show 4 < 9; omega)
  have q5 : 48 ≤ (c5.toNat : Int) ∧ (c5.toNat : Int) ≤ 57 := hd 5 (by show 5 < 9; omega)
  have q6 : 48 ≤ (c6.toNat : Int) ∧ (c6.toNat : Int) ≤ 57 := hd 6 (by show 6 < 9; omega)
  have q7 : 48 ≤ (c7.toNat : Int) ∧ (c7.toNat : Int) ≤ 57 := hd 7 (by show 7 < 9; omega)
  have q8 : 48 ≤ (c8.toNat : Int) ∧ (c8.toNat : Int) ≤ 57 := hd 8 (by show 8 < 9; omega)
  have k0 : d = numL [c0, c1, c2] := n1.symm
  have k1 : m = numL [c3, c4] := n2.symm
  have k2 : x = numL [c5, c6] := n3.symm
  have k3 : c = numL [c7, c8] := n4.symm
  rw [numL3] at k0
  rw [numL2] at k1 k2 k3
  refine ⟨?_, by omega, by omega, by omega, by omega, by omega, by omega⟩
  unfold sx3
  rw [show (d * 360000 + m * 6000 + x * 100 + c) / 360000 = d by omega, show (d * 360000 + m * 6000 + x * 100 + c) / 6000 % 60 = m by omega, show (d * 360000 + m * 6000 + x * 100 + c) / 100 % 60 = x by omega, show (d * 360000 + m * 6000 + x * 100 + c) % 100 = c by omega]
  unfold d3 d2
  rw [dgt_eq _ c0 (by omega) (by omega), dgt_eq _ c1 (by omega) (by omega), dgt_eq _ c2 (by omega) (by omega), dgt_eq _ c3 (by omega) (by omega), dgt_eq _ c4 (by omega) (by omega), dgt_eq _ c5 (by omega) (by omega), dgt_eq _ c6 (by omega) (by omega), dgt_eq _ c7 (by omega) (by omega), dgt_eq _ c8 (by omega) (by omega)]
  rfl
theorem bds3 (s : ByteArray) (hs : s.size = 9) (hd : Dig s) : 0 ≤ numL (s.extract 0 3).data.toList ∧ numL (s.extract 0 3).data.toList ≤ 999 ∧ 0 ≤ numL (s.extract 3 5).data.toList ∧ numL (s.extract 3 5).data.toList ≤ 99 ∧ 0 ≤ numL (s.extract 5 7).data.toList ∧ numL (s.extract 5 7).data.toList ≤ 99 ∧ 0 ≤ numL (s.extract 7 9).data.toList ∧ numL (s.extract 7 9).data.toList ≤ 99 := by
  obtain ⟨c0, c1, c2, c3, c4, c5, c6, c7, c8, rfl⟩ := as9 s hs
  have q0 : 48 ≤ (c0.toNat : Int) ∧ (c0.toNat : Int) ≤ 57 := hd 0 (by show 0 < 9; omega)
  have q1 : 48 ≤ (c1.toNat : Int) ∧ (c1.toNat : Int) ≤ 57 := hd 1 (by show 1 < 9; omega)
  have q2 : 48 ≤ (c2.toNat : Int) ∧ (c2.toNat : Int) ≤ 57 := hd 2 (by show 2 < 9; omega)
  have q3 : 48 ≤ (c3.toNat : Int) ∧ (c3.toNat : Int) ≤ 57 := hd 3 (by show 3 < 9; omega)
  have q4 : 48 ≤ (c4.toNat : Int) ∧ (c4.toNat : Int) ≤ 57 := hd 4 (by show 4 < 9; omega)
  have q5 : 48 ≤ (c5.toNat : Int) ∧ (c5.toNat : Int) ≤ 57 := hd 5 (by show 5 < 9; omega)
  have q6 : 48 ≤ (c6.toNat : Int) ∧ (c6.toNat : Int) ≤ 57 := hd 6 (by show 6 < 9; omega)
  have q7 : 48 ≤ (c7.toNat : Int) ∧ (c7.toNat : Int) ≤ 57 := hd 7 (by show 7 < 9; omega)
  have q8 : 48 ≤ (c8.toNat : Int) ∧ (c8.toNat : Int) ≤ 57 := hd 8 (by show 8 < 9; omega)
  show 0 ≤ numL [c0, c1, c2] ∧ numL [c0, c1, c2] ≤ 999 ∧ 0 ≤ numL [c3, c4] ∧ numL [c3, c4] ≤ 99 ∧ 0 ≤ numL [c5, c6] ∧ numL [c5, c6] ≤ 99 ∧ 0 ≤ numL [c7, c8] ∧ numL [c7, c8] ≤ 99
  rw [numL3, numL2, numL2, numL2]
  omega
theorem pe_err (s : ByteArray)  (hx : ∀ w, Calls Try.prog 53 #[.string s, .int .i64 3] w fun e w' => e = .returned (.tuple #[.int .i64 0, .int .i64 4]) ∧ w = w')  (w : World) : Calls Try.prog 41 #[.string s] w fun e w' => e = .returned (.tuple #[.int .i64 0, .int .i64 4]) ∧ w = w' := by
  have HX := Lib.hid hx
  clear hx
  go_enter Try.func41, Try.ntmps41
  go_wp2_with (first | (go_at_call 53; refine (HX.out _).mono ?_; rintro e w' ⟨rfl, rfl⟩))
  all_goals go_ret2
  all_goals exact ⟨rfl, rfl⟩
theorem pe_ok (s : ByteArray) (a : Int) (hx : ∀ w, Calls Try.prog 53 #[.string s, .int .i64 3] w fun e w' => e = .returned (.tuple #[.int .i64 a, .int .i64 0]) ∧ w = w') (h : a < 129600000) (w : World) : Calls Try.prog 41 #[.string s] w fun e w' => e = .returned (.tuple #[.int .i64 a, .int .i64 0]) ∧ w = w' := by
  have HX := Lib.hid hx
  clear hx
  go_enter Try.func41, Try.ntmps41
  go_wp2_with (first | (go_at_call 53; refine (HX.out _).mono ?_; rintro e w' ⟨rfl, rfl⟩))
  all_goals go_ret2
  all_goals exact ⟨rfl, rfl⟩
theorem pe_rng (s : ByteArray) (a : Int) (hx : ∀ w, Calls Try.prog 53 #[.string s, .int .i64 3] w fun e w' => e = .returned (.tuple #[.int .i64 a, .int .i64 0]) ∧ w = w') (h : 129600000 ≤ a) (w : World) : Calls Try.prog 41 #[.string s] w fun e w' => e = .returned (.tuple #[.int .i64 0, .int .i64 2]) ∧ w = w' := by
  have HX := Lib.hid hx
  clear hx
  go_enter Try.func41, Try.ntmps41
  go_wp2_with (first | (go_at_call 53; refine (HX.out _).mono ?_; rintro e w' ⟨rfl, rfl⟩))
  all_goals go_ret2
  all_goals exact ⟨rfl, rfl⟩
theorem rpe_err (s : ByteArray)  (hx : ∀ w, Calls Try.prog 56 #[.string s, .int .i64 3] w fun e w' => e = .returned (.tuple #[.int .i64 0, .bool false]) ∧ w = w')  (w : World) : Calls Try.prog 45 #[.string s] w fun e w' => e = .returned (.tuple #[.int .i64 0, .int .i64 4]) ∧ w = w' := by
  have HX := Lib.hid hx
  clear hx
  go_enter Try.func45, Try.ntmps45
  go_wp2_with (first | (go_at_call 56; refine (HX.out _).mono ?_; rintro e w' ⟨rfl, rfl⟩))
  all_goals go_ret2
  all_goals exact ⟨rfl, rfl⟩
theorem rpe_ok (s : ByteArray) (a : Int) (hx : ∀ w, Calls Try.prog 56 #[.string s, .int .i64 3] w fun e w' => e = .returned (.tuple #[.int .i64 a, .bool true]) ∧ w = w') (h : a < 129600000) (w : World) : Calls Try.prog 45 #[.string s] w fun e w' => e = .returned (.tuple #[.int .i64 a, .int .i64 0]) ∧ w = w' := by
  have HX := Lib.hid hx
  clear hx
  go_enter Try.func45, Try.ntmps45
  go_wp2_with (first | (go_at_call 56; refine (HX.out _).mono ?_; rintro e w' ⟨rfl, rfl⟩))
  all_goals go_ret2
  all_goals exact ⟨rfl, rfl⟩
theorem rpe_rng (s : ByteArray) (a : Int) (hx : ∀ w, Calls Try.prog 56 #[.string s, .int .i64 3] w fun e w' => e = .returned (.tuple #[.int .i64 a, .bool true]) ∧ w = w') (h : 129600000 ≤ a) (w : World) : Calls Try.prog 45 #[.string s] w fun e w' => e = .returned (.tuple #[.int .i64 0, .int .i64 2]) ∧ w = w' := by
  have HX := Lib.hid hx
  clear hx
  go_enter Try.func45, Try.ntmps45
  go_wp2_with (first | (go_at_call 56; refine (HX.out _).mono ?_; rintro e w' ⟨rfl, rfl⟩))
  all_goals go_ret2
  all_goals exact ⟨rfl, rfl⟩
set_option maxHeartbeats 4000000 in
theorem law_reads (s : ByteArray) (hm : s.size ≤ maxLen) (w : World) : Calls Try.prog 11 #[.string s] w fun e w' => e = .returned (.bool true) ∧ Kept w w' := by
  unfold maxLen at hm
  have hm' : s.size ≤ 9223372036854775807 := by omega
  by_cases hd : Dig s
  · by_cases z4 : s.size = 4
    · obtain ⟨n, hn⟩ : ∃ n, numL s.data.toList = n := ⟨_, rfl⟩
      have hi : d4 n = s := by rw [← hn]; exact inv4 s z4 hd
      have nb := numL_bd s hd 4 (by omega) (by omega)
      rw [show s.data.toList.take 4 = s.data.toList by rw [← z4]; exact take_all s, hn] at nb
      obtain ⟨b0, b1⟩ := nb
      have b2 : n < 10000 := b1
      clear b1
      by_cases c : n < 3600
      · have h1 : ∀ w, Calls Try.prog 40 #[.string s] w fun e w' => e = .returned (.tuple #[.int .i64 (n * 36000), .int .i64 0]) ∧ w = w' := fun w => pc_ok s n z4 hd (Lib.hid hn) b0 c w
        have H1 := Lib.hid h1
        clear h1
        have h2 : ∀ w, Calls Try.prog 44 #[.string s] w fun e w' => e = .returned (.tuple #[.int .i64 (n * 36000), .int .i64 0]) ∧ w = w' := fun w => rpc_ok s n z4 hd (Lib.hid hn) b0 c w
        have H2 := Lib.hid h2
        clear h2
        have h3 : ∀ w, Calls Try.prog 41 #[.string s] w fun e w' => e = .returned (.tuple #[.int .i64 0, .int .i64 4]) ∧ w = w' := fun w => pe_err s (psex3_size s (by omega) (by omega)) w
        have H3 := Lib.hid h3
        clear h3
        have h4 : ∀ w, Calls Try.prog 45 #[.string s] w fun e w' => e = .returned (.tuple #[.int .i64 0, .int .i64 4]) ∧ w = w' := fun w => rpe_err s (rang3_size s (by omega) (by omega)) w
        have H4 := Lib.hid h4
        clear h4
        have hT : ∀ w, Calls Try.prog 38 #[.int .i64 (n * 36000)] w fun e w' => e = .returned (.string s) ∧ Kept w w' := by
          intro w
          have h := course_w (n * 36000) (by omega) (by omega) w
          rwa [show (nrm (n * 36000) + 18000) / 36000 % 3600 = n by unfold nrm; omega, hi] at h
        have HT := Lib.hid hT
        have HD := Lib.hid hd
        clear hT hd hi hn z4
        go_enter Try.func11, Try.ntmps11
        go_wp2_with (first | (go_at_call 12; with_reducible refine (awake_w _).mono ?_; rintro e w' ⟨rfl, hk⟩) | (go_at_call 40; with_reducible refine (H1.out _).mono ?_; rintro e w' ⟨rfl, rfl⟩) | (go_at_call 44; with_reducible refine (H2.out _).mono ?_; rintro e w' ⟨rfl, rfl⟩) | (go_at_call 41; with_reducible refine (H3.out _).mono ?_; rintro e w' ⟨rfl, rfl⟩) | (go_at_call 45; with_reducible refine (H4.out _).mono ?_; rintro e w' ⟨rfl, rfl⟩) | (go_at_call 38; with_reducible refine (HT.out _).mono ?_; rintro e w' ⟨rfl, hk⟩))
        all_goals first | (go_ret; refine ⟨?_, (by repeat (first | with_reducible exact Kept.refl _ | with_reducible assumption | with_reducible refine Kept.setCell ?_ (by first | (simp; done) | (simp; omega) | omega) _ | with_reducible refine Kept.alloc ?_ _ | with_reducible refine Kept.drewN ?_ _ | with_reducible refine Kept.drew ?_ | with_reducible refine Kept.trans ?_ (by with_reducible assumption) | with_reducible refine Kept.dr ?_ (by with_reducible assumption)))⟩; first | rfl | (show Ending.returned (.bool (decide _)) = _; rw [decide_eq_true (by omega)]) | (show Ending.returned (.bool (decide _)) = _; rw [decide_eq_false (by omega)]) | (refine retb ?_; simp; done) | (refine retb ?_; simp; omega)) | (exfalso; omega)
      · have h1 : ∀ w, Calls Try.prog 40 #[.string s] w fun e w' => e = .returned (.tuple #[.int .i64 0, .int .i64 2]) ∧ w = w' := fun w => pc_rng s n z4 hd (Lib.hid hn) (by omega) w
        have H1 := Lib.hid h1
        clear h1
        have h2 : ∀ w, Calls Try.prog 44 #[.string s] w fun e w' => e = .returned (.tuple #[.int .i64 0, .int .i64 2]) ∧ w = w' := fun w => rpc_rng s n z4 hd (Lib.hid hn) (by omega) w
        have H2 := Lib.hid h2
        clear h2
        have h3 : ∀ w, Calls Try.prog 41 #[.string s] w fun e w' => e = .returned (.tuple #[.int .i64 0, .int .i64 4]) ∧ w = w' := fun w => pe_err s (psex3_size s (by omega) (by omega)) w
        have H3 := Lib.hid h3
        clear h3
        have h4 : ∀ w, Calls Try.prog 45 #[.string s] w fun e w' => e = .returned (.tuple #[.int .i64 0, .int .i64 4]) ∧ w = w' := fun w => rpe_err s (rang3_size s (by omega) (by omega)) w
        have H4 := Lib.hid h4
        clear h4
        have HD := Lib.hid hd
        clear hd hi hn z4
        go_enter Try.func11, Try.ntmps11
        go_wp2_with (first | (go_at_call 12; with_reducible refine (awake_w _).mono ?_; rintro e w' ⟨rfl, hk⟩) | (go_at_call 40; with_reducible refine (H1.out _).mono ?_; rintro e w' ⟨rfl, rfl⟩) | (go_at_call 44; with_reducible refine (H2.out _).mono ?_; rintro e w' ⟨rfl, rfl⟩) | (go_at_call 41; with_reducible refine (H3.out _).mono ?_; rintro e w' ⟨rfl, rfl⟩) | (go_at_call 45; with_reducible refine (H4.out _).mono ?_; rintro e w' ⟨rfl, rfl⟩))
        all_goals first | (go_ret; refine ⟨?_, (by repeat (first | with_reducible exact Kept.refl _ | with_reducible assumption | with_reducible refine Kept.setCell ?_ (by first | (simp; done) | (simp; omega) | omega) _ | with_reducible refine Kept.alloc ?_ _ | with_reducible refine Kept.drewN ?_ _ | with_reducible refine Kept.drew ?_ | with_reducible refine Kept.trans ?_ (by with_reducible assumption) | with_reducible refine Kept.dr ?_ (by with_reducible assumption)))⟩; first | rfl | (show Ending.returned (.bool (decide _)) = _; rw [decide_eq_true (by omega)]) | (show Ending.returned (.bool (decide _)) = _; rw [decide_eq_false (by omega)]) | (refine retb ?_; simp; done) | (refine retb ?_; simp; omega)) | (exfalso; omega)
    · by_cases z9 : s.size = 9
      · obtain ⟨e0, e1, e2, e3, e4, e5, e6, e7⟩ := bds3 s z9 hd
        obtain ⟨d, hd1⟩ : ∃ n, numL (s.extract 0 3).data.toList = n := ⟨_, rfl⟩
        obtain ⟨m, hm1⟩ : ∃ n, numL (s.extract 3 5).data.toList = n := ⟨_, rfl⟩
        obtain ⟨x, hx1⟩ : ∃ n, numL (s.extract 5 7).data.toList = n := ⟨_, rfl⟩
        obtain ⟨c, hc1⟩ : ∃ n, numL (s.extract 7 9).data.toList = n := ⟨_, rfl⟩
        rw [hd1] at e0 e1
        rw [hm1] at e2 e3
        rw [hx1] at e4 e5
        rw [hc1] at e6 e7
        have h1 : ∀ w, Calls Try.prog 40 #[.string s] w fun e w' => e = .returned (.tuple #[.int .i64 0, .int .i64 4]) ∧ w = w' := fun w => pc_size s (by omega) hd (by omega) w
        have H1 := Lib.hid h1
        clear h1
        have h2 : ∀ w, Calls Try.prog 44 #[.string s] w fun e w' => e = .returned (.tuple #[.int .i64 0, .int .i64 4]) ∧ w = w' := fun w => rpc_size s (by omega) hd (by omega) w
        have H2 := Lib.hid h2
        clear h2
        by_cases k6 : 60 ≤ m ∨ 60 ≤ x
        · have h3 : ∀ w, Calls Try.prog 41 #[.string s] w fun e w' => e = .returned (.tuple #[.int .i64 0, .int .i64 4]) ∧ w = w' := fun w => pe_err s (psex3_sixty s _ d m x c z9 hd (Lib.hid rfl) (Lib.hid hd1) (Lib.hid hm1) (Lib.hid hx1) (Lib.hid hc1) e0 e1 e2 e3 e4 e5 e6 e7 k6) w
          have H3 := Lib.hid h3
          clear h3
          have h4 : ∀ w, Calls Try.prog 45 #[.string s] w fun e w' => e = .returned (.tuple #[.int .i64 0, .int .i64 4]) ∧ w = w' := fun w => rpe_err s (rang3_sixty s _ d m x c z9 hd (Lib.hid rfl) (Lib.hid hd1) (Lib.hid hm1) (Lib.hid hx1) (Lib.hid hc1) e0 e1 e2 e3 e4 e5 e6 e7 k6) w
          have H4 := Lib.hid h4
          clear h4
          have HD := Lib.hid hd
          clear hd hd1 hm1 hx1 hc1 z9 k6
          go_enter Try.func11, Try.ntmps11
          go_wp2_with (first | (go_at_call 12; with_reducible refine (awake_w _).mono ?_; rintro e w' ⟨rfl, hk⟩) | (go_at_call 40; with_reducible refine (H1.out _).mono ?_; rintro e w' ⟨rfl, rfl⟩) | (go_at_call 44; with_reducible refine (H2.out _).mono ?_; rintro e w' ⟨rfl, rfl⟩) | (go_at_call 41; with_reducible refine (H3.out _).mono ?_; rintro e w' ⟨rfl, rfl⟩) | (go_at_call 45; with_reducible refine (H4.out _).mono ?_; rintro e w' ⟨rfl, rfl⟩))
          all_goals first | (go_ret; refine ⟨?_, (by repeat (first | with_reducible exact Kept.refl _ | with_reducible assumption | with_reducible refine Kept.setCell ?_ (by first | (simp; done) | (simp; omega) | omega) _ | with_reducible refine Kept.alloc ?_ _ | with_reducible refine Kept.drewN ?_ _ | with_reducible refine Kept.drew ?_ | with_reducible refine Kept.trans ?_ (by with_reducible assumption) | with_reducible refine Kept.dr ?_ (by with_reducible assumption)))⟩; first | rfl | (show Ending.returned (.bool (decide _)) = _; rw [decide_eq_true (by omega)]) | (show Ending.returned (.bool (decide _)) = _; rw [decide_eq_false (by omega)]) | (refine retb ?_; simp; done) | (refine retb ?_; simp; omega)) | (exfalso; omega)
        · obtain ⟨hi, _⟩ := inv_sx3 s d m x c z9 hd hd1 hm1 hx1 hc1 (by omega) (by omega)
          obtain ⟨a, ha⟩ : ∃ a, d * 360000 + m * 6000 + x * 100 + c = a := ⟨_, rfl⟩
          have a0 : 0 ≤ a := by omega
          have a1 : a ≤ 999999999 := by omega
          rw [ha] at hi
          have hs1 := psex3 s _ d m x c z9 hd (Lib.hid rfl) (Lib.hid hd1) (Lib.hid hm1) (Lib.hid hx1) (Lib.hid hc1) e0 e1 e2 (by omega) e4 (by omega) e6 e7
          have hr1 := rang3_ok s _ d m x c z9 hd (Lib.hid rfl) (Lib.hid hd1) (Lib.hid hm1) (Lib.hid hx1) (Lib.hid hc1) e0 e1 e2 e3 e4 e5 e6 e7 (by omega) (by omega)
          rw [ha] at hs1 hr1
          by_cases kc : a < 129600000
          · have h3 : ∀ w, Calls Try.prog 41 #[.string s] w fun e w' => e = .returned (.tuple #[.int .i64 a, .int .i64 0]) ∧ w = w' := fun w => pe_ok s a hs1 kc w
            have H3 := Lib.hid h3
            clear h3
            have h4 : ∀ w, Calls Try.prog 45 #[.string s] w fun e w' => e = .returned (.tuple #[.int .i64 a, .int .i64 0]) ∧ w = w' := fun w => rpe_ok s a hr1 kc w
            have H4 := Lib.hid h4
            clear h4
            have hT : ∀ w, Calls Try.prog 39 #[.int .i64 a] w fun e w' => e = .returned (.string s) ∧ Kept w w' := by
              intro w
              have h := exact_w a (by omega) (by omega) w
              rwa [show nrm a = a by unfold nrm; omega, hi] at h
            have HT := Lib.hid hT
            have HD := Lib.hid hd
            clear hT hd hi ha hs1 hr1 hd1 hm1 hx1 hc1 z9 k6
            go_enter Try.func11, Try.ntmps11
            go_wp2_with (first | (go_at_call 12; with_reducible refine (awake_w _).mono ?_; rintro e w' ⟨rfl, hk⟩) | (go_at_call 40; with_reducible refine (H1.out _).mono ?_; rintro e w' ⟨rfl, rfl⟩) | (go_at_call 44; with_reducible refine (H2.out _).mono ?_; rintro e w' ⟨rfl, rfl⟩) | (go_at_call 41; with_reducible refine (H3.out _).mono ?_; rintro e w' ⟨rfl, rfl⟩) | (go_at_call 45; with_reducible refine (H4.out _).mono ?_; rintro e w' ⟨rfl, rfl⟩) | (go_at_call 39; with_reducible refine (HT.out _).mono ?_; rintro e w' ⟨rfl, hk⟩))
            all_goals first | (go_ret; refine ⟨?_, (by repeat (first | with_reducible exact Kept.refl _ | with_reducible assumption | with_reducible refine Kept.setCell ?_ (by first | (simp; done) | (simp; omega) | omega) _ | with_reducible refine Kept.alloc ?_ _ | with_reducible refine Kept.drewN ?_ _ | with_reducible refine Kept.drew ?_ | with_reducible refine Kept.trans ?_ (by with_reducible assumption) | with_reducible refine Kept.dr ?_ (by with_reducible assumption)))⟩; first | rfl | (show Ending.returned (.bool (decide _)) = _; rw [decide_eq_true (by omega)]) | (show Ending.returned (.bool (decide _)) = _; rw [decide_eq_false (by omega)]) | (refine retb ?_; simp; done) | (refine retb ?_; simp; omega)) | (exfalso; omega)
          · have h3 : ∀ w, Calls Try.prog 41 #[.string s] w fun e w' => e = .returned (.tuple #[.int .i64 0, .int .i64 2]) ∧ w = w' := fun w => pe_rng s a hs1 (by omega) w
            have H3 := Lib.hid h3
            clear h3
            have h4 : ∀ w, Calls Try.prog 45 #[.string s] w fun e w' => e = .returned (.tuple #[.int .i64 0, .int .i64 2]) ∧ w = w' := fun w => rpe_rng s a hr1 (by omega) w
            have H4 := Lib.hid h4
            clear h4
            have HD := Lib.hid hd
            clear hd hi ha hs1 hr1 hd1 hm1 hx1 hc1 z9 k6
            go_enter Try.func11, Try.ntmps11
            go_wp2_with (first | (go_at_call 12; with_reducible refine (awake_w _).mono ?_; rintro e w' ⟨rfl, hk⟩) | (go_at_call 40; with_reducible refine (H1.out _).mono ?_; rintro e w' ⟨rfl, rfl⟩) | (go_at_call 44; with_reducible refine (H2.out _).mono ?_; rintro e w' ⟨rfl, rfl⟩) | (go_at_call 41; with_reducible refine (H3.out _).mono ?_; rintro e w' ⟨rfl, rfl⟩) | (go_at_call 45; with_reducible refine (H4.out _).mono ?_; rintro e w' ⟨rfl, rfl⟩))
            all_goals first | (go_ret; refine ⟨?_, (by repeat (first | with_reducible exact Kept.refl _ | with_reducible assumption | with_reducible refine Kept.setCell ?_ (by first | (simp; done) | (simp; omega) | omega) _ | with_reducible refine Kept.alloc ?_ _ | with_reducible refine Kept.drewN ?_ _ | with_reducible refine Kept.drew ?_ | with_reducible refine Kept.trans ?_ (by with_reducible assumption) | with_reducible refine Kept.dr ?_ (by with_reducible assumption)))⟩; first | rfl | (show Ending.returned (.bool (decide _)) = _; rw [decide_eq_true (by omega)]) | (show Ending.returned (.bool (decide _)) = _; rw [decide_eq_false (by omega)]) | (refine retb ?_; simp; done) | (refine retb ?_; simp; omega)) | (exfalso; omega)
      · have h1 : ∀ w, Calls Try.prog 40 #[.string s] w fun e w' => e = .returned (.tuple #[.int .i64 0, .int .i64 4]) ∧ w = w' := fun w => pc_size s (by omega) hd (by omega) w
        have H1 := Lib.hid h1
        clear h1
        have h2 : ∀ w, Calls Try.prog 44 #[.string s] w fun e w' => e = .returned (.tuple #[.int .i64 0, .int .i64 4]) ∧ w = w' := fun w => rpc_size s (by omega) hd (by omega) w
        have H2 := Lib.hid h2
        clear h2
        have h3 : ∀ w, Calls Try.prog 41 #[.string s] w fun e w' => e = .returned (.tuple #[.int .i64 0, .int .i64 4]) ∧ w = w' := fun w => pe_err s (psex3_size s (by omega) (by omega)) w
        have H3 := Lib.hid h3
        clear h3
        have h4 : ∀ w, Calls Try.prog 45 #[.string s] w fun e w' => e = .returned (.tuple #[.int .i64 0, .int .i64 4]) ∧ w = w' := fun w => rpe_err s (rang3_size s (by omega) (by omega)) w
        have H4 := Lib.hid h4
        clear h4
        have HD := Lib.hid hd
        clear hd z4 z9
        go_enter Try.func11, Try.ntmps11
        go_wp2_with (first | (go_at_call 12; with_reducible refine (awake_w _).mono ?_; rintro e w' ⟨rfl, hk⟩) | (go_at_call 40; with_reducible refine (H1.out _).mono ?_; rintro e w' ⟨rfl, rfl⟩) | (go_at_call 44; with_reducible refine (H2.out _).mono ?_; rintro e w' ⟨rfl, rfl⟩) | (go_at_call 41; with_reducible refine (H3.out _).mono ?_; rintro e w' ⟨rfl, rfl⟩) | (go_at_call 45; with_reducible refine (H4.out _).mono ?_; rintro e w' ⟨rfl, rfl⟩))
        all_goals first | (go_ret; refine ⟨?_, (by repeat (first | with_reducible exact Kept.refl _ | with_reducible assumption | with_reducible refine Kept.setCell ?_ (by first | (simp; done) | (simp; omega) | omega) _ | with_reducible refine Kept.alloc ?_ _ | with_reducible refine Kept.drewN ?_ _ | with_reducible refine Kept.drew ?_ | with_reducible refine Kept.trans ?_ (by with_reducible assumption) | with_reducible refine Kept.dr ?_ (by with_reducible assumption)))⟩; first | rfl | (show Ending.returned (.bool (decide _)) = _; rw [decide_eq_true (by omega)]) | (show Ending.returned (.bool (decide _)) = _; rw [decide_eq_false (by omega)]) | (refine retb ?_; simp; done) | (refine retb ?_; simp; omega)) | (exfalso; omega)
  · by_cases z9 : s.size = 9
    · have h1 : ∀ w, Calls Try.prog 40 #[.string s] w fun e w' => e = .returned (.tuple #[.int .i64 0, .int .i64 4]) ∧ w = w' := fun w => pc_nodig s hm' hd w
      have H1 := Lib.hid h1
      clear h1
      have h2 : ∀ w, Calls Try.prog 44 #[.string s] w fun e w' => e = .returned (.tuple #[.int .i64 0, .int .i64 4]) ∧ w = w' := fun w => rpc_nodig s hm' hd w
      have H2 := Lib.hid h2
      clear h2
      have h3 : ∀ w, Calls Try.prog 41 #[.string s] w fun e w' => e = .returned (.tuple #[.int .i64 0, .int .i64 4]) ∧ w = w' := fun w => pe_err s (psex3_no s z9 hd) w
      have H3 := Lib.hid h3
      clear h3
      have h4 : ∀ w, Calls Try.prog 45 #[.string s] w fun e w' => e = .returned (.tuple #[.int .i64 0, .int .i64 4]) ∧ w = w' := fun w => rpe_err s (rang3_no s z9 hd) w
      have H4 := Lib.hid h4
      clear h4
      clear hd z9
      go_enter Try.func11, Try.ntmps11
      go_wp2_with (first | (go_at_call 12; with_reducible refine (awake_w _).mono ?_; rintro e w' ⟨rfl, hk⟩) | (go_at_call 40; with_reducible refine (H1.out _).mono ?_; rintro e w' ⟨rfl, rfl⟩) | (go_at_call 44; with_reducible refine (H2.out _).mono ?_; rintro e w' ⟨rfl, rfl⟩) | (go_at_call 41; with_reducible refine (H3.out _).mono ?_; rintro e w' ⟨rfl, rfl⟩) | (go_at_call 45; with_reducible refine (H4.out _).mono ?_; rintro e w' ⟨rfl, rfl⟩))
      all_goals first | (go_ret; refine ⟨?_, (by repeat (first | with_reducible exact Kept.refl _ | with_reducible assumption | with_reducible refine Kept.setCell ?_ (by first | (simp; done) | (simp; omega) | omega) _ | with_reducible refine Kept.alloc ?_ _ | with_reducible refine Kept.drewN ?_ _ | with_reducible refine Kept.drew ?_ | with_reducible refine Kept.trans ?_ (by with_reducible assumption) | with_reducible refine Kept.dr ?_ (by with_reducible assumption)))⟩; first | rfl | (show Ending.returned (.bool (decide _)) = _; rw [decide_eq_true (by omega)]) | (show Ending.returned (.bool (decide _)) = _; rw [decide_eq_false (by omega)]) | (refine retb ?_; simp; done) | (refine retb ?_; simp; omega)) | (exfalso; omega)
    · have h1 : ∀ w, Calls Try.prog 40 #[.string s] w fun e w' => e = .returned (.tuple #[.int .i64 0, .int .i64 4]) ∧ w = w' := fun w => pc_nodig s hm' hd w
      have H1 := Lib.hid h1
      clear h1
      have h2 : ∀ w, Calls Try.prog 44 #[.string s] w fun e w' => e = .returned (.tuple #[.int .i64 0, .int .i64 4]) ∧ w = w' := fun w => rpc_nodig s hm' hd w
      have H2 := Lib.hid h2
      clear h2
      have h3 : ∀ w, Calls Try.prog 41 #[.string s] w fun e w' => e = .returned (.tuple #[.int .i64 0, .int .i64 4]) ∧ w = w' := fun w => pe_err s (psex3_size s (by omega) (by omega)) w
      have H3 := Lib.hid h3
      clear h3
      have h4 : ∀ w, Calls Try.prog 45 #[.string s] w fun e w' => e = .returned (.tuple #[.int .i64 0, .int .i64 4]) ∧ w = w' := fun w => rpe_err s (rang3_size s (by omega) (by omega)) w
      have H4 := Lib.hid h4
      clear h4
      clear hd z9
      go_enter Try.func11, Try.ntmps11
      go_wp2_with (first | (go_at_call 12; with_reducible refine (awake_w _).mono ?_; rintro e w' ⟨rfl, hk⟩) | (go_at_call 40; with_reducible refine (H1.out _).mono ?_; rintro e w' ⟨rfl, rfl⟩) | (go_at_call 44; with_reducible refine (H2.out _).mono ?_; rintro e w' ⟨rfl, rfl⟩) | (go_at_call 41; with_reducible refine (H3.out _).mono ?_; rintro e w' ⟨rfl, rfl⟩) | (go_at_call 45; with_reducible refine (H4.out _).mono ?_; rintro e w' ⟨rfl, rfl⟩))
      all_goals first | (go_ret; refine ⟨?_, (by repeat (first | with_reducible exact Kept.refl _ | with_reducible assumption | with_reducible refine Kept.setCell ?_ (by first | (simp; done) | (simp; omega) | omega) _ | with_reducible refine Kept.alloc ?_ _ | with_reducible refine Kept.drewN ?_ _ | with_reducible refine Kept.drew ?_ | with_reducible refine Kept.trans ?_ (by with_reducible assumption) | with_reducible refine Kept.dr ?_ (by with_reducible assumption)))⟩; first | rfl | (show Ending.returned (.bool (decide _)) = _; rw [decide_eq_true (by omega)]) | (show Ending.returned (.bool (decide _)) = _; rw [decide_eq_false (by omega)]) | (refine retb ?_; simp; done) | (refine retb ?_; simp; omega)) | (exfalso; omega)
end Go.Proofs.Ytofeijgcbjhkdaa
