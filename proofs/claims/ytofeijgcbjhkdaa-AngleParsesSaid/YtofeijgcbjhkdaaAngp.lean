/-
  Own contracts: package angle: decimal texts read.
-/
import Derived.Test.YtofeijgcbjhkdaaAngt
import Derived.WalkKit
import Derived.ProofKit
import Derived.OpenShut
import Derived.WalkLawsBesides
import Derived.WalkSpells
import Derived.Lib.Hide
import Derived.Deep.DeepCutAuto
import Derived.Deep.CutBlock
import Derived.Deep.QuietTactic
import Derived.BigQuiet
import Derived.Handy
import Derived.StillTailTactics
import Derived.IntWalk
import Derived.LoopN
import Derived.Deep.RegionHeld3
namespace Go.Proofs.Ytofeijgcbjhkdaa
open Go.ChangeShapes Go.WideShapes Go.ChangeAt Go.RowKit
set_option linter.unusedVariables false
set_option linter.unusedSimpArgs false
def numL (l : List UInt8) : Int := l.foldl (fun n c => 10 * n + ((c.toNat : Int) - 48)) 0
theorem numL_snoc (l : List UInt8) (c : UInt8) : numL (l ++ [c]) = 10 * numL l + ((c.toNat : Int) - 48) := by unfold numL; rw [List.foldl_append]; rfl
theorem take_snoc (s : ByteArray) (k : Nat) (h : k < s.size) : s.data.toList.take (k + 1) = s.data.toList.take k ++ [s[k]] := by
  rw [List.take_succ_eq_append_getElem (by simpa using h)]; rfl
theorem take_all (s : ByteArray) : s.data.toList.take s.size = s.data.toList := List.take_of_length_le (Nat.le_refl _)
def Dig (s : ByteArray) : Prop := ∀ k (h : k < s.size), 48 ≤ (s[k].toNat : Int) ∧ (s[k].toNat : Int) ≤ 57
theorem numL_bd (s : ByteArray) (hd : Dig s) : ∀ k, k ≤ s.size → k ≤ 9 → 0 ≤ numL (s.data.toList.take k) ∧ numL (s.data.toList.take k) < 10 ^ k
  | 0, _, _ => by simp [numL]
  | k + 1, h, h9 => by
    have ih := numL_bd s hd k (by omega) (by omega)
    have d := hd k (by omega)
    rw [take_snoc s k (by omega), numL_snoc, Int.pow_succ]
    omega
theorem p9 (k : Nat) (h : k ≤ 9) : (10 : Int) ^ k ≤ 1000000000 := by
  have : ∀ k : Fin 10, (10 : Int) ^ k.val ≤ 1000000000 := by decide
  exact this ⟨k, by omega⟩
set_option maxHeartbeats 1000000 in
theorem number_yes (s : ByteArray) (hs : s.size ≤ 9) (hd : Dig s) (w : World) : Calls Try.prog 52 #[.string s] w fun e w' => e = .returned (.tuple #[.int .i64 (numL s.data.toList), .bool true]) ∧ w = w' := by
  have HD := Lib.hid hd
  clear hd
  go_enter Try.func52, Try.ntmps52
  go_wp2
  go_loop [4, 11] (fun n i => ∃ k : Nat, k ≤ s.size ∧ i = .int .i64 k ∧ n = .int .i64 (numL (s.data.toList.take k))) (fun _ i => s.size - (intOf i).toNat)
  case atStart => exact ⟨0, Nat.zero_le _, rfl, rfl⟩
  case round =>
    obtain ⟨k, hk, rfl, rfl⟩ := hrel
    obtain ⟨b0, b1⟩ := numL_bd s HD.out k hk (by omega)
    have b2 := p9 k (by omega)
    by_cases hlt : k < s.size
    · obtain ⟨d0, d1⟩ := HD.out k hlt
      have HS : Hid (numL (s.data.toList.take (k + 1)) = 10 * numL (s.data.toList.take k) + ((s[k].toNat : Int) - 48)) := Lib.hid (by rw [take_snoc s k hlt, numL_snoc])
      obtain ⟨m, hm⟩ : ∃ m, numL (s.data.toList.take k) = m := ⟨_, rfl⟩
      rw [hm] at b0 b1 HS ⊢
      have b3 : m ≤ 999999999 := by omega
      clear b1 b2 hm
      go_wp2
      exact ⟨⟨k + 1, by omega, by go_num, by rw [HS.out]⟩, by simp [intOf]; omega⟩
    · have e : s.data.toList.take k = s.data.toList := by rw [show k = s.size by omega]; exact take_all s
      rw [e]
      go_wp2
      go_ret2
      exact ⟨rfl, rfl⟩
theorem Dig.extract {s : ByteArray} (h : Dig s) (a b : Nat) : Dig (s.extract a b) := by
  intro k hk
  have hk' := hk
  rw [ByteArray.size_extract] at hk'
  have := h (a + k) (by omega)
  rwa [show (s.extract a b)[k] = s[a + k]'(by omega) from ByteArray.getElem_extract ..]
theorem number_v (s : ByteArray) (n : Int) (hs : s.size ≤ 9) (hd : Dig s) (hn : Hid (numL s.data.toList = n)) (w : World) : Calls Try.prog 52 #[.string s] w fun e w' => e = .returned (.tuple #[.int .i64 n, .bool true]) ∧ w = w' := by
  have := number_yes s hs hd w
  rwa [hn.out] at this
set_option maxHeartbeats 1000000 in
set_option maxRecDepth 100000 in
theorem psex2 (s : ByteArray) (v d m x c : Int) (hs : s.size = 8) (hd : Dig s) (n0 : Hid (numL s.data.toList = v)) (n1 : Hid (numL (s.extract 0 2).data.toList = d)) (n2 : Hid (numL (s.extract 2 4).data.toList = m)) (n3 : Hid (numL (s.extract 4 6).data.toList = x)) (n4 : Hid (numL (s.extract 6 8).data.toList = c))
    (d0 : 0 ≤ d) (d1 : d ≤ 999) (m0 : 0 ≤ m) (m1 : m < 60) (x0 : 0 ≤ x) (x1 : x < 60) (c0 : 0 ≤ c) (c1 : c ≤ 99) (w : World) : Calls Try.prog 53 #[.string s, .int .i64 2] w fun e w' => e = .returned (.tuple #[.int .i64 (d * 360000 + m * 6000 + x * 100 + c), .int .i64 0]) ∧ w = w' := by
  have H := Lib.hid hd
  have Z := Lib.hid hs
  have z1 : s.size ≤ 8 := by omega
  have z2 : 8 ≤ s.size := by omega
  clear hd
  go_enter Try.func53, Try.ntmps53
  go_wp2_with fail
  refine (number_v s v (by omega) H.out n0 _).mono ?_
  rintro e w' ⟨rfl, rfl⟩
  go_wp2_with fail
  refine (number_v (s.extract 0 2) d (by rw [ByteArray.size_extract]; omega) (H.out.extract _ _) n1 _).mono ?_
  rintro e w' ⟨rfl, rfl⟩
  go_wp2_with fail
  refine (number_v (s.extract 2 4) m (by rw [ByteArray.size_extract]; omega) (H.out.extract _ _) n2 _).mono ?_
  rintro e w' ⟨rfl, rfl⟩
  go_wp2_with fail
  refine (number_v (s.extract 4 6) x (by rw [ByteArray.size_extract]; omega) (H.out.extract _ _) n3 _).mono ?_
  rintro e w' ⟨rfl, rfl⟩
  go_wp2_with fail
  refine (number_v (s.extract 6 8) c (by rw [ByteArray.size_extract]; omega) (H.out.extract _ _) n4 _).mono ?_
  rintro e w' ⟨rfl, rfl⟩
  go_wp2_with fail
  all_goals go_ret2
  exact ⟨rfl, rfl⟩
set_option maxHeartbeats 1000000 in
set_option maxRecDepth 100000 in
theorem psex3 (s : ByteArray) (v d m x c : Int) (hs : s.size = 9) (hd : Dig s) (n0 : Hid (numL s.data.toList = v)) (n1 : Hid (numL (s.extract 0 3).data.toList = d)) (n2 : Hid (numL (s.extract 3 5).data.toList = m)) (n3 : Hid (numL (s.extract 5 7).data.toList = x)) (n4 : Hid (numL (s.extract 7 9).data.toList = c))
    (d0 : 0 ≤ d) (d1 : d ≤ 999) (m0 : 0 ≤ m) (m1 : m < 60) (x0 : 0 ≤ x) (x1 : x < 60) (c0 : 0 ≤ c) (c1 : c ≤ 99) (w : World) : Calls Try.prog 53 #[.string s, .int .i64 3] w fun e w' => e = .returned (.tuple #[.int .i64 (d * 360000 + m * 6000 + x * 100 + c), .int .i64 0]) ∧ w = w' := by
  have H := Lib.hid hd
  have Z := Lib.hid hs
  have z1 : s.size ≤ 9 := by omega
  have z2 : 9 ≤ s.size := by omega
  clear hd
  go_enter Try.func53, Try.ntmps53
  go_wp2_with fail
  refine (number_v s v (by omega) H.out n0 _).mono ?_
  rintro e w' ⟨rfl, rfl⟩
  go_wp2_with fail
  refine (number_v (s.extract 0 3) d (by rw [ByteArray.size_extract]; omega) (H.out.extract _ _) n1 _).mono ?_
  rintro e w' ⟨rfl, rfl⟩
  go_wp2_with fail
  refine (number_v (s.extract 3 5) m (by rw [ByteArray.size_extract]; omega) (H.out.extract _ _) n2 _).mono ?_
  rintro e w' ⟨rfl, rfl⟩
  go_wp2_with fail
  refine (number_v (s.extract 5 7) x (by rw [ByteArray.size_extract]; omega) (H.out.extract _ _) n3 _).mono ?_
  rintro e w' ⟨rfl, rfl⟩
  go_wp2_with fail
  refine (number_v (s.extract 7 9) c (by rw [ByteArray.size_extract]; omega) (H.out.extract _ _) n4 _).mono ?_
  rintro e w' ⟨rfl, rfl⟩
  go_wp2_with fail
  all_goals go_ret2
  exact ⟨rfl, rfl⟩
theorem nonempty (s : ByteArray) (h : 0 < s.size) : s.toList.isEmpty = false ∧ ¬ s.toList = [] := by
  have e : ¬ s.toList = [] := by
    rw [ByteArray.toList_eq]
    intro c
    have : s.data.toList.length = s.size := rfl
    rw [c] at this
    simp at this
    omega
  exact ⟨by simpa using e, e⟩
theorem psig2_neg (s : ByteArray) (P Q a : Int) (hs : s.size = 9) (h0 : ((s[0]'(by omega)).toNat : Int) = Q) (hPQ : ¬ Q = P) (ha : 0 < a) (ha1 : a ≤ 9223372036854775807) (hx : ∀ w, Calls Try.prog 53 #[.string (s.extract 1 9), .int .i64 2] w fun e w' => e = .returned (.tuple #[.int .i64 a, .int .i64 0]) ∧ w = w') (w : World) : Calls Try.prog 48 #[.string s, .int .u8 P, .int .u8 Q, .int .i64 2] w fun e w' => e = .returned (.tuple #[.int .i64 (-a), .int .i64 0]) ∧ w = w' := by
  have HX := Lib.hid hx
  clear hx
  obtain ⟨i1, i2⟩ := nonempty s (by omega)
  have g1 : (Q == P) = false := by simpa using hPQ
  have g2 : (Q != P) = true := by simpa using hPQ
  have g3 : (Q == Q) = true := by simp
  clear hPQ
  have g4 : (a == 0) = false := by have : ¬ a = 0 := by omega
                                   simpa using this
  go_enter Try.func48, Try.ntmps48
  go_wp2_with (first | (go_at_call 53; refine (HX.out _).mono ?_; rintro e w' ⟨rfl, rfl⟩))
  all_goals first | (go_ret2; exact ⟨rfl, rfl⟩)
theorem psig2_zero (s : ByteArray) (P Q a : Int) (hs : s.size = 9) (h0 : ((s[0]'(by omega)).toNat : Int) = Q) (hPQ : ¬ Q = P) (ha : a = 0) (hx : ∀ w, Calls Try.prog 53 #[.string (s.extract 1 9), .int .i64 2] w fun e w' => e = .returned (.tuple #[.int .i64 a, .int .i64 0]) ∧ w = w') (w : World) : Calls Try.prog 48 #[.string s, .int .u8 P, .int .u8 Q, .int .i64 2] w fun e w' => e = .returned (.tuple #[.int .i64 0, .int .i64 4]) ∧ w = w' := by
  have HX := Lib.hid hx
  clear hx
  obtain ⟨i1, i2⟩ := nonempty s (by omega)
  have g1 : (Q == P) = false := by simpa using hPQ
  have g2 : (Q != P) = true := by simpa using hPQ
  have g3 : (Q == Q) = true := by simp
  clear hPQ
  subst ha
  go_enter Try.func48, Try.ntmps48
  go_wp2_with (first | (go_at_call 53; refine (HX.out _).mono ?_; rintro e w' ⟨rfl, rfl⟩))
  all_goals first | (go_ret2; exact ⟨rfl, rfl⟩)
theorem psig3_neg (s : ByteArray) (P Q a : Int) (hs : s.size = 10) (h0 : ((s[0]'(by omega)).toNat : Int) = Q) (hPQ : ¬ Q = P) (ha : 0 < a) (ha1 : a ≤ 9223372036854775807) (hx : ∀ w, Calls Try.prog 53 #[.string (s.extract 1 10), .int .i64 3] w fun e w' => e = .returned (.tuple #[.int .i64 a, .int .i64 0]) ∧ w = w') (w : World) : Calls Try.prog 48 #[.string s, .int .u8 P, .int .u8 Q, .int .i64 3] w fun e w' => e = .returned (.tuple #[.int .i64 (-a), .int .i64 0]) ∧ w = w' := by
  have HX := Lib.hid hx
  clear hx
  obtain ⟨i1, i2⟩ := nonempty s (by omega)
  have g1 : (Q == P) = false := by simpa using hPQ
  have g2 : (Q != P) = true := by simpa using hPQ
  have g3 : (Q == Q) = true := by simp
  clear hPQ
  have g4 : (a == 0) = false := by have : ¬ a = 0 := by omega
                                   simpa using this
  go_enter Try.func48, Try.ntmps48
  go_wp2_with (first | (go_at_call 53; refine (HX.out _).mono ?_; rintro e w' ⟨rfl, rfl⟩))
  all_goals first | (go_ret2; exact ⟨rfl, rfl⟩)
theorem psig3_zero (s : ByteArray) (P Q a : Int) (hs : s.size = 10) (h0 : ((s[0]'(by omega)).toNat : Int) = Q) (hPQ : ¬ Q = P) (ha : a = 0) (hx : ∀ w, Calls Try.prog 53 #[.string (s.extract 1 10), .int .i64 3] w fun e w' => e = .returned (.tuple #[.int .i64 a, .int .i64 0]) ∧ w = w') (w : World) : Calls Try.prog 48 #[.string s, .int .u8 P, .int .u8 Q, .int .i64 3] w fun e w' => e = .returned (.tuple #[.int .i64 0, .int .i64 4]) ∧ w = w' := by
  have HX := Lib.hid hx
  clear hx
  obtain ⟨i1, i2⟩ := nonempty s (by omega)
  have g1 : (Q == P) = false := by simpa using hPQ
  have g2 : (Q != P) = true := by simpa using hPQ
  have g3 : (Q == Q) = true := by simp
  clear hPQ
  subst ha
  go_enter Try.func48, Try.ntmps48
  go_wp2_with (first | (go_at_call 53; refine (HX.out _).mono ?_; rintro e w' ⟨rfl, rfl⟩))
  all_goals first | (go_ret2; exact ⟨rfl, rfl⟩)
theorem lon_ex (w : World) : Calls Try.prog 33 #[.string ⟨#[87, 49, 56, 48, 48, 48, 48, 48, 48, 48]⟩] w fun e w' => e = .returned (.tuple #[.int .i64 0, .int .i64 2]) ∧ w = w' := by
  have hx : ∀ w, Calls Try.prog 53 #[.string ((⟨#[87, 49, 56, 48, 48, 48, 48, 48, 48, 48]⟩ : ByteArray).extract 1 10), .int .i64 3] w fun e w' => e = .returned (.tuple #[.int .i64 64800000, .int .i64 0]) ∧ w = w' := by
    intro w
    have e : (⟨#[87, 49, 56, 48, 48, 48, 48, 48, 48, 48]⟩ : ByteArray).extract 1 10 = ⟨#[49, 56, 48, 48, 48, 48, 48, 48, 48]⟩ := by decide +kernel
    rw [e]
    have h := psex3 (⟨#[49, 56, 48, 48, 48, 48, 48, 48, 48]⟩ : ByteArray) 180000000 180 0 0 0 (by decide +kernel) (by unfold Dig; decide +kernel) (Lib.hid (by decide +kernel)) (Lib.hid (by decide +kernel)) (Lib.hid (by decide +kernel)) (Lib.hid (by decide +kernel)) (Lib.hid (by decide +kernel)) (by decide) (by decide) (by decide) (by decide) (by decide) (by decide) (by decide) (by decide) w
    simpa using h
  have HX := Lib.hid hx
  clear hx
  go_enter Try.func33, Try.ntmps33
  go_wp2_with (first | (go_at_call 48; refine (psig3_neg (⟨#[87, 49, 56, 48, 48, 48, 48, 48, 48, 48]⟩ : ByteArray) 69 87 64800000 (by decide +kernel) (by decide +kernel) (by decide) (by decide) (by decide) HX.out _).mono ?_; rintro e w' ⟨rfl, rfl⟩))
  go_ret2
  exact ⟨rfl, rfl⟩
theorem lat_ex (w : World) : Calls Try.prog 32 #[.string ⟨#[83, 48, 48, 48, 48, 48, 48, 48, 48]⟩] w fun e w' => e = .returned (.tuple #[.int .i64 0, .int .i64 4]) ∧ w = w' := by
  have hx : ∀ w, Calls Try.prog 53 #[.string ((⟨#[83, 48, 48, 48, 48, 48, 48, 48, 48]⟩ : ByteArray).extract 1 9), .int .i64 2] w fun e w' => e = .returned (.tuple #[.int .i64 0, .int .i64 0]) ∧ w = w' := by
    intro w
    have e : (⟨#[83, 48, 48, 48, 48, 48, 48, 48, 48]⟩ : ByteArray).extract 1 9 = ⟨#[48, 48, 48, 48, 48, 48, 48, 48]⟩ := by decide +kernel
    rw [e]
    have h := psex2 (⟨#[48, 48, 48, 48, 48, 48, 48, 48]⟩ : ByteArray) 0 0 0 0 0 (by decide +kernel) (by unfold Dig; decide +kernel) (Lib.hid (by decide +kernel)) (Lib.hid (by decide +kernel)) (Lib.hid (by decide +kernel)) (Lib.hid (by decide +kernel)) (Lib.hid (by decide +kernel)) (by decide) (by decide) (by decide) (by decide) (by decide) (by decide) (by decide) (by decide) w
    simpa using h
  have HX := Lib.hid hx
  clear hx
  go_enter Try.func32, Try.ntmps32
  go_wp2_with (first | (go_at_call 48; refine (psig2_zero (⟨#[83, 48, 48, 48, 48, 48, 48, 48, 48]⟩ : ByteArray) 78 83 0 (by decide +kernel) (by decide +kernel) (by decide) rfl HX.out _).mono ?_; rintro e w' ⟨rfl, rfl⟩))
  go_ret2
  exact ⟨rfl, rfl⟩
end Go.Proofs.Ytofeijgcbjhkdaa
