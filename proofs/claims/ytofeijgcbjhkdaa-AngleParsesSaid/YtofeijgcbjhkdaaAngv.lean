/-
  Own contracts: strings read as latitudes and longitudes, whatever they hold.
-/
import Derived.Test.YtofeijgcbjhkdaaAngu
import Derived.Test.YtofeijgcbjhkdaaAngr
import Derived.WalkKit
import Derived.ProofKit
import Derived.OpenShut
import Derived.WalkLawsBesides
import Derived.WalkSpells
import Derived.Lib.Hide
import Derived.Deep.DeepCutAuto
import Derived.Deep.CutBlock
import Derived.Deep.QuietTactic
import Derived.BigQuiet
import Derived.Handy
import Derived.StillTailTactics
import Derived.IntWalk
import Derived.LoopN
import Derived.Deep.RegionHeld3
namespace Go.Proofs.Ytofeijgcbjhkdaa
open Go.ChangeShapes Go.WideShapes Go.ChangeAt Go.RowKit
set_option linter.unusedVariables false
set_option linter.unusedSimpArgs false
theorem psig2_letter (s : ByteArray) (P Q L : Int) (hs : 0 < s.size) (h0 : ((s[0]'hs).toNat : Int) = L) (hP : ¬ L = P) (hQ : ¬ L = Q) (w : World) : Calls Try.prog 48 #[.string s, .int .u8 P, .int .u8 Q, .int .i64 2] w fun e w' => e = .returned (.tuple #[.int .i64 0, .int .i64 4]) ∧ w = w' := by
  obtain ⟨i1, i2⟩ := nonempty s hs
  have g1 : (L == P) = false := by simpa using hP
  have g2 : (L == Q) = false := by simpa using hQ
  have g3 : (L != P) = true := by simpa using hP
  have g4 : (L != Q) = true := by simpa using hQ
  clear hP hQ
  go_enter Try.func48, Try.ntmps48
  go_wp2
  all_goals go_ret2
  all_goals exact ⟨rfl, rfl⟩
  
theorem psig2_empty (s : ByteArray) (P Q : Int) (hs : s.size = 0) (w : World) : Calls Try.prog 48 #[.string s, .int .u8 P, .int .u8 Q, .int .i64 2] w fun e w' => e = .returned (.tuple #[.int .i64 0, .int .i64 4]) ∧ w = w' := by
  obtain rfl : s = ⟨#[]⟩ := by
    obtain ⟨⟨l⟩⟩ := s
    match l, hs with
    | [], _ => rfl
  go_enter Try.func48, Try.ntmps48
  go_wp2
  all_goals go_ret2
  all_goals exact ⟨rfl, rfl⟩
  
theorem psig2_err (s : ByteArray) (P Q L : Int) (m : Nat) (hs : s.size = m) (hs0 : 0 < s.size) (h0 : ((s[0]'hs0).toNat : Int) = L) (hL : L = P ∨ L = Q) (hx : ∀ w, Calls Try.prog 53 #[.string (s.extract 1 m), .int .i64 2] w fun e w' => e = .returned (.tuple #[.int .i64 0, .int .i64 4]) ∧ w = w') (w : World) : Calls Try.prog 48 #[.string s, .int .u8 P, .int .u8 Q, .int .i64 2] w fun e w' => e = .returned (.tuple #[.int .i64 0, .int .i64 4]) ∧ w = w' := by
  have HX := Lib.hid hx
  clear hx
  obtain ⟨i1, i2⟩ := nonempty s hs0
  by_cases hP : L = P
  · subst hP
    have g1 : (L == L) = true := by simp
    have g3 : (L != L) = false := by simp
    clear hL
    go_enter Try.func48, Try.ntmps48
    go_wp2_with (first | (go_at_call 53; refine (HX.out _).mono ?_; rintro e w' ⟨rfl, rfl⟩))
    all_goals go_ret2
    all_goals exact ⟨rfl, rfl⟩
    
  · have hQ : L = Q := by omega
    subst hQ
    have g1 : (L == P) = false := by simpa using hP
    have g3 : (L != P) = true := by simpa using hP
    have g2 : (L == L) = true := by simp
    have g4 : (L != L) = false := by simp
    clear hP hL
    go_enter Try.func48, Try.ntmps48
    go_wp2_with (first | (go_at_call 53; refine (HX.out _).mono ?_; rintro e w' ⟨rfl, rfl⟩))
    all_goals go_ret2
    all_goals exact ⟨rfl, rfl⟩
    
theorem rsig2_size (s K : ByteArray) (hm : s.size ≤ 9223372036854775807) (hs : s.size < 9 ∨ 9 < s.size) (w : World) : Calls Try.prog 49 #[.string s, .string K, .int .i64 2] w fun e w' => e = .returned (.tuple #[.int .i64 0, .bool false]) ∧ Dr w w' := by
  have y : ((s.size : Int) == 9) = false := by simpa using (show ¬ (s.size : Int) = 9 by omega)
  have y' : ((s.size : Int) != 9) = true := by simpa using (show ¬ (s.size : Int) = 9 by omega)
  have y2 : IntKind.i64.wrap 9 = 9 := by decide
  have z : (s.size == 9) = false := by simpa using (show ¬ s.size = 9 by omega)
  have z' : (s.size != 9) = true := by simpa using (show ¬ s.size = 9 by omega)
  go_enter Try.func49, Try.ntmps49
  go_wp2
  go_quiet (fail)
  go_wp2
  all_goals go_ret2
  all_goals exact ⟨rfl, (by repeat (first | exact Dr.refl _ | refine Dr.drewN ?_ _ | refine Dr.drew ?_))⟩
  
theorem rsig2_letter (s : ByteArray) (K : ByteArray) (P Q L : Int) (hk : K.size = 2) (k0 : ((K[0]'(by omega)).toNat : Int) = P) (k1 : ((K[1]'(by omega)).toNat : Int) = Q) (hs : s.size = 9) (h0 : ((s[0]'(by omega)).toNat : Int) = L) (hP : ¬ L = P) (hQ : ¬ L = Q) (w : World) : Calls Try.prog 49 #[.string s, .string K, .int .i64 2] w fun e w' => e = .returned (.tuple #[.int .i64 0, .bool false]) ∧ Dr w w' := by
  have g1 : (L == P) = false := by simpa using hP
  have g2 : (L == Q) = false := by simpa using hQ
  have g3 : (L != P) = true := by simpa using hP
  have g4 : (L != Q) = true := by simpa using hQ
  clear hP hQ
  go_enter Try.func49, Try.ntmps49
  go_wp2
  go_quiet (fail)
  go_wp2
  all_goals go_ret2
  all_goals exact ⟨rfl, (by repeat (first | exact Dr.refl _ | refine Dr.drewN ?_ _ | refine Dr.drew ?_))⟩
  
theorem rsig2_err (s : ByteArray) (K : ByteArray) (P Q L : Int) (hk : K.size = 2) (k0 : ((K[0]'(by omega)).toNat : Int) = P) (k1 : ((K[1]'(by omega)).toNat : Int) = Q) (hs : s.size = 9) (h0 : ((s[0]'(by omega)).toNat : Int) = L) (hL : L = P ∨ L = Q) (hx : ∀ w, Calls Try.prog 56 #[.string (s.extract 1 9), .int .i64 2] w fun e w' => e = .returned (.tuple #[.int .i64 0, .bool false]) ∧ w = w') (w : World) : Calls Try.prog 49 #[.string s, .string K, .int .i64 2] w fun e w' => e = .returned (.tuple #[.int .i64 0, .bool false]) ∧ Dr w w' := by
  have HX := Lib.hid hx
  clear hx
  by_cases hPQ : P = Q
  · subst hPQ
    obtain rfl : L = P := by omega
    have g1 : (L == L) = true := by simp
    have g3 : (L != L) = false := by simp
    clear hL
    go_enter Try.func49, Try.ntmps49
    go_wp2_with fail
    go_quiet (fail)
    go_wp2_with (first | (go_at_call 56; refine (HX.out _).mono ?_; rintro e w' ⟨rfl, rfl⟩))
    all_goals (try (go_quiet (fail); go_wp2_with fail))
    all_goals (try (go_quiet (fail); go_wp2_with fail))
    all_goals go_ret2
    all_goals exact ⟨rfl, (by repeat (first | exact Dr.refl _ | refine Dr.drewN ?_ _ | refine Dr.drew ?_))⟩
  rcases hL with hL | hL
  · subst hL
    have g1 : (L == L) = true := by simp
    have g3 : (L != L) = false := by simp
    have g2 : (L == Q) = false := by simpa using hPQ
    have g4 : (L != Q) = true := by simpa using hPQ
    clear hPQ
    go_enter Try.func49, Try.ntmps49
    go_wp2_with fail
    go_quiet (fail)
    go_wp2_with (first | (go_at_call 56; refine (HX.out _).mono ?_; rintro e w' ⟨rfl, rfl⟩))
    all_goals (try (go_quiet (fail); go_wp2_with fail))
    all_goals (try (go_quiet (fail); go_wp2_with fail))
    all_goals go_ret2
    all_goals exact ⟨rfl, (by repeat (first | exact Dr.refl _ | refine Dr.drewN ?_ _ | refine Dr.drew ?_))⟩
  · subst hL
    have g0 : ¬ L = P := fun h => hPQ h.symm
    have g1 : (L == P) = false := by simpa using g0
    have g3 : (L != P) = true := by simpa using g0
    have g2 : (L == L) = true := by simp
    have g4 : (L != L) = false := by simp
    clear hPQ g0
    go_enter Try.func49, Try.ntmps49
    go_wp2_with fail
    go_quiet (fail)
    go_wp2_with (first | (go_at_call 56; refine (HX.out _).mono ?_; rintro e w' ⟨rfl, rfl⟩))
    all_goals (try (go_quiet (fail); go_wp2_with fail))
    all_goals (try (go_quiet (fail); go_wp2_with fail))
    all_goals go_ret2
    all_goals exact ⟨rfl, (by repeat (first | exact Dr.refl _ | refine Dr.drewN ?_ _ | refine Dr.drew ?_))⟩
theorem rsig2_pos (s : ByteArray) (K : ByteArray) (P Q L : Int) (hk : K.size = 2) (k0 : ((K[0]'(by omega)).toNat : Int) = P) (k1 : ((K[1]'(by omega)).toNat : Int) = Q) (a : Int) (hs : s.size = 9) (h0 : ((s[0]'(by omega)).toNat : Int) = L) (hL : L = P) (hPQ : ¬ P = Q) (hx : ∀ w, Calls Try.prog 56 #[.string (s.extract 1 9), .int .i64 2] w fun e w' => e = .returned (.tuple #[.int .i64 a, .bool true]) ∧ w = w') (w : World) : Calls Try.prog 49 #[.string s, .string K, .int .i64 2] w fun e w' => e = .returned (.tuple #[.int .i64 a, .bool true]) ∧ Dr w w' := by
  have HX := Lib.hid hx
  clear hx
  subst hL
  have g1 : (L == L) = true := by simp
  have g3 : (L != L) = false := by simp
  have g2 : (L == Q) = false := by simpa using hPQ
  have g4 : (L != Q) = true := by simpa using hPQ
  clear hPQ
  go_enter Try.func49, Try.ntmps49
  go_wp2_with fail
  go_quiet (fail)
  go_wp2_with (first | (go_at_call 56; refine (HX.out _).mono ?_; rintro e w' ⟨rfl, rfl⟩))
  all_goals (try (go_quiet (fail); go_wp2_with fail))
  all_goals (try (go_quiet (fail); go_wp2_with fail))
  all_goals go_ret2
  all_goals exact ⟨rfl, (by repeat (first | exact Dr.refl _ | refine Dr.drewN ?_ _ | refine Dr.drew ?_))⟩
theorem rsig2_neg (s : ByteArray) (K : ByteArray) (P Q L : Int) (hk : K.size = 2) (k0 : ((K[0]'(by omega)).toNat : Int) = P) (k1 : ((K[1]'(by omega)).toNat : Int) = Q) (a : Int) (hs : s.size = 9) (h0 : ((s[0]'(by omega)).toNat : Int) = L) (hL : L = Q) (hPQ : ¬ P = Q) (ha : 0 < a) (ha1 : a ≤ 9223372036854775807) (hx : ∀ w, Calls Try.prog 56 #[.string (s.extract 1 9), .int .i64 2] w fun e w' => e = .returned (.tuple #[.int .i64 a, .bool true]) ∧ w = w') (w : World) : Calls Try.prog 49 #[.string s, .string K, .int .i64 2] w fun e w' => e = .returned (.tuple #[.int .i64 (-a), .bool true]) ∧ Dr w w' := by
  have HX := Lib.hid hx
  clear hx
  subst hL
  have g0 : ¬ L = P := fun h => hPQ h.symm
  have g1 : (L == P) = false := by simpa using g0
  have g3 : (L != P) = true := by simpa using g0
  have g2 : (L == L) = true := by simp
  have g4 : (L != L) = false := by simp
  clear hPQ g0
  have g5 : (a == 0) = false := by simpa using (show ¬ a = 0 by omega)
  go_enter Try.func49, Try.ntmps49
  go_wp2_with fail
  go_quiet (fail)
  go_wp2_with (first | (go_at_call 56; refine (HX.out _).mono ?_; rintro e w' ⟨rfl, rfl⟩))
  all_goals (try (go_quiet (fail); go_wp2_with fail))
  all_goals (try (go_quiet (fail); go_wp2_with fail))
  all_goals go_ret2
  all_goals exact ⟨rfl, (by repeat (first | exact Dr.refl _ | refine Dr.drewN ?_ _ | refine Dr.drew ?_))⟩
theorem rsig2_zero (s : ByteArray) (K : ByteArray) (P Q L : Int) (hk : K.size = 2) (k0 : ((K[0]'(by omega)).toNat : Int) = P) (k1 : ((K[1]'(by omega)).toNat : Int) = Q) (a : Int) (hs : s.size = 9) (h0 : ((s[0]'(by omega)).toNat : Int) = L) (hL : L = Q) (hPQ : ¬ P = Q) (ha : a = 0) (hx : ∀ w, Calls Try.prog 56 #[.string (s.extract 1 9), .int .i64 2] w fun e w' => e = .returned (.tuple #[.int .i64 a, .bool true]) ∧ w = w') (w : World) : Calls Try.prog 49 #[.string s, .string K, .int .i64 2] w fun e w' => e = .returned (.tuple #[.int .i64 0, .bool false]) ∧ Dr w w' := by
  have HX := Lib.hid hx
  clear hx
  subst hL
  have g0 : ¬ L = P := fun h => hPQ h.symm
  have g1 : (L == P) = false := by simpa using g0
  have g3 : (L != P) = true := by simpa using g0
  have g2 : (L == L) = true := by simp
  have g4 : (L != L) = false := by simp
  clear hPQ g0
  subst ha
  go_enter Try.func49, Try.ntmps49
  go_wp2_with fail
  go_quiet (fail)
  go_wp2_with (first | (go_at_call 56; refine (HX.out _).mono ?_; rintro e w' ⟨rfl, rfl⟩))
  all_goals (try (go_quiet (fail); go_wp2_with fail))
  all_goals (try (go_quiet (fail); go_wp2_with fail))
  all_goals go_ret2
  all_goals exact ⟨rfl, (by repeat (first | exact Dr.refl _ | refine Dr.drewN ?_ _ | refine Dr.drew ?_))⟩
theorem psig3_letter (s : ByteArray) (P Q L : Int) (hs : 0 < s.size) (h0 : ((s[0]'hs).toNat : Int) = L) (hP : ¬ L = P) (hQ : ¬ L = Q) (w : World) : Calls Try.prog 48 #[.string s, .int .u8 P, .int .u8 Q, .int .i64 3] w fun e w' => e = .returned (.tuple #[.int .i64 0, .int .i64 4]) ∧ w = w' := by
  obtain ⟨i1, i2⟩ := nonempty s hs
  have g1 : (L == P) = false := by simpa using hP
  have g2 : (L == Q) = false := by simpa using hQ
  have g3 : (L != P) = true := by simpa using hP
  have g4 : (L != Q) = true := by simpa using hQ
  clear hP hQ
  go_enter Try.func48, Try.ntmps48
  go_wp2
  all_goals go_ret2
  all_goals exact ⟨rfl, rfl⟩
  
theorem psig3_empty (s : ByteArray) (P Q : Int) (hs : s.size = 0) (w : World) : Calls Try.prog 48 #[.string s, .int .u8 P, .int .u8 Q, .int .i64 3] w fun e w' => e = .returned (.tuple #[.int .i64 0, .int .i64 4]) ∧ w = w' := by
  obtain rfl : s = ⟨#[]⟩ := by
    obtain ⟨⟨l⟩⟩ := s
    match l, hs with
    | [], _ => rfl
  go_enter Try.func48, Try.ntmps48
  go_wp2
  all_goals go_ret2
  all_goals exact ⟨rfl, rfl⟩
  
theorem psig3_err (s : ByteArray) (P Q L : Int) (m : Nat) (hs : s.size = m) (hs0 : 0 < s.size) (h0 : ((s[0]'hs0).toNat : Int) = L) (hL : L = P ∨ L = Q) (hx : ∀ w, Calls Try.prog 53 #[.string (s.extract 1 m), .int .i64 3] w fun e w' => e = .returned (.tuple #[.int .i64 0, .int .i64 4]) ∧ w = w') (w : World) : Calls Try.prog 48 #[.string s, .int .u8 P, .int .u8 Q, .int .i64 3] w fun e w' => e = .returned (.tuple #[.int .i64 0, .int .i64 4]) ∧ w = w' := by
  have HX := Lib.hid hx
  clear hx
  obtain ⟨i1, i2⟩ := nonempty s hs0
  by_cases hP : L = P
  · subst hP
    have g1 : (L == L) = true := by simp
    have g3 : (L != L) = false := by simp
    clear hL
    go_enter Try.func48, Try.ntmps48
    go_wp2_with (first | (go_at_call 53; refine (HX.out _).mono ?_; rintro e w' ⟨rfl, rfl⟩))
    all_goals go_ret2
    all_goals exact ⟨rfl, rfl⟩
    
  · have hQ : L = Q := by omega
    subst hQ
    have g1 : (L == P) = false := by simpa using hP
    have g3 : (L != P) = true := by simpa using hP
    have g2 : (L == L) = true := by simp
    have g4 : (L != L) = false := by simp
    clear hP hL
    go_enter Try.func48, Try.ntmps48
    go_wp2_with (first | (go_at_call 53; refine (HX.out _).mono ?_; rintro e w' ⟨rfl, rfl⟩))
    all_goals go_ret2
    all_goals exact ⟨rfl, rfl⟩
    
theorem rsig3_size (s K : ByteArray) (hm : s.size ≤ 9223372036854775807) (hs : s.size < 10 ∨ 10 < s.size) (w : World) : Calls Try.prog 49 #[.string s, .string K, .int .i64 3] w fun e w' => e = .returned (.tuple #[.int .i64 0, .bool false]) ∧ Dr w w' := by
  have y : ((s.size : Int) == 10) = false := by simpa using (show ¬ (s.size : Int) = 10 by omega)
  have y' : ((s.size : Int) != 10) = true := by simpa using (show ¬ (s.size : Int) = 10 by omega)
  have y2 : IntKind.i64.wrap 10 = 10 := by decide
  have z : (s.size == 10) = false := by simpa using (show ¬ s.size = 10 by omega)
  have z' : (s.size != 10) = true := by simpa using (show ¬ s.size = 10 by omega)
  go_enter Try.func49, Try.ntmps49
  go_wp2
  go_quiet (fail)
  go_wp2
  all_goals go_ret2
  all_goals exact ⟨rfl, (by repeat (first | exact Dr.refl _ | refine Dr.drewN ?_ _ | refine Dr.drew ?_))⟩
  
theorem rsig3_letter (s : ByteArray) (K : ByteArray) (P Q L : Int) (hk : K.size = 2) (k0 : ((K[0]'(by omega)).toNat : Int) = P) (k1 : ((K[1]'(by omega)).toNat : Int) = Q) (hs : s.size = 10) (h0 : ((s[0]'(by omega)).toNat : Int) = L) (hP : ¬ L = P) (hQ : ¬ L = Q) (w : World) : Calls Try.prog 49 #[.string s, .string K, .int .i64 3] w fun e w' => e = .returned (.tuple #[.int .i64 0, .bool false]) ∧ Dr w w' := by
  have g1 : (L == P) = false := by simpa using hP
  have g2 : (L == Q) = false := by simpa using hQ
  have g3 : (L != P) = true := by simpa using hP
  have g4 : (L != Q) = true := by simpa using hQ
  clear hP hQ
  go_enter Try.func49, Try.ntmps49
  go_wp2
  go_quiet (fail)
  go_wp2
  all_goals go_ret2
  all_goals exact ⟨rfl, (by repeat (first | exact Dr.refl _ | refine Dr.drewN ?_ _ | refine Dr.drew ?_))⟩
  
theorem rsig3_err (s : ByteArray) (K : ByteArray) (P Q L : Int) (hk : K.size = 2) (k0 : ((K[0]'(by omega)).toNat : Int) = P) (k1 : ((K[1]'(by omega)).toNat : Int) = Q) (hs : s.size = 10) (h0 : ((s[0]'(by omega)).toNat : Int) = L) (hL : L = P ∨ L = Q) (hx : ∀ w, Calls Try.prog 56 #[.string (s.extract 1 10), .int .i64 3] w fun e w' => e = .returned (.tuple #[.int .i64 0, .bool false]) ∧ w = w') (w : World) : Calls Try.prog 49 #[.string s, .string K, .int .i64 3] w fun e w' => e = .returned (.tuple #[.int .i64 0, .bool false]) ∧ Dr w w' := by
  have HX := Lib.hid hx
  clear hx
  by_cases hPQ : P = Q
  · subst hPQ
    obtain rfl : L = P := by omega
    have g1 : (L == L) = true := by simp
    have g3 : (L != L) = false := by simp
    clear hL
    go_enter Try.func49, Try.ntmps49
    go_wp2_with fail
    go_quiet (fail)
    go_wp2_with (first | (go_at_call 56; refine (HX.out _).mono ?_; rintro e w' ⟨rfl, rfl⟩))
    all_goals (try (go_quiet (fail); go_wp2_with fail))
    all_goals (try (go_quiet (fail); go_wp2_with fail))
    all_goals go_ret2
    all_goals exact ⟨rfl, (by repeat (first | exact Dr.refl _ | refine Dr.drewN ?_ _ | refine Dr.drew ?_))⟩
  rcases hL with hL | hL
  · subst hL
    have g1 : (L == L) = true := by simp
    have g3 : (L != L) = false := by simp
    have g2 : (L == Q) = false := by simpa using hPQ
    have g4 : (L != Q) = true := by simpa using hPQ
    clear hPQ
    go_enter Try.func49, Try.ntmps49
    go_wp2_with fail
    go_quiet (fail)
    go_wp2_with (first | (go_at_call 56; refine (HX.out _).mono ?_; rintro e w' ⟨rfl, rfl⟩))
    all_goals (try (go_quiet (fail); go_wp2_with fail))
    all_goals (try (go_quiet (fail); go_wp2_with fail))
    all_goals go_ret2
    all_goals exact ⟨rfl, (by repeat (first | exact Dr.refl _ | refine Dr.drewN ?_ _ | refine Dr.drew ?_))⟩
  · subst hL
    have g0 : ¬ L = P := fun h => hPQ h.symm
    have g1 : (L == P) = false := by simpa using g0
    have g3 : (L != P) = true := by simpa using g0
    have g2 : (L == L) = true := by simp
    have g4 : (L != L) = false := by simp
    clear hPQ g0
    go_enter Try.func49, Try.ntmps49
    go_wp2_with fail
    go_quiet (fail)
    go_wp2_with (first | (go_at_call 56; refine (HX.out _).mono ?_; rintro e w' ⟨rfl, rfl⟩))
    all_goals (try (go_quiet (fail); go_wp2_with fail))
    all_goals (try (go_quiet (fail); go_wp2_with fail))
    all_goals go_ret2
    all_goals exact ⟨rfl, (by repeat (first | exact Dr.refl _ | refine Dr.drewN ?_ _ | refine Dr.drew ?_))⟩
theorem rsig3_pos (s : ByteArray) (K : ByteArray) (P Q L : Int) (hk : K.size = 2) (k0 : ((K[0]'(by omega)).toNat : Int) = P) (k1 : ((K[1]'(by omega)).toNat : Int) = Q) (a : Int) (hs : s.size = 10) (h0 : ((s[0]'(by omega)).toNat : Int) = L) (hL : L = P) (hPQ : ¬ P = Q) (hx : ∀ w, Calls Try.prog 56 #[.string (s.extract 1 10), .int .i64 3] w fun e w' => e = .returned (.tuple #[.int .i64 a, .bool true]) ∧ w = w') (w : World) : Calls Try.prog 49 #[.string s, .string K, .int .i64 3] w fun e w' => e = .returned (.tuple #[.int .i64 a, .bool true]) ∧ Dr w w' := by
  have HX := Lib.hid hx
  clear hx
  subst hL
  have g1 : (L == L) = true := by simp
  have g3 : (L != L) = false := by simp
  have g2 : (L == Q) = false := by simpa using hPQ
  have g4 : (L != Q) = true := by simpa using hPQ
  clear hPQ
  go_enter Try.func49, Try.ntmps49
  go_wp2_with fail
  go_quiet (fail)
  go_wp2_with (first | (go_at_call 56; refine (HX.out _).mono ?_; rintro e w' ⟨rfl, rfl⟩))
  all_goals (try (go_quiet (fail); go_wp2_with fail))
  all_goals (try (go_quiet (fail); go_wp2_with fail))
  all_goals go_ret2
  all_goals exact ⟨rfl, (by repeat (first | exact Dr.refl _ | refine Dr.drewN ?_ _ | refine Dr.drew ?_))⟩
theorem rsig3_neg (s : ByteArray) (K : ByteArray) (P Q L : Int) (hk : K.size = 2) (k0 : ((K[0]'(by omega)).toNat : Int) = P) (k1 : ((K[1]'(by omega)).toNat : Int) = Q) (a : Int) (hs : s.size = 10) (h0 : ((s[0]'(by omega)).toNat : Int) = L) (hL : L = Q) (hPQ : ¬ P = Q) (ha : 0 < a) (ha1 : a ≤ 9223372036854775807) (hx : ∀ w, Calls Try.prog 56 #[.string (s.extract 1 10), .int .i64 3] w fun e w' => e = .returned (.tuple #[.int .i64 a, .bool true]) ∧ w = w') (w : World) : Calls Try.prog 49 #[.string s, .string K, .int .i64 3] w fun e w' => e = .returned (.tuple #[.int .i64 (-a), .bool true]) ∧ Dr w w' := by
  have HX := Lib.hid hx
  clear hx
  subst hL
  have g0 : ¬ L = P := fun h => hPQ h.symm
  have g1 : (L == P) = false := by simpa using g0
  have g3 : (L != P) = true := by simpa using g0
  have g2 : (L == L) = true := by simp
  have g4 : (L != L) = false := by simp
  clear hPQ g0
  have g5 : (a == 0) = false := by simpa using (show ¬ a = 0 by omega)
  go_enter Try.func49, Try.ntmps49
  go_wp2_with fail
  go_quiet (fail)
  go_wp2_with (first | (go_at_call 56; refine (HX.out _).mono ?_; rintro e w' ⟨rfl, rfl⟩))
  all_goals (try (go_quiet (fail); go_wp2_with fail))
  all_goals (try (go_quiet (fail); go_wp2_with fail))
  all_goals go_ret2
  all_goals exact ⟨rfl, (by repeat (first | exact Dr.refl _ | refine Dr.drewN ?_ _ | refine Dr.drew ?_))⟩
theorem rsig3_zero (s : ByteArray) (K : ByteArray) (P Q L : Int) (hk : K.size = 2) (k0 : ((K[0]'(by omega)).toNat : Int) = P) (k1 : ((K[1]'(by omega)).toNat : Int) = Q) (a : Int) (hs : s.size = 10) (h0 : ((s[0]'(by omega)).toNat : Int) = L) (hL : L = Q) (hPQ : ¬ P = Q) (ha : a = 0) (hx : ∀ w, Calls Try.prog 56 #[.string (s.extract 1 10), .int .i64 3] w fun e w' => e = .returned (.tuple #[.int .i64 a, .bool true]) ∧ w = w') (w : World) : Calls Try.prog 49 #[.string s, .string K, .int .i64 3] w fun e w' => e = .returned (.tuple #[.int .i64 0, .bool false]) ∧ Dr w w' := by
  have HX := Lib.hid hx
  clear hx
  subst hL
  have g0 : ¬ L = P := fun h => hPQ h.symm
  have g1 : (L == P) = false := by simpa using g0
  have g3 : (L != P) = true := by simpa using g0
  have g2 : (L == L) = true := by simp
  have g4 : (L != L) = false := by simp
  clear hPQ g0
  subst ha
  go_enter Try.func49, Try.ntmps49
  go_wp2_with fail
  go_quiet (fail)
  go_wp2_with (first | (go_at_call 56; refine (HX.out _).mono ?_; rintro e w' ⟨rfl, rfl⟩))
  all_goals (try (go_quiet (fail); go_wp2_with fail))
  all_goals (try (go_quiet (fail); go_wp2_with fail))
  all_goals go_ret2
  all_goals exact ⟨rfl, (by repeat (first | exact Dr.refl _ | refine Dr.drewN ?_ _ | refine Dr.drew ?_))⟩
end Go.Proofs.Ytofeijgcbjhkdaa
