/-
  Own contracts: the law of layer 5 on strings read as dates and times of day.
-/
import Derived.Test.YtkmpbkojdkoghaaDoorCalq
import Derived.Test.YtkmpbkojdkoghaaDoorCalc
import Derived.WalkKit
import Derived.ProofKit
import Derived.OpenShut
import Derived.WalkLawsBesides
import Derived.WalkSpells
import Derived.Lib.Hide
import Derived.Deep.DeepCutAuto
import Derived.Deep.CutBlock
import Derived.Deep.QuietTactic
import Derived.BigQuiet
import Derived.Handy
import Derived.StillTailTactics
import Derived.IntWalk
import Derived.LoopN
import Derived.Deep.RegionHeld3
namespace Go.Proofs.YtkmpbkojdkoghaaDoor
open Go.ChangeShapes Go.WideShapes Go.ChangeAt Go.RowKit
set_option linter.unusedVariables false
set_option linter.unusedSimpArgs false
theorem parsedate_all (s : ByteArray) (hm : s.size ≤ 9223372036854775807) : ∃ v er : Int, (∀ w, Hid (Tab w) → Calls Tryd.prog 25 #[.string s] w fun e w' => e = .returned (.tuple #[.int .i64 v, .int .i64 er]) ∧ w = w') ∧ (∀ w, Calls Tryd.prog 26 #[.string s] w fun e w' => e = .returned (.tuple #[.int .i64 v, .int .i64 er]) ∧ Dr w w') := by
  by_cases z : s.size = 10
  · by_cases h4 : ((s[4]'(by omega)).toNat : Int) = 45
    · by_cases h7 : ((s[7]'(by omega)).toNat : Int) = 45
      · by_cases b0 : digB (s.extract 0 4) = true
        · by_cases b1 : digB (s.extract 5 7) = true
          · by_cases b2 : digB (s.extract 8 10) = true
            · exact ⟨_, _, fun w ht => parsedate_ok s z h4 h7 b0 b1 b2 w ht, fun w => rparsedate_ok s z h4 h7 b0 b1 b2 w⟩
            · replace b2 : digB (s.extract 8 10) = false := by simpa using b2
              exact ⟨0, 4, fun w ht => parsedate_no2 s z h4 h7 b0 b1 b2 w, fun w => rparsedate_no2 s z h4 h7 b0 b1 b2 w⟩
          · replace b1 : digB (s.extract 5 7) = false := by simpa using b1
            exact ⟨0, 4, fun w ht => parsedate_no1 s z h4 h7 b0 b1 w, fun w => rparsedate_no1 s z h4 h7 b0 b1 w⟩
        · replace b0 : digB (s.extract 0 4) = false := by simpa using b0
          exact ⟨0, 4, fun w ht => parsedate_no0 s z h4 h7 b0 w, fun w => rparsedate_no0 s z h4 h7 b0 w⟩
      · exact ⟨0, 4, fun w ht => parsedate_mark7 s z h4 h7 w, fun w => rparsedate_mark7 s z h4 h7 w⟩
    · exact ⟨0, 4, fun w ht => parsedate_mark4 s z h4 w, fun w => rparsedate_mark4 s z h4 w⟩
  · have hz : s.size < 10 ∨ 10 < s.size := by omega
    exact ⟨0, 4, fun w ht => parsedate_size s hm hz w, fun w => rparsedate_size s hm hz w⟩
theorem parseclock_all (s : ByteArray) (hm : s.size ≤ 9223372036854775807) : ∃ v er : Int, (∀ w, Calls Tryd.prog 27 #[.string s] w fun e w' => e = .returned (.tuple #[.int .i64 v, .int .i64 er]) ∧ w = w') ∧ (∀ w, Calls Tryd.prog 28 #[.string s] w fun e w' => e = .returned (.tuple #[.int .i64 v, .int .i64 er]) ∧ Dr w w') := by
  by_cases z : s.size = 5
  · by_cases h2 : ((s[2]'(by omega)).toNat : Int) = 58
    · by_cases b0 : digB (s.extract 0 2) = true
      · by_cases b1 : digB (s.extract 3 5) = true
        · by_cases k0 : vN (s.extract 0 2) ≤ 23
          · by_cases k1 : vN (s.extract 3 5) ≤ 59
            · exact ⟨_, _, fun w => parseclock_ok s z h2 b0 b1 k0 k1 w, fun w => rparseclock_ok s z h2 b0 b1 k0 k1 w⟩
            · have k2 : 59 < vN (s.extract 3 5) := by omega
              exact ⟨_, _, fun w => parseclock_minute s z h2 b0 b1 k0 k2 w, fun w => rparseclock_minute s z h2 b0 b1 k0 k2 w⟩
          · have k2 : 23 < vN (s.extract 0 2) := by omega
            exact ⟨_, _, fun w => parseclock_hour s z h2 b0 b1 k2 w, fun w => rparseclock_hour s z h2 b0 b1 k2 w⟩
        · replace b1 : digB (s.extract 3 5) = false := by simpa using b1
          exact ⟨0, 4, fun w => parseclock_no1 s z h2 b0 b1 w, fun w => rparseclock_no1 s z h2 b0 b1 w⟩
      · replace b0 : digB (s.extract 0 2) = false := by simpa using b0
        exact ⟨0, 4, fun w => parseclock_no0 s z h2 b0 w, fun w => rparseclock_no0 s z h2 b0 w⟩
    · exact ⟨0, 4, fun w => parseclock_mark2 s z h2 w, fun w => rparseclock_mark2 s z h2 w⟩
  · have hz : s.size < 5 ∨ 5 < s.size := by omega
    exact ⟨0, 4, fun w => parseclock_size s hm hz w, fun w => rparseclock_size s hm hz w⟩
set_option maxHeartbeats 2000000 in
theorem law_parses (s : ByteArray) (hm : s.size ≤ maxLen) (w : World) (ht : Hid (Tab w)) : Calls Tryd.prog 8 #[.string s] w fun e w' => e = .returned (.bool true) ∧ Dr w w' := by
  unfold maxLen at hm
  by_cases c : s.size ≤ 40
  · obtain ⟨T, hT⟩ : ∃ T, s.extract 0 s.size = T := ⟨_, rfl⟩
    have zT : T.size ≤ 40 := by rw [← hT, ByteArray.size_extract]; omega
    obtain ⟨v, er, hp, hr⟩ := parsedate_all T (by omega)
    obtain ⟨u, fr, hc, hd⟩ := parseclock_all T (by omega)
    have H1 := Lib.hid hp; have H2 := Lib.hid hr; have H3 := Lib.hid hc; have H4 := Lib.hid hd
    clear hp hr hc hd
    go_enter Tryd.func8, Tryd.ntmps8
    go_wp2_with (first | (go_at_call 14; refine (awake_w _ ht).mono ?_; rintro e w' ⟨rfl, rfl⟩) | (go_at_call 25; refine (H1.out _ ht).mono ?_; rintro e w' ⟨rfl, rfl⟩) | (go_at_call 26; refine (H2.out _).mono ?_; rintro e w' ⟨rfl, nd, rfl⟩) | (go_at_call 27; refine (H3.out _).mono ?_; rintro e w' ⟨rfl, rfl⟩) | (go_at_call 28; refine (H4.out _).mono ?_; rintro e w' ⟨rfl, nd, rfl⟩))
    all_goals go_ret
    all_goals exact ⟨rfl, (by repeat (first | exact Dr.refl _ | refine Dr.drewN ?_ _ | refine Dr.drew ?_))⟩
  · obtain ⟨T, hT⟩ : ∃ T, s.extract 0 40 = T := ⟨_, rfl⟩
    have zT : T.size ≤ 40 := by rw [← hT, ByteArray.size_extract]; omega
    obtain ⟨v, er, hp, hr⟩ := parsedate_all T (by omega)
    obtain ⟨u, fr, hc, hd⟩ := parseclock_all T (by omega)
    have H1 := Lib.hid hp; have H2 := Lib.hid hr; have H3 := Lib.hid hc; have H4 := Lib.hid hd
    clear hp hr hc hd
    go_enter Tryd.func8, Tryd.ntmps8
    go_wp2_with (first | (go_at_call 14; refine (awake_w _ ht).mono ?_; rintro e w' ⟨rfl, rfl⟩) | (go_at_call 25; refine (H1.out _ ht).mono ?_; rintro e w' ⟨rfl, rfl⟩) | (go_at_call 26; refine (H2.out _).mono ?_; rintro e w' ⟨rfl, nd, rfl⟩) | (go_at_call 27; refine (H3.out _).mono ?_; rintro e w' ⟨rfl, rfl⟩) | (go_at_call 28; refine (H4.out _).mono ?_; rintro e w' ⟨rfl, nd, rfl⟩))
    all_goals go_ret
    all_goals exact ⟨rfl, (by repeat (first | exact Dr.refl _ | refine Dr.drewN ?_ _ | refine Dr.drew ?_))⟩
end Go.Proofs.YtkmpbkojdkoghaaDoor
