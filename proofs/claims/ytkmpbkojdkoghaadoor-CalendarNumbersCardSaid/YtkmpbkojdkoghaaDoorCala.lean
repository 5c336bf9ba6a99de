/-
  Own contracts: package calendar and the document's answers of layer 5: years, months, days.
-/
import Derived.Test.YtkmpbkojdkoghaaDoorCalnum
import Derived.Test.YtkmpbkojdkoghaaDoorRows
import Derived.Test.YtkmpbkojdkoghaaDoorBase
import Derived.WalkKit
import Derived.ProofKit
import Derived.OpenShut
import Derived.WalkLawsBesides
import Derived.WalkSpells
import Derived.Lib.Hide
import Derived.Deep.DeepCutAuto
import Derived.Deep.CutBlock
import Derived.Deep.QuietTactic
import Derived.BigQuiet
import Derived.Handy
import Derived.StillTailTactics
import Derived.IntWalk
import Derived.LoopN
import Derived.Deep.RegionHeld3
namespace Go.Proofs.YtkmpbkojdkoghaaDoor
open Go.ChangeShapes Go.WideShapes Go.ChangeAt Go.RowKit
set_option linter.unusedVariables false
set_option linter.unusedSimpArgs false

def lpB (y : Int) : Bool := decide (lpI y = 1)
def tabv (i : Nat) : Int := ([31, 28, 31, 30, 31, 30, 31, 31, 30, 31, 30, 31] : List Int).getD i 0
/-- the table of the months' lengths, as the row lays it -/
def Tab (w : World) : Prop := ∀ i : Nat, i < 12 → w.cell? ⟨0, i, none⟩ = some (.int .i64 (tabv i))
theorem leap_w (y : Int) (y_0 : -9223372036854775808 ≤ y) (y_1 : y ≤ 9223372036854775807) (w : World) : Calls Tryd.prog 15 #[.int .i64 y] w fun e w' => e = .returned (.bool (lpB y)) ∧ w = w' := by
  by_cases c1 : y < 2000
  · have E' : lpB y = false := by unfold lpB lpI; rw [if_neg (by omega)]; rfl
    have E := Lib.hid E'
    clear E'
    go_enter Tryd.func15, Tryd.ntmps15
    go_wp2
    go_ret
    refine ⟨?_, rfl⟩
    rw [E.out]; rfl
  by_cases c2 : 2099 < y
  · have E' : lpB y = false := by unfold lpB lpI; rw [if_neg (by omega)]; rfl
    have E := Lib.hid E'
    clear E'
    go_enter Tryd.func15, Tryd.ntmps15
    go_wp2
    go_ret
    refine ⟨?_, rfl⟩
    rw [E.out]; rfl
  by_cases c3 : y % 4 = 0
  · have E' : lpB y = true := by unfold lpB lpI; rw [if_pos (by omega)]; rfl
    have E := Lib.hid E'
    clear E'
    have c4 : (y % 4 == 0) = true := by rw [beq_iff_eq]; exact c3
    clear c3
    go_enter Tryd.func15, Tryd.ntmps15
    go_wp2
    go_ret
    refine ⟨?_, rfl⟩
    rw [E.out]; rfl
  · have E' : lpB y = false := by unfold lpB lpI; rw [if_neg (by omega)]; rfl
    have E := Lib.hid E'
    clear E'
    have c4 : (y % 4 == 0) = false := by rw [beq_eq_false_iff_ne]; exact c3
    clear c3
    go_enter Tryd.func15, Tryd.ntmps15
    go_wp2
    go_ret
    refine ⟨?_, rfl⟩
    rw [E.out]; rfl
theorem ref_leap_w (y : Int) (y_0 : -9223372036854775808 ≤ y) (y_1 : y ≤ 9223372036854775807) (w : World) : Calls Tryd.prog 16 #[.int .i64 y] w fun e w' => e = .returned (.bool (lpB y)) ∧ w = w' := by
  by_cases c1 : y < 2000
  · have E' : lpB y = false := by unfold lpB lpI; rw [if_neg (by omega)]; rfl
    have E := Lib.hid E'
    clear E'
    go_enter Tryd.func16, Tryd.ntmps16
    go_wp2
    go_ret
    refine ⟨?_, rfl⟩
    rw [E.out]; rfl
  by_cases c2 : 2099 < y
  · have E' : lpB y = false := by unfold lpB lpI; rw [if_neg (by omega)]; rfl
    have E := Lib.hid E'
    clear E'
    go_enter Tryd.func16, Tryd.ntmps16
    go_wp2
    go_ret
    refine ⟨?_, rfl⟩
    rw [E.out]; rfl
  by_cases c3 : y % 4 = 0
  · have E' : lpB y = true := by unfold lpB lpI; rw [if_pos (by omega)]; rfl
    have E := Lib.hid E'
    clear E'
    have c4 : (y % 4 == 0) = true := by rw [beq_iff_eq]; exact c3
    clear c3
    go_enter Tryd.func16, Tryd.ntmps16
    go_wp2
    go_ret
    refine ⟨?_, rfl⟩
    rw [E.out]; rfl
  · have E' : lpB y = false := by unfold lpB lpI; rw [if_neg (by omega)]; rfl
    have E := Lib.hid E'
    clear E'
    have c4 : (y % 4 == 0) = false := by rw [beq_eq_false_iff_ne]; exact c3
    clear c3
    go_enter Tryd.func16, Tryd.ntmps16
    go_wp2
    go_ret
    refine ⟨?_, rfl⟩
    rw [E.out]; rfl
set_option maxHeartbeats 1000000 in
theorem md_w (y m : Int) (y_0 : -9223372036854775808 ≤ y) (y_1 : y ≤ 9223372036854775807) (m_0 : -9223372036854775808 ≤ m) (m_1 : m ≤ 9223372036854775807) (w : World) (ht : Hid (Tab w)) : Calls Tryd.prog 17 #[.int .i64 y, .int .i64 m] w fun e w' => e = .returned (.int .i64 (mdI y m)) ∧ w = w' := by
  by_cases c0 : y < 2000
  · have E' : mdI y m = 0 := by unfold mdI; rw [if_pos (by omega)]
    have E := Lib.hid E'
    clear E'
    go_enter Tryd.func17, Tryd.ntmps17
    go_wp2_with (go_at_call 15; refine (leap_w _ (by omega) (by omega) _).mono ?_; rintro e w' ⟨rfl, rfl⟩)
    go_ret
    refine ⟨?_, rfl⟩
    rw [E.out]; rfl
  by_cases c1 : 2099 < y
  · have E' : mdI y m = 0 := by unfold mdI; rw [if_pos (by omega)]
    have E := Lib.hid E'
    clear E'
    go_enter Tryd.func17, Tryd.ntmps17
    go_wp2_with (go_at_call 15; refine (leap_w _ (by omega) (by omega) _).mono ?_; rintro e w' ⟨rfl, rfl⟩)
    go_ret
    refine ⟨?_, rfl⟩
    rw [E.out]; rfl
  by_cases c2 : m < 1
  · have E' : mdI y m = 0 := by unfold mdI; rw [if_pos (by omega)]
    have E := Lib.hid E'
    clear E'
    go_enter Tryd.func17, Tryd.ntmps17
    go_wp2_with (go_at_call 15; refine (leap_w _ (by omega) (by omega) _).mono ?_; rintro e w' ⟨rfl, rfl⟩)
    go_ret
    refine ⟨?_, rfl⟩
    rw [E.out]; rfl
  by_cases c3 : 12 < m
  · have E' : mdI y m = 0 := by unfold mdI; rw [if_pos (by omega)]
    have E := Lib.hid E'
    clear E'
    go_enter Tryd.func17, Tryd.ntmps17
    go_wp2_with (go_at_call 15; refine (leap_w _ (by omega) (by omega) _).mono ?_; rintro e w' ⟨rfl, rfl⟩)
    go_ret
    refine ⟨?_, rfl⟩
    rw [E.out]; rfl
  have E0 := mdI_in y m (by omega) (by omega) (by omega) (by omega)
  rcases month_cases m (by omega) (by omega) with rfl | rfl | rfl | rfl | rfl | rfl | rfl | rfl | rfl | rfl | rfl | rfl
  · have E' : mdI y 1 = 31 := by rw [E0]; simp [lenI]
    have E := Lib.hid E'
    clear E'
    clear E0
    have hc := ht.out 0 (by decide)
    have hc' : w.cell? ⟨0, 0, none⟩ = some (.int .i64 31) := hc
    clear hc
    go_enter Tryd.func17, Tryd.ntmps17
    go_wp2_with (go_at_call 15; refine (leap_w _ (by omega) (by omega) _).mono ?_; rintro e w' ⟨rfl, rfl⟩)
    go_ret
    refine ⟨?_, rfl⟩
    rw [E.out]; rfl
  · rcases lpI_01 y with l | l
    · have E' : mdI y 2 = 28 := by rw [E0, l]; simp [lenI]
      have E := Lib.hid E'
      clear E'
      have g : lpB y = false := by unfold lpB; rw [l]; rfl
      clear E0 l
      have hc := ht.out 1 (by decide)
      have hc' : w.cell? ⟨0, 1, none⟩ = some (.int .i64 28) := hc
      clear hc
      go_enter Tryd.func17, Tryd.ntmps17
      go_wp2_with (go_at_call 15; refine (leap_w _ (by omega) (by omega) _).mono ?_; rintro e w' ⟨rfl, rfl⟩)
      go_ret
      refine ⟨?_, rfl⟩
      rw [E.out]; rfl
    · have E' : mdI y 2 = 29 := by rw [E0, l]; simp [lenI]
      have E := Lib.hid E'
      clear E'
      have g : lpB y = true := by unfold lpB; rw [l]; rfl
      clear E0 l
      go_enter Tryd.func17, Tryd.ntmps17
      go_wp2_with (go_at_call 15; refine (leap_w _ (by omega) (by omega) _).mono ?_; rintro e w' ⟨rfl, rfl⟩)
      go_ret
      refine ⟨?_, rfl⟩
      rw [E.out]; rfl
  · have E' : mdI y 3 = 31 := by rw [E0]; simp [lenI]
    have E := Lib.hid E'
    clear E'
    clear E0
    have hc := ht.out 2 (by decide)
    have hc' : w.cell? ⟨0, 2, none⟩ = some (.int .i64 31) := hc
    clear hc
    go_enter Tryd.func17, Tryd.ntmps17
    go_wp2_with (go_at_call 15; refine (leap_w _ (by omega) (by omega) _).mono ?_; rintro e w' ⟨rfl, rfl⟩)
    go_ret
    refine ⟨?_, rfl⟩
    rw [E.out]; rfl
  · have E' : mdI y 4 = 30 := by rw [E0]; simp [lenI]
    have E := Lib.hid E'
    clear E'
    clear E0
    have hc := ht.out 3 (by decide)
    have hc' : w.cell? ⟨0, 3, none⟩ = some (.int .i64 30) := hc
    clear hc
    go_enter Tryd.func17, Tryd.ntmps17
    go_wp2_with (go_at_call 15; refine (leap_w _ (by omega) (by omega) _).mono ?_; rintro e w' ⟨rfl, rfl⟩)
    go_ret
    refine ⟨?_, rfl⟩
    rw [E.out]; rfl
  · have E' : mdI y 5 = 31 := by rw [E0]; simp [lenI]
    have E := Lib.hid E'
    clear E'
    clear E0
    have hc := ht.out 4 (by decide)
    have hc' : w.cell? ⟨0, 4, none⟩ = some (.int .i64 31) := hc
    clear hc
    go_enter Tryd.func17, Tryd.ntmps17
    go_wp2_with (go_at_call 15; refine (leap_w _ (by omega) (by omega) _).mono ?_; rintro e w' ⟨rfl, rfl⟩)
    go_ret
    refine ⟨?_, rfl⟩
    rw [E.out]; rfl
  · have E' : mdI y 6 = 30 := by rw [E0]; simp [lenI]
    have E := Lib.hid E'
    clear E'
    clear E0
    have hc := ht.out 5 (by decide)
    have hc' : w.cell? ⟨0, 5, none⟩ = some (.int .i64 30) := hc
    clear hc
    go_enter Tryd.func17, Tryd.ntmps17
    go_wp2_with (go_at_call 15; refine (leap_w _ (by omega) (by omega) _).mono ?_; rintro e w' ⟨rfl, rfl⟩)
    go_ret
    refine ⟨?_, rfl⟩
    rw [E.out]; rfl
  · have E' : mdI y 7 = 31 := by rw [E0]; simp [lenI]
    have E := Lib.hid E'
    clear E'
    clear E0
    have hc := ht.out 6 (by decide)
    have hc' : w.cell? ⟨0, 6, none⟩ = some (.int .i64 31) := hc
    clear hc
    go_enter Tryd.func17, Tryd.ntmps17
    go_wp2_with (go_at_call 15; refine (leap_w _ (by omega) (by omega) _).mono ?_; rintro e w' ⟨rfl, rfl⟩)
    go_ret
    refine ⟨?_, rfl⟩
    rw [E.out]; rfl
  · have E' : mdI y 8 = 31 := by rw [E0]; simp [lenI]
    have E := Lib.hid E'
    clear E'
    clear E0
    have hc := ht.out 7 (by decide)
    have hc' : w.cell? ⟨0, 7, none⟩ = some (.int .i64 31) := hc
    clear hc
    go_enter Tryd.func17, Tryd.ntmps17
    go_wp2_with (go_at_call 15; refine (leap_w _ (by omega) (by omega) _).mono ?_; rintro e w' ⟨rfl, rfl⟩)
    go_ret
    refine ⟨?_, rfl⟩
    rw [E.out]; rfl
  · have E' : mdI y 9 = 30 := by rw [E0]; simp [lenI]
    have E := Lib.hid E'
    clear E'
    clear E0
    have hc := ht.out 8 (by decide)
    have hc' : w.cell? ⟨0, 8, none⟩ = some (.int .i64 30) := hc
    clear hc
    go_enter Tryd.func17, Tryd.ntmps17
    go_wp2_with (go_at_call 15; refine (leap_w _ (by omega) (by omega) _).mono ?_; rintro e w' ⟨rfl, rfl⟩)
    go_ret
    refine ⟨?_, rfl⟩
    rw [E.out]; rfl
  · have E' : mdI y 10 = 31 := by rw [E0]; simp [lenI]
    have E := Lib.hid E'
    clear E'
    clear E0
    have hc := ht.out 9 (by decide)
    have hc' : w.cell? ⟨0, 9, none⟩ = some (.int .i64 31) := hc
    clear hc
    go_enter Tryd.func17, Tryd.ntmps17
    go_wp2_with (go_at_call 15; refine (leap_w _ (by omega) (by omega) _).mono ?_; rintro e w' ⟨rfl, rfl⟩)
    go_ret
    refine ⟨?_, rfl⟩
    rw [E.out]; rfl
  · have E' : mdI y 11 = 30 := by rw [E0]; simp [lenI]
    have E := Lib.hid E'
    clear E'
    clear E0
    have hc := ht.out 10 (by decide)
    have hc' : w.cell? ⟨0, 10, none⟩ = some (.int .i64 30) := hc
    clear hc
    go_enter Tryd.func17, Tryd.ntmps17
    go_wp2_with (go_at_call 15; refine (leap_w _ (by omega) (by omega) _).mono ?_; rintro e w' ⟨rfl, rfl⟩)
    go_ret
    refine ⟨?_, rfl⟩
    rw [E.out]; rfl
  · have E' : mdI y 12 = 31 := by rw [E0]; simp [lenI]
    have E := Lib.hid E'
    clear E'
    clear E0
    have hc := ht.out 11 (by decide)
    have hc' : w.cell? ⟨0, 11, none⟩ = some (.int .i64 31) := hc
    clear hc
    go_enter Tryd.func17, Tryd.ntmps17
    go_wp2_with (go_at_call 15; refine (leap_w _ (by omega) (by omega) _).mono ?_; rintro e w' ⟨rfl, rfl⟩)
    go_ret
    refine ⟨?_, rfl⟩
    rw [E.out]; rfl
set_option maxHeartbeats 1000000 in
theorem ref_md_w (y m : Int) (y_0 : -9223372036854775808 ≤ y) (y_1 : y ≤ 9223372036854775807) (m_0 : -9223372036854775808 ≤ m) (m_1 : m ≤ 9223372036854775807) (w : World) : Calls Tryd.prog 18 #[.int .i64 y, .int .i64 m] w fun e w' => e = .returned (.int .i64 (mdI y m)) ∧ w = w' := by
  by_cases c0 : y < 2000
  · have E' : mdI y m = 0 := by unfold mdI; rw [if_pos (by omega)]
    have E := Lib.hid E'
    clear E'
    go_enter Tryd.func18, Tryd.ntmps18
    go_wp2_with (go_at_call 16; refine (ref_leap_w _ (by omega) (by omega) _).mono ?_; rintro e w' ⟨rfl, rfl⟩)
    go_ret
    refine ⟨?_, rfl⟩
    rw [E.out]; rfl
  by_cases c1 : 2099 < y
  · have E' : mdI y m = 0 := by unfold mdI; rw [if_pos (by omega)]
    have E := Lib.hid E'
    clear E'
    go_enter Tryd.func18, Tryd.ntmps18
    go_wp2_with (go_at_call 16; refine (ref_leap_w _ (by omega) (by omega) _).mono ?_; rintro e w' ⟨rfl, rfl⟩)
    go_ret
    refine ⟨?_, rfl⟩
    rw [E.out]; rfl
  by_cases c2 : m < 1
  · have E' : mdI y m = 0 := by unfold mdI; rw [if_pos (by omega)]
    have E := Lib.hid E'
    clear E'
    go_enter Tryd.func18, Tryd.ntmps18
    go_wp2_with (go_at_call 16; refine (ref_leap_w _ (by omega) (by omega) _).mono ?_; rintro e w' ⟨rfl, rfl⟩)
    go_ret
    refine ⟨?_, rfl⟩
    rw [E.out]; rfl
  by_cases c3 : 12 < m
  · have E' : mdI y m = 0 := by unfold mdI; rw [if_pos (by omega)]
    have E := Lib.hid E'
    clear E'
    go_enter Tryd.func18, Tryd.ntmps18
    go_wp2_with (go_at_call 16; refine (ref_leap_w _ (by omega) (by omega) _).mono ?_; rintro e w' ⟨rfl, rfl⟩)
    go_ret
    refine ⟨?_, rfl⟩
    rw [E.out]; rfl
  have E0 := mdI_in y m (by omega) (by omega) (by omega) (by omega)
  rcases month_cases m (by omega) (by omega) with rfl | rfl | rfl | rfl | rfl | rfl | rfl | rfl | rfl | rfl | rfl | rfl
  · have E' : mdI y 1 = 31 := by rw [E0]; simp [lenI]
    have E := Lib.hid E'
    clear E'
    clear E0
    go_enter Tryd.func18, Tryd.ntmps18
    go_wp2_with (go_at_call 16; refine (ref_leap_w _ (by omega) (by omega) _).mono ?_; rintro e w' ⟨rfl, rfl⟩)
    go_ret
    refine ⟨?_, rfl⟩
    rw [E.out]; rfl
  · rcases lpI_01 y with l | l
    · have E' : mdI y 2 = 28 := by rw [E0, l]; simp [lenI]
      have E := Lib.hid E'
      clear E'
      have g : lpB y = false := by unfold lpB; rw [l]; rfl
      clear E0 l
      go_enter Tryd.func18, Tryd.ntmps18
      go_wp2_with (go_at_call 16; refine (ref_leap_w _ (by omega) (by omega) _).mono ?_; rintro e w' ⟨rfl, rfl⟩)
      go_ret
      refine ⟨?_, rfl⟩
      rw [E.out]; rfl
    · have E' : mdI y 2 = 29 := by rw [E0, l]; simp [lenI]
      have E := Lib.hid E'
      clear E'
      have g : lpB y = true := by unfold lpB; rw [l]; rfl
      clear E0 l
      go_enter Tryd.func18, Tryd.ntmps18
      go_wp2_with (go_at_call 16; refine (ref_leap_w _ (by omega) (by omega) _).mono ?_; rintro e w' ⟨rfl, rfl⟩)
      go_ret
      refine ⟨?_, rfl⟩
      rw [E.out]; rfl
  · have E' : mdI y 3 = 31 := by rw [E0]; simp [lenI]
    have E := Lib.hid E'
    clear E'
    clear E0
    go_enter Tryd.func18, Tryd.ntmps18
    go_wp2_with (go_at_call 16; refine (ref_leap_w _ (by omega) (by omega) _).mono ?_; rintro e w' ⟨rfl, rfl⟩)
    go_ret
    refine ⟨?_, rfl⟩
    rw [E.out]; rfl
  · have E' : mdI y 4 = 30 := by rw [E0]; simp [lenI]
    have E := Lib.hid E'
    clear E'
    clear E0
    go_enter Tryd.func18, Tryd.ntmps18
    go_wp2_with (go_at_call 16; refine (ref_leap_w _ (by omega) (by omega) _).mono ?_; rintro e w' ⟨rfl, rfl⟩)
    go_ret
    refine ⟨?_, rfl⟩
    rw [E.out]; rfl
  · have E' : mdI y 5 = 31 := by rw [E0]; simp [lenI]
    have E := Lib.hid E'
    clear E'
    clear E0
    go_enter Tryd.func18, Tryd.ntmps18
    go_wp2_with (go_at_call 16; refine (ref_leap_w _ (by omega) (by omega) _).mono ?_; rintro e w' ⟨rfl, rfl⟩)
    go_ret
    refine ⟨?_, rfl⟩
    rw [E.out]; rfl
  · have E' : mdI y 6 = 30 := by rw [E0]; simp [lenI]
    have E := Lib.hid E'
    clear E'
    clear E0
    go_enter Tryd.func18, Tryd.ntmps18
    go_wp2_with (go_at_call 16; refine (ref_leap_w _ (by omega) (by omega) _).mono ?_; rintro e w' ⟨rfl, rfl⟩)
    go_ret
    refine ⟨?_, rfl⟩
    rw [E.out]; rfl
  · have E' : mdI y 7 = 31 := by rw [E0]; simp [lenI]
    have E := Lib.hid E'
    clear E'
    clear E0
    go_enter Tryd.func18, Tryd.ntmps18
    go_wp2_with (go_at_call 16; refine (ref_leap_w _ (by omega) (by omega) _).mono ?_; rintro e w' ⟨rfl, rfl⟩)
    go_ret
    refine ⟨?_, rfl⟩
    rw [E.out]; rfl
  · have E' : mdI y 8 = 31 := by rw [E0]; simp [lenI]
    have E := Lib.hid E'
    clear E'
    clear E0
    go_enter Tryd.func18, Tryd.ntmps18
    go_wp2_with (go_at_call 16; refine (ref_leap_w _ (by omega) (by omega) _).mono ?_; rintro e w' ⟨rfl, rfl⟩)
    go_ret
    refine ⟨?_, rfl⟩
    rw [E.out]; rfl
  · have E' : mdI y 9 = 30 := by rw [E0]; simp [lenI]
    have E := Lib.hid E'
    clear E'
    clear E0
    go_enter Tryd.func18, Tryd.ntmps18
    go_wp2_with (go_at_call 16; refine (ref_leap_w _ (by omega) (by omega) _).mono ?_; rintro e w' ⟨rfl, rfl⟩)
    go_ret
    refine ⟨?_, rfl⟩
    rw [E.out]; rfl
  · have E' : mdI y 10 = 31 := by rw [E0]; simp [lenI]
    have E := Lib.hid E'
    clear E'
    clear E0
    go_enter Tryd.func18, Tryd.ntmps18
    go_wp2_with (go_at_call 16; refine (ref_leap_w _ (by omega) (by omega) _).mono ?_; rintro e w' ⟨rfl, rfl⟩)
    go_ret
    refine ⟨?_, rfl⟩
    rw [E.out]; rfl
  · have E' : mdI y 11 = 30 := by rw [E0]; simp [lenI]
    have E := Lib.hid E'
    clear E'
    clear E0
    go_enter Tryd.func18, Tryd.ntmps18
    go_wp2_with (go_at_call 16; refine (ref_leap_w _ (by omega) (by omega) _).mono ?_; rintro e w' ⟨rfl, rfl⟩)
    go_ret
    refine ⟨?_, rfl⟩
    rw [E.out]; rfl
  · have E' : mdI y 12 = 31 := by rw [E0]; simp [lenI]
    have E := Lib.hid E'
    clear E'
    clear E0
    go_enter Tryd.func18, Tryd.ntmps18
    go_wp2_with (go_at_call 16; refine (ref_leap_w _ (by omega) (by omega) _).mono ?_; rintro e w' ⟨rfl, rfl⟩)
    go_ret
    refine ⟨?_, rfl⟩
    rw [E.out]; rfl
theorem newyear_w (y : Int) (h0 : 2000 ≤ y) (h1 : y ≤ 2100) (w : World) : Calls Tryd.prog 45 #[.int .i64 y] w fun e w' => e = .returned (.int .i64 (nyI y)) ∧ w = w' := by
  have E := Lib.hid (show nyI y = 365 * (y - 2000) + (y - 2000 + 3) / 4 from rfl)
  go_enter Tryd.func45, Tryd.ntmps45
  go_wp2
  go_ret
  refine ⟨?_, rfl⟩
  rw [E.out]; rfl
def yrI (day : Int) : Int := 2000 + 4 * day / 1461
theorem yrI_ok (day : Int) (h0 : 0 ≤ day) (h1 : day ≤ 36524) : 2000 ≤ yrI day ∧ yrI day ≤ 2099 ∧ nyI (yrI day) ≤ day ∧ day < nyI (yrI day + 1) ∧ 2000 + day / 366 ≤ yrI day := by
  unfold yrI nyI; omega
theorem year_w (day : Int) (h0 : 0 ≤ day) (h1 : day ≤ 36524) (w : World) : Calls Tryd.prog 47 #[.int .i64 day] w fun e w' => e = .returned (.int .i64 (yrI day)) ∧ w = w' := by
  obtain ⟨a1, a2, a3, a4, a5⟩ := yrI_ok day h0 h1
  obtain ⟨Y, hY⟩ : ∃ Y, yrI day = Y := ⟨_, rfl⟩
  rw [hY] at a1 a2 a3 a4 a5 ⊢
  clear hY
  go_enter Tryd.func47, Tryd.ntmps47
  go_wp2_with fail
  go_loop [3] (fun t => ∃ y : Int, 2000 ≤ y ∧ y ≤ Y ∧ t = .int .i64 y) (fun t => (2100 - intOf t).toNat)
  case atStart => exact ⟨_, by omega, a5, rfl⟩
  case round =>
    obtain ⟨y, hy1, hy2, rfl⟩ := hrel
    by_cases c : y < Y
    · have m := nyI_mono (y + 1) Y (by omega)
      have c2 : nyI (y + 1) ≤ day := by omega
      clear m a3 a4
      go_wp2_with (go_at_call 45; refine (newyear_w _ (by omega) (by omega) _).mono ?_; rintro e w' ⟨rfl, rfl⟩)
      go_round
      case rel => exact ⟨y + 1, by omega, by omega, rfl⟩
      case measure => simp [intOf]; omega
    · obtain rfl : y = Y := by omega
      have c2 : ¬ nyI (y + 1) ≤ day := by omega
      go_wp2_with (go_at_call 45; refine (newyear_w _ (by omega) (by omega) _).mono ?_; rintro e w' ⟨rfl, rfl⟩)
      go_ret
      exact ⟨rfl, rfl⟩
/-- what Date comes to -/
def DateIs (day : Int) (e : Ending) : Prop := ∃ m d : Int, e = .returned (.tuple #[.int .i64 (yrI day), .int .i64 m, .int .i64 d, .int .i64 0]) ∧ IsDate day (yrI day) m d
theorem date_no (day : Int) (day_0 : -9223372036854775808 ≤ day) (day_1 : day ≤ 9223372036854775807) (h : day < 0 ∨ 36524 < day) (w : World) : Calls Tryd.prog 21 #[.int .i64 day] w fun e w' => e = .returned (.tuple #[.int .i64 0, .int .i64 0, .int .i64 0, .int .i64 2]) ∧ w = w' := by
  rcases h with h | h
  · go_enter Tryd.func21, Tryd.ntmps21
    go_wp2
    exact bodyPost_ret (v := .tuple #[.int .i64 0, .int .i64 0, .int .i64 0, .int .i64 2]) (by simp [results, Tryd.results21, go_sem]) rfl ⟨rfl, rfl⟩
  · have h' : ¬ day < 0 := by omega
    go_enter Tryd.func21, Tryd.ntmps21
    go_wp2
    exact bodyPost_ret (v := .tuple #[.int .i64 0, .int .i64 0, .int .i64 0, .int .i64 2]) (by simp [results, Tryd.results21, go_sem]) rfl ⟨rfl, rfl⟩
set_option maxHeartbeats 1000000 in
theorem date_yes (day : Int) (h0 : 0 ≤ day) (h1 : day ≤ 36524) (w : World) (ht : Hid (Tab w)) : Calls Tryd.prog 21 #[.int .i64 day] w fun e w' => DateIs day e ∧ w = w' := by
  obtain ⟨a1, a2, a3, a4, a5⟩ := yrI_ok day h0 h1
  have D : Hid (∀ m d : Int, IsDate day (yrI day) m d → DateIs day (.returned (.tuple #[.int .i64 (yrI day), .int .i64 m, .int .i64 d, .int .i64 0]))) := fun m d h => ⟨m, d, rfl, h⟩
  have b := nyI_succ (yrI day) a1 a2
  have l01 := lpI_01 (yrI day)
  obtain ⟨Y, hY⟩ : ∃ Y, yrI day = Y := ⟨_, rfl⟩
  rw [hY] at a1 a2 a3 a4 a5 b D l01
  have HY := Lib.hid hY
  obtain ⟨l, hl⟩ : ∃ l, lpI Y = l := ⟨_, rfl⟩
  rw [hl] at b l01
  have HL := Lib.hid hl
  clear hl
  obtain ⟨z, hz⟩ : ∃ z, day - nyI Y = z := ⟨_, rfl⟩
  have bz : 0 ≤ z ∧ z < 365 + l := by omega
  clear b
  go_enter Tryd.func21, Tryd.ntmps21
  go_wp2_with (first | (go_at_call 47; refine (year_w _ (by omega) (by omega) _).mono ?_; rintro e w' ⟨rfl, rfl⟩) | (go_at_call 45; refine (newyear_w _ (by omega) (by omega) _).mono ?_; rintro e w' ⟨rfl, rfl⟩))
  go_loop [3, 6] (fun t r => ∃ m r' : Int, 1 ≤ m ∧ m ≤ 12 ∧ t = .int .i64 m ∧ r = .int .i64 r' ∧ 0 ≤ r' ∧ r' ≤ 366 ∧ cumI l m + r' = z) (fun t _ => (13 - intOf t).toNat)
  case atStart => exact ⟨1, z, by omega, by omega, rfl, rfl, by omega, by omega, by rw [cumI_one]; omega⟩
  case round =>
    obtain ⟨m, r', hm1, hm2, rfl, rfl, hr1, hr2, hc⟩ := hrel
    have e := mdI_in Y m a1 a2 hm1 hm2
    rw [HL.out] at e
    have lb := lenI_bd l m l01
    have cs := cumI_succ l m hm1 hm2
    have c13 := cumI_13 l
    obtain ⟨n, hn⟩ : ∃ n, lenI l m = n := ⟨_, rfl⟩
    rw [hn] at e lb cs
    by_cases c : n ≤ r'
    · have hm : m < 12 := by
        rcases Int.lt_or_le m 12 with g | g
        · exact g
        · obtain rfl : m = 12 := by omega
          rw [show (12 : Int) + 1 = 13 from rfl] at cs; omega
      have R := Lib.hid (show cumI l (m + 1) + (r' - n) = z from by show _ = _; omega)
      clear cs c13 hc hn
      go_wp2_with (go_at_call 17; refine (md_w _ _ (by omega) (by omega) (by omega) (by omega) _ ht).mono ?_; rintro e w' ⟨rfl, rfl⟩)
      go_round
      case rel => exact ⟨m + 1, r' - n, by omega, by omega, rfl, rfl, by omega, by omega, R.out⟩
      case measure => simp [intOf]; omega
    · have K := Lib.hid (show IsDate day Y m (r' + 1) from ⟨a1, a2, hm1, hm2, by omega, by rw [HL.out, hn]; omega, by rw [HL.out]; omega⟩)
      clear cs c13 hc hn
      go_wp2_with (go_at_call 17; refine (md_w _ _ (by omega) (by omega) (by omega) (by omega) _ ht).mono ?_; rintro e w' ⟨rfl, rfl⟩)
      exact bodyPost_ret (v := .tuple #[.int .i64 Y, .int .i64 m, .int .i64 (r' + 1), .int .i64 0]) (by simp [results, Tryd.results21, go_sem]) rfl ⟨D.out m (r' + 1) K.out, rfl⟩
def dysE (y m d : Int) : Int := if y < 2000 ∨ 2099 < y then 2 else if d < 1 ∨ mdI y m < d then 1 else 0
def dysV (y m d : Int) : Int := if y < 2000 ∨ 2099 < y then 0 else if d < 1 ∨ mdI y m < d then 0 else nyI y + cumI (lpI y) m + d - 1
set_option maxHeartbeats 1000000 in
theorem days_w (y m d : Int) (y_0 : -9223372036854775808 ≤ y) (y_1 : y ≤ 9223372036854775807) (m_0 : -9223372036854775808 ≤ m) (m_1 : m ≤ 9223372036854775807) (d_0 : -9223372036854775808 ≤ d) (d_1 : d ≤ 9223372036854775807) (w : World) (ht : Hid (Tab w)) : Calls Tryd.prog 19 #[.int .i64 y, .int .i64 m, .int .i64 d] w fun e w' => e = .returned (.tuple #[.int .i64 (dysV y m d), .int .i64 (dysE y m d)]) ∧ w = w' := by
  by_cases c1 : y < 2000 ∨ 2099 < y
  · have E1 := Lib.hid (show dysV y m d = 0 from by unfold dysV; rw [if_pos c1])
    have E2 := Lib.hid (show dysE y m d = 2 from by unfold dysE; rw [if_pos c1])
    rcases c1 with c1 | c1
    · go_enter Tryd.func19, Tryd.ntmps19
      go_wp2
      go_ret2
      refine ⟨?_, rfl⟩
      rw [E1.out, E2.out]; rfl
    · have c2 : ¬ y < 2000 := by omega
      go_enter Tryd.func19, Tryd.ntmps19
      go_wp2
      go_ret2
      refine ⟨?_, rfl⟩
      rw [E1.out, E2.out]; rfl
  · by_cases c2 : d < 1 ∨ mdI y m < d
    · have E1 := Lib.hid (show dysV y m d = 0 from by unfold dysV; rw [if_neg c1, if_pos c2])
      have E2 := Lib.hid (show dysE y m d = 1 from by unfold dysE; rw [if_neg c1, if_pos c2])
      have c3 : 2000 ≤ y := by omega
      have c4 : y ≤ 2099 := by omega
      clear c1
      rcases c2 with c2 | c2
      all_goals
        go_enter Tryd.func19, Tryd.ntmps19
        go_wp2_with (go_at_call 17; refine (md_w _ _ (by omega) (by omega) (by omega) (by omega) _ ht).mono ?_; rintro e w' ⟨rfl, rfl⟩)
        all_goals go_ret2
        all_goals refine ⟨?_, rfl⟩
        all_goals (rw [E1.out, E2.out]; rfl)
    · have E1 := Lib.hid (show dysV y m d = nyI y + cumI (lpI y) m + d - 1 from by unfold dysV; rw [if_neg c1, if_neg c2])
      have E2 := Lib.hid (show dysE y m d = 0 from by unfold dysE; rw [if_neg c1, if_neg c2])
      have c3 : 2000 ≤ y := by omega
      have c4 : y ≤ 2099 := by omega
      have c5 : 1 ≤ d := by omega
      have c6 : d ≤ mdI y m := by omega
      have c7 : 1 ≤ m ∧ m ≤ 12 := by
        unfold mdI at c6; split at c6 <;> omega
      obtain ⟨c7, c8⟩ := c7
      have l01 := lpI_01 y
      have d31 : d ≤ 31 := by rw [mdI_in y m c3 c4 c7 c8] at c6; have := lenI_bd (lpI y) m l01; omega
      have nb : 0 ≤ nyI y ∧ nyI y ≤ 40000 := by unfold nyI; omega
      have Z : Hid (∀ k : Int, 1 ≤ k → k ≤ 12 → mdI y k = lenI (lpI y) k) := fun k h1 h2 => mdI_in y k c3 c4 h1 h2
      clear c1 c2
      obtain ⟨l, hl⟩ : ∃ l, lpI y = l := ⟨_, rfl⟩
      rw [hl] at E1 Z l01
      clear hl
      obtain ⟨N, hN⟩ : ∃ N, nyI y = N := ⟨_, rfl⟩
      rw [hN] at E1 nb
      go_enter Tryd.func19, Tryd.ntmps19
      go_wp2_with (first | (go_at_call 17; refine (md_w _ _ (by omega) (by omega) (by omega) (by omega) _ ht).mono ?_; rintro e w' ⟨rfl, rfl⟩) | (go_at_call 45; refine (newyear_w _ (by omega) (by omega) _).mono ?_; rintro e w' ⟨rfl, rfl⟩))
      go_loop [8, 9] (fun t i => ∃ k : Int, 1 ≤ k ∧ k ≤ m ∧ i = .int .i64 k ∧ t = .int .i64 (N + d - 1 + cumI l k)) (fun _ i => (13 - intOf i).toNat)
      case atStart => exact ⟨1, by omega, by omega, rfl, by rw [cumI_one]; congr 1; omega⟩
      case round =>
        obtain ⟨k, hk1, hk2, rfl, rfl⟩ := hrel
        have cb := cumI_bd l k l01
        by_cases c : k < m
        · have zk := Z.out k hk1 (by omega)
          have lb := lenI_bd l k l01
          have cs := cumI_succ l k hk1 (by omega)
          have CS := Lib.hid cs
          clear cs
          go_wp2_with (go_at_call 17; refine (md_w _ _ (by omega) (by omega) (by omega) (by omega) _ ht).mono ?_; rintro e w' ⟨rfl, rfl⟩)
          go_round
          case rel => exact ⟨k + 1, by omega, by omega, rfl, by rw [CS.out]; congr 1; omega⟩
          case measure => simp [intOf]; omega
        · obtain rfl : k = m := by omega
          go_wp2_with (go_at_call 17; refine (md_w _ _ (by omega) (by omega) (by omega) (by omega) _ ht).mono ?_; rintro e w' ⟨rfl, rfl⟩)
          go_ret2
          refine ⟨?_, rfl⟩
          rw [E1.out, E2.out, show N + cumI l k + d - 1 = N + d - 1 + cumI l k from by omega]; rfl
def wdI (day : Int) : Int := if day < 0 ∨ 36524 < day then 0 else (day + 5) % 7 + 1
theorem weekday_w (day : Int) (day_0 : -9223372036854775808 ≤ day) (day_1 : day ≤ 9223372036854775807) (w : World) : Calls Tryd.prog 22 #[.int .i64 day] w fun e w' => e = .returned (.int .i64 (wdI day)) ∧ w = w' := by
  by_cases c1 : day < 0
  · have E := Lib.hid (show wdI day = 0 from by unfold wdI; rw [if_pos (by omega)])
    go_enter Tryd.func22, Tryd.ntmps22
    go_wp2
    go_ret
    refine ⟨?_, rfl⟩
    rw [E.out]; rfl
  by_cases c2 : 36524 < day
  · have E := Lib.hid (show wdI day = 0 from by unfold wdI; rw [if_pos (by omega)])
    go_enter Tryd.func22, Tryd.ntmps22
    go_wp2
    go_ret
    refine ⟨?_, rfl⟩
    rw [E.out]; rfl
  have E := Lib.hid (show wdI day = (day + 5) % 7 + 1 from by unfold wdI; rw [if_neg (by omega)])
  go_enter Tryd.func22, Tryd.ntmps22
  go_wp2
  go_ret
  refine ⟨?_, rfl⟩
  rw [E.out]; rfl
end Go.Proofs.YtkmpbkojdkoghaaDoor
