/-
  Own contracts: the laws of layer 5 on months, days, dates, the next day, and instants.
-/
import Derived.Test.YtkmpbkojdkoghaaDoorCalb
import Derived.Test.YtkmpbkojdkoghaaDoorRows
import Derived.Deep.DeepHandedRow
import Derived.Lib.LaidTab
import Derived.WalkKit
import Derived.ProofKit
import Derived.OpenShut
import Derived.WalkLawsBesides
import Derived.WalkSpells
import Derived.Lib.Hide
import Derived.Deep.DeepCutAuto
import Derived.Deep.CutBlock
import Derived.Deep.QuietTactic
import Derived.BigQuiet
import Derived.Handy
import Derived.StillTailTactics
import Derived.IntWalk
import Derived.LoopN
import Derived.Deep.RegionHeld3
namespace Go.Proofs.YtkmpbkojdkoghaaDoor
open Go.ChangeShapes Go.WideShapes Go.ChangeAt Go.RowKit
set_option linter.unusedVariables false
set_option linter.unusedSimpArgs false
theorem tab_of {W : World} (h : laidMetH Tryd.prog [("flightdeck/calendar.lengths", Rows.laid_flightdeck_calendar_lengths)] W) : Tab W := by
  have t : Lib.TabIs Tryd.prog W "flightdeck/calendar.lengths" .i64 [31, 28, 31, 30, 31, 30, 31, 31, 30, 31, 30, 31] :=
    Lib.tabIs_of_head (g := 0) (t := 46) (e := 3) (n := 12) (rest := []) (by kernel_rfl) (by kernel_rfl) (by kernel_rfl) (by kernel_rfl) (by kernel_rfl) (by kernel_rfl) h
  intro i hi
  exact t.cell (by kernel_rfl) i hi
theorem cum_at (l r : Int) (hl : l = 0 ∨ l = 1) (h0 : 0 ≤ r) (h1 : r < 365 + l) : ∃ m : Int, 1 ≤ m ∧ m ≤ 12 ∧ cumI l m ≤ r ∧ r < cumI l (m + 1) := by
  by_cases c1 : r < cumI l 2
  · exact ⟨1, by omega, by omega, by rw [cumI_one]; omega, c1⟩
  by_cases c2 : r < cumI l 3
  · exact ⟨2, by omega, by omega, by omega, c2⟩
  by_cases c3 : r < cumI l 4
  · exact ⟨3, by omega, by omega, by omega, c3⟩
  by_cases c4 : r < cumI l 5
  · exact ⟨4, by omega, by omega, by omega, c4⟩
  by_cases c5 : r < cumI l 6
  · exact ⟨5, by omega, by omega, by omega, c5⟩
  by_cases c6 : r < cumI l 7
  · exact ⟨6, by omega, by omega, by omega, c6⟩
  by_cases c7 : r < cumI l 8
  · exact ⟨7, by omega, by omega, by omega, c7⟩
  by_cases c8 : r < cumI l 9
  · exact ⟨8, by omega, by omega, by omega, c8⟩
  by_cases c9 : r < cumI l 10
  · exact ⟨9, by omega, by omega, by omega, c9⟩
  by_cases c10 : r < cumI l 11
  · exact ⟨10, by omega, by omega, by omega, c10⟩
  by_cases c11 : r < cumI l 12
  · exact ⟨11, by omega, by omega, by omega, c11⟩
  exact ⟨12, by omega, by omega, by omega, by have := cumI_13 l; show r < cumI l 13; omega⟩
theorem date_at (day : Int) (h0 : 0 ≤ day) (h1 : day ≤ 36524) : ∃ y m d, IsDate day y m d ∧ y = yrI day := by
  obtain ⟨a1, a2, a3, a4, a5⟩ := yrI_ok day h0 h1
  have l01 := lpI_01 (yrI day)
  have s := nyI_succ (yrI day) a1 a2
  obtain ⟨m, m0, m1, m2, m3⟩ := cum_at (lpI (yrI day)) (day - nyI (yrI day)) l01 (by omega) (by omega)
  have cs := cumI_succ (lpI (yrI day)) m m0 m1
  exact ⟨yrI day, m, day - nyI (yrI day) - cumI (lpI (yrI day)) m + 1, ⟨a1, a2, m0, m1, by omega, by omega, by omega⟩, rfl⟩
theorem IsDate.rng {day y m d : Int} (h : IsDate day y m d) : 0 ≤ day ∧ day ≤ 36524 := by
  obtain ⟨h1, h2, h3, h4, h5, h6, h7⟩ := h
  have l01 := lpI_01 y
  have c := cumI_mono (lpI y) m 13 l01 h3 (by omega) (by omega)
  have c0 := cumI_bd (lpI y) m l01
  rw [cumI_13] at c
  have n0 : 0 ≤ nyI y := by unfold nyI; omega
  have n1 : nyI y + 365 + lpI y ≤ 36525 := by rw [← nyI_succ y h1 h2]; unfold nyI; omega
  omega
theorem date_facts {day y m d : Int} (h : IsDate day y m d) : dysV y m d = day ∧ dysE y m d = 0 ∧ 1 ≤ d ∧ d ≤ 31 ∧ 1 ≤ m ∧ m ≤ 12 ∧ 2000 ≤ y ∧ y ≤ 2099 ∧ mdI y m = lenI (lpI y) m := by
  have h' := h
  obtain ⟨h1, h2, h3, h4, h5, h6, h7⟩ := h'
  have lb := lenI_bd (lpI y) m (lpI_01 y)
  have e := mdI_in y m h1 h2 h3 h4
  refine ⟨?_, ?_, h5, by omega, h3, h4, h1, h2, e⟩
  · unfold dysV; rw [if_neg (by omega), if_neg (by omega)]; exact h7
  · unfold dysE; rw [if_neg (by omega), if_neg (by omega)]
theorem date_is (day y m d : Int) (h : Hid (IsDate day y m d)) (w : World) (ht : Hid (Tab w)) : Calls Tryd.prog 21 #[.int .i64 day] w fun e w' => e = .returned (.tuple #[.int .i64 y, .int .i64 m, .int .i64 d, .int .i64 0]) ∧ w = w' := by
  obtain ⟨r0, r1⟩ := h.out.rng
  refine (date_yes day r0 r1 w ht).mono ?_
  rintro e w' ⟨⟨m', d', rfl, hd⟩, rfl⟩
  obtain ⟨e1, rfl, rfl⟩ := IsDate.unique h.out hd
  rw [e1]
  exact ⟨rfl, rfl⟩
set_option maxHeartbeats 4000000 in
theorem law_months (y m : Int) (y_0 : -9223372036854775808 ≤ y) (y_1 : y ≤ 9223372036854775807) (m_0 : -9223372036854775808 ≤ m) (m_1 : m ≤ 9223372036854775807) (w : World) (ht : Hid (Tab w)) : Calls Tryd.prog 3 #[.int .i64 y, .int .i64 m] w fun e w' => e = .returned (.bool true) ∧ w = w' := by
  obtain ⟨b, hb⟩ : ∃ b, lpB y = b := ⟨_, rfl⟩
  obtain ⟨n, hn⟩ : ∃ n, mdI y m = n := ⟨_, rfl⟩
  go_enter Tryd.func3, Tryd.ntmps3
  go_wp2_with (first | (go_at_call 14; refine (awake_w  _ ht).mono ?_; rintro e w' ⟨rfl, rfl⟩) | (go_at_call 15; refine (leap_w _ (by omega) (by omega) _).mono ?_; rintro e w' ⟨rfl, rfl⟩) | (go_at_call 16; refine (ref_leap_w _ (by omega) (by omega) _).mono ?_; rintro e w' ⟨rfl, rfl⟩) | (go_at_call 17; refine (md_w _ _ (by omega) (by omega) (by omega) (by omega) _ ht).mono ?_; rintro e w' ⟨rfl, rfl⟩) | (go_at_call 18; refine (ref_md_w _ _ (by omega) (by omega) (by omega) (by omega) _).mono ?_; rintro e w' ⟨rfl, rfl⟩))
  all_goals go_ret
  all_goals exact ⟨rfl, rfl⟩
set_option maxHeartbeats 4000000 in
theorem law_days (y m d : Int) (y_0 : -9223372036854775808 ≤ y) (y_1 : y ≤ 9223372036854775807) (m_0 : -9223372036854775808 ≤ m) (m_1 : m ≤ 9223372036854775807) (d_0 : -9223372036854775808 ≤ d) (d_1 : d ≤ 9223372036854775807) (w : World) (ht : Hid (Tab w)) : Calls Tryd.prog 4 #[.int .i64 y, .int .i64 m, .int .i64 d] w fun e w' => e = .returned (.bool true) ∧ w = w' := by
  obtain ⟨b, hb⟩ : ∃ b, dysV y m d = b := ⟨_, rfl⟩
  obtain ⟨n, hn⟩ : ∃ n, dysE y m d = n := ⟨_, rfl⟩
  go_enter Tryd.func4, Tryd.ntmps4
  go_wp2_with (first | (go_at_call 14; refine (awake_w  _ ht).mono ?_; rintro e w' ⟨rfl, rfl⟩) | (go_at_call 19; refine (days_w _ _ _ (by omega) (by omega) (by omega) (by omega) (by omega) (by omega) _ ht).mono ?_; rintro e w' ⟨rfl, rfl⟩) | (go_at_call 20; refine (ref_days_w _ _ _ (by omega) (by omega) (by omega) (by omega) (by omega) (by omega) _).mono ?_; rintro e w' ⟨rfl, rfl⟩))
  all_goals go_ret
  all_goals exact ⟨rfl, rfl⟩
set_option maxHeartbeats 4000000 in
theorem law_dates (day : Int) (day_0 : -9223372036854775808 ≤ day) (day_1 : day ≤ 9223372036854775807) (w : World) (ht : Hid (Tab w)) : Calls Tryd.prog 5 #[.int .i64 day] w fun e w' => e = .returned (.bool true) ∧ w = w' := by
  by_cases c : day < 0
  · go_enter Tryd.func5, Tryd.ntmps5
    go_wp2_with (first | (go_at_call 14; refine (awake_w  _ ht).mono ?_; rintro e w' ⟨rfl, rfl⟩) | (go_at_call 21; refine (date_no _ (by omega) (by omega) (by omega) _).mono ?_; rintro e w' ⟨rfl, rfl⟩))
    all_goals go_ret
    all_goals exact ⟨rfl, rfl⟩
  by_cases c2 : 36524 < day
  · go_enter Tryd.func5, Tryd.ntmps5
    go_wp2_with (first | (go_at_call 14; refine (awake_w  _ ht).mono ?_; rintro e w' ⟨rfl, rfl⟩) | (go_at_call 21; refine (date_no _ (by omega) (by omega) (by omega) _).mono ?_; rintro e w' ⟨rfl, rfl⟩))
    all_goals go_ret
    all_goals exact ⟨rfl, rfl⟩
  obtain ⟨y, m, d, D0, yy⟩ := date_at day (by omega) (by omega)
  obtain ⟨f1, f2, f3, f4, f5, f6, f7, f8, f9⟩ := date_facts D0
  have f10 : d ≤ mdI y m := by rw [f9]; exact D0.2.2.2.2.2.1
  have D := Lib.hid D0
  obtain ⟨L, hL⟩ : ∃ L, mdI y m = L := ⟨_, rfl⟩
  rw [hL] at f10
  clear D0 yy f9
  go_enter Tryd.func5, Tryd.ntmps5
  go_wp2_with (first | (go_at_call 14; refine (awake_w  _ ht).mono ?_; rintro e w' ⟨rfl, rfl⟩) | (go_at_call 21; refine (date_is _ _ _ _ D _ ht).mono ?_; rintro e w' ⟨rfl, rfl⟩) | (go_at_call 19; refine (days_w _ _ _ (by omega) (by omega) (by omega) (by omega) (by omega) (by omega) _ ht).mono ?_; rintro e w' ⟨rfl, rfl⟩) | (go_at_call 17; refine (md_w _ _ (by omega) (by omega) (by omega) (by omega) _ ht).mono ?_; rintro e w' ⟨rfl, rfl⟩))
  all_goals go_ret
  all_goals exact ⟨rfl, rfl⟩
set_option maxHeartbeats 4000000 in
theorem law_next (day : Int) (day_0 : -9223372036854775808 ≤ day) (day_1 : day ≤ 9223372036854775807) (w : World) (ht : Hid (Tab w)) : Calls Tryd.prog 6 #[.int .i64 day] w fun e w' => e = .returned (.bool true) ∧ w = w' := by
  by_cases c : day < 0
  · have v : wdI day = 0 := by unfold wdI; rw [if_pos (by omega)]
    have ne : (day != 36524) = true := by simp; omega
    go_enter Tryd.func6, Tryd.ntmps6
    go_wp2_with (first | (go_at_call 14; refine (awake_w  _ ht).mono ?_; rintro e w' ⟨rfl, rfl⟩) | (go_at_call 22; refine (weekday_w _ (by omega) (by omega) _).mono ?_; rintro e w' ⟨rfl, rfl⟩))
    all_goals go_ret
    all_goals exact ⟨rfl, rfl⟩
  by_cases c2 : 36524 < day
  · have v : wdI day = 0 := by unfold wdI; rw [if_pos (by omega)]
    have ne : (day != 36524) = true := by simp; omega
    go_enter Tryd.func6, Tryd.ntmps6
    go_wp2_with (first | (go_at_call 14; refine (awake_w  _ ht).mono ?_; rintro e w' ⟨rfl, rfl⟩) | (go_at_call 22; refine (weekday_w _ (by omega) (by omega) _).mono ?_; rintro e w' ⟨rfl, rfl⟩))
    all_goals go_ret
    all_goals exact ⟨rfl, rfl⟩
  by_cases c3 : day = 36524
  · subst c3
    have v : wdI 36524 = 4 := by decide +kernel
    go_enter Tryd.func6, Tryd.ntmps6
    go_wp2_with (first | (go_at_call 14; refine (awake_w  _ ht).mono ?_; rintro e w' ⟨rfl, rfl⟩) | (go_at_call 22; refine (weekday_w _ (by omega) (by omega) _).mono ?_; rintro e w' ⟨rfl, rfl⟩))
    all_goals go_ret
    all_goals exact ⟨rfl, rfl⟩
  have v : wdI day = (day + 5) % 7 + 1 := by unfold wdI; rw [if_neg (by omega)]
  have v2 : wdI (day + 1) = (day + 6) % 7 + 1 := by unfold wdI; rw [if_neg (by omega)]; omega
  have vv : ((day + 5) % 7 + 1) % 7 + 1 = (day + 6) % 7 + 1 := by omega
  have vb : 0 ≤ (day + 5) % 7 ∧ (day + 5) % 7 < 7 := by omega
  obtain ⟨p, hp⟩ : ∃ p, (day + 5) % 7 = p := ⟨_, rfl⟩
  obtain ⟨q, hq⟩ : ∃ q, (day + 6) % 7 = q := ⟨_, rfl⟩
  rw [hp] at v vv vb
  rw [hq] at v2 vv
  clear hp hq
  obtain ⟨y, m, d, D0, yy⟩ := date_at day (by omega) (by omega)
  obtain ⟨z, n, x, D02, yy2⟩ := date_at (day + 1) (by omega) (by omega)
  obtain ⟨f1, f2, f3, f4, f5, f6, f7, f8, f9⟩ := date_facts D0
  obtain ⟨g1, g2, g3, g4, g5, g6, g7, g8, g9⟩ := date_facts D02
  obtain ⟨N1, N2, N3⟩ := IsDate.next D0 D02
  rw [← f9] at N1 N2 N3
  have f10 : d ≤ mdI y m := by rw [f9]; exact D0.2.2.2.2.2.1
  obtain ⟨e, he⟩ : ∃ e, day + 1 = e := ⟨_, rfl⟩
  rw [he] at D02 v2
  have D := Lib.hid D0
  have D2 := Lib.hid D02
  obtain ⟨L, hL⟩ : ∃ L, mdI y m = L := ⟨_, rfl⟩
  rw [hL] at f10 N1 N2 N3
  clear D0 D02 yy yy2 f9 g9 f1 f2 g1 g2
  by_cases k : d < L
  · obtain ⟨rfl, rfl, rfl⟩ := N1 k
    clear N1 N2 N3
    go_enter Tryd.func6, Tryd.ntmps6
    go_wp2_with (first | (go_at_call 14; refine (awake_w  _ ht).mono ?_; rintro e w' ⟨rfl, rfl⟩) | (go_at_call 21; (first | (with_reducible refine (date_is day _ _ _ D _ ht).mono ?_) | (with_reducible refine (date_is e _ _ _ D2 _ ht).mono ?_)); rintro e w' ⟨rfl, rfl⟩) | (go_at_call 22; refine (weekday_w _ (by omega) (by omega) _).mono ?_; rintro e w' ⟨rfl, rfl⟩) | (go_at_call 17; refine (md_w _ _ (by omega) (by omega) (by omega) (by omega) _ ht).mono ?_; rintro e w' ⟨rfl, rfl⟩))
    all_goals go_ret
    all_goals exact ⟨rfl, rfl⟩
  by_cases k2 : m < 12
  · obtain ⟨rfl, rfl, rfl⟩ := N2 k k2
    clear N1 N2 N3
    go_enter Tryd.func6, Tryd.ntmps6
    go_wp2_with (first | (go_at_call 14; refine (awake_w  _ ht).mono ?_; rintro e w' ⟨rfl, rfl⟩) | (go_at_call 21; (first | (with_reducible refine (date_is day _ _ _ D _ ht).mono ?_) | (with_reducible refine (date_is e _ _ _ D2 _ ht).mono ?_)); rintro e w' ⟨rfl, rfl⟩) | (go_at_call 22; refine (weekday_w _ (by omega) (by omega) _).mono ?_; rintro e w' ⟨rfl, rfl⟩) | (go_at_call 17; refine (md_w _ _ (by omega) (by omega) (by omega) (by omega) _ ht).mono ?_; rintro e w' ⟨rfl, rfl⟩))
    all_goals go_ret
    all_goals exact ⟨rfl, rfl⟩
  obtain ⟨rfl, rfl, rfl⟩ := N3 k k2
  clear N1 N2 N3
  go_enter Tryd.func6, Tryd.ntmps6
  go_wp2_with (first | (go_at_call 14; refine (awake_w  _ ht).mono ?_; rintro e w' ⟨rfl, rfl⟩) | (go_at_call 21; (first | (with_reducible refine (date_is day _ _ _ D _ ht).mono ?_) | (with_reducible refine (date_is e _ _ _ D2 _ ht).mono ?_)); rintro e w' ⟨rfl, rfl⟩) | (go_at_call 22; refine (weekday_w _ (by omega) (by omega) _).mono ?_; rintro e w' ⟨rfl, rfl⟩) | (go_at_call 17; refine (md_w _ _ (by omega) (by omega) (by omega) (by omega) _ ht).mono ?_; rintro e w' ⟨rfl, rfl⟩))
  all_goals go_ret
  all_goals exact ⟨rfl, rfl⟩
def spV (t : Int) : Int := if t < 0 ∨ 36524 < t / 144000 then 0 else t / 144000
def spC (t : Int) : Int := if t < 0 ∨ 36524 < t / 144000 then 0 else t % 144000
def spE (t : Int) : Int := if t < 0 ∨ 36524 < t / 144000 then 2 else 0
def jnV (d c : Int) : Int := if d < 0 ∨ 36524 < d ∨ c < 0 ∨ 144000 ≤ c then 0 else d * 144000 + c
def jnE (d c : Int) : Int := if d < 0 ∨ 36524 < d ∨ c < 0 ∨ 144000 ≤ c then 2 else 0
theorem split_w (t : Int) (t_0 : -9223372036854775808 ≤ t) (t_1 : t ≤ 9223372036854775807) (w : World) : Calls Tryd.prog 29 #[.int .i64 t] w fun e w' => e = .returned (.tuple #[.int .i64 (spV t), .int .i64 (spC t), .int .i64 (spE t)]) ∧ w = w' := by
  by_cases c : t < 0
  · have E1 := Lib.hid (show spV t = 0 from by unfold spV; rw [if_pos (by omega)])
    have E2 := Lib.hid (show spC t = 0 from by unfold spC; rw [if_pos (by omega)])
    have E3 := Lib.hid (show spE t = 2 from by unfold spE; rw [if_pos (by omega)])
    go_enter Tryd.func29, Tryd.ntmps29
    go_wp2
    exact bodyPost_ret (v := .tuple #[.int .i64 (0), .int .i64 (0), .int .i64 (2)]) (by simp [results, Tryd.results29, go_sem]) rfl ⟨by rw [E1.out, E2.out, E3.out], rfl⟩
  by_cases c2 : 36524 < t / 144000
  · have E1 := Lib.hid (show spV t = 0 from by unfold spV; rw [if_pos (by omega)])
    have E2 := Lib.hid (show spC t = 0 from by unfold spC; rw [if_pos (by omega)])
    have E3 := Lib.hid (show spE t = 2 from by unfold spE; rw [if_pos (by omega)])
    go_enter Tryd.func29, Tryd.ntmps29
    go_wp2
    exact bodyPost_ret (v := .tuple #[.int .i64 (0), .int .i64 (0), .int .i64 (2)]) (by simp [results, Tryd.results29, go_sem]) rfl ⟨by rw [E1.out, E2.out, E3.out], rfl⟩
  have E1 := Lib.hid (show spV t = t / 144000 from by unfold spV; rw [if_neg (by omega)])
  have E2 := Lib.hid (show spC t = t % 144000 from by unfold spC; rw [if_neg (by omega)])
  have E3 := Lib.hid (show spE t = 0 from by unfold spE; rw [if_neg (by omega)])
  go_enter Tryd.func29, Tryd.ntmps29
  go_wp2
  exact bodyPost_ret (v := .tuple #[.int .i64 (t / 144000), .int .i64 (t % 144000), .int .i64 (0)]) (by simp [results, Tryd.results29, go_sem]) rfl ⟨by rw [E1.out, E2.out, E3.out], rfl⟩
theorem ref_split_w (t : Int) (t_0 : -9223372036854775808 ≤ t) (t_1 : t ≤ 9223372036854775807) (w : World) : Calls Tryd.prog 30 #[.int .i64 t] w fun e w' => e = .returned (.tuple #[.int .i64 (spV t), .int .i64 (spC t), .int .i64 (spE t)]) ∧ w = w' := by
  by_cases c : t < 0
  · have E1 := Lib.hid (show spV t = 0 from by unfold spV; rw [if_pos (by omega)])
    have E2 := Lib.hid (show spC t = 0 from by unfold spC; rw [if_pos (by omega)])
    have E3 := Lib.hid (show spE t = 2 from by unfold spE; rw [if_pos (by omega)])
    go_enter Tryd.func30, Tryd.ntmps30
    go_wp2
    exact bodyPost_ret (v := .tuple #[.int .i64 (0), .int .i64 (0), .int .i64 (2)]) (by simp [results, Tryd.results30, go_sem]) rfl ⟨by rw [E1.out, E2.out, E3.out], rfl⟩
  by_cases c2 : 36524 < t / 144000
  · have E1 := Lib.hid (show spV t = 0 from by unfold spV; rw [if_pos (by omega)])
    have E2 := Lib.hid (show spC t = 0 from by unfold spC; rw [if_pos (by omega)])
    have E3 := Lib.hid (show spE t = 2 from by unfold spE; rw [if_pos (by omega)])
    go_enter Tryd.func30, Tryd.ntmps30
    go_wp2
    exact bodyPost_ret (v := .tuple #[.int .i64 (0), .int .i64 (0), .int .i64 (2)]) (by simp [results, Tryd.results30, go_sem]) rfl ⟨by rw [E1.out, E2.out, E3.out], rfl⟩
  have E1 := Lib.hid (show spV t = t / 144000 from by unfold spV; rw [if_neg (by omega)])
  have E2 := Lib.hid (show spC t = t % 144000 from by unfold spC; rw [if_neg (by omega)])
  have E3 := Lib.hid (show spE t = 0 from by unfold spE; rw [if_neg (by omega)])
  go_enter Tryd.func30, Tryd.ntmps30
  go_wp2
  exact bodyPost_ret (v := .tuple #[.int .i64 (t / 144000), .int .i64 (t % 144000), .int .i64 (0)]) (by simp [results, Tryd.results30, go_sem]) rfl ⟨by rw [E1.out, E2.out, E3.out], rfl⟩
theorem join_w (d c : Int) (d_0 : -9223372036854775808 ≤ d) (d_1 : d ≤ 9223372036854775807) (c_0 : -9223372036854775808 ≤ c) (c_1 : c ≤ 9223372036854775807) (w : World) : Calls Tryd.prog 31 #[.int .i64 d, .int .i64 c] w fun e w' => e = .returned (.tuple #[.int .i64 (jnV d c), .int .i64 (jnE d c)]) ∧ w = w' := by
  by_cases k0 : d < 0
  · have E1 := Lib.hid (show jnV d c = 0 from by unfold jnV; rw [if_pos (by omega)])
    have E2 := Lib.hid (show jnE d c = 2 from by unfold jnE; rw [if_pos (by omega)])
    go_enter Tryd.func31, Tryd.ntmps31
    go_wp2
    exact bodyPost_ret (v := .tuple #[.int .i64 (0), .int .i64 (2)]) (by simp [results, Tryd.results31, go_sem]) rfl ⟨by rw [E1.out, E2.out], rfl⟩
  by_cases k1 : 36524 < d
  · have E1 := Lib.hid (show jnV d c = 0 from by unfold jnV; rw [if_pos (by omega)])
    have E2 := Lib.hid (show jnE d c = 2 from by unfold jnE; rw [if_pos (by omega)])
    go_enter Tryd.func31, Tryd.ntmps31
    go_wp2
    exact bodyPost_ret (v := .tuple #[.int .i64 (0), .int .i64 (2)]) (by simp [results, Tryd.results31, go_sem]) rfl ⟨by rw [E1.out, E2.out], rfl⟩
  by_cases k2 : c < 0
  · have E1 := Lib.hid (show jnV d c = 0 from by unfold jnV; rw [if_pos (by omega)])
    have E2 := Lib.hid (show jnE d c = 2 from by unfold jnE; rw [if_pos (by omega)])
    go_enter Tryd.func31, Tryd.ntmps31
    go_wp2
    exact bodyPost_ret (v := .tuple #[.int .i64 (0), .int .i64 (2)]) (by simp [results, Tryd.results31, go_sem]) rfl ⟨by rw [E1.out, E2.out], rfl⟩
  by_cases k3 : 144000 ≤ c
  · have E1 := Lib.hid (show jnV d c = 0 from by unfold jnV; rw [if_pos (by omega)])
    have E2 := Lib.hid (show jnE d c = 2 from by unfold jnE; rw [if_pos (by omega)])
    go_enter Tryd.func31, Tryd.ntmps31
    go_wp2
    exact bodyPost_ret (v := .tuple #[.int .i64 (0), .int .i64 (2)]) (by simp [results, Tryd.results31, go_sem]) rfl ⟨by rw [E1.out, E2.out], rfl⟩
  have E1 := Lib.hid (show jnV d c = d * 144000 + c from by unfold jnV; rw [if_neg (by omega)])
  have E2 := Lib.hid (show jnE d c = 0 from by unfold jnE; rw [if_neg (by omega)])
  go_enter Tryd.func31, Tryd.ntmps31
  go_wp2
  exact bodyPost_ret (v := .tuple #[.int .i64 (d * 144000 + c), .int .i64 (0)]) (by simp [results, Tryd.results31, go_sem]) rfl ⟨by rw [E1.out, E2.out], rfl⟩
theorem ref_join_w (d c : Int) (d_0 : -9223372036854775808 ≤ d) (d_1 : d ≤ 9223372036854775807) (c_0 : -9223372036854775808 ≤ c) (c_1 : c ≤ 9223372036854775807) (w : World) : Calls Tryd.prog 32 #[.int .i64 d, .int .i64 c] w fun e w' => e = .returned (.tuple #[.int .i64 (jnV d c), .int .i64 (jnE d c)]) ∧ w = w' := by
  by_cases k0 : d < 0
  · have E1 := Lib.hid (show jnV d c = 0 from by unfold jnV; rw [if_pos (by omega)])
    have E2 := Lib.hid (show jnE d c = 2 from by unfold jnE; rw [if_pos (by omega)])
    go_enter Tryd.func32, Tryd.ntmps32
    go_wp2
    exact bodyPost_ret (v := .tuple #[.int .i64 (0), .int .i64 (2)]) (by simp [results, Tryd.results32, go_sem]) rfl ⟨by rw [E1.out, E2.out], rfl⟩
  by_cases k1 : 36524 < d
  · have E1 := Lib.hid (show jnV d c = 0 from by unfold jnV; rw [if_pos (by omega)])
    have E2 := Lib.hid (show jnE d c = 2 from by unfold jnE; rw [if_pos (by omega)])
    go_enter Tryd.func32, Tryd.ntmps32
    go_wp2
    exact bodyPost_ret (v := .tuple #[.int .i64 (0), .int .i64 (2)]) (by simp [results, Tryd.results32, go_sem]) rfl ⟨by rw [E1.out, E2.out], rfl⟩
  by_cases k2 : c < 0
  · have E1 := Lib.hid (show jnV d c = 0 from by unfold jnV; rw [if_pos (by omega)])
    have E2 := Lib.hid (show jnE d c = 2 from by unfold jnE; rw [if_pos (by omega)])
    go_enter Tryd.func32, Tryd.ntmps32
    go_wp2
    exact bodyPost_ret (v := .tuple #[.int .i64 (0), .int .i64 (2)]) (by simp [results, Tryd.results32, go_sem]) rfl ⟨by rw [E1.out, E2.out], rfl⟩
  by_cases k3 : 144000 ≤ c
  · have E1 := Lib.hid (show jnV d c = 0 from by unfold jnV; rw [if_pos (by omega)])
    have E2 := Lib.hid (show jnE d c = 2 from by unfold jnE; rw [if_pos (by omega)])
    go_enter Tryd.func32, Tryd.ntmps32
    go_wp2
    exact bodyPost_ret (v := .tuple #[.int .i64 (0), .int .i64 (2)]) (by simp [results, Tryd.results32, go_sem]) rfl ⟨by rw [E1.out, E2.out], rfl⟩
  have E1 := Lib.hid (show jnV d c = d * 144000 + c from by unfold jnV; rw [if_neg (by omega)])
  have E2 := Lib.hid (show jnE d c = 0 from by unfold jnE; rw [if_neg (by omega)])
  go_enter Tryd.func32, Tryd.ntmps32
  go_wp2
  exact bodyPost_ret (v := .tuple #[.int .i64 (d * 144000 + c), .int .i64 (0)]) (by simp [results, Tryd.results32, go_sem]) rfl ⟨by rw [E1.out, E2.out], rfl⟩
set_option maxHeartbeats 4000000 in
theorem law_instants (tick day clock : Int) (tick_0 : -9223372036854775808 ≤ tick) (tick_1 : tick ≤ 9223372036854775807) (day_0 : -9223372036854775808 ≤ day) (day_1 : day ≤ 9223372036854775807) (clock_0 : -9223372036854775808 ≤ clock) (clock_1 : clock ≤ 9223372036854775807) (w : World) (ht : Hid (Tab w)) : Calls Tryd.prog 9 #[.int .i64 tick, .int .i64 day, .int .i64 clock] w fun e w' => e = .returned (.bool true) ∧ w = w' := by
  obtain ⟨a, ha⟩ : ∃ a, jnV day clock = a := ⟨_, rfl⟩
  obtain ⟨b, hb⟩ : ∃ b, jnE day clock = b := ⟨_, rfl⟩
  by_cases c : tick < 0 ∨ 36524 < tick / 144000
  · have v1 : spV tick = 0 := by unfold spV; rw [if_pos c]
    have v2 : spC tick = 0 := by unfold spC; rw [if_pos c]
    have v3 : spE tick = 2 := by unfold spE; rw [if_pos c]
    clear c
    go_enter Tryd.func9, Tryd.ntmps9
    go_wp2_with (first | (go_at_call 14; refine (awake_w  _ ht).mono ?_; rintro e w' ⟨rfl, rfl⟩) | (go_at_call 29; refine (split_w _ (by omega) (by omega) _).mono ?_; rintro e w' ⟨rfl, rfl⟩) | (go_at_call 30; refine (ref_split_w _ (by omega) (by omega) _).mono ?_; rintro e w' ⟨rfl, rfl⟩) | (go_at_call 31; refine (join_w _ _ (by omega) (by omega) (by omega) (by omega) _).mono ?_; rintro e w' ⟨rfl, rfl⟩) | (go_at_call 32; refine (ref_join_w _ _ (by omega) (by omega) (by omega) (by omega) _).mono ?_; rintro e w' ⟨rfl, rfl⟩))
    all_goals go_ret
    all_goals exact ⟨rfl, rfl⟩
  have v1 : spV tick = tick / 144000 := by unfold spV; rw [if_neg c]
  have v2 : spC tick = tick % 144000 := by unfold spC; rw [if_neg c]
  have v3 : spE tick = 0 := by unfold spE; rw [if_neg c]
  have v4 : jnV (tick / 144000) (tick % 144000) = tick := by unfold jnV; rw [if_neg (by omega)]; omega
  have v5 : jnE (tick / 144000) (tick % 144000) = 0 := by unfold jnE; rw [if_neg (by omega)]
  have b1 : 0 ≤ tick / 144000 ∧ tick / 144000 ≤ 36524 := by omega
  have b2 : 0 ≤ tick % 144000 ∧ tick % 144000 < 144000 := by omega
  clear c
  obtain ⟨x, hx⟩ : ∃ x, tick / 144000 = x := ⟨_, rfl⟩
  obtain ⟨y, hy⟩ : ∃ y, tick % 144000 = y := ⟨_, rfl⟩
  rw [hx] at v1 v4 v5 b1
  rw [hy] at v2 v4 v5 b2
  clear hx hy
  go_enter Tryd.func9, Tryd.ntmps9
  go_wp2_with (first | (go_at_call 14; refine (awake_w  _ ht).mono ?_; rintro e w' ⟨rfl, rfl⟩) | (go_at_call 29; refine (split_w _ (by omega) (by omega) _).mono ?_; rintro e w' ⟨rfl, rfl⟩) | (go_at_call 30; refine (ref_split_w _ (by omega) (by omega) _).mono ?_; rintro e w' ⟨rfl, rfl⟩) | (go_at_call 31; refine (join_w _ _ (by omega) (by omega) (by omega) (by omega) _).mono ?_; rintro e w' ⟨rfl, rfl⟩) | (go_at_call 32; refine (ref_join_w _ _ (by omega) (by omega) (by omega) (by omega) _).mono ?_; rintro e w' ⟨rfl, rfl⟩))
  all_goals go_ret
  all_goals exact ⟨rfl, rfl⟩
end Go.Proofs.YtkmpbkojdkoghaaDoor
