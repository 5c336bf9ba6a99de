/-
  Own contracts: package calendar: the laws on texts of dates, times of day and cycles.
-/
import Derived.Test.YtkmpbkojdkoghaaDoorRows
import Derived.Test.YtkmpbkojdkoghaaDoorCalu
import Derived.Test.YtkmpbkojdkoghaaDoorCalc
import Derived.LaidLaws
import Derived.LaidSub
import Derived.Lib.LaidTab
import Derived.WalkKit
import Derived.ProofKit
import Derived.OpenShut
import Derived.WalkLawsBesides
import Derived.WalkSpells
import Derived.Lib.Hide
import Derived.Deep.DeepCutAuto
import Derived.Deep.CutBlock
import Derived.Deep.QuietTactic
import Derived.BigQuiet
import Derived.Handy
import Derived.StillTailTactics
import Derived.IntWalk
import Derived.LoopN
import Derived.Deep.RegionHeld3
namespace Go.Proofs.YtkmpbkojdkoghaaDoor
open Go.ChangeShapes Go.WideShapes Go.ChangeAt Go.RowKit
set_option linter.unusedVariables false
set_option linter.unusedSimpArgs false
def T2 (w : World) : Prop := Tab w ∧ P10 w
theorem tab2_of {W : World} (h : laidMetH Tryd.prog [("math/bits.deBruijn32tab", Rows.laid_math_bits_deBruijn32tab), ("math/bits.deBruijn64tab", Rows.laid_math_bits_deBruijn64tab), ("internal/strconv.uint64pow10", Rows.laid_internal_strconv_uint64pow10), ("flightdeck/calendar.lengths", Rows.laid_flightdeck_calendar_lengths)] W) : T2 W := by
  constructor
  · have h1 : laidMetH Tryd.prog [("flightdeck/calendar.lengths", Rows.laid_flightdeck_calendar_lengths)] W := h.filter (fun x => x.1 == "flightdeck/calendar.lengths")
    exact tab_of h1
  · have h2 : laidMetH Tryd.prog [("internal/strconv.uint64pow10", Rows.laid_internal_strconv_uint64pow10)] W := h.filter (fun x => x.1 == "internal/strconv.uint64pow10")
    exact Lib.tabIs_of_head (g := 1) (t := 66) (e := 58) (n := 20) (rest := []) (by kernel_rfl) (by kernel_rfl) (by kernel_rfl) (by kernel_rfl) (by kernel_rfl) (by kernel_rfl) h2
theorem tab_kept {w w' : World} (h : Tab w) (hk : Kept w w') : Tab w' := fun i hi => (hk.cell (World.block_lt_of_cell? _ _ (h i hi))).trans (h i hi)
set_option maxHeartbeats 2000000 in
set_option maxRecDepth 100000 in
theorem number_long (s : ByteArray) (hs : 4 < s.size) (h2 : s.size ≤ 9223372036854775807) (w : World) : Calls Tryd.prog 51 #[.string s] w fun e w' => e = .returned (.tuple #[.int .i64 0, .bool false]) ∧ w = w' := by
  go_enter Tryd.func51, Tryd.ntmps51
  go_wp2
  go_loop [4, 8] (fun n i => ∃ (k : Nat) (m : Int), k ≤ 4 ∧ i = .int .i64 k ∧ n = .int .i64 m) (fun _ i => 5 - (intOf i).toNat)
  case atStart => exact ⟨0, 0, by omega, rfl, rfl⟩
  case round =>
    obtain ⟨k, m, hk, rfl, rfl⟩ := hrel
    have hlt : k < s.size := by omega
    by_cases h4 : k < 4
    · by_cases c : 48 ≤ (s[k].toNat : Int) ∧ (s[k].toNat : Int) ≤ 57
      · obtain ⟨d0, d1⟩ := c
        go_wp2
        exact ⟨⟨k + 1, _, by omega, by go_num, rfl⟩, by simp [intOf]; omega⟩
      · have c' : (s[k].toNat : Int) < 48 ∨ 57 < (s[k].toNat : Int) := by omega
        clear c
        rcases c' with c | c
        all_goals
          go_wp2
          go_ret2
          exact ⟨rfl, rfl⟩
    · obtain rfl : k = 4 := by omega
      go_wp2
      go_ret2
      exact ⟨rfl, rfl⟩
set_option maxHeartbeats 2000000 in
set_option maxRecDepth 100000 in
theorem parse_dt (day y m d : Int) (h : Hid (IsDate day y m d)) (w : World) (ht : Hid (Tab w)) : Calls Tryd.prog 25 #[.string (dtS y m d)] w fun e w' => e = .returned (.tuple #[.int .i64 day, .int .i64 0]) ∧ w = w' := by
  obtain ⟨y0, y1, m0, m1, d0, d1⟩ := h.out.bd
  obtain ⟨f1, f2, _⟩ := date_facts h.out
  have t := parsedate_ok (dtS y m d) (dtS_size y m d) rfl rfl (digB_d4 y (by omega)) (digB_d2 m (by omega)) (digB_d2 d (by omega)) w ht
  rw [show (dtS y m d).extract 0 4 = d4 y from rfl, show (dtS y m d).extract 5 7 = d2 m from rfl, show (dtS y m d).extract 8 10 = d2 d from rfl, vN_d4 y (by omega) (by omega), vN_d2 m (by omega) (by omega), vN_d2 d (by omega) (by omega), f1, f2] at t
  exact t
set_option maxHeartbeats 2000000 in
set_option maxRecDepth 100000 in
theorem parse_ck (c n : Int) (c0 : 0 ≤ c) (c1 : c < 144000) (hn : Hid (c / 6000 * 6000 + c / 100 % 60 * 100 = n)) (w : World) : Calls Tryd.prog 27 #[.string (ckS (c / 6000) (c / 100 % 60))] w fun e w' => e = .returned (.tuple #[.int .i64 n, .int .i64 0]) ∧ w = w' := by
  have t := parseclock_ok (ckS (c / 6000) (c / 100 % 60)) (ckS_size _ _) rfl (digB_d2 (c / 6000) (by omega)) (digB_d2 (c / 100 % 60) (by omega)) (by
    rw [show (ckS (c / 6000) (c / 100 % 60)).extract 0 2 = d2 (c / 6000) from rfl, vN_d2 _ (by omega) (by omega)]; omega) (by
    rw [show (ckS (c / 6000) (c / 100 % 60)).extract 3 5 = d2 (c / 100 % 60) from rfl, vN_d2 _ (by omega) (by omega)]; omega) w
  rw [show (ckS (c / 6000) (c / 100 % 60)).extract 0 2 = d2 (c / 6000) from rfl, show (ckS (c / 6000) (c / 100 % 60)).extract 3 5 = d2 (c / 100 % 60) from rfl, vN_d2 _ (by omega) (by omega), vN_d2 _ (by omega) (by omega), hn.out] at t
  exact t
set_option maxHeartbeats 2000000 in
set_option maxRecDepth 100000 in
theorem pcyc_long (s : ByteArray) (hs : 4 < s.size) (h2 : s.size ≤ 9223372036854775807) (w : World) : Calls Tryd.prog 41 #[.string s] w fun e w' => e = .returned (.tuple #[.int .i64 0, .int .i64 4]) ∧ w = w' := by
  have z : (s.size == 4) = false := by simpa using (show ¬ s.size = 4 by omega)
  have z' : (s.size != 4) = true := by simpa using (show ¬ s.size = 4 by omega)
  have y : ((s.size : Int) == 4) = false := by simpa using (show ¬ (s.size : Int) = 4 by omega)
  have y' : ((s.size : Int) != 4) = true := by simpa using (show ¬ (s.size : Int) = 4 by omega)
  go_enter Tryd.func41, Tryd.ntmps41
  go_wp2_with (first | (go_at_call 51; with_reducible refine (number_long s (by omega) (by omega) _).mono ?_; rintro e w' ⟨rfl, rfl⟩))
  all_goals go_ret2
  all_goals exact ⟨rfl, rfl⟩
set_option maxHeartbeats 2000000 in
set_option maxRecDepth 100000 in
theorem pcyc_short (s : ByteArray) (hs : s.size < 4) (w : World) : Calls Tryd.prog 41 #[.string s] w fun e w' => e = .returned (.tuple #[.int .i64 0, .int .i64 4]) ∧ w = w' := by
  have z : (s.size == 4) = false := by simpa using (show ¬ s.size = 4 by omega)
  have z' : (s.size != 4) = true := by simpa using (show ¬ s.size = 4 by omega)
  have y : ((s.size : Int) == 4) = false := by simpa using (show ¬ (s.size : Int) = 4 by omega)
  have y' : ((s.size : Int) != 4) = true := by simpa using (show ¬ (s.size : Int) = 4 by omega)
  go_enter Tryd.func41, Tryd.ntmps41
  go_wp2_with (first | (go_at_call 51; with_reducible refine (number_b s (by omega) _).mono ?_; rintro e w' ⟨rfl, rfl⟩))
  all_goals go_ret2
  all_goals exact ⟨rfl, rfl⟩
set_option maxHeartbeats 2000000 in
set_option maxRecDepth 100000 in
theorem rpcyc_size (s : ByteArray) (hs : s.size < 4 ∨ 4 < s.size) (h2 : s.size ≤ 9223372036854775807) (w : World) : Calls Tryd.prog 42 #[.string s] w fun e w' => e = .returned (.tuple #[.int .i64 0, .int .i64 4]) ∧ Dr w w' := by
  have z : (s.size == 4) = false := by simpa using (show ¬ s.size = 4 by omega)
  have z' : (s.size != 4) = true := by simpa using (show ¬ s.size = 4 by omega)
  have y : ((s.size : Int) == 4) = false := by simpa using (show ¬ (s.size : Int) = 4 by omega)
  have y' : ((s.size : Int) != 4) = true := by simpa using (show ¬ (s.size : Int) = 4 by omega)
  go_enter Tryd.func42, Tryd.ntmps42
  go_wp2_with fail
  all_goals go_ret2
  all_goals exact ⟨rfl, (by repeat (first | exact Dr.refl _ | refine Dr.drewN ?_ _ | refine Dr.drew ?_))⟩
set_option maxHeartbeats 2000000 in
set_option maxRecDepth 100000 in
theorem pcyc_nodig (s : ByteArray) (z : s.size = 4) (hd : digB s = false) (w : World) : Calls Tryd.prog 41 #[.string s] w fun e w' => e = .returned (.tuple #[.int .i64 0, .int .i64 4]) ∧ w = w' := by
  go_enter Tryd.func41, Tryd.ntmps41
  go_wp2_with (first | (go_at_call 51; with_reducible refine (number_b s (by omega) _).mono ?_; rintro e w' ⟨rfl, rfl⟩))
  all_goals go_ret2
  all_goals exact ⟨rfl, rfl⟩
set_option maxHeartbeats 2000000 in
set_option maxRecDepth 100000 in
theorem rpcyc_nodig (s : ByteArray) (z : s.size = 4) (hd : digB s = false) (w : World) : Calls Tryd.prog 42 #[.string s] w fun e w' => e = .returned (.tuple #[.int .i64 0, .int .i64 4]) ∧ Dr w w' := by
  have rv := rN_no s hd
  go_enter Tryd.func42, Tryd.ntmps42
  go_wp2_with (first | (go_at_call 52; with_reducible refine (rnumber_b s (by omega) _).mono ?_; rintro e w' ⟨rfl, rfl⟩))
  all_goals go_ret2
  all_goals exact ⟨rfl, (by repeat (first | exact Dr.refl _ | refine Dr.drewN ?_ _ | refine Dr.drew ?_))⟩
set_option maxHeartbeats 2000000 in
set_option maxRecDepth 100000 in
theorem pcyc_yes (s : ByteArray) (z : s.size = 4) (hd : digB s = true) (h : Hid (okN (vN s))) (w : World) : Calls Tryd.prog 41 #[.string s] w fun e w' => e = .returned (.tuple #[.int .i64 (vN s), .int .i64 0]) ∧ w = w' := by
  obtain ⟨v0, v1⟩ := vN_bd s (by omega)
  obtain ⟨V, hV⟩ : ∃ V, vN s = V := ⟨_, rfl⟩
  have HN := number_b s (by omega)
  rw [hd, hV] at HN
  rw [hV] at h v0 v1
  rw [hV]
  clear hV
  go_enter Tryd.func41, Tryd.ntmps41
  go_wp2_with (first | (go_at_call 51; with_reducible refine (HN _).mono ?_; rintro e w' ⟨rfl, rfl⟩) | (go_at_call 56; with_reducible refine (pos_yes V _ h (Lib.hid rfl) _).mono ?_; rintro e w' ⟨rfl, rfl⟩))
  all_goals go_ret2
  all_goals exact ⟨rfl, rfl⟩
set_option maxHeartbeats 2000000 in
set_option maxRecDepth 100000 in
theorem rpcyc_yes (s : ByteArray) (z : s.size = 4) (hd : digB s = true) (h : Hid (okN (vN s))) (w : World) : Calls Tryd.prog 42 #[.string s] w fun e w' => e = .returned (.tuple #[.int .i64 (vN s), .int .i64 0]) ∧ Dr w w' := by
  obtain ⟨v0, v1⟩ := vN_bd s (by omega)
  obtain ⟨V, hV⟩ : ∃ V, vN s = V := ⟨_, rfl⟩
  have HN := rnumber_b s (by omega)
  rw [rN_eq s hd, hV] at HN
  rw [hV] at h v0 v1
  rw [hV]
  clear hV
  go_enter Tryd.func42, Tryd.ntmps42
  go_wp2_with (first | (go_at_call 52; with_reducible refine (HN _).mono ?_; rintro e w' ⟨rfl, rfl⟩) | (go_at_call 38; with_reducible refine (rcd_yes V _ h (Lib.hid rfl) _).mono ?_; rintro e w' ⟨rfl, rfl⟩))
  all_goals go_ret2
  all_goals exact ⟨rfl, (by repeat (first | exact Dr.refl _ | refine Dr.drewN ?_ _ | refine Dr.drew ?_))⟩
set_option maxHeartbeats 2000000 in
set_option maxRecDepth 100000 in
theorem pcyc_no (s : ByteArray) (z : s.size = 4) (hd : digB s = true) (h : Hid (¬ okN (vN s))) (w : World) : Calls Tryd.prog 41 #[.string s] w fun e w' => e = .returned (.tuple #[.int .i64 0, .int .i64 (er (vN s))]) ∧ w = w' := by
  obtain ⟨v0, v1⟩ := vN_bd s (by omega)
  obtain ⟨V, hV⟩ : ∃ V, vN s = V := ⟨_, rfl⟩
  have HN := number_b s (by omega)
  rw [hd, hV] at HN
  rw [hV] at h v0 v1
  rw [hV]
  clear hV
  have ne : (er V != 0) = true := by unfold er; split <;> rfl
  obtain ⟨E, hE⟩ : ∃ E, er V = E := ⟨_, rfl⟩
  have HP := pos_no V (by omega) (by omega) h
  rw [hE] at ne HP ⊢
  go_enter Tryd.func41, Tryd.ntmps41
  go_wp2_with (first | (go_at_call 51; with_reducible refine (HN _).mono ?_; rintro e w' ⟨rfl, rfl⟩) | (go_at_call 56; with_reducible refine (HP _).mono ?_; rintro e w' ⟨rfl, rfl⟩))
  all_goals go_ret2
  all_goals exact ⟨rfl, rfl⟩
set_option maxHeartbeats 2000000 in
set_option maxRecDepth 100000 in
theorem rpcyc_no (s : ByteArray) (z : s.size = 4) (hd : digB s = true) (h : Hid (¬ okN (vN s))) (w : World) : Calls Tryd.prog 42 #[.string s] w fun e w' => e = .returned (.tuple #[.int .i64 0, .int .i64 (er (vN s))]) ∧ Dr w w' := by
  obtain ⟨v0, v1⟩ := vN_bd s (by omega)
  obtain ⟨V, hV⟩ : ∃ V, vN s = V := ⟨_, rfl⟩
  have HN := rnumber_b s (by omega)
  rw [rN_eq s hd, hV] at HN
  rw [hV] at h v0 v1
  rw [hV]
  clear hV
  have ne : (er V != 0) = true := by unfold er; split <;> rfl
  obtain ⟨E, hE⟩ : ∃ E, er V = E := ⟨_, rfl⟩
  have HP := rcd_no V (by omega) (by omega) h
  rw [hE] at ne HP ⊢
  go_enter Tryd.func42, Tryd.ntmps42
  go_wp2_with (first | (go_at_call 52; with_reducible refine (HN _).mono ?_; rintro e w' ⟨rfl, rfl⟩) | (go_at_call 38; with_reducible refine (HP _).mono ?_; rintro e w' ⟨rfl, rfl⟩))
  all_goals go_ret2
  all_goals exact ⟨rfl, (by repeat (first | exact Dr.refl _ | refine Dr.drewN ?_ _ | refine Dr.drew ?_))⟩
theorem pcyc_all (s : ByteArray) (h2 : s.size ≤ 9223372036854775807) : ∃ v er : Int, (∀ w, Calls Tryd.prog 41 #[.string s] w fun e w' => e = .returned (.tuple #[.int .i64 v, .int .i64 er]) ∧ w = w') ∧ (∀ w, Calls Tryd.prog 42 #[.string s] w fun e w' => e = .returned (.tuple #[.int .i64 v, .int .i64 er]) ∧ Dr w w') := by
  by_cases z : s.size = 4
  · by_cases hd : digB s = true
    · by_cases o : okN (vN s)
      · exact ⟨_, _, pcyc_yes s z hd (Lib.hid o), rpcyc_yes s z hd (Lib.hid o)⟩
      · exact ⟨_, _, pcyc_no s z hd (Lib.hid o), rpcyc_no s z hd (Lib.hid o)⟩
    · replace hd : digB s = false := by simpa using hd
      exact ⟨0, 4, pcyc_nodig s z hd, rpcyc_nodig s z hd⟩
  · by_cases l : 4 < s.size
    · exact ⟨0, 4, pcyc_long s l h2, rpcyc_size s (Or.inr l) h2⟩
    · exact ⟨0, 4, pcyc_short s (by omega), rpcyc_size s (by omega) h2⟩
theorem parse_cyc (n : Int) (h : Hid (okN n)) (w : World) : Calls Tryd.prog 41 #[.string (d4 n)] w fun e w' => e = .returned (.tuple #[.int .i64 n, .int .i64 0]) ∧ w = w' := by
  obtain ⟨⟨n0, n1⟩, _⟩ := h.out
  have v := vN_d4 n n0 (by omega)
  have t := pcyc_yes (d4 n) rfl (digB_d4 n n0) (Lib.hid (v.symm ▸ h.out)) w
  rwa [v] at t
set_option maxHeartbeats 2000000 in
set_option maxRecDepth 100000 in
theorem law_texts (day : Int) (day_0 : -9223372036854775808 ≤ day) (day_1 : day ≤ 9223372036854775807) (w : World) (ht : Hid (T2 w)) : Calls Tryd.prog 7 #[.int .i64 day] w fun e w' => e = .returned (.bool true) ∧ Kept w w' := by
  have hT := Lib.hid ht.out.1
  have hP := Lib.hid ht.out.2
  clear ht
  by_cases c : day < 0 ∨ 36524 < day
  · have HA := datetext_no day day_0 day_1 c
    have HB := rdatetext_no day day_0 day_1 c
    clear c
    go_enter Tryd.func7, Tryd.ntmps7
    go_wp2_with (first | (go_at_call 14; refine (awake_w _ hT).mono ?_; rintro e w' ⟨rfl, rfl⟩) | (go_at_call 23; with_reducible refine (HA _).mono ?_; rintro e w' ⟨rfl, rfl⟩) | (go_at_call 24; with_reducible refine (HB _).mono ?_; rintro e w' ⟨rfl, rfl⟩))
    all_goals go_ret
    all_goals exact ⟨rfl, (by repeat (first | with_reducible exact Kept.refl _ | with_reducible assumption | with_reducible refine Kept.drewN ?_ _ | with_reducible refine Kept.drew ?_ | with_reducible refine Kept.trans ?_ (by with_reducible assumption)))⟩
  obtain ⟨y, m, d, D0, _⟩ := date_at day (by omega) (by omega)
  have h := Lib.hid D0
  have HA := Lib.hid (datetext_ok day y m d h w hT hP)
  have HB := Lib.hid (rdatetext_ok day y m d h)
  have HC := Lib.hid (fun W (k : Kept w W) => parse_dt day y m d h W (Lib.hid (tab_kept hT.out k)))
  clear D0 c
  generalize dtS y m d = S at *
  go_enter Tryd.func7, Tryd.ntmps7
  go_wp2_with (first | (go_at_call 14; refine (awake_w _ hT).mono ?_; rintro e w' ⟨rfl, rfl⟩) | (go_at_call 23; with_reducible refine HA.out.mono ?_; rintro e w' ⟨rfl, hk⟩) | (go_at_call 24; with_reducible refine (HB.out _).mono ?_; rintro e w' ⟨rfl, rfl⟩) | (go_at_call 25; refine (HC.out _ (by assumption)).mono ?_; rintro e w' ⟨rfl, rfl⟩))
  all_goals go_ret
  all_goals exact ⟨rfl, (by repeat (first | with_reducible exact Kept.refl _ | with_reducible assumption | with_reducible refine Kept.drewN ?_ _ | with_reducible refine Kept.drew ?_ | with_reducible refine Kept.trans ?_ (by with_reducible assumption)))⟩
set_option maxHeartbeats 2000000 in
set_option maxRecDepth 100000 in
theorem law_clocks (c : Int) (c_0 : -9223372036854775808 ≤ c) (c_1 : c ≤ 9223372036854775807) (w : World) (ht : Hid (T2 w)) : Calls Tryd.prog 10 #[.int .i64 c] w fun e w' => e = .returned (.bool true) ∧ Kept w w' := by
  have hT := Lib.hid ht.out.1
  have hP := Lib.hid ht.out.2
  clear ht
  by_cases k : c < 0 ∨ 144000 ≤ c
  · have HA := clocktext_no c c_0 c_1 k
    have HB := rclocktext_no c c_0 c_1 k
    clear k
    go_enter Tryd.func10, Tryd.ntmps10
    go_wp2_with (first | (go_at_call 14; refine (awake_w _ hT).mono ?_; rintro e w' ⟨rfl, rfl⟩) | (go_at_call 33; with_reducible refine (HA _).mono ?_; rintro e w' ⟨rfl, rfl⟩) | (go_at_call 34; with_reducible refine (HB _).mono ?_; rintro e w' ⟨rfl, rfl⟩))
    all_goals go_ret
    all_goals exact ⟨rfl, (by repeat (first | with_reducible exact Kept.refl _ | with_reducible assumption | with_reducible refine Kept.drewN ?_ _ | with_reducible refine Kept.drew ?_ | with_reducible refine Kept.trans ?_ (by with_reducible assumption)))⟩
  have HA := Lib.hid (clocktext_ok c (by omega) (by omega))
  have HB := Lib.hid (rclocktext_ok c (by omega) (by omega))
  obtain ⟨n, hn⟩ : ∃ n, c / 6000 * 6000 + c / 100 % 60 * 100 = n := ⟨_, rfl⟩
  have HC := Lib.hid (parse_ck c n (by omega) (by omega) (Lib.hid hn))
  have n0 : n ≤ c := by omega
  have n1 : c - n < 100 := by omega
  have n2 : n % 100 = 0 := by omega
  have n3 : 0 ≤ n := by omega
  have n4 : c < 144000 := by omega
  clear hn k
  generalize ckS (c / 6000) (c / 100 % 60) = S at *
  go_enter Tryd.func10, Tryd.ntmps10
  go_wp2_with (first | (go_at_call 14; refine (awake_w _ hT).mono ?_; rintro e w' ⟨rfl, rfl⟩) | (go_at_call 33; with_reducible refine (HA.out _).mono ?_; rintro e w' ⟨rfl, rfl⟩) | (go_at_call 34; with_reducible refine (HB.out _).mono ?_; rintro e w' ⟨rfl, rfl⟩) | (go_at_call 27; with_reducible refine (HC.out _).mono ?_; rintro e w' ⟨rfl, rfl⟩))
  all_goals go_ret
  all_goals exact ⟨rfl, (by repeat (first | with_reducible exact Kept.refl _ | with_reducible assumption | with_reducible refine Kept.drewN ?_ _ | with_reducible refine Kept.drew ?_ | with_reducible refine Kept.trans ?_ (by with_reducible assumption)))⟩
set_option maxHeartbeats 4000000 in
set_option maxRecDepth 100000 in
theorem law_numbers (n : Int) (s : ByteArray) (n_0 : -9223372036854775808 ≤ n) (n_1 : n ≤ 9223372036854775807) (hm : s.size ≤ maxLen) (w : World) (ht : Hid (T2 w)) : Calls Tryd.prog 12 #[.int .i64 n, .string s] w fun e w' => e = .returned (.bool true) ∧ Kept w w' := by
  have hT := Lib.hid ht.out.1
  have hP := Lib.hid ht.out.2
  clear ht
  obtain ⟨v, er', HV0⟩ := pcyc_all (s.extract 0 (min (s.size : Int) 20).toNat) (by rw [ByteArray.size_extract]; unfold maxLen at *; omega)
  have HV := Lib.hid HV0
  clear HV0
  by_cases o : okN n
  · have h := Lib.hid o
    obtain ⟨k, hk0⟩ : ∃ k, kOf n = k := ⟨_, rfl⟩
    have hk := Lib.hid hk0
    clear hk0 o
    have HA := Lib.hid (cd_yes n k h hk)
    have HB := Lib.hid (rcd_yes n k h hk)
    have HC := Lib.hid (cyctext_ok n k h hk w hP)
    have HD := Lib.hid (rcyctext_ok n k h hk)
    have HE := Lib.hid (parse_cyc n h)
    generalize d4 n = S at *
    go_enter Tryd.func12, Tryd.ntmps12
    go_wp2_with (first | (go_at_call 14; refine (awake_w _ hT).mono ?_; rintro e w' ⟨rfl, rfl⟩) | (go_at_call 37; with_reducible refine (HA.out _).mono ?_; rintro e w' ⟨rfl, rfl⟩) | (go_at_call 38; with_reducible refine (HB.out _).mono ?_; rintro e w' ⟨rfl, rfl⟩) | (go_at_call 39; with_reducible refine HC.out.mono ?_; rintro e w' ⟨rfl, hk⟩) | (go_at_call 40; with_reducible refine (HD.out _).mono ?_; rintro e w' ⟨rfl, rfl⟩) | (go_at_call 41; first | (with_reducible refine (HE.out _).mono ?_; rintro e w' ⟨rfl, rfl⟩) | (with_reducible refine (HV.out.1 _).mono ?_; rintro e w' ⟨rfl, rfl⟩)) | (go_at_call 42; with_reducible refine (HV.out.2 _).mono ?_; rintro e w' ⟨rfl, hd⟩))
    all_goals go_ret
    all_goals exact ⟨rfl, (by repeat (first | with_reducible exact Kept.refl _ | with_reducible assumption | with_reducible refine Kept.drewN ?_ _ | with_reducible refine Kept.drew ?_ | with_reducible refine Kept.dr ?_ (by with_reducible assumption) | with_reducible refine Kept.trans ?_ (by with_reducible assumption)))⟩
  · have h := Lib.hid o
    clear o
    have ne : (er n != 0) = true := by unfold er; split <;> rfl
    have ne' : (er n == 0) = false := by unfold er; split <;> rfl
    have HA := Lib.hid (cd_no n n_0 n_1 h)
    have HB := Lib.hid (rcd_no n n_0 n_1 h)
    have HC := Lib.hid (cyctext_no n n_0 n_1 h)
    have HD := Lib.hid (rcyctext_no n n_0 n_1 h)
    generalize er n = E at *
    go_enter Tryd.func12, Tryd.ntmps12
    go_wp2_with (first | (go_at_call 14; refine (awake_w _ hT).mono ?_; rintro e w' ⟨rfl, rfl⟩) | (go_at_call 37; with_reducible refine (HA.out _).mono ?_; rintro e w' ⟨rfl, rfl⟩) | (go_at_call 38; with_reducible refine (HB.out _).mono ?_; rintro e w' ⟨rfl, rfl⟩) | (go_at_call 39; with_reducible refine (HC.out _).mono ?_; rintro e w' ⟨rfl, rfl⟩) | (go_at_call 40; with_reducible refine (HD.out _).mono ?_; rintro e w' ⟨rfl, rfl⟩) | (go_at_call 41; with_reducible refine (HV.out.1 _).mono ?_; rintro e w' ⟨rfl, rfl⟩) | (go_at_call 42; with_reducible refine (HV.out.2 _).mono ?_; rintro e w' ⟨rfl, hd⟩))
    all_goals go_ret
    all_goals exact ⟨rfl, (by repeat (first | with_reducible exact Kept.refl _ | with_reducible assumption | with_reducible refine Kept.drewN ?_ _ | with_reducible refine Kept.drew ?_ | with_reducible refine Kept.dr ?_ (by with_reducible assumption) | with_reducible refine Kept.trans ?_ (by with_reducible assumption)))⟩
end Go.Proofs.YtkmpbkojdkoghaaDoor
