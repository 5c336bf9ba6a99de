/-
  Own contracts: layer 30: the document's least airspeeds and altitudes.
-/
import Derived.Test.YtfkgghjinkmpiaaDoorAira
import Derived.WalkKit
import Derived.ProofKit
import Derived.OpenShut
import Derived.WalkLawsBesides
import Derived.WalkSpells
import Derived.Lib.Hide
import Derived.Deep.DeepCutAuto
import Derived.Deep.CutBlock
import Derived.Deep.QuietTactic
import Derived.BigQuiet
import Derived.Handy
import Derived.StillTailTactics
import Derived.IntWalk
import Derived.LoopN
import Derived.Deep.RegionHeld3
namespace Go.Proofs.YtfkgghjinkmpiaaDoor
open Go.ChangeShapes Go.WideShapes Go.ChangeAt Go.RowKit
set_option linter.unusedVariables false
set_option linter.unusedSimpArgs false
set_option maxHeartbeats 1000000 in
set_option maxRecDepth 100000 in
theorem rcas_arg (t a d : Int) (h : t < 0 ∨ 4000 < t) (w : World) : Calls Tryd.prog 18 #[.int .i64 t, .int .i64 a, .int .i64 d] w fun e w' => e = .returned (.tuple #[.int .i64 (0), .int .i64 (1)]) ∧ w = w' := by
  rcases h with h | h
  all_goals
    go_enter Tryd.func18, Tryd.ntmps18
    go_wp2_with fail
    all_goals go_ret2
    all_goals exact ⟨rfl, rfl⟩
set_option maxHeartbeats 1000000 in
set_option maxRecDepth 100000 in
theorem rcas_no (t a d : Int) (h0 : 0 ≤ t) (h1 : t ≤ 4000) (h : rE a d ≠ 0) (w : World) : Calls Tryd.prog 18 #[.int .i64 t, .int .i64 a, .int .i64 d] w fun e w' => e = .returned (.tuple #[.int .i64 (0), .int .i64 (rE a d)]) ∧ w = w' := by
  have HR := Lib.hid (ref_ratio_no a d h)
  obtain ⟨E, hE⟩ : ∃ E, rE a d = E := ⟨_, rfl⟩
  rw [hE] at HR h
  rw [hE]
  clear hE
  go_enter Tryd.func18, Tryd.ntmps18
  go_wp2_with (first | (go_at_call 32; with_reducible refine (HR.out _).mono ?_; rintro e w' ⟨rfl, rfl⟩))
  all_goals go_ret2
  all_goals exact ⟨rfl, rfl⟩
set_option maxHeartbeats 2000000 in
set_option maxRecDepth 100000 in
theorem rcas_ok (t a d : Int) (V : Int) (hL : Lst (casP t a d) 0 1000 V) (h0 : 0 ≤ t) (h1 : t ≤ 4000) (h : Ok2 a d) (w : World) : Calls Tryd.prog 18 #[.int .i64 t, .int .i64 a, .int .i64 d] w fun e w' => e = .returned (.tuple #[.int .i64 (V), .int .i64 (0)]) ∧ Kept w w' := by
  have HL := Lib.hid hL
  have l0 := hL.l
  have l1 := hL.h
  clear hL
  have HR := Lib.hid (fun w => ref_ratio_ok a d h.1 h.2.1 h.2.2.1 h.2.2.2 w)
  have HT := Lib.hid (fun c (c0 : 0 ≤ c) (c1 : c ≤ 1000) w => ref_tas_ok c a d c0 c1 h w)
  have HH := Lib.hid h
  clear h
  generalize ratD a d = S at *
  go_enter Tryd.func18, Tryd.ntmps18
  go_wp2_with (go_at_call 32; with_reducible refine (HR.out _).mono ?_; rintro e w1 ⟨rfl, hk1⟩)
  go_loopw [10, 11, 12] (fun x y z wr => ∃ k : Int, 0 ≤ k ∧ k ≤ V ∧ x = .int .i64 k ∧ Kept w wr) (fun x y z _ => (1002 - intOf x).toNat)
  case atStart => exact ⟨0, by omega, by omega, rfl, hk1⟩
  case round =>
    obtain ⟨k, k0, k1, rfl, hk⟩ := hrel
    have HK := Lib.hid hk
    clear hk hk1
    by_cases hlt : k < V
    · have hp : ¬ t ≤ tV k a d := by have := HL.out.no k (by omega) hlt; unfold casP at this; simpa using this
      obtain ⟨T, hT⟩ : ∃ T, tV k a d = T := ⟨_, rfl⟩
      have HTk := Lib.hid (HT.out k (by omega) (by omega))
      rw [hT] at HTk hp
      clear hT HT
      go_wp2_with (go_at_call 12; with_reducible refine (HTk.out _).mono ?_; rintro e w2 ⟨rfl, hk2⟩)
      exact ⟨⟨k + 1, by omega, by omega, by first | rfl | go_num, Kept.trans HK.out hk2⟩, by simp [intOf]; omega⟩
    obtain rfl : k = V := by omega
    have hp : t ≤ tV k a d := by have := HL.out.yes k (by omega) (by omega); unfold casP at this; simpa using this
    obtain ⟨T, hT⟩ : ∃ T, tV k a d = T := ⟨_, rfl⟩
    have HTk := Lib.hid (HT.out k (by omega) (by omega))
    rw [hT] at HTk hp
    clear hT HT
    go_wp2_with (go_at_call 12; with_reducible refine (HTk.out _).mono ?_; rintro e w2 ⟨rfl, hk2⟩)
    go_ret2
    exact ⟨rfl, Kept.trans HK.out hk2⟩
set_option maxHeartbeats 2000000 in
set_option maxRecDepth 100000 in
theorem rcas_rng (t a d : Int) (hno : casP t a d 1000 = false) (h0 : 0 ≤ t) (h1 : t ≤ 4000) (h : Ok2 a d) (w : World) : Calls Tryd.prog 18 #[.int .i64 t, .int .i64 a, .int .i64 d] w fun e w' => e = .returned (.tuple #[.int .i64 (0), .int .i64 (2)]) ∧ Kept w w' := by
  have hall : ∀ x, 0 ≤ x → x ≤ 1000 → ¬ t ≤ tV x a d := by
    intro x x0 x1 hx
    have := cas_mono (t := t) h x 1000 x0 x1 (by omega) (by unfold casP; simpa using hx)
    rw [hno] at this; cases this
  have HL := Lib.hid hall
  clear hall hno
  have HR := Lib.hid (fun w => ref_ratio_ok a d h.1 h.2.1 h.2.2.1 h.2.2.2 w)
  have HT := Lib.hid (fun c (c0 : 0 ≤ c) (c1 : c ≤ 1000) w => ref_tas_ok c a d c0 c1 h w)
  have HH := Lib.hid h
  clear h
  generalize ratD a d = S at *
  go_enter Tryd.func18, Tryd.ntmps18
  go_wp2_with (go_at_call 32; with_reducible refine (HR.out _).mono ?_; rintro e w1 ⟨rfl, hk1⟩)
  go_loopw [10, 11, 12] (fun x y z wr => ∃ k : Int, 0 ≤ k ∧ k ≤ 1001 ∧ x = .int .i64 k ∧ Kept w wr) (fun x y z _ => (1002 - intOf x).toNat)
  case atStart => exact ⟨0, by omega, by omega, rfl, hk1⟩
  case round =>
    obtain ⟨k, k0, k1, rfl, hk⟩ := hrel
    have HK := Lib.hid hk
    clear hk hk1
    by_cases hlt : k ≤ 1000
    · have hp : ¬ t ≤ tV k a d := by have := HL.out k k0 hlt; omega
      obtain ⟨T, hT⟩ : ∃ T, tV k a d = T := ⟨_, rfl⟩
      have HTk := Lib.hid (HT.out k (by omega) (by omega))
      rw [hT] at HTk hp
      clear hT HT
      go_wp2_with (go_at_call 12; with_reducible refine (HTk.out _).mono ?_; rintro e w2 ⟨rfl, hk2⟩)
      exact ⟨⟨k + 1, by omega, by omega, by first | rfl | go_num, Kept.trans HK.out hk2⟩, by simp [intOf]; omega⟩
    go_wp2_with fail
    go_ret2
    exact ⟨rfl, HK.out⟩
set_option maxHeartbeats 1000000 in
set_option maxRecDepth 100000 in
theorem machat_w (c a d : Int) (c0 : 0 ≤ c) (c1 : c ≤ 1000) (h : Ok2 a d) (w : World) : Calls Tryd.prog 41 #[.int .i64 c, .int .i64 a, .int .i64 d] w fun e w' => e = .returned (.int .i64 (mV (tV c a d) a d)) ∧ Kept w w' := by
  obtain ⟨t0, t1⟩ := tV_bd c0 c1 h
  have HT := Lib.hid (ref_tas_ok c a d c0 c1 h)
  have HM := Lib.hid (ref_mach_ok (tV c a d) a d t0 (by omega) h)
  clear h c0 c1 t0 t1
  generalize mV (tV c a d) a d = M at *
  generalize tV c a d = T at *
  go_enter Tryd.func41, Tryd.ntmps41
  go_wp2_with (first | (go_at_call 12; with_reducible refine (HT.out _).mono ?_; rintro e w' ⟨rfl, hk⟩) | (go_at_call 14; with_reducible refine (HM.out _).mono ?_; rintro e w' ⟨rfl, hk⟩))
  all_goals go_ret
  all_goals exact ⟨rfl, (by repeat (first | with_reducible exact Kept.refl _ | with_reducible assumption | with_reducible refine Kept.setCell ?_ (by first | (simp; done) | (simp; omega) | omega) _ | with_reducible refine Kept.alloc ?_ _ | with_reducible refine Kept.drewN ?_ _ | with_reducible refine Kept.drew ?_ | with_reducible refine Kept.trans ?_ (by with_reducible assumption) | with_reducible refine Kept.dr ?_ (by with_reducible assumption)))⟩
set_option maxHeartbeats 1000000 in
set_option maxRecDepth 100000 in
theorem rcro_arg (c m d : Int) (h : (c < 0 ∨ 1000 < c) ∨ (m < 0 ∨ 2000 < m) ∨ (d < -4000 ∨ 4000 < d)) (w : World) : Calls Tryd.prog 22 #[.int .i64 c, .int .i64 m, .int .i64 d] w fun e w' => e = .returned (.tuple #[.int .i64 (0), .int .i64 (1)]) ∧ w = w' := by
  by_cases hc : c < 0 ∨ 1000 < c
  · have HV := Lib.hid (rcal_no c hc)
    clear h hc
    go_enter Tryd.func22, Tryd.ntmps22
    go_wp2_with (first | (go_at_call 31; with_reducible refine (HV.out _).mono ?_; rintro e w' ⟨rfl, rfl⟩))
    all_goals go_ret2
    all_goals exact ⟨rfl, rfl⟩
  have HV := Lib.hid (rcal_yes c (by omega) (by omega))
  have h' : m < 0 ∨ 2000 < m ∨ (0 ≤ m ∧ m ≤ 2000 ∧ d < -4000) ∨ (0 ≤ m ∧ m ≤ 2000 ∧ 4000 < d) := by omega
  clear h hc
  rcases h' with h | h | ⟨g0, g1, h⟩ | ⟨g0, g1, h⟩
  all_goals
    go_enter Tryd.func22, Tryd.ntmps22
    go_wp2_with (first | (go_at_call 31; with_reducible refine (HV.out _).mono ?_; rintro e w' ⟨rfl, rfl⟩))
    all_goals go_ret2
    all_goals exact ⟨rfl, rfl⟩
set_option maxHeartbeats 1000000 in
set_option maxRecDepth 100000 in
theorem rcro_rng (c m d : Int) (hno : croP c m d 6000000 = false) (c0 : 0 ≤ c) (c1 : c ≤ 1000) (m0 : 0 ≤ m) (m1 : m ≤ 2000) (d0 : -4000 ≤ d) (d1 : d ≤ 4000) (w : World) : Calls Tryd.prog 22 #[.int .i64 c, .int .i64 m, .int .i64 d] w fun e w' => e = .returned (.tuple #[.int .i64 (0), .int .i64 (2)]) ∧ Kept w w' := by
  have HV := Lib.hid (rcal_yes c c0 c1)
  have HM := Lib.hid (fun a (a0 : -200000 ≤ a) (a1 : a ≤ 6000000) w => machat_w c a d c0 c1 ⟨a0, a1, d0, d1⟩ w)
  have hp : ¬ m ≤ mV (tV c 6000000 d) 6000000 d := by have := hno; unfold croP at this; simpa using this
  have HMk := Lib.hid (HM.out 6000000 (by omega) (by omega))
  obtain ⟨M, hM⟩ : ∃ M, mV (tV c 6000000 d) 6000000 d = M := ⟨_, rfl⟩
  rw [hM] at HMk hp
  clear hM
  clear hno HM
  go_enter Tryd.func22, Tryd.ntmps22
  go_wp2_with (first | (go_at_call 31; with_reducible refine (HV.out _).mono ?_; rintro e w' ⟨rfl, rfl⟩) | (go_at_call 41; with_reducible refine (HMk.out _).mono ?_; rintro e w1 ⟨rfl, hkw1⟩))
  all_goals go_ret2
  all_goals exact ⟨rfl, hkw1⟩
set_option maxHeartbeats 2000000 in
set_option maxRecDepth 100000 in
theorem rcro_ok (c m d : Int) (V : Int) (hL : Lst (croP c m d) (-200000) 6000000 V) (c0 : 0 ≤ c) (c1 : c ≤ 1000) (m0 : 0 ≤ m) (m1 : m ≤ 2000) (d0 : -4000 ≤ d) (d1 : d ≤ 4000) (w : World) : Calls Tryd.prog 22 #[.int .i64 c, .int .i64 m, .int .i64 d] w fun e w' => e = .returned (.tuple #[.int .i64 (V), .int .i64 (0)]) ∧ Kept w w' := by
  have HV := Lib.hid (rcal_yes c c0 c1)
  have HM := Lib.hid (fun a (a0 : -200000 ≤ a) (a1 : a ≤ 6000000) w => machat_w c a d c0 c1 ⟨a0, a1, d0, d1⟩ w)
  have HL := Lib.hid hL
  have l0 := hL.l
  have l1 := hL.h
  have hy := hL.yes 6000000 hL.h (Int.le_refl _)
  clear hL
  have hp : m ≤ mV (tV c 6000000 d) 6000000 d := by have := hy; unfold croP at this; simpa using this
  have HMz := Lib.hid (HM.out 6000000 (by omega) (by omega))
  obtain ⟨M, hM⟩ : ∃ M, mV (tV c 6000000 d) 6000000 d = M := ⟨_, rfl⟩
  rw [hM] at HMz hp
  clear hM
  clear hy
  go_enter Tryd.func22, Tryd.ntmps22
  go_wp2_with (first | (go_at_call 31; with_reducible refine (HV.out _).mono ?_; rintro e w' ⟨rfl, rfl⟩) | (go_at_call 41; with_reducible refine (HMz.out _).mono ?_; rintro e w1 ⟨rfl, hkw1⟩))
  clear HMz hp
  go_loopw [8, 9, 10] (fun x y z wr => ∃ lo hi : Int, -200000 ≤ lo ∧ lo ≤ V ∧ V ≤ hi ∧ hi ≤ 6000000 ∧ x = .int .i64 lo ∧ y = .int .i64 hi ∧ Kept w wr) (fun x y z _ => (intOf y - intOf x).toNat)
  case atStart => exact ⟨-200000, 6000000, by omega, by omega, by omega, by omega, rfl, rfl, hkw1⟩
  case round =>
    obtain ⟨lo, hi, g0, g1, g2, g3, rfl, rfl, hk⟩ := hrel
    have HK := Lib.hid hk
    clear hk hkw1
    by_cases hlt : lo < hi
    · by_cases cv : V ≤ lo + (hi - lo) / 2
      · have hp : m ≤ mV (tV c (lo + (hi - lo) / 2) d) (lo + (hi - lo) / 2) d := by have := HL.out.yes (lo + (hi - lo) / 2) cv (by omega); unfold croP at this; simpa using this
        have HMk := Lib.hid (HM.out (lo + (hi - lo) / 2) (by omega) (by omega))
        obtain ⟨M, hM⟩ : ∃ M, mV (tV c (lo + (hi - lo) / 2) d) (lo + (hi - lo) / 2) d = M := ⟨_, rfl⟩
        rw [hM] at HMk hp
        clear hM
        clear HM HL
        go_wp2_with (go_at_call 41; with_reducible refine (HMk.out _).mono ?_; rintro e w2 ⟨rfl, hkw2⟩)
        exact ⟨⟨lo, lo + (hi - lo) / 2, by omega, by omega, by omega, by omega, rfl, rfl, Kept.trans HK.out hkw2⟩, by simp [intOf]; omega⟩
      · have hp : ¬ m ≤ mV (tV c (lo + (hi - lo) / 2) d) (lo + (hi - lo) / 2) d := by have := HL.out.no (lo + (hi - lo) / 2) (by omega) (by omega); unfold croP at this; simpa using this
        have HMk := Lib.hid (HM.out (lo + (hi - lo) / 2) (by omega) (by omega))
        obtain ⟨M, hM⟩ : ∃ M, mV (tV c (lo + (hi - lo) / 2) d) (lo + (hi - lo) / 2) d = M := ⟨_, rfl⟩
        rw [hM] at HMk hp
        clear hM
        clear HM HL
        go_wp2_with (go_at_call 41; with_reducible refine (HMk.out _).mono ?_; rintro e w2 ⟨rfl, hkw2⟩)
        exact ⟨⟨lo + (hi - lo) / 2 + 1, hi, by omega, by omega, by omega, by omega, rfl, rfl, Kept.trans HK.out hkw2⟩, by simp [intOf]; omega⟩
    · obtain rfl : lo = V := by omega
      go_wp2_with fail
      go_ret2
      exact ⟨rfl, HK.out⟩
end Go.Proofs.YtfkgghjinkmpiaaDoor
