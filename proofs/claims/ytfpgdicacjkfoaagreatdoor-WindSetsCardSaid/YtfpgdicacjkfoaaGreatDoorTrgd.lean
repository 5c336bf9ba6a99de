/-
  Own contracts: package trig and the document's answers: the searches of the inverse functions.
-/
import Derived.Test.YtfpgdicacjkfoaaGreatDoorTrgc
import Derived.Test.YtfpgdicacjkfoaaGreatDoorFixed
import Derived.Test.YtfpgdicacjkfoaaGreatDoorRefs
import Derived.WalkKit
import Derived.ProofKit
import Derived.OpenShut
import Derived.WalkLawsBesides
import Derived.WalkSpells
import Derived.Lib.Hide
import Derived.Deep.DeepCutAuto
import Derived.Deep.CutBlock
import Derived.Deep.QuietTactic
import Derived.BigQuiet
import Derived.Handy
import Derived.StillTailTactics
import Derived.IntWalk
import Derived.LoopN
import Derived.Deep.RegionHeld3
namespace Go.Proofs.YtfpgdicacjkfoaaGreatDoor
open Go.ChangeShapes Go.WideShapes Go.ChangeAt Go.RowKit
set_option linter.unusedVariables false
set_option linter.unusedSimpArgs false
theorem retb' {b c : Bool} (h : b = c) : Ending.returned (.bool b) = .returned (.bool c) := by rw [h]
theorem iabs_bd (x : Int) (h0 : -2147483647 ≤ x) (h1 : x ≤ 2147483647) : 0 ≤ iabs x ∧ iabs x ≤ 2147483647 := by unfold iabs; split <;> omega
theorem sat_iabs (x : Int) (h0 : -2147483647 ≤ x) (h1 : x ≤ 2147483647) : sat (x.natAbs : Int) = iabs x := by unfold sat iabs; (repeat' split) <;> omega
theorem smB_yes (x : Int) (h0 : -2147483647 ≤ x) (h1 : x ≤ 2147483647) : smB x = true := by unfold smB; simp; omega
theorem smB_no (x : Int) (h : x < -2147483647 ∨ 2147483647 < x) : smB x = false := by unfold smB; simp; omega
theorem sm_cases (x : Int) : (smB x = true ∧ -2147483647 ≤ x ∧ x ≤ 2147483647) ∨ (smB x = false ∧ (x < -2147483647 ∨ 2147483647 < x)) := by
  by_cases h : -2147483647 ≤ x ∧ x ≤ 2147483647
  · exact Or.inl ⟨smB_yes x h.1 h.2, h.1, h.2⟩
  · exact Or.inr ⟨smB_no x (by omega), by omega⟩
set_option maxHeartbeats 2000000 in
set_option maxRecDepth 100000 in
theorem small_w (x : Int) (x0 : -9223372036854775808 ≤ x) (x1 : x ≤ 9223372036854775807) (w : World) : Calls Tryz.prog 59 #[.int .i64 x] w fun e w' => e = .returned (.bool (smB x)) ∧ w = w' := by
  rcases sm_cases x with ⟨e, h0, h1⟩ | ⟨e, h | h⟩
  all_goals
    rw [e]
    clear e
    go_enter Tryz.func59, Tryz.ntmps59
    go_wp2
    all_goals first | (go_ret; refine ⟨?_, rfl⟩; first | rfl | (refine retb' ?_; simp; omega) | (show Ending.returned (.bool (decide _)) = _; first | rw [decide_eq_true (by omega)] | rw [decide_eq_false (by omega)])) | (exfalso; omega)
set_option maxHeartbeats 2000000 in
set_option maxRecDepth 100000 in
theorem outside_w (x : Int) (x0 : -9223372036854775808 ≤ x) (x1 : x ≤ 9223372036854775807) (w : World) : Calls Tryz.prog 61 #[.int .i64 x] w fun e w' => e = .returned (.bool (!smB x)) ∧ w = w' := by
  rcases sm_cases x with ⟨e, h0, h1⟩ | ⟨e, h | h⟩
  all_goals
    rw [e]
    clear e
    go_enter Tryz.func61, Tryz.ntmps61
    go_wp2
    all_goals first | (go_ret; refine ⟨?_, rfl⟩; first | rfl | (refine retb' ?_; simp; omega) | (show Ending.returned (.bool (decide _)) = _; first | rw [decide_eq_true (by omega)] | rw [decide_eq_false (by omega)])) | (exfalso; omega)
set_option maxHeartbeats 2000000 in
set_option maxRecDepth 100000 in
theorem atan2_ok (y x : Int) (y0 : -2147483647 ≤ y) (y1 : y ≤ 2147483647) (x0 : -2147483647 ≤ x) (x1 : x ≤ 2147483647) (sy : Hid (smB y = true)) (sx : Hid (smB x = true)) (hz : ¬ (x = 0 ∧ y = 0)) (w : World) : Calls Tryz.prog 36 #[.int .i64 y, .int .i64 x] w fun e w' => e = .returned (.tuple #[.int .i64 (at2V y x), .int .i64 (at2E y x)]) ∧ Kept w w' := by
  obtain ⟨u0, u1⟩ := iabs_bd y y0 y1
  obtain ⟨r0, r1⟩ := iabs_bd x x0 x1
  have SY := sat_iabs y y0 y1
  have SX := sat_iabs x x0 x1
  have HE : Hid (at2E y x = 0) := Lib.hid (by unfold at2E; rw [sy.out, sx.out]; simp [hz])
  have HVV : at2V y x = if x < 0 ∧ y < 0 then 64800000 + at2Q y x else if x < 0 then 64800000 - at2Q y x else if y < 0 then nrm (-at2Q y x) else at2Q y x := by unfold at2V; rw [sy.out, sx.out]; simp [hz]
  have HQQ : at2Q y x = if iabs x < iabs y then 32400000 - les (iabs y) (iabs x) else les (iabs x) (iabs y) := rfl
  rw [HE.out]
  obtain ⟨v, hv⟩ : ∃ v, iabs y = v := ⟨_, rfl⟩
  obtain ⟨h, hh⟩ : ∃ h, iabs x = h := ⟨_, rfl⟩
  rw [hv] at u0 u1 SY HQQ
  rw [hh] at r0 r1 SX HQQ
  have HY := Lib.hid SY; have HX := Lib.hid SX
  have hvy : v = if y < 0 then -y else y := hv.symm
  have hhx : h = if x < 0 then -x else x := hh.symm
  clear SY SX hv hh
  by_cases co : h < v
  · obtain ⟨L, hL⟩ : ∃ L, les v h = L := ⟨_, rfl⟩
    obtain ⟨l0, l1⟩ := les_bd v h
    rw [hL] at l0 l1 HQQ
    rw [if_pos co] at HQQ
    have HQ := Lib.hid HQQ
    have HL := Lib.hid hL
    clear HQQ hL
    rw [HQ.out] at HVV
    by_cases cx : x < 0
    · by_cases cy : y < 0
      · have HR : Hid (at2V y x = 64800000 + (32400000 - L)) := Lib.hid (by rw [HVV, if_pos ⟨cx, cy⟩])
        clear HVV
        rw [HR.out]
        rw [if_pos cy] at hvy
        rw [if_pos cx] at hhx
        have hvy' := Lib.hid hvy; have hhx' := Lib.hid hhx; clear hvy hhx
        obtain ⟨bx, hbx⟩ : ∃ b, (x == 0) = b := ⟨_, rfl⟩
        cases bx
        all_goals first | (have hby : (y == 0) = false := by (simp at hbx ⊢; omega)) | skip
        all_goals (clear hz)
        all_goals first | (exfalso; simp at hbx; omega) | skip
        all_goals
          go_enter Tryz.func36, Tryz.ntmps36
          go_wp2_with fail
          refine (small_w y (by omega) (by omega) _).mono ?_
          rw [sy.out]
          rintro e w' ⟨rfl, rfl⟩
          go_wp2_with fail
          refine (small_w x (by omega) (by omega) _).mono ?_
          rw [sx.out]
          rintro e w' ⟨rfl, rfl⟩
          go_wp2_with fail
          refine (abs_w y (by omega) (by omega) _).mono ?_
          rw [HY.out]
          rintro e w' ⟨rfl, rfl⟩
          go_wp2_with fail
          refine (abs_w x (by omega) (by omega) _).mono ?_
          rw [HX.out]
          rintro e w' ⟨rfl, rfl⟩
          go_wp2_with fail
          refine (lesser_w v h (by omega) (by omega) (by omega) (by omega) _).mono ?_
          rw [HL.out]
          rintro e w1 ⟨rfl, hk⟩
          go_wp2_with (go_at_call 52; refine (norm_w _ (by omega) (by omega) _).mono ?_; rintro e w' ⟨rfl, rfl⟩)
          all_goals go_ret2
          all_goals exact ⟨rfl, (by repeat (first | with_reducible exact Kept.refl _ | with_reducible assumption | with_reducible refine Kept.setCell ?_ (by first | (simp; done) | (simp; omega) | omega) _ | with_reducible refine Kept.alloc ?_ _ | with_reducible refine Kept.drewN ?_ _ | with_reducible refine Kept.drew ?_ | with_reducible refine Kept.trans ?_ (by with_reducible assumption) | with_reducible refine Kept.dr ?_ (by with_reducible assumption)))⟩
      · have HR : Hid (at2V y x = 64800000 - (32400000 - L)) := Lib.hid (by rw [HVV, if_neg (by omega), if_pos cx])
        clear HVV
        rw [HR.out]
        rw [if_neg cy] at hvy
        rw [if_pos cx] at hhx
        have hvy' := Lib.hid hvy; have hhx' := Lib.hid hhx; clear hvy hhx
        obtain ⟨bx, hbx⟩ : ∃ b, (x == 0) = b := ⟨_, rfl⟩
        cases bx
        all_goals first | (have hby : (y == 0) = false := by (simp at hbx ⊢; omega)) | skip
        all_goals (clear hz)
        all_goals first | (exfalso; simp at hbx; omega) | skip
        all_goals
          go_enter Tryz.func36, Tryz.ntmps36
          go_wp2_with fail
          refine (small_w y (by omega) (by omega) _).mono ?_
          rw [sy.out]
          rintro e w' ⟨rfl, rfl⟩
          go_wp2_with fail
          refine (small_w x (by omega) (by omega) _).mono ?_
          rw [sx.out]
          rintro e w' ⟨rfl, rfl⟩
          go_wp2_with fail
          refine (abs_w y (by omega) (by omega) _).mono ?_
          rw [HY.out]
          rintro e w' ⟨rfl, rfl⟩
          go_wp2_with fail
          refine (abs_w x (by omega) (by omega) _).mono ?_
          rw [HX.out]
          rintro e w' ⟨rfl, rfl⟩
          go_wp2_with fail
          refine (lesser_w v h (by omega) (by omega) (by omega) (by omega) _).mono ?_
          rw [HL.out]
          rintro e w1 ⟨rfl, hk⟩
          go_wp2_with (go_at_call 52; refine (norm_w _ (by omega) (by omega) _).mono ?_; rintro e w' ⟨rfl, rfl⟩)
          all_goals go_ret2
          all_goals exact ⟨rfl, (by repeat (first | with_reducible exact Kept.refl _ | with_reducible assumption | with_reducible refine Kept.setCell ?_ (by first | (simp; done) | (simp; omega) | omega) _ | with_reducible refine Kept.alloc ?_ _ | with_reducible refine Kept.drewN ?_ _ | with_reducible refine Kept.drew ?_ | with_reducible refine Kept.trans ?_ (by with_reducible assumption) | with_reducible refine Kept.dr ?_ (by with_reducible assumption)))⟩
    · by_cases cy : y < 0
      · have HR : Hid (at2V y x = nrm (-(32400000 - L))) := Lib.hid (by rw [HVV, if_neg (by omega), if_neg cx, if_pos cy])
        clear HVV
        rw [HR.out]
        rw [if_pos cy] at hvy
        rw [if_neg cx] at hhx
        have hvy' := Lib.hid hvy; have hhx' := Lib.hid hhx; clear hvy hhx
        obtain ⟨bx, hbx⟩ : ∃ b, (x == 0) = b := ⟨_, rfl⟩
        cases bx
        all_goals first | (have hby : (y == 0) = false := by (simp at hbx ⊢; omega)) | skip
        all_goals (clear hz)
        all_goals first | (exfalso; simp at hbx; omega) | skip
        all_goals
          go_enter Tryz.func36, Tryz.ntmps36
          go_wp2_with fail
          refine (small_w y (by omega) (by omega) _).mono ?_
          rw [sy.out]
          rintro e w' ⟨rfl, rfl⟩
          go_wp2_with fail
          refine (small_w x (by omega) (by omega) _).mono ?_
          rw [sx.out]
          rintro e w' ⟨rfl, rfl⟩
          go_wp2_with fail
          refine (abs_w y (by omega) (by omega) _).mono ?_
          rw [HY.out]
          rintro e w' ⟨rfl, rfl⟩
          go_wp2_with fail
          refine (abs_w x (by omega) (by omega) _).mono ?_
          rw [HX.out]
          rintro e w' ⟨rfl, rfl⟩
          go_wp2_with fail
          refine (lesser_w v h (by omega) (by omega) (by omega) (by omega) _).mono ?_
          rw [HL.out]
          rintro e w1 ⟨rfl, hk⟩
          go_wp2_with (go_at_call 52; refine (norm_w _ (by omega) (by omega) _).mono ?_; rintro e w' ⟨rfl, rfl⟩)
          all_goals go_ret2
          all_goals exact ⟨rfl, (by repeat (first | with_reducible exact Kept.refl _ | with_reducible assumption | with_reducible refine Kept.setCell ?_ (by first | (simp; done) | (simp; omega) | omega) _ | with_reducible refine Kept.alloc ?_ _ | with_reducible refine Kept.drewN ?_ _ | with_reducible refine Kept.drew ?_ | with_reducible refine Kept.trans ?_ (by with_reducible assumption) | with_reducible refine Kept.dr ?_ (by with_reducible assumption)))⟩
      · have HR : Hid (at2V y x = (32400000 - L)) := Lib.hid (by rw [HVV, if_neg (by omega), if_neg cx, if_neg cy])
        clear HVV
        rw [HR.out]
        rw [if_neg cy] at hvy
        rw [if_neg cx] at hhx
        have hvy' := Lib.hid hvy; have hhx' := Lib.hid hhx; clear hvy hhx
        obtain ⟨bx, hbx⟩ : ∃ b, (x == 0) = b := ⟨_, rfl⟩
        cases bx
        all_goals first | (have hby : (y == 0) = false := by (simp at hbx ⊢; omega)) | skip
        all_goals (clear hz)
        all_goals first | (exfalso; simp at hbx; omega) | skip
        all_goals
          go_enter Tryz.func36, Tryz.ntmps36
          go_wp2_with fail
          refine (small_w y (by omega) (by omega) _).mono ?_
          rw [sy.out]
          rintro e w' ⟨rfl, rfl⟩
          go_wp2_with fail
          refine (small_w x (by omega) (by omega) _).mono ?_
          rw [sx.out]
          rintro e w' ⟨rfl, rfl⟩
          go_wp2_with fail
          refine (abs_w y (by omega) (by omega) _).mono ?_
          rw [HY.out]
          rintro e w' ⟨rfl, rfl⟩
          go_wp2_with fail
          refine (abs_w x (by omega) (by omega) _).mono ?_
          rw [HX.out]
          rintro e w' ⟨rfl, rfl⟩
          go_wp2_with fail
          refine (lesser_w v h (by omega) (by omega) (by omega) (by omega) _).mono ?_
          rw [HL.out]
          rintro e w1 ⟨rfl, hk⟩
          go_wp2_with (go_at_call 52; refine (norm_w _ (by omega) (by omega) _).mono ?_; rintro e w' ⟨rfl, rfl⟩)
          all_goals go_ret2
          all_goals exact ⟨rfl, (by repeat (first | with_reducible exact Kept.refl _ | with_reducible assumption | with_reducible refine Kept.setCell ?_ (by first | (simp; done) | (simp; omega) | omega) _ | with_reducible refine Kept.alloc ?_ _ | with_reducible refine Kept.drewN ?_ _ | with_reducible refine Kept.drew ?_ | with_reducible refine Kept.trans ?_ (by with_reducible assumption) | with_reducible refine Kept.dr ?_ (by with_reducible assumption)))⟩
  by_cases c2 : v < h
  · obtain ⟨L, hL⟩ : ∃ L, les h v = L := ⟨_, rfl⟩
    obtain ⟨l0, l1⟩ := les_bd h v
    rw [hL] at l0 l1 HQQ
    rw [if_neg co] at HQQ
    have HQ := Lib.hid HQQ
    have HL := Lib.hid hL
    clear HQQ hL
    rw [HQ.out] at HVV
    by_cases cx : x < 0
    · by_cases cy : y < 0
      · have HR : Hid (at2V y x = 64800000 + L) := Lib.hid (by rw [HVV, if_pos ⟨cx, cy⟩])
        clear HVV
        rw [HR.out]
        rw [if_pos cy] at hvy
        rw [if_pos cx] at hhx
        have hvy' := Lib.hid hvy; have hhx' := Lib.hid hhx; clear hvy hhx
        obtain ⟨bx, hbx⟩ : ∃ b, (x == 0) = b := ⟨_, rfl⟩
        cases bx
        all_goals first | (have hby : (y == 0) = false := by (simp at hbx ⊢; omega)) | skip
        all_goals (clear hz)
        all_goals first | (exfalso; simp at hbx; omega) | skip
        all_goals
          go_enter Tryz.func36, Tryz.ntmps36
          go_wp2_with fail
          refine (small_w y (by omega) (by omega) _).mono ?_
          rw [sy.out]
          rintro e w' ⟨rfl, rfl⟩
          go_wp2_with fail
          refine (small_w x (by omega) (by omega) _).mono ?_
          rw [sx.out]
          rintro e w' ⟨rfl, rfl⟩
          go_wp2_with fail
          refine (abs_w y (by omega) (by omega) _).mono ?_
          rw [HY.out]
          rintro e w' ⟨rfl, rfl⟩
          go_wp2_with fail
          refine (abs_w x (by omega) (by omega) _).mono ?_
          rw [HX.out]
          rintro e w' ⟨rfl, rfl⟩
          go_wp2_with fail
          refine (lesser_w h v (by omega) (by omega) (by omega) (by omega) _).mono ?_
          rw [HL.out]
          rintro e w1 ⟨rfl, hk⟩
          go_wp2_with (go_at_call 52; refine (norm_w _ (by omega) (by omega) _).mono ?_; rintro e w' ⟨rfl, rfl⟩)
          all_goals go_ret2
          all_goals exact ⟨rfl, (by repeat (first | with_reducible exact Kept.refl _ | with_reducible assumption | with_reducible refine Kept.setCell ?_ (by first | (simp; done) | (simp; omega) | omega) _ | with_reducible refine Kept.alloc ?_ _ | with_reducible refine Kept.drewN ?_ _ | with_reducible refine Kept.drew ?_ | with_reducible refine Kept.trans ?_ (by with_reducible assumption) | with_reducible refine Kept.dr ?_ (by with_reducible assumption)))⟩
      · have HR : Hid (at2V y x = 64800000 - L) := Lib.hid (by rw [HVV, if_neg (by omega), if_pos cx])
        clear HVV
        rw [HR.out]
        rw [if_neg cy] at hvy
        rw [if_pos cx] at hhx
        have hvy' := Lib.hid hvy; have hhx' := Lib.hid hhx; clear hvy hhx
        obtain ⟨bx, hbx⟩ : ∃ b, (x == 0) = b := ⟨_, rfl⟩
        cases bx
        all_goals first | (have hby : (y == 0) = false := by (simp at hbx ⊢; omega)) | skip
        all_goals (clear hz)
        all_goals first | (exfalso; simp at hbx; omega) | skip
        all_goals
          go_enter Tryz.func36, Tryz.ntmps36
          go_wp2_with fail
          refine (small_w y (by omega) (by omega) _).mono ?_
          rw [sy.out]
          rintro e w' ⟨rfl, rfl⟩
          go_wp2_with fail
          refine (small_w x (by omega) (by omega) _).mono ?_
          rw [sx.out]
          rintro e w' ⟨rfl, rfl⟩
          go_wp2_with fail
          refine (abs_w y (by omega) (by omega) _).mono ?_
          rw [HY.out]
          rintro e w' ⟨rfl, rfl⟩
          go_wp2_with fail
          refine (abs_w x (by omega) (by omega) _).mono ?_
          rw [HX.out]
          rintro e w' ⟨rfl, rfl⟩
          go_wp2_with fail
          refine (lesser_w h v (by omega) (by omega) (by omega) (by omega) _).mono ?_
          rw [HL.out]
          rintro e w1 ⟨rfl, hk⟩
          go_wp2_with (go_at_call 52; refine (norm_w _ (by omega) (by omega) _).mono ?_; rintro e w' ⟨rfl, rfl⟩)
          all_goals go_ret2
          all_goals exact ⟨rfl, (by repeat (first | with_reducible exact Kept.refl _ | with_reducible assumption | with_reducible refine Kept.setCell ?_ (by first | (simp; done) | (simp; omega) | omega) _ | with_reducible refine Kept.alloc ?_ _ | with_reducible refine Kept.drewN ?_ _ | with_reducible refine Kept.drew ?_ | with_reducible refine Kept.trans ?_ (by with_reducible assumption) | with_reducible refine Kept.dr ?_ (by with_reducible assumption)))⟩
    · by_cases cy : y < 0
      · have HR : Hid (at2V y x = nrm (-L)) := Lib.hid (by rw [HVV, if_neg (by omega), if_neg cx, if_pos cy])
        clear HVV
        rw [HR.out]
        rw [if_pos cy] at hvy
        rw [if_neg cx] at hhx
        have hvy' := Lib.hid hvy; have hhx' := Lib.hid hhx; clear hvy hhx
        obtain ⟨bx, hbx⟩ : ∃ b, (x == 0) = b := ⟨_, rfl⟩
        cases bx
        all_goals first | (have hby : (y == 0) = false := by (simp at hbx ⊢; omega)) | skip
        all_goals (clear hz)
        all_goals first | (exfalso; simp at hbx; omega) | skip
        all_goals
          go_enter Tryz.func36, Tryz.ntmps36
          go_wp2_with fail
          refine (small_w y (by omega) (by omega) _).mono ?_
          rw [sy.out]
          rintro e w' ⟨rfl, rfl⟩
          go_wp2_with fail
          refine (small_w x (by omega) (by omega) _).mono ?_
          rw [sx.out]
          rintro e w' ⟨rfl, rfl⟩
          go_wp2_with fail
          refine (abs_w y (by omega) (by omega) _).mono ?_
          rw [HY.out]
          rintro e w' ⟨rfl, rfl⟩
          go_wp2_with fail
          refine (abs_w x (by omega) (by omega) _).mono ?_
          rw [HX.out]
          rintro e w' ⟨rfl, rfl⟩
          go_wp2_with fail
          refine (lesser_w h v (by omega) (by omega) (by omega) (by omega) _).mono ?_
          rw [HL.out]
          rintro e w1 ⟨rfl, hk⟩
          go_wp2_with (go_at_call 52; refine (norm_w _ (by omega) (by omega) _).mono ?_; rintro e w' ⟨rfl, rfl⟩)
          all_goals go_ret2
          all_goals exact ⟨rfl, (by repeat (first | with_reducible exact Kept.refl _ | with_reducible assumption | with_reducible refine Kept.setCell ?_ (by first | (simp; done) | (simp; omega) | omega) _ | with_reducible refine Kept.alloc ?_ _ | with_reducible refine Kept.drewN ?_ _ | with_reducible refine Kept.drew ?_ | with_reducible refine Kept.trans ?_ (by with_reducible assumption) | with_reducible refine Kept.dr ?_ (by with_reducible assumption)))⟩
      · have HR : Hid (at2V y x = L) := Lib.hid (by rw [HVV, if_neg (by omega), if_neg cx, if_neg cy])
        clear HVV
        rw [HR.out]
        rw [if_neg cy] at hvy
        rw [if_neg cx] at hhx
        have hvy' := Lib.hid hvy; have hhx' := Lib.hid hhx; clear hvy hhx
        obtain ⟨bx, hbx⟩ : ∃ b, (x == 0) = b := ⟨_, rfl⟩
        cases bx
        all_goals first | (have hby : (y == 0) = false := by (simp at hbx ⊢; omega)) | skip
        all_goals (clear hz)
        all_goals first | (exfalso; simp at hbx; omega) | skip
        all_goals
          go_enter Tryz.func36, Tryz.ntmps36
          go_wp2_with fail
          refine (small_w y (by omega) (by omega) _).mono ?_
          rw [sy.out]
          rintro e w' ⟨rfl, rfl⟩
          go_wp2_with fail
          refine (small_w x (by omega) (by omega) _).mono ?_
          rw [sx.out]
          rintro e w' ⟨rfl, rfl⟩
          go_wp2_with fail
          refine (abs_w y (by omega) (by omega) _).mono ?_
          rw [HY.out]
          rintro e w' ⟨rfl, rfl⟩
          go_wp2_with fail
          refine (abs_w x (by omega) (by omega) _).mono ?_
          rw [HX.out]
          rintro e w' ⟨rfl, rfl⟩
          go_wp2_with fail
          refine (lesser_w h v (by omega) (by omega) (by omega) (by omega) _).mono ?_
          rw [HL.out]
          rintro e w1 ⟨rfl, hk⟩
          go_wp2_with (go_at_call 52; refine (norm_w _ (by omega) (by omega) _).mono ?_; rintro e w' ⟨rfl, rfl⟩)
          all_goals go_ret2
          all_goals exact ⟨rfl, (by repeat (first | with_reducible exact Kept.refl _ | with_reducible assumption | with_reducible refine Kept.setCell ?_ (by first | (simp; done) | (simp; omega) | omega) _ | with_reducible refine Kept.alloc ?_ _ | with_reducible refine Kept.drewN ?_ _ | with_reducible refine Kept.drew ?_ | with_reducible refine Kept.trans ?_ (by with_reducible assumption) | with_reducible refine Kept.dr ?_ (by with_reducible assumption)))⟩
  · obtain rfl : h = v := by omega
    obtain ⟨L, hL⟩ : ∃ L, les h h = L := ⟨_, rfl⟩
    obtain ⟨l0, l1⟩ := les_bd h h
    rw [hL] at l0 l1 HQQ
    rw [if_neg co] at HQQ
    have HQ := Lib.hid HQQ
    have HL := Lib.hid hL
    clear HQQ hL co c2
    rw [HQ.out] at HVV
    by_cases cx : x < 0
    · by_cases cy : y < 0
      · have HR : Hid (at2V y x = 64800000 + L) := Lib.hid (by rw [HVV, if_pos ⟨cx, cy⟩])
        clear HVV
        rw [HR.out]
        rw [if_pos cy] at hvy
        rw [if_pos cx] at hhx
        have hvy' := Lib.hid hvy; have hhx' := Lib.hid hhx; clear hvy hhx
        obtain ⟨bx, hbx⟩ : ∃ b, (x == 0) = b := ⟨_, rfl⟩
        cases bx
        all_goals first | (have hby : (y == 0) = false := by (simp at hbx ⊢; omega)) | skip
        all_goals (clear hz)
        all_goals first | (exfalso; simp at hbx; omega) | skip
        all_goals
          go_enter Tryz.func36, Tryz.ntmps36
          go_wp2_with fail
          refine (small_w y (by omega) (by omega) _).mono ?_
          rw [sy.out]
          rintro e w' ⟨rfl, rfl⟩
          go_wp2_with fail
          refine (small_w x (by omega) (by omega) _).mono ?_
          rw [sx.out]
          rintro e w' ⟨rfl, rfl⟩
          go_wp2_with fail
          refine (abs_w y (by omega) (by omega) _).mono ?_
          rw [HY.out]
          rintro e w' ⟨rfl, rfl⟩
          go_wp2_with fail
          refine (abs_w x (by omega) (by omega) _).mono ?_
          rw [HX.out]
          rintro e w' ⟨rfl, rfl⟩
          go_wp2_with fail
          refine (lesser_w h h (by omega) (by omega) (by omega) (by omega) _).mono ?_
          rw [HL.out]
          rintro e w1 ⟨rfl, hk⟩
          go_wp2_with (go_at_call 52; refine (norm_w _ (by omega) (by omega) _).mono ?_; rintro e w' ⟨rfl, rfl⟩)
          all_goals go_ret2
          all_goals exact ⟨rfl, (by repeat (first | with_reducible exact Kept.refl _ | with_reducible assumption | with_reducible refine Kept.setCell ?_ (by first | (simp; done) | (simp; omega) | omega) _ | with_reducible refine Kept.alloc ?_ _ | with_reducible refine Kept.drewN ?_ _ | with_reducible refine Kept.drew ?_ | with_reducible refine Kept.trans ?_ (by with_reducible assumption) | with_reducible refine Kept.dr ?_ (by with_reducible assumption)))⟩
      · have HR : Hid (at2V y x = 64800000 - L) := Lib.hid (by rw [HVV, if_neg (by omega), if_pos cx])
        clear HVV
        rw [HR.out]
        rw [if_neg cy] at hvy
        rw [if_pos cx] at hhx
        have hvy' := Lib.hid hvy; have hhx' := Lib.hid hhx; clear hvy hhx
        obtain ⟨bx, hbx⟩ : ∃ b, (x == 0) = b := ⟨_, rfl⟩
        cases bx
        all_goals first | (have hby : (y == 0) = false := by (simp at hbx ⊢; omega)) | skip
        all_goals (clear hz)
        all_goals first | (exfalso; simp at hbx; omega) | skip
        all_goals
          go_enter Tryz.func36, Tryz.ntmps36
          go_wp2_with fail
          refine (small_w y (by omega) (by omega) _).mono ?_
          rw [sy.out]
          rintro e w' ⟨rfl, rfl⟩
          go_wp2_with fail
          refine (small_w x (by omega) (by omega) _).mono ?_
          rw [sx.out]
          rintro e w' ⟨rfl, rfl⟩
          go_wp2_with fail
          refine (abs_w y (by omega) (by omega) _).mono ?_
          rw [HY.out]
          rintro e w' ⟨rfl, rfl⟩
          go_wp2_with fail
          refine (abs_w x (by omega) (by omega) _).mono ?_
          rw [HX.out]
          rintro e w' ⟨rfl, rfl⟩
          go_wp2_with fail
          refine (lesser_w h h (by omega) (by omega) (by omega) (by omega) _).mono ?_
          rw [HL.out]
          rintro e w1 ⟨rfl, hk⟩
          go_wp2_with (go_at_call 52; refine (norm_w _ (by omega) (by omega) _).mono ?_; rintro e w' ⟨rfl, rfl⟩)
          all_goals go_ret2
          all_goals exact ⟨rfl, (by repeat (first | with_reducible exact Kept.refl _ | with_reducible assumption | with_reducible refine Kept.setCell ?_ (by first | (simp; done) | (simp; omega) | omega) _ | with_reducible refine Kept.alloc ?_ _ | with_reducible refine Kept.drewN ?_ _ | with_reducible refine Kept.drew ?_ | with_reducible refine Kept.trans ?_ (by with_reducible assumption) | with_reducible refine Kept.dr ?_ (by with_reducible assumption)))⟩
    · by_cases cy : y < 0
      · have HR : Hid (at2V y x = nrm (-L)) := Lib.hid (by rw [HVV, if_neg (by omega), if_neg cx, if_pos cy])
        clear HVV
        rw [HR.out]
        rw [if_pos cy] at hvy
        rw [if_neg cx] at hhx
        have hvy' := Lib.hid hvy; have hhx' := Lib.hid hhx; clear hvy hhx
        obtain ⟨bx, hbx⟩ : ∃ b, (x == 0) = b := ⟨_, rfl⟩
        cases bx
        all_goals first | (have hby : (y == 0) = false := by (simp at hbx ⊢; omega)) | skip
        all_goals (clear hz)
        all_goals first | (exfalso; simp at hbx; omega) | skip
        all_goals
          go_enter Tryz.func36, Tryz.ntmps36
          go_wp2_with fail
          refine (small_w y (by omega) (by omega) _).mono ?_
          rw [sy.out]
          rintro e w' ⟨rfl, rfl⟩
          go_wp2_with fail
          refine (small_w x (by omega) (by omega) _).mono ?_
          rw [sx.out]
          rintro e w' ⟨rfl, rfl⟩
          go_wp2_with fail
          refine (abs_w y (by omega) (by omega) _).mono ?_
          rw [HY.out]
          rintro e w' ⟨rfl, rfl⟩
          go_wp2_with fail
          refine (abs_w x (by omega) (by omega) _).mono ?_
          rw [HX.out]
          rintro e w' ⟨rfl, rfl⟩
          go_wp2_with fail
          refine (lesser_w h h (by omega) (by omega) (by omega) (by omega) _).mono ?_
          rw [HL.out]
          rintro e w1 ⟨rfl, hk⟩
          go_wp2_with (go_at_call 52; refine (norm_w _ (by omega) (by omega) _).mono ?_; rintro e w' ⟨rfl, rfl⟩)
          all_goals go_ret2
          all_goals exact ⟨rfl, (by repeat (first | with_reducible exact Kept.refl _ | with_reducible assumption | with_reducible refine Kept.setCell ?_ (by first | (simp; done) | (simp; omega) | omega) _ | with_reducible refine Kept.alloc ?_ _ | with_reducible refine Kept.drewN ?_ _ | with_reducible refine Kept.drew ?_ | with_reducible refine Kept.trans ?_ (by with_reducible assumption) | with_reducible refine Kept.dr ?_ (by with_reducible assumption)))⟩
      · have HR : Hid (at2V y x = L) := Lib.hid (by rw [HVV, if_neg (by omega), if_neg cx, if_neg cy])
        clear HVV
        rw [HR.out]
        rw [if_neg cy] at hvy
        rw [if_neg cx] at hhx
        have hvy' := Lib.hid hvy; have hhx' := Lib.hid hhx; clear hvy hhx
        obtain ⟨bx, hbx⟩ : ∃ b, (x == 0) = b := ⟨_, rfl⟩
        cases bx
        all_goals first | (have hby : (y == 0) = false := by (simp at hbx ⊢; omega)) | skip
        all_goals (clear hz)
        all_goals first | (exfalso; simp at hbx; omega) | skip
        all_goals
          go_enter Tryz.func36, Tryz.ntmps36
          go_wp2_with fail
          refine (small_w y (by omega) (by omega) _).mono ?_
          rw [sy.out]
          rintro e w' ⟨rfl, rfl⟩
          go_wp2_with fail
          refine (small_w x (by omega) (by omega) _).mono ?_
          rw [sx.out]
          rintro e w' ⟨rfl, rfl⟩
          go_wp2_with fail
          refine (abs_w y (by omega) (by omega) _).mono ?_
          rw [HY.out]
          rintro e w' ⟨rfl, rfl⟩
          go_wp2_with fail
          refine (abs_w x (by omega) (by omega) _).mono ?_
          rw [HX.out]
          rintro e w' ⟨rfl, rfl⟩
          go_wp2_with fail
          refine (lesser_w h h (by omega) (by omega) (by omega) (by omega) _).mono ?_
          rw [HL.out]
          rintro e w1 ⟨rfl, hk⟩
          go_wp2_with (go_at_call 52; refine (norm_w _ (by omega) (by omega) _).mono ?_; rintro e w' ⟨rfl, rfl⟩)
          all_goals go_ret2
          all_goals exact ⟨rfl, (by repeat (first | with_reducible exact Kept.refl _ | with_reducible assumption | with_reducible refine Kept.setCell ?_ (by first | (simp; done) | (simp; omega) | omega) _ | with_reducible refine Kept.alloc ?_ _ | with_reducible refine Kept.drewN ?_ _ | with_reducible refine Kept.drew ?_ | with_reducible refine Kept.trans ?_ (by with_reducible assumption) | with_reducible refine Kept.dr ?_ (by with_reducible assumption)))⟩
set_option maxHeartbeats 2000000 in
set_option maxRecDepth 100000 in
theorem atan2_w (y x : Int) (y0 : -9223372036854775808 ≤ y) (y1 : y ≤ 9223372036854775807) (x0 : -9223372036854775808 ≤ x) (x1 : x ≤ 9223372036854775807) (w : World) : Calls Tryz.prog 36 #[.int .i64 y, .int .i64 x] w fun e w' => e = .returned (.tuple #[.int .i64 (at2V y x), .int .i64 (at2E y x)]) ∧ Kept w w' := by
  rcases sm_cases y with ⟨ey, c0, c1⟩ | ⟨ey, hb⟩
  · rcases sm_cases x with ⟨ex, d0, d1⟩ | ⟨ex, hb⟩
    · by_cases hz : x = 0 ∧ y = 0
      · obtain ⟨rfl, rfl⟩ := hz
        have sy := Lib.hid ey; have sx := Lib.hid ex
        clear ey ex
        have hv : at2V 0 0 = 0 := by unfold at2V; rw [sy.out]; simp
        have he : at2E 0 0 = 1 := by unfold at2E; rw [sy.out]; simp
        rw [hv, he]
        clear hv he
        go_enter Tryz.func36, Tryz.ntmps36
        go_wp2_with fail
        refine (small_w 0 (by omega) (by omega) _).mono ?_
        rw [sy.out]
        rintro e w' ⟨rfl, rfl⟩
        go_wp2_with fail
        refine (small_w 0 (by omega) (by omega) _).mono ?_
        rw [sx.out]
        rintro e w' ⟨rfl, rfl⟩
        go_wp2_with fail
        go_ret2
        exact ⟨rfl, (by repeat (first | with_reducible exact Kept.refl _ | with_reducible assumption | with_reducible refine Kept.setCell ?_ (by first | (simp; done) | (simp; omega) | omega) _ | with_reducible refine Kept.alloc ?_ _ | with_reducible refine Kept.drewN ?_ _ | with_reducible refine Kept.drew ?_ | with_reducible refine Kept.trans ?_ (by with_reducible assumption) | with_reducible refine Kept.dr ?_ (by with_reducible assumption)))⟩

      · exact atan2_ok y x c0 c1 d0 d1 (Lib.hid ey) (Lib.hid ex) hz w
    · have hv : at2V y x = 0 := by unfold at2V; rw [ey, ex]; simp
      have he : at2E y x = 2 := by unfold at2E; rw [ey, ex]; simp
      rw [hv, he]
      have sy := Lib.hid ey; have sx := Lib.hid ex
      clear hv he ey ex hb
      go_enter Tryz.func36, Tryz.ntmps36
      go_wp2_with fail
      refine (small_w y (by omega) (by omega) _).mono ?_
      rw [sy.out]
      rintro e w' ⟨rfl, rfl⟩
      go_wp2_with fail
      refine (small_w x (by omega) (by omega) _).mono ?_
      rw [sx.out]
      rintro e w' ⟨rfl, rfl⟩
      go_wp2_with fail
      go_ret2
      exact ⟨rfl, (by repeat (first | with_reducible exact Kept.refl _ | with_reducible assumption | with_reducible refine Kept.setCell ?_ (by first | (simp; done) | (simp; omega) | omega) _ | with_reducible refine Kept.alloc ?_ _ | with_reducible refine Kept.drewN ?_ _ | with_reducible refine Kept.drew ?_ | with_reducible refine Kept.trans ?_ (by with_reducible assumption) | with_reducible refine Kept.dr ?_ (by with_reducible assumption)))⟩

  · have hv : at2V y x = 0 := by unfold at2V; rw [ey]; simp
    have he : at2E y x = 2 := by unfold at2E; rw [ey]; simp
    rw [hv, he]
    have sy := Lib.hid ey
    clear hv he ey hb
    go_enter Tryz.func36, Tryz.ntmps36
    go_wp2_with fail
    refine (small_w y (by omega) (by omega) _).mono ?_
    rw [sy.out]
    rintro e w' ⟨rfl, rfl⟩
    go_wp2_with fail
    go_ret2
    exact ⟨rfl, (by repeat (first | with_reducible exact Kept.refl _ | with_reducible assumption | with_reducible refine Kept.setCell ?_ (by first | (simp; done) | (simp; omega) | omega) _ | with_reducible refine Kept.alloc ?_ _ | with_reducible refine Kept.drewN ?_ _ | with_reducible refine Kept.drew ?_ | with_reducible refine Kept.trans ?_ (by with_reducible assumption) | with_reducible refine Kept.dr ?_ (by with_reducible assumption)))⟩

end Go.Proofs.YtfpgdicacjkfoaaGreatDoor
