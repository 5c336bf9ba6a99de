/-
  Own contracts: the document's answers of layer 7: the arc tangent.
-/
import Derived.Test.YtfpgdicacjkfoaaGreatDoorTrge
import Derived.WalkKit
import Derived.ProofKit
import Derived.OpenShut
import Derived.WalkLawsBesides
import Derived.WalkSpells
import Derived.Lib.Hide
import Derived.Deep.DeepCutAuto
import Derived.Deep.CutBlock
import Derived.Deep.QuietTactic
import Derived.BigQuiet
import Derived.Handy
import Derived.StillTailTactics
import Derived.IntWalk
import Derived.LoopN
import Derived.Deep.RegionHeld3
namespace Go.Proofs.YtfpgdicacjkfoaaGreatDoor
open Go.ChangeShapes Go.WideShapes Go.ChangeAt Go.RowKit
set_option linter.unusedVariables false
set_option linter.unusedSimpArgs false
set_option maxHeartbeats 2000000 in
set_option maxRecDepth 100000 in
theorem ref_atan2_ok (y x : Int) (y0 : -2147483647 ≤ y) (y1 : y ≤ 2147483647) (x0 : -2147483647 ≤ x) (x1 : x ≤ 2147483647) (sy : Hid (smB y = true)) (sx : Hid (smB x = true)) (hz : ¬ (x = 0 ∧ y = 0)) (w : World) : Calls Tryz.prog 38 #[.int .i64 y, .int .i64 x] w fun e w' => e = .returned (.tuple #[.int .i64 (at2V y x), .int .i64 (at2E y x)]) ∧ w = w' := by
  obtain ⟨u0, u1⟩ := iabs_bd y y0 y1
  obtain ⟨r0, r1⟩ := iabs_bd x x0 x1
  have HE : Hid (at2E y x = 0) := Lib.hid (by unfold at2E; rw [sy.out, sx.out]; simp [hz])
  have HVV : Hid (at2V y x = if x < 0 ∧ y < 0 then 64800000 + at2Q y x else if x < 0 then 64800000 - at2Q y x else if y < 0 then nrm (-at2Q y x) else at2Q y x) := Lib.hid (by unfold at2V; rw [sy.out, sx.out]; simp [hz])
  have HQQ : Hid (at2Q y x = if iabs x < iabs y then 32400000 - les (iabs y) (iabs x) else les (iabs x) (iabs y)) := Lib.hid rfl
  have HY : Hid (iabs y = if y < 0 then -y else y) := Lib.hid rfl
  have HX : Hid (iabs x = if x < 0 then -x else x) := Lib.hid rfl
  rw [HE.out]
  obtain ⟨v, hv⟩ : ∃ v, iabs y = v := ⟨_, rfl⟩
  obtain ⟨h, hh⟩ : ∃ h, iabs x = h := ⟨_, rfl⟩
  rw [hv] at u0 u1 HQQ HY
  rw [hh] at r0 r1 HQQ HX
  clear hv hh
  obtain ⟨Q, hQ⟩ : ∃ Q, at2Q y x = Q := ⟨_, rfl⟩
  rw [hQ] at HVV HQQ
  clear hQ
  obtain ⟨V, hV⟩ : ∃ V, at2V y x = V := ⟨_, rfl⟩
  rw [hV] at HVV
  rw [hV]
  clear hV
  obtain ⟨bx, hbx⟩ : ∃ b, (x == 0) = b := ⟨_, rfl⟩
  obtain ⟨bY, hby⟩ : ∃ b, (y == 0) = b := ⟨_, rfl⟩
  cases bx
  · clear hz
    cases bY
    all_goals
      go_enter Tryz.func38, Tryz.ntmps38
      go_wp2_with fail
      refine (outside_w y (by omega) (by omega) _).mono ?_
      rw [sy.out]
      rintro e w' ⟨rfl, rfl⟩
      go_wp2_with fail
      refine (outside_w _ (by omega) (by omega) _).mono ?_
      rw [sx.out]
      rintro e w' ⟨rfl, rfl⟩
      go_upto_if 31 with (fail)
      go_cut [6] (fun a wx => a = .int .i64 v ∧ w = wx)
      case first =>
        by_cases c : y < 0
        · have e : Hid (v = -y) := Lib.hid (by rw [HY.out, if_pos c])
          go_wp2_with fail
          go_meet
          case rel => exact ⟨by rw [e.out], rfl⟩
        · have e : Hid (v = y) := Lib.hid (by rw [HY.out, if_neg c])
          go_wp2_with fail
          go_meet
          case rel => exact ⟨by rw [e.out], rfl⟩
      case rest =>
      obtain ⟨rfl, rfl⟩ := hcut
      go_upto_if 35 with (fail)
      go_cut [7] (fun a wx => a = .int .i64 h ∧ w = wx)
      case first =>
        by_cases c : x < 0
        · have e : Hid (h = -x) := Lib.hid (by rw [HX.out, if_pos c])
          go_wp2_with fail
          go_meet
          case rel => exact ⟨by rw [e.out], rfl⟩
        · have e : Hid (h = x) := Lib.hid (by rw [HX.out, if_neg c])
          go_wp2_with fail
          go_meet
          case rel => exact ⟨by rw [e.out], rfl⟩
      case rest =>
      obtain ⟨rfl, rfl⟩ := hcut
      go_upto_region 10 with (fail)
      go_cut [8, 9] (fun a b wx => ∃ M N : Int, a = .int .i64 M ∧ b = .int .i64 N ∧ 0 ≤ M ∧ M ≤ 2147483647 ∧ 0 ≤ N ∧ N ≤ 2147483647 ∧ Hid (Q = if h < v then 32400000 - les M N else les M N) ∧ w = wx)
      case first =>
        rcases Int.lt_trichotomy h v with c | c | c
        · have e : Hid (Q = if h < v then 32400000 - les v h else les v h) := Lib.hid (by rw [HQQ.out, if_pos c, if_pos c])
          go_wp2_with fail
          all_goals first | (exfalso; omega) | skip
          go_meet
          case rel => exact ⟨v, h, rfl, rfl, u0, u1, r0, r1, e, rfl⟩
        · obtain rfl := c
          have e : Hid (Q = if h < h then 32400000 - les h h else les h h) := HQQ
          go_wp2_with fail
          all_goals first | (exfalso; omega) | skip
          go_meet
          case rel => exact ⟨h, h, rfl, rfl, u0, u1, r0, r1, e, rfl⟩
        · have e : Hid (Q = if h < v then 32400000 - les h v else les h v) := Lib.hid (by rw [HQQ.out, if_neg (by omega), if_neg (by omega)])
          go_wp2_with fail
          all_goals first | (exfalso; omega) | skip
          go_meet
          case rel => exact ⟨h, v, rfl, rfl, r0, r1, u0, u1, e, rfl⟩
      case rest =>
      obtain ⟨M, N, rfl, rfl, M0, M1', N0, N1, HQ2, rfl⟩ := hcut
      obtain ⟨L, hL⟩ : ∃ L, les M N = L := ⟨_, rfl⟩
      obtain ⟨l0, l1⟩ := les_bd M N
      rw [hL] at l0 l1 HQ2
      have HL : Hid (grt (lesP M N) 0 16200000 = L) := Lib.hid hL
      clear hL
      go_wp2_with fail
      go_loop [10, 11, 12] (fun a b c => ∃ lo hi : Int, 0 ≤ lo ∧ lo ≤ hi ∧ hi ≤ 16200000 ∧ a = .int .i64 lo ∧ b = .int .i64 (hi + 1) ∧ grt (lesP M N) lo hi = L) (fun a b c => (intOf b - intOf a).toNat)
      case atStart => exact ⟨0, 16200000, by omega, by omega, by omega, rfl, rfl, HL.out⟩
      case round =>
        obtain ⟨lo, hi, h0, h1, h2, rfl, rfl, hv⟩ := hrel
        have HG := Lib.hid hv
        clear hv
        by_cases hlt : lo < hi
        · obtain ⟨c, hc⟩ : ∃ c, (lo + (hi + 1)) / 2 = c := ⟨_, rfl⟩
          have m1 : (lo + hi + 1) / 2 = c := by omega
          have d0 : lo < c := by omega
          have d1 : c ≤ hi := by omega
          obtain ⟨k0, k1⟩ := qsn_bd c (by omega) (by omega)
          obtain ⟨j0, j1⟩ := qsn_bd (32400000 - c) (by omega) (by omega)
          rw [← sinV_q c (by omega) (by omega)] at k0 k1
          rw [← cosV_q c (by omega) (by omega)] at j0 j1
          obtain ⟨p0, p1, p2⟩ := les_mul (sinV c) M k0 k1 (by omega) (by omega)
          obtain ⟨q0, q1, q2⟩ := les_mul (cosV c) N j0 j1 (by omega) (by omega)
          have sq := Lib.hid (lesP_ref M N c (by omega) (by omega))
          have HC := Lib.hid hc
          have M1 := Lib.hid m1
          clear hc m1 p2 q2
          by_cases hp : sinV c * M ≤ cosV c * N
          · have E : Hid (grt (lesP M N) c hi = L) := Lib.hid (by have := grt_yes (lesP M N) lo hi hlt (by rw [M1.out, sq.out]; exact decide_eq_true hp); rw [M1.out] at this; exact this.symm.trans HG.out)
            go_wp2_with fail
            rw [HC.out]
            refine (ref_sin_w c (by omega) (by omega) _).mono ?_
            rintro e w' ⟨rfl, rfl⟩
            go_wp2_with fail
            refine (ref_cos_w c (by omega) (by omega) _).mono ?_
            rintro e w' ⟨rfl, rfl⟩
            go_wp2_with fail
            exact ⟨⟨c, hi, by omega, by omega, by omega, rfl, rfl, E.out⟩, by simp [intOf]; omega⟩
          · have E : Hid (grt (lesP M N) lo (c - 1) = L) := Lib.hid (by have := grt_no (lesP M N) lo hi hlt (by rw [M1.out, sq.out]; exact decide_eq_false hp); rw [M1.out] at this; exact this.symm.trans HG.out)
            go_wp2_with fail
            rw [HC.out]
            refine (ref_sin_w c (by omega) (by omega) _).mono ?_
            rintro e w' ⟨rfl, rfl⟩
            go_wp2_with fail
            refine (ref_cos_w c (by omega) (by omega) _).mono ?_
            rintro e w' ⟨rfl, rfl⟩
            go_wp2_with fail
            exact ⟨⟨lo, c - 1, by omega, by omega, by omega, rfl, by go_num, E.out⟩, by simp [intOf]; omega⟩
        · have e := grt_end (lesP M N) lo hi hlt
          have E : Hid (lo = L) := Lib.hid (e.symm.trans HG.out)
          clear e
          have hQ3 := HQ2.out
          have hV3 := HVV.out
          have HL2 := E.out
          clear HL HG
          obtain rfl := HL2
          by_cases co : h < v
          · rw [if_pos co] at hQ3
            by_cases cx : x < 0
            · by_cases cy : y < 0
              · rw [if_pos ⟨cx, cy⟩] at hV3
                rw [hQ3] at hV3
                have HV4 := Lib.hid hV3
                clear hQ3 hV3 E HQ2 HVV HQQ
                go_wp2_with (go_at_call 56; refine (ref_norm_w _ (by omega) (by omega) _).mono ?_; rintro e w' ⟨rfl, rfl⟩)
                all_goals go_ret2
                all_goals rw [HV4.out]
                all_goals exact ⟨rfl, rfl⟩
              · rw [if_neg (by omega), if_pos cx] at hV3
                rw [hQ3] at hV3
                have HV4 := Lib.hid hV3
                clear hQ3 hV3 E HQ2 HVV HQQ
                go_wp2_with (go_at_call 56; refine (ref_norm_w _ (by omega) (by omega) _).mono ?_; rintro e w' ⟨rfl, rfl⟩)
                all_goals go_ret2
                all_goals rw [HV4.out]
                all_goals exact ⟨rfl, rfl⟩
            · by_cases cy : y < 0
              · rw [if_neg (by omega), if_neg cx, if_pos cy] at hV3
                rw [hQ3] at hV3
                have HV4 := Lib.hid hV3
                clear hQ3 hV3 E HQ2 HVV HQQ
                go_wp2_with (go_at_call 56; refine (ref_norm_w _ (by omega) (by omega) _).mono ?_; rintro e w' ⟨rfl, rfl⟩)
                all_goals go_ret2
                all_goals rw [HV4.out]
                all_goals exact ⟨rfl, rfl⟩
              · rw [if_neg (by omega), if_neg cx, if_neg cy] at hV3
                rw [hQ3] at hV3
                have HV4 := Lib.hid hV3
                clear hQ3 hV3 E HQ2 HVV HQQ
                go_wp2_with (go_at_call 56; refine (ref_norm_w _ (by omega) (by omega) _).mono ?_; rintro e w' ⟨rfl, rfl⟩)
                all_goals go_ret2
                all_goals rw [HV4.out]
                all_goals exact ⟨rfl, rfl⟩
          · rw [if_neg co] at hQ3
            by_cases cx : x < 0
            · by_cases cy : y < 0
              · rw [if_pos ⟨cx, cy⟩] at hV3
                rw [hQ3] at hV3
                have HV4 := Lib.hid hV3
                clear hQ3 hV3 E HQ2 HVV HQQ
                go_wp2_with (go_at_call 56; refine (ref_norm_w _ (by omega) (by omega) _).mono ?_; rintro e w' ⟨rfl, rfl⟩)
                all_goals go_ret2
                all_goals rw [HV4.out]
                all_goals exact ⟨rfl, rfl⟩
              · rw [if_neg (by omega), if_pos cx] at hV3
                rw [hQ3] at hV3
                have HV4 := Lib.hid hV3
                clear hQ3 hV3 E HQ2 HVV HQQ
                go_wp2_with (go_at_call 56; refine (ref_norm_w _ (by omega) (by omega) _).mono ?_; rintro e w' ⟨rfl, rfl⟩)
                all_goals go_ret2
                all_goals rw [HV4.out]
                all_goals exact ⟨rfl, rfl⟩
            · by_cases cy : y < 0
              · rw [if_neg (by omega), if_neg cx, if_pos cy] at hV3
                rw [hQ3] at hV3
                have HV4 := Lib.hid hV3
                clear hQ3 hV3 E HQ2 HVV HQQ
                go_wp2_with (go_at_call 56; refine (ref_norm_w _ (by omega) (by omega) _).mono ?_; rintro e w' ⟨rfl, rfl⟩)
                all_goals go_ret2
                all_goals rw [HV4.out]
                all_goals exact ⟨rfl, rfl⟩
              · rw [if_neg (by omega), if_neg cx, if_neg cy] at hV3
                rw [hQ3] at hV3
                have HV4 := Lib.hid hV3
                clear hQ3 hV3 E HQ2 HVV HQQ
                go_wp2_with (go_at_call 56; refine (ref_norm_w _ (by omega) (by omega) _).mono ?_; rintro e w' ⟨rfl, rfl⟩)
                all_goals go_ret2
                all_goals rw [HV4.out]
                all_goals exact ⟨rfl, rfl⟩
  · cases bY
    · clear hz
      go_enter Tryz.func38, Tryz.ntmps38
      go_wp2_with fail
      refine (outside_w y (by omega) (by omega) _).mono ?_
      rw [sy.out]
      rintro e w' ⟨rfl, rfl⟩
      go_wp2_with fail
      refine (outside_w _ (by omega) (by omega) _).mono ?_
      rw [sx.out]
      rintro e w' ⟨rfl, rfl⟩
      go_upto_if 31 with (fail)
      go_cut [6] (fun a wx => a = .int .i64 v ∧ w = wx)
      case first =>
        by_cases c : y < 0
        · have e : Hid (v = -y) := Lib.hid (by rw [HY.out, if_pos c])
          go_wp2_with fail
          go_meet
          case rel => exact ⟨by rw [e.out], rfl⟩
        · have e : Hid (v = y) := Lib.hid (by rw [HY.out, if_neg c])
          go_wp2_with fail
          go_meet
          case rel => exact ⟨by rw [e.out], rfl⟩
      case rest =>
      obtain ⟨rfl, rfl⟩ := hcut
      go_upto_if 35 with (fail)
      go_cut [7] (fun a wx => a = .int .i64 h ∧ w = wx)
      case first =>
        by_cases c : x < 0
        · have e : Hid (h = -x) := Lib.hid (by rw [HX.out, if_pos c])
          go_wp2_with fail
          go_meet
          case rel => exact ⟨by rw [e.out], rfl⟩
        · have e : Hid (h = x) := Lib.hid (by rw [HX.out, if_neg c])
          go_wp2_with fail
          go_meet
          case rel => exact ⟨by rw [e.out], rfl⟩
      case rest =>
      obtain ⟨rfl, rfl⟩ := hcut
      go_upto_region 10 with (fail)
      go_cut [8, 9] (fun a b wx => ∃ M N : Int, a = .int .i64 M ∧ b = .int .i64 N ∧ 0 ≤ M ∧ M ≤ 2147483647 ∧ 0 ≤ N ∧ N ≤ 2147483647 ∧ Hid (Q = if h < v then 32400000 - les M N else les M N) ∧ w = wx)
      case first =>
        rcases Int.lt_trichotomy h v with c | c | c
        · have e : Hid (Q = if h < v then 32400000 - les v h else les v h) := Lib.hid (by rw [HQQ.out, if_pos c, if_pos c])
          go_wp2_with fail
          all_goals first | (exfalso; omega) | skip
          go_meet
          case rel => exact ⟨v, h, rfl, rfl, u0, u1, r0, r1, e, rfl⟩
        · obtain rfl := c
          have e : Hid (Q = if h < h then 32400000 - les h h else les h h) := HQQ
          go_wp2_with fail
          all_goals first | (exfalso; omega) | skip
          go_meet
          case rel => exact ⟨h, h, rfl, rfl, u0, u1, r0, r1, e, rfl⟩
        · have e : Hid (Q = if h < v then 32400000 - les h v else les h v) := Lib.hid (by rw [HQQ.out, if_neg (by omega), if_neg (by omega)])
          go_wp2_with fail
          all_goals first | (exfalso; omega) | skip
          go_meet
          case rel => exact ⟨h, v, rfl, rfl, r0, r1, u0, u1, e, rfl⟩
      case rest =>
      obtain ⟨M, N, rfl, rfl, M0, M1', N0, N1, HQ2, rfl⟩ := hcut
      obtain ⟨L, hL⟩ : ∃ L, les M N = L := ⟨_, rfl⟩
      obtain ⟨l0, l1⟩ := les_bd M N
      rw [hL] at l0 l1 HQ2
      have HL : Hid (grt (lesP M N) 0 16200000 = L) := Lib.hid hL
      clear hL
      go_wp2_with fail
      go_loop [10, 11, 12] (fun a b c => ∃ lo hi : Int, 0 ≤ lo ∧ lo ≤ hi ∧ hi ≤ 16200000 ∧ a = .int .i64 lo ∧ b = .int .i64 (hi + 1) ∧ grt (lesP M N) lo hi = L) (fun a b c => (intOf b - intOf a).toNat)
      case atStart => exact ⟨0, 16200000, by omega, by omega, by omega, rfl, rfl, HL.out⟩
      case round =>
        obtain ⟨lo, hi, h0, h1, h2, rfl, rfl, hv⟩ := hrel
        have HG := Lib.hid hv
        clear hv
        by_cases hlt : lo < hi
        · obtain ⟨c, hc⟩ : ∃ c, (lo + (hi + 1)) / 2 = c := ⟨_, rfl⟩
          have m1 : (lo + hi + 1) / 2 = c := by omega
          have d0 : lo < c := by omega
          have d1 : c ≤ hi := by omega
          obtain ⟨k0, k1⟩ := qsn_bd c (by omega) (by omega)
          obtain ⟨j0, j1⟩ := qsn_bd (32400000 - c) (by omega) (by omega)
          rw [← sinV_q c (by omega) (by omega)] at k0 k1
          rw [← cosV_q c (by omega) (by omega)] at j0 j1
          obtain ⟨p0, p1, p2⟩ := les_mul (sinV c) M k0 k1 (by omega) (by omega)
          obtain ⟨q0, q1, q2⟩ := les_mul (cosV c) N j0 j1 (by omega) (by omega)
          have sq := Lib.hid (lesP_ref M N c (by omega) (by omega))
          have HC := Lib.hid hc
          have M1 := Lib.hid m1
          clear hc m1 p2 q2
          by_cases hp : sinV c * M ≤ cosV c * N
          · have E : Hid (grt (lesP M N) c hi = L) := Lib.hid (by have := grt_yes (lesP M N) lo hi hlt (by rw [M1.out, sq.out]; exact decide_eq_true hp); rw [M1.out] at this; exact this.symm.trans HG.out)
            go_wp2_with fail
            rw [HC.out]
            refine (ref_sin_w c (by omega) (by omega) _).mono ?_
            rintro e w' ⟨rfl, rfl⟩
            go_wp2_with fail
            refine (ref_cos_w c (by omega) (by omega) _).mono ?_
            rintro e w' ⟨rfl, rfl⟩
            go_wp2_with fail
            exact ⟨⟨c, hi, by omega, by omega, by omega, rfl, rfl, E.out⟩, by simp [intOf]; omega⟩
          · have E : Hid (grt (lesP M N) lo (c - 1) = L) := Lib.hid (by have := grt_no (lesP M N) lo hi hlt (by rw [M1.out, sq.out]; exact decide_eq_false hp); rw [M1.out] at this; exact this.symm.trans HG.out)
            go_wp2_with fail
            rw [HC.out]
            refine (ref_sin_w c (by omega) (by omega) _).mono ?_
            rintro e w' ⟨rfl, rfl⟩
            go_wp2_with fail
            refine (ref_cos_w c (by omega) (by omega) _).mono ?_
            rintro e w' ⟨rfl, rfl⟩
            go_wp2_with fail
            exact ⟨⟨lo, c - 1, by omega, by omega, by omega, rfl, by go_num, E.out⟩, by simp [intOf]; omega⟩
        · have e := grt_end (lesP M N) lo hi hlt
          have E : Hid (lo = L) := Lib.hid (e.symm.trans HG.out)
          clear e
          have hQ3 := HQ2.out
          have hV3 := HVV.out
          have HL2 := E.out
          clear HL HG
          obtain rfl := HL2
          by_cases co : h < v
          · rw [if_pos co] at hQ3
            by_cases cx : x < 0
            · by_cases cy : y < 0
              · rw [if_pos ⟨cx, cy⟩] at hV3
                rw [hQ3] at hV3
                have HV4 := Lib.hid hV3
                clear hQ3 hV3 E HQ2 HVV HQQ
                go_wp2_with (go_at_call 56; refine (ref_norm_w _ (by omega) (by omega) _).mono ?_; rintro e w' ⟨rfl, rfl⟩)
                all_goals go_ret2
                all_goals rw [HV4.out]
                all_goals exact ⟨rfl, rfl⟩
              · rw [if_neg (by omega), if_pos cx] at hV3
                rw [hQ3] at hV3
                have HV4 := Lib.hid hV3
                clear hQ3 hV3 E HQ2 HVV HQQ
                go_wp2_with (go_at_call 56; refine (ref_norm_w _ (by omega) (by omega) _).mono ?_; rintro e w' ⟨rfl, rfl⟩)
                all_goals go_ret2
                all_goals rw [HV4.out]
                all_goals exact ⟨rfl, rfl⟩
            · by_cases cy : y < 0
              · rw [if_neg (by omega), if_neg cx, if_pos cy] at hV3
                rw [hQ3] at hV3
                have HV4 := Lib.hid hV3
                clear hQ3 hV3 E HQ2 HVV HQQ
                go_wp2_with (go_at_call 56; refine (ref_norm_w _ (by omega) (by omega) _).mono ?_; rintro e w' ⟨rfl, rfl⟩)
                all_goals go_ret2
                all_goals rw [HV4.out]
                all_goals exact ⟨rfl, rfl⟩
              · rw [if_neg (by omega), if_neg cx, if_neg cy] at hV3
                rw [hQ3] at hV3
                have HV4 := Lib.hid hV3
                clear hQ3 hV3 E HQ2 HVV HQQ
                go_wp2_with (go_at_call 56; refine (ref_norm_w _ (by omega) (by omega) _).mono ?_; rintro e w' ⟨rfl, rfl⟩)
                all_goals go_ret2
                all_goals rw [HV4.out]
                all_goals exact ⟨rfl, rfl⟩
          · rw [if_neg co] at hQ3
            by_cases cx : x < 0
            · by_cases cy : y < 0
              · rw [if_pos ⟨cx, cy⟩] at hV3
                rw [hQ3] at hV3
                have HV4 := Lib.hid hV3
                clear hQ3 hV3 E HQ2 HVV HQQ
                go_wp2_with (go_at_call 56; refine (ref_norm_w _ (by omega) (by omega) _).mono ?_; rintro e w' ⟨rfl, rfl⟩)
                all_goals go_ret2
                all_goals rw [HV4.out]
                all_goals exact ⟨rfl, rfl⟩
              · rw [if_neg (by omega), if_pos cx] at hV3
                rw [hQ3] at hV3
                have HV4 := Lib.hid hV3
                clear hQ3 hV3 E HQ2 HVV HQQ
                go_wp2_with (go_at_call 56; refine (ref_norm_w _ (by omega) (by omega) _).mono ?_; rintro e w' ⟨rfl, rfl⟩)
                all_goals go_ret2
                all_goals rw [HV4.out]
                all_goals exact ⟨rfl, rfl⟩
            · by_cases cy : y < 0
              · rw [if_neg (by omega), if_neg cx, if_pos cy] at hV3
                rw [hQ3] at hV3
                have HV4 := Lib.hid hV3
                clear hQ3 hV3 E HQ2 HVV HQQ
                go_wp2_with (go_at_call 56; refine (ref_norm_w _ (by omega) (by omega) _).mono ?_; rintro e w' ⟨rfl, rfl⟩)
                all_goals go_ret2
                all_goals rw [HV4.out]
                all_goals exact ⟨rfl, rfl⟩
              · rw [if_neg (by omega), if_neg cx, if_neg cy] at hV3
                rw [hQ3] at hV3
                have HV4 := Lib.hid hV3
                clear hQ3 hV3 E HQ2 HVV HQQ
                go_wp2_with (go_at_call 56; refine (ref_norm_w _ (by omega) (by omega) _).mono ?_; rintro e w' ⟨rfl, rfl⟩)
                all_goals go_ret2
                all_goals rw [HV4.out]
                all_goals exact ⟨rfl, rfl⟩
    · exact absurd ⟨by simpa using hbx, by simpa using hby⟩ hz
set_option maxHeartbeats 2000000 in
set_option maxRecDepth 100000 in
theorem ref_atan2_w (y x : Int) (y0 : -9223372036854775808 ≤ y) (y1 : y ≤ 9223372036854775807) (x0 : -9223372036854775808 ≤ x) (x1 : x ≤ 9223372036854775807) (w : World) : Calls Tryz.prog 38 #[.int .i64 y, .int .i64 x] w fun e w' => e = .returned (.tuple #[.int .i64 (at2V y x), .int .i64 (at2E y x)]) ∧ w = w' := by
  rcases sm_cases y with ⟨ey, c0, c1⟩ | ⟨ey, hb⟩
  · rcases sm_cases x with ⟨ex, d0, d1⟩ | ⟨ex, hb⟩
    · by_cases hz : x = 0 ∧ y = 0
      · obtain ⟨rfl, rfl⟩ := hz
        have sy := Lib.hid ey; have sx := Lib.hid ex
        clear ey ex
        have hv : at2V 0 0 = 0 := by unfold at2V; rw [sy.out]; simp
        have he : at2E 0 0 = 1 := by unfold at2E; rw [sy.out]; simp
        rw [hv, he]
        clear hv he
        go_enter Tryz.func38, Tryz.ntmps38
        go_wp2_with fail
        refine (outside_w 0 (by omega) (by omega) _).mono ?_
        rw [sy.out]
        rintro e w' ⟨rfl, rfl⟩
        go_wp2_with fail
        refine (outside_w 0 (by omega) (by omega) _).mono ?_
        rw [sx.out]
        rintro e w' ⟨rfl, rfl⟩
        go_wp2_with fail
        go_ret2
        exact ⟨rfl, rfl⟩

      · exact ref_atan2_ok y x c0 c1 d0 d1 (Lib.hid ey) (Lib.hid ex) hz w
    · have hv : at2V y x = 0 := by unfold at2V; rw [ey, ex]; simp
      have he : at2E y x = 2 := by unfold at2E; rw [ey, ex]; simp
      rw [hv, he]
      have sy := Lib.hid ey; have sx := Lib.hid ex
      clear hv he ey ex hb
      go_enter Tryz.func38, Tryz.ntmps38
      go_wp2_with fail
      refine (outside_w y (by omega) (by omega) _).mono ?_
      rw [sy.out]
      rintro e w' ⟨rfl, rfl⟩
      go_wp2_with fail
      refine (outside_w x (by omega) (by omega) _).mono ?_
      rw [sx.out]
      rintro e w' ⟨rfl, rfl⟩
      go_wp2_with fail
      go_ret2
      exact ⟨rfl, rfl⟩

  · have hv : at2V y x = 0 := by unfold at2V; rw [ey]; simp
    have he : at2E y x = 2 := by unfold at2E; rw [ey]; simp
    rw [hv, he]
    have sy := Lib.hid ey
    clear hv he ey hb
    go_enter Tryz.func38, Tryz.ntmps38
    go_wp2_with fail
    refine (outside_w y (by omega) (by omega) _).mono ?_
    rw [sy.out]
    rintro e w' ⟨rfl, rfl⟩
    go_wp2_with fail
    go_ret2
    exact ⟨rfl, rfl⟩

end Go.Proofs.YtfpgdicacjkfoaaGreatDoor
