/-
  Own contracts: package trig and the document's answers: inverse functions, hypotenuses.
-/
import Derived.Test.YtknagaaahogpkaaTrgd
import Derived.WalkKit
import Derived.ProofKit
import Derived.OpenShut
import Derived.WalkLawsBesides
import Derived.WalkSpells
import Derived.Lib.Hide
import Derived.Deep.DeepCutAuto
import Derived.Deep.CutBlock
import Derived.Deep.QuietTactic
import Derived.BigQuiet
import Derived.Handy
import Derived.StillTailTactics
import Derived.IntWalk
import Derived.LoopN
import Derived.Deep.RegionHeld3
namespace Go.Proofs.Ytknagaaahogpkaa
open Go.ChangeShapes Go.WideShapes Go.ChangeAt Go.RowKit
set_option linter.unusedVariables false
set_option linter.unusedSimpArgs false

theorem sat_neg (x : Int) (h0 : -2147483647 ≤ x) (h1 : x < 0) : sat (x.natAbs : Int) = -x := by unfold sat; (repeat' split) <;> omega
theorem sat_pos (x : Int) (h0 : 0 ≤ x) (h1 : x ≤ 2147483647) : sat (x.natAbs : Int) = x := by unfold sat; (repeat' split) <;> omega
def hyV (x y : Int) : Int := if ¬ (smB x ∧ smB y) then 0 else isq (x * x + y * y)
def hyE (x y : Int) : Int := if ¬ (smB x ∧ smB y) then 2 else 0
theorem sq_bd (x : Int) (h0 : -2147483647 ≤ x) (h1 : x ≤ 2147483647) : 0 ≤ x * x ∧ x * x ≤ 4611686014132420609 := by
  rcases Int.le_total 0 x with h | h
  · exact mul_bd x x 2147483647 2147483647 h h1 h h1
  · have := mul_bd (-x) (-x) 2147483647 2147483647 (by omega) (by omega) (by omega) (by omega)
    rw [Int.neg_mul_neg] at this
    exact this
set_option maxHeartbeats 2000000 in
set_option maxRecDepth 100000 in
theorem asin_w (y r : Int) (y0 : -9223372036854775808 ≤ y) (y1 : y ≤ 9223372036854775807) (r0 : -9223372036854775808 ≤ r) (r1 : r ≤ 9223372036854775807) (w : World) : Calls Try.prog 24 #[.int .i64 y, .int .i64 r] w fun e w' => e = .returned (.tuple #[.int .i64 (asV y r), .int .i64 (asE y r)]) ∧ Kept w w' := by
  by_cases c1 : r < 1
  · have hv : asV y r = 0 := by unfold asV; rw [if_pos c1]
    have he : asE y r = 1 := by unfold asE; rw [if_pos c1]
    rw [hv, he]
    clear hv he
    go_enter Try.func24, Try.ntmps24
    go_wp2_with fail
    go_ret2
    exact ⟨rfl, (by repeat (first | with_reducible exact Kept.refl _ | with_reducible assumption | with_reducible refine Kept.setCell ?_ (by first | (simp; done) | (simp; omega) | omega) _ | with_reducible refine Kept.alloc ?_ _ | with_reducible refine Kept.drewN ?_ _ | with_reducible refine Kept.drew ?_ | with_reducible refine Kept.trans ?_ (by with_reducible assumption) | with_reducible refine Kept.dr ?_ (by with_reducible assumption)))⟩
  by_cases c2 : 2147483647 < r
  · have hv : asV y r = 0 := by unfold asV; rw [if_neg c1, if_pos (by omega)]
    have he : asE y r = 2 := by unfold asE; rw [if_neg c1, if_pos (by omega)]
    rw [hv, he]
    clear hv he
    go_enter Try.func24, Try.ntmps24
    go_wp2_with fail
    go_ret2
    exact ⟨rfl, (by repeat (first | with_reducible exact Kept.refl _ | with_reducible assumption | with_reducible refine Kept.setCell ?_ (by first | (simp; done) | (simp; omega) | omega) _ | with_reducible refine Kept.alloc ?_ _ | with_reducible refine Kept.drewN ?_ _ | with_reducible refine Kept.drew ?_ | with_reducible refine Kept.trans ?_ (by with_reducible assumption) | with_reducible refine Kept.dr ?_ (by with_reducible assumption)))⟩
  by_cases c3 : r < y
  · have hv : asV y r = 0 := by unfold asV; rw [if_neg c1, if_pos (by omega)]
    have he : asE y r = 2 := by unfold asE; rw [if_neg c1, if_pos (by omega)]
    rw [hv, he]
    clear hv he
    go_enter Try.func24, Try.ntmps24
    go_wp2_with fail
    go_ret2
    exact ⟨rfl, (by repeat (first | with_reducible exact Kept.refl _ | with_reducible assumption | with_reducible refine Kept.setCell ?_ (by first | (simp; done) | (simp; omega) | omega) _ | with_reducible refine Kept.alloc ?_ _ | with_reducible refine Kept.drewN ?_ _ | with_reducible refine Kept.drew ?_ | with_reducible refine Kept.trans ?_ (by with_reducible assumption) | with_reducible refine Kept.dr ?_ (by with_reducible assumption)))⟩
  by_cases c4 : y < -r
  · have hv : asV y r = 0 := by unfold asV; rw [if_neg c1, if_pos (by omega)]
    have he : asE y r = 2 := by unfold asE; rw [if_neg c1, if_pos (by omega)]
    rw [hv, he]
    clear hv he
    go_enter Try.func24, Try.ntmps24
    go_wp2_with fail
    go_ret2
    exact ⟨rfl, (by repeat (first | with_reducible exact Kept.refl _ | with_reducible assumption | with_reducible refine Kept.setCell ?_ (by first | (simp; done) | (simp; omega) | omega) _ | with_reducible refine Kept.alloc ?_ _ | with_reducible refine Kept.drewN ?_ _ | with_reducible refine Kept.drew ?_ | with_reducible refine Kept.trans ?_ (by with_reducible assumption) | with_reducible refine Kept.dr ?_ (by with_reducible assumption)))⟩
  have he : asE y r = 0 := by unfold asE; rw [if_neg c1, if_neg (by omega)]
  rw [he]
  clear he
  by_cases cy : y < 0
  · obtain ⟨V, hV⟩ : ∃ V, asn (-y) r = V := ⟨_, rfl⟩
    obtain ⟨l0, l1⟩ := asn_bd (-y) r
    rw [hV] at l0 l1
    have hv : asV y r = -V := by unfold asV; rw [if_neg c1, if_neg (by omega), if_pos cy, hV]
    have HV : Hid (grt (asP (-y) r) 0 32400000 = V) := Lib.hid hV
    clear hV
    rw [hv]
    clear hv
    have HS := Lib.hid (sat_neg y (by omega) cy)
    go_enter Try.func24, Try.ntmps24
    go_wp2_with fail
    refine (abs_w y y0 y1 _).mono ?_
    rw [HS.out]
    rintro e w' ⟨rfl, rfl⟩
    go_wp2_with fail
    refine (greatest_a r (-y) V w.heap.size (w.heap.size + 1) (by omega) (by omega) (by omega) (by omega) HV _ (by simp; omega) (by simp) (by simp [go_sem]) (by simp [go_sem])).mono ?_
    rintro e w1 ⟨rfl, hk⟩
    go_wp2_with fail
    go_ret2
    exact ⟨rfl, (((Kept.refl w).alloc _).alloc _).trans hk⟩
  · obtain ⟨V, hV⟩ : ∃ V, asn y r = V := ⟨_, rfl⟩
    obtain ⟨l0, l1⟩ := asn_bd y r
    rw [hV] at l0 l1
    have hv : asV y r = V := by unfold asV; rw [if_neg c1, if_neg (by omega), if_neg cy, hV]
    have HV : Hid (grt (asP y r) 0 32400000 = V) := Lib.hid hV
    clear hV
    rw [hv]
    clear hv
    have HS := Lib.hid (sat_pos y (by omega) (by omega))
    go_enter Try.func24, Try.ntmps24
    go_wp2_with fail
    refine (abs_w y y0 y1 _).mono ?_
    rw [HS.out]
    rintro e w' ⟨rfl, rfl⟩
    go_wp2_with fail
    refine (greatest_a r y V w.heap.size (w.heap.size + 1) (by omega) (by omega) (by omega) (by omega) HV _ (by simp; omega) (by simp) (by simp [go_sem]) (by simp [go_sem])).mono ?_
    rintro e w1 ⟨rfl, hk⟩
    go_wp2_with fail
    go_ret2
    exact ⟨rfl, (((Kept.refl w).alloc _).alloc _).trans hk⟩
set_option maxHeartbeats 2000000 in
set_option maxRecDepth 100000 in
theorem ref_asin_w (y r : Int) (y0 : -9223372036854775808 ≤ y) (y1 : y ≤ 9223372036854775807) (r0 : -9223372036854775808 ≤ r) (r1 : r ≤ 9223372036854775807) (w : World) : Calls Try.prog 25 #[.int .i64 y, .int .i64 r] w fun e w' => e = .returned (.tuple #[.int .i64 (asV y r), .int .i64 (asE y r)]) ∧ w = w' := by
  by_cases c1 : r < 1
  · have hv : asV y r = 0 := by unfold asV; rw [if_pos c1]
    have he : asE y r = 1 := by unfold asE; rw [if_pos c1]
    rw [hv, he]
    clear hv he
    go_enter Try.func25, Try.ntmps25
    go_wp2_with fail
    go_ret2
    exact ⟨rfl, rfl⟩
  by_cases c2 : 2147483647 < r
  · have hv : asV y r = 0 := by unfold asV; rw [if_neg c1, if_pos (by omega)]
    have he : asE y r = 2 := by unfold asE; rw [if_neg c1, if_pos (by omega)]
    rw [hv, he]
    clear hv he
    go_enter Try.func25, Try.ntmps25
    go_wp2_with fail
    go_ret2
    exact ⟨rfl, rfl⟩
  by_cases c3 : r < y
  · have hv : asV y r = 0 := by unfold asV; rw [if_neg c1, if_pos (by omega)]
    have he : asE y r = 2 := by unfold asE; rw [if_neg c1, if_pos (by omega)]
    rw [hv, he]
    clear hv he
    go_enter Try.func25, Try.ntmps25
    go_wp2_with fail
    go_ret2
    exact ⟨rfl, rfl⟩
  by_cases c4 : y < -r
  · have hv : asV y r = 0 := by unfold asV; rw [if_neg c1, if_pos (by omega)]
    have he : asE y r = 2 := by unfold asE; rw [if_neg c1, if_pos (by omega)]
    rw [hv, he]
    clear hv he
    go_enter Try.func25, Try.ntmps25
    go_wp2_with fail
    go_ret2
    exact ⟨rfl, rfl⟩
  have he : asE y r = 0 := by unfold asE; rw [if_neg c1, if_neg (by omega)]
  rw [he]
  clear he
  by_cases cy : y < 0
  · obtain ⟨V, hV⟩ : ∃ V, asn (-y) r = V := ⟨_, rfl⟩
    obtain ⟨l0, l1⟩ := asn_bd (-y) r
    rw [hV] at l0 l1
    have hv : asV y r = -V := by unfold asV; rw [if_neg c1, if_neg (by omega), if_pos cy, hV]
    have HV : Hid (grt (asP (-y) r) 0 32400000 = V) := Lib.hid hV
    clear hV
    rw [hv]
    clear hv
    obtain ⟨s, hs⟩ : ∃ s, (-y) = s := ⟨_, rfl⟩
    rw [hs] at HV
    have s0 : 0 ≤ s := by omega
    have s1 : s ≤ 2147483647 := by omega
    have HS := Lib.hid hs
    clear hs
    go_enter Try.func25, Try.ntmps25
    go_wp2_with fail
    rw [HS.out]
    go_loop [7, 8, 9] (fun a b c => ∃ lo hi : Int, 0 ≤ lo ∧ lo ≤ hi ∧ hi ≤ 32400000 ∧ a = .int .i64 lo ∧ b = .int .i64 (hi + 1) ∧ grt (asP s r) lo hi = V) (fun a b c => (intOf b - intOf a).toNat)
    case atStart => exact ⟨0, 32400000, by omega, by omega, by omega, rfl, rfl, HV.out⟩
    case round =>
      obtain ⟨lo, hi, h0, h1, h2, rfl, rfl, hv⟩ := hrel
      have HG := Lib.hid hv
      clear hv
      by_cases hlt : lo < hi
      · obtain ⟨c, hc⟩ : ∃ c, (lo + (hi + 1)) / 2 = c := ⟨_, rfl⟩
        have m1 : (lo + hi + 1) / 2 = c := by omega
        have d0 : lo < c := by omega
        have d1 : c ≤ hi := by omega
        obtain ⟨k0, k1⟩ := qsn_bd c (by omega) (by omega)
        rw [← sinV_q c (by omega) (by omega)] at k0 k1
        obtain ⟨p0, p1, p2⟩ := les_mul (sinV c) r k0 k1 (by omega) (by omega)
        have sq := Lib.hid (sinV_q c (by omega) (by omega))
        have HC := Lib.hid hc
        have M1 := Lib.hid m1
        clear hc m1 p2
        by_cases hp : sinV c * r ≤ 1073741824 * s
        · have E : Hid (grt (asP s r) c hi = V) := Lib.hid (by have := grt_yes (asP s r) lo hi hlt (by rw [M1.out]; unfold asP; rw [← sq.out]; exact decide_eq_true hp); rw [M1.out] at this; exact this.symm.trans HG.out)
          go_wp2_with fail
          rw [HC.out]
          refine (ref_sin_w c (by omega) (by omega) _).mono ?_
          rintro e w' ⟨rfl, rfl⟩
          go_wp2_with fail
          exact ⟨⟨c, hi, by omega, by omega, by omega, rfl, rfl, E.out⟩, by simp [intOf]; omega⟩
        · have E : Hid (grt (asP s r) lo (c - 1) = V) := Lib.hid (by have := grt_no (asP s r) lo hi hlt (by rw [M1.out]; unfold asP; rw [← sq.out]; exact decide_eq_false hp); rw [M1.out] at this; exact this.symm.trans HG.out)
          go_wp2_with fail
          rw [HC.out]
          refine (ref_sin_w c (by omega) (by omega) _).mono ?_
          rintro e w' ⟨rfl, rfl⟩
          go_wp2_with fail
          exact ⟨⟨lo, c - 1, by omega, by omega, by omega, rfl, by go_num, E.out⟩, by simp [intOf]; omega⟩
      · have e := grt_end (asP s r) lo hi hlt
        have E : Hid (lo = V) := Lib.hid (e.symm.trans HG.out)
        clear e
        go_wp2_with fail
        go_ret2
        rw [E.out]
        exact ⟨rfl, rfl⟩
  · obtain ⟨V, hV⟩ : ∃ V, asn y r = V := ⟨_, rfl⟩
    obtain ⟨l0, l1⟩ := asn_bd y r
    rw [hV] at l0 l1
    have hv : asV y r = V := by unfold asV; rw [if_neg c1, if_neg (by omega), if_neg cy, hV]
    have HV : Hid (grt (asP y r) 0 32400000 = V) := Lib.hid hV
    clear hV
    rw [hv]
    clear hv
    obtain ⟨s, hs⟩ : ∃ s, y = s := ⟨_, rfl⟩
    rw [hs] at HV
    have s0 : 0 ≤ s := by omega
    have s1 : s ≤ 2147483647 := by omega
    have HS := Lib.hid hs
    clear hs
    go_enter Try.func25, Try.ntmps25
    go_wp2_with fail
    rw [HS.out]
    go_loop [7, 8, 9] (fun a b c => ∃ lo hi : Int, 0 ≤ lo ∧ lo ≤ hi ∧ hi ≤ 32400000 ∧ a = .int .i64 lo ∧ b = .int .i64 (hi + 1) ∧ grt (asP s r) lo hi = V) (fun a b c => (intOf b - intOf a).toNat)
    case atStart => exact ⟨0, 32400000, by omega, by omega, by omega, rfl, rfl, HV.out⟩
    case round =>
      obtain ⟨lo, hi, h0, h1, h2, rfl, rfl, hv⟩ := hrel
      have HG := Lib.hid hv
      clear hv
      by_cases hlt : lo < hi
      · obtain ⟨c, hc⟩ : ∃ c, (lo + (hi + 1)) / 2 = c := ⟨_, rfl⟩
        have m1 : (lo + hi + 1) / 2 = c := by omega
        have d0 : lo < c := by omega
        have d1 : c ≤ hi := by omega
        obtain ⟨k0, k1⟩ := qsn_bd c (by omega) (by omega)
        rw [← sinV_q c (by omega) (by omega)] at k0 k1
        obtain ⟨p0, p1, p2⟩ := les_mul (sinV c) r k0 k1 (by omega) (by omega)
        have sq := Lib.hid (sinV_q c (by omega) (by omega))
        have HC := Lib.hid hc
        have M1 := Lib.hid m1
        clear hc m1 p2
        by_cases hp : sinV c * r ≤ 1073741824 * s
        · have E : Hid (grt (asP s r) c hi = V) := Lib.hid (by have := grt_yes (asP s r) lo hi hlt (by rw [M1.out]; unfold asP; rw [← sq.out]; exact decide_eq_true hp); rw [M1.out] at this; exact this.symm.trans HG.out)
          go_wp2_with fail
          rw [HC.out]
          refine (ref_sin_w c (by omega) (by omega) _).mono ?_
          rintro e w' ⟨rfl, rfl⟩
          go_wp2_with fail
          exact ⟨⟨c, hi, by omega, by omega, by omega, rfl, rfl, E.out⟩, by simp [intOf]; omega⟩
        · have E : Hid (grt (asP s r) lo (c - 1) = V) := Lib.hid (by have := grt_no (asP s r) lo hi hlt (by rw [M1.out]; unfold asP; rw [← sq.out]; exact decide_eq_false hp); rw [M1.out] at this; exact this.symm.trans HG.out)
          go_wp2_with fail
          rw [HC.out]
          refine (ref_sin_w c (by omega) (by omega) _).mono ?_
          rintro e w' ⟨rfl, rfl⟩
          go_wp2_with fail
          exact ⟨⟨lo, c - 1, by omega, by omega, by omega, rfl, by go_num, E.out⟩, by simp [intOf]; omega⟩
      · have e := grt_end (asP s r) lo hi hlt
        have E : Hid (lo = V) := Lib.hid (e.symm.trans HG.out)
        clear e
        go_wp2_with fail
        go_ret2
        rw [E.out]
        exact ⟨rfl, rfl⟩
set_option maxHeartbeats 2000000 in
set_option maxRecDepth 100000 in
theorem hypot_w (x y : Int) (x0 : -9223372036854775808 ≤ x) (x1 : x ≤ 9223372036854775807) (y0 : -9223372036854775808 ≤ y) (y1 : y ≤ 9223372036854775807) (w : World) : Calls Try.prog 26 #[.int .i64 x, .int .i64 y] w fun e w' => e = .returned (.tuple #[.int .i64 (hyV x y), .int .i64 (hyE x y)]) ∧ w = w' := by
  rcases sm_cases x with ⟨ex, c0, c1⟩ | ⟨ex, hb⟩
  · rcases sm_cases y with ⟨ey, d0, d1⟩ | ⟨ey, hb⟩
    · have hv : hyV x y = isq (x * x + y * y) := by unfold hyV; rw [ex, ey]; simp
      have he : hyE x y = 0 := by unfold hyE; rw [ex, ey]; simp
      rw [hv, he]
      have sy := Lib.hid ey; have sx := Lib.hid ex
      obtain ⟨p0, p1⟩ := sq_bd x c0 c1
      obtain ⟨q0, q1⟩ := sq_bd y d0 d1
      clear hv he ey ex
      go_enter Try.func26, Try.ntmps26
      go_wp2_with fail
      refine (small_w x (by omega) (by omega) _).mono ?_
      rw [sx.out]
      rintro e w' ⟨rfl, rfl⟩
      go_wp2_with fail
      refine (small_w y (by omega) (by omega) _).mono ?_
      rw [sy.out]
      rintro e w' ⟨rfl, rfl⟩
      go_wp2_with fail
      refine (sqrt_w _ (by omega) (by omega) _).mono ?_
      rintro e w' ⟨rfl, rfl⟩
      go_wp2_with fail
      go_ret2
      exact ⟨rfl, rfl⟩
    · have hv : hyV x y = 0 := by unfold hyV; rw [ex, ey]; simp
      have he : hyE x y = 2 := by unfold hyE; rw [ex, ey]; simp
      rw [hv, he]
      have sy := Lib.hid ey; have sx := Lib.hid ex
      clear hv he ey ex hb
      go_enter Try.func26, Try.ntmps26
      go_wp2_with fail
      refine (small_w x (by omega) (by omega) _).mono ?_
      rw [sx.out]
      rintro e w' ⟨rfl, rfl⟩
      go_wp2_with fail
      refine (small_w y (by omega) (by omega) _).mono ?_
      rw [sy.out]
      rintro e w' ⟨rfl, rfl⟩
      go_wp2_with fail
      go_ret2
      exact ⟨rfl, rfl⟩
  · have hv : hyV x y = 0 := by unfold hyV; rw [ex]; simp
    have he : hyE x y = 2 := by unfold hyE; rw [ex]; simp
    rw [hv, he]
    have sx := Lib.hid ex
    clear hv he ex hb
    go_enter Try.func26, Try.ntmps26
    go_wp2_with fail
    refine (small_w x (by omega) (by omega) _).mono ?_
    rw [sx.out]
    rintro e w' ⟨rfl, rfl⟩
    go_wp2_with fail
    go_ret2
    exact ⟨rfl, rfl⟩
set_option maxHeartbeats 2000000 in
set_option maxRecDepth 100000 in
theorem ref_hypot_w (x y : Int) (x0 : -9223372036854775808 ≤ x) (x1 : x ≤ 9223372036854775807) (y0 : -9223372036854775808 ≤ y) (y1 : y ≤ 9223372036854775807) (w : World) : Calls Try.prog 27 #[.int .i64 x, .int .i64 y] w fun e w' => e = .returned (.tuple #[.int .i64 (hyV x y), .int .i64 (hyE x y)]) ∧ w = w' := by
  rcases sm_cases x with ⟨ex, c0, c1⟩ | ⟨ex, hb⟩
  · rcases sm_cases y with ⟨ey, d0, d1⟩ | ⟨ey, hb⟩
    · have hv : hyV x y = isq (x * x + y * y) := by unfold hyV; rw [ex, ey]; simp
      have he : hyE x y = 0 := by unfold hyE; rw [ex, ey]; simp
      rw [hv, he]
      have sy := Lib.hid ey; have sx := Lib.hid ex
      obtain ⟨p0, p1⟩ := sq_bd x c0 c1
      obtain ⟨q0, q1⟩ := sq_bd y d0 d1
      clear hv he ey ex
      go_enter Try.func27, Try.ntmps27
      go_wp2_with fail
      refine (outside_w x (by omega) (by omega) _).mono ?_
      rw [sx.out]
      rintro e w' ⟨rfl, rfl⟩
      go_wp2_with fail
      refine (outside_w y (by omega) (by omega) _).mono ?_
      rw [sy.out]
      rintro e w' ⟨rfl, rfl⟩
      go_wp2_with fail
      refine (ref_sqrt_w _ (by omega) (by omega) _).mono ?_
      rintro e w' ⟨rfl, rfl⟩
      go_wp2_with fail
      go_ret2
      exact ⟨rfl, rfl⟩
    · have hv : hyV x y = 0 := by unfold hyV; rw [ex, ey]; simp
      have he : hyE x y = 2 := by unfold hyE; rw [ex, ey]; simp
      rw [hv, he]
      have sy := Lib.hid ey; have sx := Lib.hid ex
      clear hv he ey ex hb
      go_enter Try.func27, Try.ntmps27
      go_wp2_with fail
      refine (outside_w x (by omega) (by omega) _).mono ?_
      rw [sx.out]
      rintro e w' ⟨rfl, rfl⟩
      go_wp2_with fail
      refine (outside_w y (by omega) (by omega) _).mono ?_
      rw [sy.out]
      rintro e w' ⟨rfl, rfl⟩
      go_wp2_with fail
      go_ret2
      exact ⟨rfl, rfl⟩
  · have hv : hyV x y = 0 := by unfold hyV; rw [ex]; simp
    have he : hyE x y = 2 := by unfold hyE; rw [ex]; simp
    rw [hv, he]
    have sx := Lib.hid ex
    clear hv he ex hb
    go_enter Try.func27, Try.ntmps27
    go_wp2_with fail
    refine (outside_w x (by omega) (by omega) _).mono ?_
    rw [sx.out]
    rintro e w' ⟨rfl, rfl⟩
    go_wp2_with fail
    go_ret2
    exact ⟨rfl, rfl⟩

end Go.Proofs.Ytknagaaahogpkaa
