/-
  Own contracts: the laws of layer 7.
-/
import Derived.Test.YtknagaaahogpkaaTrgf
import Derived.Test.YtknagaaahogpkaaTrgm
import Derived.WalkKit
import Derived.ProofKit
import Derived.OpenShut
import Derived.WalkLawsBesides
import Derived.WalkSpells
import Derived.Lib.Hide
import Derived.Deep.DeepCutAuto
import Derived.Deep.CutBlock
import Derived.Deep.QuietTactic
import Derived.BigQuiet
import Derived.Handy
import Derived.StillTailTactics
import Derived.IntWalk
import Derived.LoopN
import Derived.Deep.RegionHeld3
namespace Go.Proofs.Ytknagaaahogpkaa
open Go.ChangeShapes Go.WideShapes Go.ChangeAt Go.RowKit
set_option linter.unusedVariables false
set_option linter.unusedSimpArgs false
set_option maxHeartbeats 2000000 in
set_option maxRecDepth 100000 in
theorem awake_w  (w : World) : Calls Try.prog 12 #[] w fun e w' => e = .returned (.bool true) ∧ Kept w w' := by
  obtain ⟨s1, s2, s3, s4⟩ := aws
  obtain ⟨a1, a2⟩ := aw1
  obtain ⟨a3, a4⟩ := aw2
  obtain ⟨a5, a6⟩ := aw3
  have a7 : hyV 3 4 = 5 := by decide +kernel
  have a8 : hyE 3 4 = 0 := by decide +kernel
  have S1 := Lib.hid s1
  have S2 := Lib.hid s2
  have S3 := Lib.hid s3
  have S4 := Lib.hid s4
  have A1 := Lib.hid a1
  have A2 := Lib.hid a2
  have A3 := Lib.hid a3
  have A4 := Lib.hid a4
  have A5 := Lib.hid a5
  have A6 := Lib.hid a6
  have A7 := Lib.hid a7
  have A8 := Lib.hid a8
  clear s1 s2 s3 s4 a1 a2 a3 a4 a5 a6 a7 a8
  go_enter Try.func12, Try.ntmps12
  go_wp2_with fail
  refine (sin_w 0 (by omega) (by omega) _).mono ?_
  rw [S1.out]
  rintro e w1 ⟨rfl, hk1⟩
  go_wp2_with fail
  refine (sin_w 32400000 (by omega) (by omega) _).mono ?_
  rw [S2.out]
  rintro e w2 ⟨rfl, hk2⟩
  go_wp2_with fail
  refine (sin_w 10800000 (by omega) (by omega) _).mono ?_
  rw [S3.out]
  rintro e w3 ⟨rfl, hk3⟩
  go_wp2_with fail
  refine (cos_w 21600000 (by omega) (by omega) _).mono ?_
  rw [S4.out]
  rintro e w4 ⟨rfl, hk4⟩
  go_wp2_with fail
  refine (atan2_w 1 1 (by omega) (by omega) (by omega) (by omega) _).mono ?_
  rw [A1.out, A2.out]
  rintro e w5 ⟨rfl, hk5⟩
  go_wp2_with fail
  refine (atan2_w (-1) 0 (by omega) (by omega) (by omega) (by omega) _).mono ?_
  rw [A3.out, A4.out]
  rintro e w6 ⟨rfl, hk6⟩
  go_wp2_with fail
  refine (asin_w 1 2 (by omega) (by omega) (by omega) (by omega) _).mono ?_
  rw [A5.out, A6.out]
  rintro e w7 ⟨rfl, hk7⟩
  go_wp2_with fail
  refine (hypot_w 3 4 (by omega) (by omega) (by omega) (by omega) _).mono ?_
  rw [A7.out, A8.out]
  rintro e w' ⟨rfl, rfl⟩
  go_wp2_with fail
  go_ret
  exact ⟨rfl, (by repeat (first | with_reducible exact Kept.refl _ | with_reducible assumption | with_reducible refine Kept.setCell ?_ (by first | (simp; done) | (simp; omega) | omega) _ | with_reducible refine Kept.alloc ?_ _ | with_reducible refine Kept.drewN ?_ _ | with_reducible refine Kept.drew ?_ | with_reducible refine Kept.trans ?_ (by with_reducible assumption) | with_reducible refine Kept.dr ?_ (by with_reducible assumption)))⟩
set_option maxHeartbeats 2000000 in
set_option maxRecDepth 100000 in
theorem law_values (a : Int) (a_0 : -9223372036854775808 ≤ a) (a_1 : a ≤ 9223372036854775807) (w : World) : Calls Try.prog 3 #[.int .i64 a] w fun e w' => e = .returned (.bool true) ∧ Kept w w' := by
  go_enter Try.func3, Try.ntmps3
  go_wp2_with fail
  refine (awake_w _).mono ?_
  rintro e w1 ⟨rfl, hk1⟩
  go_wp2_with fail
  refine (sin_w a (by omega) (by omega) _).mono ?_
  rintro e w2 ⟨rfl, hk2⟩
  go_wp2_with fail
  refine (ref_sin_w a (by omega) (by omega) _).mono ?_
  rintro e w' ⟨rfl, rfl⟩
  go_wp2_with fail
  refine (cos_w a (by omega) (by omega) _).mono ?_
  rintro e w4 ⟨rfl, hk4⟩
  go_wp2_with fail
  refine (ref_cos_w a (by omega) (by omega) _).mono ?_
  rintro e w' ⟨rfl, rfl⟩
  go_wp2_with fail
  go_ret
  exact ⟨rfl, (by repeat (first | with_reducible exact Kept.refl _ | with_reducible assumption | with_reducible refine Kept.setCell ?_ (by first | (simp; done) | (simp; omega) | omega) _ | with_reducible refine Kept.alloc ?_ _ | with_reducible refine Kept.drewN ?_ _ | with_reducible refine Kept.drew ?_ | with_reducible refine Kept.trans ?_ (by with_reducible assumption) | with_reducible refine Kept.dr ?_ (by with_reducible assumption)))⟩
set_option maxHeartbeats 2000000 in
set_option maxRecDepth 100000 in
theorem law_symmetric (a : Int) (a_0 : -9223372036854775808 ≤ a) (a_1 : a ≤ 9223372036854775807) (w : World) : Calls Try.prog 6 #[.int .i64 a] w fun e w' => e = .returned (.bool true) ∧ Kept w w' := by
  obtain ⟨n0, n1⟩ := nrm_bd a
  obtain ⟨b, hb⟩ : ∃ b, nrm a = b := ⟨_, rfl⟩
  have e1 := (sin_per a).symm
  have e2 := sin_neg (nrm a) n0 n1
  have e3 := sin_half (nrm a) n0 n1
  have e4 := sin_plus (nrm a) n0 n1
  have e5 := cos_as a
  have e6 : cosV (-nrm a) = cosV a := by rw [cos_neg _ n0 n1, cos_per]
  have sb := sinV_bd (nrm a)
  rw [hb] at n0 n1 e1 e2 e3 e4 e5 e6 sb
  obtain ⟨s, hs⟩ : ∃ s, sinV b = s := ⟨_, rfl⟩
  rw [hs] at e1 e2 e3 e4 sb
  obtain ⟨c, hc⟩ : ∃ c, cosV a = c := ⟨_, rfl⟩
  rw [hc] at e5 e6
  have e5' := e5.symm
  have E1 := Lib.hid e1
  have E2 := Lib.hid e2
  have E3 := Lib.hid e3
  have E4 := Lib.hid e4
  have E6 := Lib.hid e6
  have E5 := Lib.hid e5'
  have HB := Lib.hid hb; have HS := Lib.hid hs; have HC := Lib.hid hc
  clear e1 e2 e3 e4 e5 e5' e6 hb hs hc
  go_enter Try.func6, Try.ntmps6
  go_wp2_with fail
  refine (awake_w _).mono ?_
  rintro e w1 ⟨rfl, hk1⟩
  go_wp2_with fail
  refine (norm_w a (by omega) (by omega) _).mono ?_
  rw [HB.out]
  rintro e w' ⟨rfl, rfl⟩
  go_wp2_with fail
  refine (sin_w b (by omega) (by omega) _).mono ?_
  rw [HS.out]
  rintro e w3 ⟨rfl, hk3⟩
  go_wp2_with fail
  refine (sin_w a (by omega) (by omega) _).mono ?_
  rw [E1.out]
  rintro e w4 ⟨rfl, hk4⟩
  go_wp2_with fail
  refine (sin_w (-b) (by omega) (by omega) _).mono ?_
  rw [E2.out]
  rintro e w5 ⟨rfl, hk5⟩
  go_wp2_with fail
  refine (sin_w (64800000 - b) (by omega) (by omega) _).mono ?_
  rw [E3.out]
  rintro e w6 ⟨rfl, hk6⟩
  go_wp2_with fail
  refine (sin_w (b + 64800000) (by omega) (by omega) _).mono ?_
  rw [E4.out]
  rintro e w7 ⟨rfl, hk7⟩
  go_wp2_with fail
  refine (cos_w a (by omega) (by omega) _).mono ?_
  rw [HC.out]
  rintro e w8 ⟨rfl, hk8⟩
  go_wp2_with fail
  refine (sin_w (b + 32400000) (by omega) (by omega) _).mono ?_
  rw [E5.out]
  rintro e w9 ⟨rfl, hk9⟩
  go_wp2_with fail
  refine (cos_w (-b) (by omega) (by omega) _).mono ?_
  rw [E6.out]
  rintro e w10 ⟨rfl, hk10⟩
  go_wp2_with fail
  refine (cos_w a (by omega) (by omega) _).mono ?_
  rw [HC.out]
  rintro e w11 ⟨rfl, hk11⟩
  go_wp2_with fail
  go_ret
  exact ⟨rfl, (by repeat (first | with_reducible exact Kept.refl _ | with_reducible assumption | with_reducible refine Kept.setCell ?_ (by first | (simp; done) | (simp; omega) | omega) _ | with_reducible refine Kept.alloc ?_ _ | with_reducible refine Kept.drewN ?_ _ | with_reducible refine Kept.drew ?_ | with_reducible refine Kept.trans ?_ (by with_reducible assumption) | with_reducible refine Kept.dr ?_ (by with_reducible assumption)))⟩
set_option maxHeartbeats 2000000 in
set_option maxRecDepth 100000 in
theorem law_arcs (y x : Int) (y_0 : -9223372036854775808 ≤ y) (y_1 : y ≤ 9223372036854775807) (x_0 : -9223372036854775808 ≤ x) (x_1 : x ≤ 9223372036854775807) (w : World) : Calls Try.prog 9 #[.int .i64 y, .int .i64 x] w fun e w' => e = .returned (.bool true) ∧ Kept w w' := by
  go_enter Try.func9, Try.ntmps9
  go_wp2_with fail
  refine (awake_w _).mono ?_
  rintro e w1 ⟨rfl, hk1⟩
  go_wp2_with fail
  refine (atan2_w y x (by omega) (by omega) (by omega) (by omega) _).mono ?_
  rintro e w2 ⟨rfl, hk2⟩
  go_wp2_with fail
  refine (ref_atan2_w y x (by omega) (by omega) (by omega) (by omega) _).mono ?_
  rintro e w' ⟨rfl, rfl⟩
  go_wp2_with fail
  refine (asin_w y x (by omega) (by omega) (by omega) (by omega) _).mono ?_
  rintro e w4 ⟨rfl, hk4⟩
  go_wp2_with fail
  refine (ref_asin_w y x (by omega) (by omega) (by omega) (by omega) _).mono ?_
  rintro e w' ⟨rfl, rfl⟩
  go_wp2_with fail
  refine (hypot_w x y (by omega) (by omega) (by omega) (by omega) _).mono ?_
  rintro e w' ⟨rfl, rfl⟩
  go_wp2_with fail
  refine (ref_hypot_w x y (by omega) (by omega) (by omega) (by omega) _).mono ?_
  rintro e w' ⟨rfl, rfl⟩
  go_wp2_with fail
  go_ret
  exact ⟨rfl, (by repeat (first | with_reducible exact Kept.refl _ | with_reducible assumption | with_reducible refine Kept.setCell ?_ (by first | (simp; done) | (simp; omega) | omega) _ | with_reducible refine Kept.alloc ?_ _ | with_reducible refine Kept.drewN ?_ _ | with_reducible refine Kept.drew ?_ | with_reducible refine Kept.trans ?_ (by with_reducible assumption) | with_reducible refine Kept.dr ?_ (by with_reducible assumption)))⟩
theorem as_sin (d : Int) (h0 : -16200000 ≤ d) (h1 : d ≤ 16200000) : asV (sinV d) 1073741824 = d ∧ asE (sinV d) 1073741824 = 0 := by
  rcases Int.le_total 0 d with h | h
  · have e := sinV_q d h (by omega)
    obtain ⟨q0, q1⟩ := qsn_bd d h (by omega)
    rw [e]
    unfold asV asE
    rw [if_neg (by omega), if_neg (by omega), if_neg (by omega), if_neg (by omega), if_neg (by omega)]
    exact ⟨asn_of d h h1, rfl⟩
  · have e : sinV d = -qsn (-d) := by
      have e0 := sin_neg (-d) (by omega) (by omega)
      rw [Int.neg_neg] at e0
      rw [e0, sinV_q (-d) (by omega) (by omega)]
    obtain ⟨q0, q1⟩ := qsn_bd (-d) (by omega) (by omega)
    rw [e]
    unfold asV asE
    by_cases hz : d = 0
    · subst hz
      rw [show (-0 : Int) = 0 from rfl, qsn_0]
      rw [if_neg (by omega), if_neg (by omega), if_neg (by omega), if_neg (by omega), if_neg (by omega)]
      have := asn_of 0 (by omega) (by omega)
      rw [qsn_0] at this
      exact ⟨this, rfl⟩
    · have := qsn_pos (-d) (by omega) (by omega)
      rw [if_neg (by omega), if_neg (by omega), if_pos (by omega), if_neg (by omega), if_neg (by omega), Int.neg_neg, asn_of (-d) (by omega) (by omega)]
      exact ⟨by omega, rfl⟩
set_option maxHeartbeats 2000000 in
set_option maxRecDepth 100000 in
theorem law_inverse (c : Int) (c_0 : -9223372036854775808 ≤ c) (c_1 : c ≤ 9223372036854775807) (w : World) : Calls Try.prog 10 #[.int .i64 c] w fun e w' => e = .returned (.bool true) ∧ Kept w w' := by
  obtain ⟨n0, n1⟩ := nrm_bd c
  obtain ⟨e1, e2⟩ := at2_sincos c
  have sb := sinV_bd c
  have cb := cosV_bd c
  have hm : c.tmod 16200001 = c - 16200001 * c.tdiv 16200001 := by have := Int.tmod_add_mul_tdiv c 16200001; omega
  obtain ⟨d, hd⟩ : ∃ d, c.tmod 16200001 = d := ⟨_, rfl⟩
  have d0 : -16200000 ≤ d := by have := Int.lt_tmod_of_pos c (show (0 : Int) < 16200001 by omega); omega
  have d1 : d ≤ 16200000 := by have := Int.tmod_lt_of_pos c (show (0 : Int) < 16200001 by omega); omega
  obtain ⟨e3, e4⟩ := as_sin d d0 d1
  have db := sinV_bd d
  clear hm
  have E1 := Lib.hid e1; have E2 := Lib.hid e2; have E3 := Lib.hid e3; have E4 := Lib.hid e4
  clear e1 e2 e3 e4
  go_enter Try.func10, Try.ntmps10
  go_wp2_with fail
  refine (awake_w _).mono ?_
  rintro e w1 ⟨rfl, hk1⟩
  go_wp2_with fail
  refine (sin_w c (by omega) (by omega) _).mono ?_
  rintro e w2 ⟨rfl, hk2⟩
  go_wp2_with fail
  refine (cos_w c (by omega) (by omega) _).mono ?_
  rintro e w3 ⟨rfl, hk3⟩
  go_wp2_with fail
  refine (atan2_w (sinV c) (cosV c) (by omega) (by omega) (by omega) (by omega) _).mono ?_
  rw [E1.out, E2.out]
  rintro e w4 ⟨rfl, hk4⟩
  go_wp2_with fail
  refine (norm_w c (by omega) (by omega) _).mono ?_
  rintro e w' ⟨rfl, rfl⟩
  go_wp2_with fail
  refine (sin_w d (by omega) (by omega) _).mono ?_
  rintro e w6 ⟨rfl, hk6⟩
  go_wp2_with fail
  refine (asin_w (sinV d) 1073741824 (by omega) (by omega) (by omega) (by omega) _).mono ?_
  rw [E3.out, E4.out]
  rintro e w7 ⟨rfl, hk7⟩
  go_wp2_with fail
  go_ret
  exact ⟨rfl, (by repeat (first | with_reducible exact Kept.refl _ | with_reducible assumption | with_reducible refine Kept.setCell ?_ (by first | (simp; done) | (simp; omega) | omega) _ | with_reducible refine Kept.alloc ?_ _ | with_reducible refine Kept.drewN ?_ _ | with_reducible refine Kept.drew ?_ | with_reducible refine Kept.trans ?_ (by with_reducible assumption) | with_reducible refine Kept.dr ?_ (by with_reducible assumption)))⟩
theorem around_w (v : Int) (h0 : -1073741824 ≤ v) (h1 : v ≤ 1073741824) (w : World) : Calls Try.prog 37 #[.int .i64 v] w fun e w' => e = .returned (.agg #[.int .i64 (v - 2), .int .i64 (v + 2)]) ∧ Kept w w' := by
  go_enter Try.func37, Try.ntmps37
  go_wp2
  exact bodyPost_ret (v := .agg #[.int .i64 (v - 2), .int .i64 (v + 2)]) (by first | (simp [results, Try.results37, go_sem]; done) | (simp (maxDischargeDepth := 7) [results, Try.results37, go_sem, *]; done)) rfl ⟨rfl, (by repeat (first | with_reducible exact Kept.refl _ | with_reducible assumption | with_reducible refine Kept.setCell ?_ (by first | (simp; done) | (simp; omega) | omega) _ | with_reducible refine Kept.alloc ?_ _ | with_reducible refine Kept.drewN ?_ _ | with_reducible refine Kept.drew ?_ | with_reducible refine Kept.trans ?_ (by with_reducible assumption) | with_reducible refine Kept.dr ?_ (by with_reducible assumption)))⟩
theorem sinin_w (a : Int) (a_0 : -9223372036854775808 ≤ a) (a_1 : a ≤ 9223372036854775807) (w : World) : Calls Try.prog 20 #[.int .i64 a] w fun e w' => e = .returned (.agg #[.int .i64 (sinV a - 2), .int .i64 (sinV a + 2)]) ∧ Kept w w' := by
  have sb := sinV_bd a
  go_enter Try.func20, Try.ntmps20
  go_wp2_with fail
  refine (sin_w a (by omega) (by omega) _).mono ?_
  rintro e w1 ⟨rfl, hk1⟩
  refine kuse (b := w.heap.size) hk1 (by first | (simp; done) | (simp; omega) | omega) ?_
  intro ha1 hb1
  have hz1 : w.heap.size < w1.heap.size := by have := hk1.size; (try simp at this); omega
  go_wp2_with fail
  refine (around_w (sinV a) (by omega) (by omega) _).mono ?_
  rintro e w2 ⟨rfl, hk2⟩
  refine kuse (b := w.heap.size) hk2 (by first | (simp; done) | (simp; omega) | omega) ?_
  intro ha2 hb2
  have hz2 : w.heap.size < w2.heap.size := by have := hk2.size; (try simp at this); omega
  go_wp2_with fail
  exact bodyPost_ret (v := .agg #[.int .i64 (sinV a - 2), .int .i64 (sinV a + 2)]) (by first | (simp [results, Try.results20, go_sem]; done) | (simp (maxDischargeDepth := 7) [results, Try.results20, go_sem, *]; done)) rfl ⟨rfl, (by repeat (first | with_reducible exact Kept.refl _ | with_reducible assumption | with_reducible refine Kept.setCell ?_ (by first | (simp; done) | (simp; omega) | omega) _ | with_reducible refine Kept.alloc ?_ _ | with_reducible refine Kept.drewN ?_ _ | with_reducible refine Kept.drew ?_ | with_reducible refine Kept.trans ?_ (by with_reducible assumption) | with_reducible refine Kept.dr ?_ (by with_reducible assumption)))⟩
theorem cosin_w (a : Int) (a_0 : -9223372036854775808 ≤ a) (a_1 : a ≤ 9223372036854775807) (w : World) : Calls Try.prog 21 #[.int .i64 a] w fun e w' => e = .returned (.agg #[.int .i64 (cosV a - 2), .int .i64 (cosV a + 2)]) ∧ Kept w w' := by
  have sb := cosV_bd a
  go_enter Try.func21, Try.ntmps21
  go_wp2_with fail
  refine (cos_w a (by omega) (by omega) _).mono ?_
  rintro e w1 ⟨rfl, hk1⟩
  refine kuse (b := w.heap.size) hk1 (by first | (simp; done) | (simp; omega) | omega) ?_
  intro ha1 hb1
  have hz1 : w.heap.size < w1.heap.size := by have := hk1.size; (try simp at this); omega
  go_wp2_with fail
  refine (around_w (cosV a) (by omega) (by omega) _).mono ?_
  rintro e w2 ⟨rfl, hk2⟩
  refine kuse (b := w.heap.size) hk2 (by first | (simp; done) | (simp; omega) | omega) ?_
  intro ha2 hb2
  have hz2 : w.heap.size < w2.heap.size := by have := hk2.size; (try simp at this); omega
  go_wp2_with fail
  exact bodyPost_ret (v := .agg #[.int .i64 (cosV a - 2), .int .i64 (cosV a + 2)]) (by first | (simp [results, Try.results21, go_sem]; done) | (simp (maxDischargeDepth := 7) [results, Try.results21, go_sem, *]; done)) rfl ⟨rfl, (by repeat (first | with_reducible exact Kept.refl _ | with_reducible assumption | with_reducible refine Kept.setCell ?_ (by first | (simp; done) | (simp; omega) | omega) _ | with_reducible refine Kept.alloc ?_ _ | with_reducible refine Kept.drewN ?_ _ | with_reducible refine Kept.drew ?_ | with_reducible refine Kept.trans ?_ (by with_reducible assumption) | with_reducible refine Kept.dr ?_ (by with_reducible assumption)))⟩
set_option maxHeartbeats 2000000 in
set_option maxRecDepth 100000 in
theorem law_intervals (a : Int) (a_0 : -9223372036854775808 ≤ a) (a_1 : a ≤ 9223372036854775807) (w : World) : Calls Try.prog 5 #[.int .i64 a] w fun e w' => e = .returned (.bool true) ∧ Kept w w' := by
  have sb := sinV_bd a
  have cb := cosV_bd a
  obtain ⟨s, hs⟩ : ∃ s, sinV a = s := ⟨_, rfl⟩
  obtain ⟨c, hc⟩ : ∃ c, cosV a = c := ⟨_, rfl⟩
  have SW := fun w => sin_w a a_0 a_1 w
  have CW := fun w => cos_w a a_0 a_1 w
  have SI := fun w => sinin_w a a_0 a_1 w
  have CI := fun w => cosin_w a a_0 a_1 w
  rw [hs] at sb
  rw [hc] at cb
  simp only [hs] at SW SI
  simp only [hc] at CW CI
  clear hs hc
  have x1 : IntKind.i64.wrap (s - 2) = s - 2 := IntWalk.i64_in _ (by omega)
  have x2 : IntKind.i64.wrap (s + 2) = s + 2 := IntWalk.i64_in _ (by omega)
  have x3 : IntKind.i64.wrap (c - 2) = c - 2 := IntWalk.i64_in _ (by omega)
  have x4 : IntKind.i64.wrap (c + 2) = c + 2 := IntWalk.i64_in _ (by omega)
  go_enter Try.func5, Try.ntmps5
  go_wp2_with fail
  refine (awake_w _).mono ?_
  rintro e w1 ⟨rfl, hk1⟩
  go_wp2_with fail
  refine (SI _).mono ?_
  rintro e w2 ⟨rfl, hk2⟩
  go_wp2_with fail
  refine (CI _).mono ?_
  rintro e w3 ⟨rfl, hk3⟩
  go_wp2_with fail
  go_region_held3 (fun W => W.cell? ⟨w3.heap.size, 0, none⟩ = some (.int .i64 (s - 2)) ∧ W.cell? ⟨w3.heap.size, 1, none⟩ = some (.int .i64 (s + 2)) ∧ W.cell? ⟨w3.heap.size + 1, 0, none⟩ = some (.int .i64 (c - 2)) ∧ W.cell? ⟨w3.heap.size + 1, 1, none⟩ = some (.int .i64 (c + 2))) (first | (go_keep; done) | (simp (maxDischargeDepth := 9) [*, World.cell?_alloc_some, World.cell?_setCell_far]; done)) (first | (go_at_call 13; (first | with_reducible refine (SW _).mono ?_); rintro e w' ⟨rfl, hk⟩; have hz := hk.size; (try (refine kuse (b := w3.heap.size) hk (by first | (simp; done) | (simp; omega) | omega) ?_; intro hq0 hg0; have hy0 : w3.heap.size < w'.heap.size := (by (try simp at hz); omega); have hn0 : ¬ w3.heap.size = w'.heap.size := (by omega); have hm0 : ¬ w3.heap.size = w'.heap.size + 1 := (by omega); refine withF (p := w'.cell? ⟨w3.heap.size, 0, none⟩ = some (.int .i64 (s - 2))) (by first | (rw [hq0]; with_reducible assumption) | (simp (maxDischargeDepth := 7) [go_sem, hq0]; done) | (simp (maxDischargeDepth := 7) [go_sem, hq0, *]; done) | fail) ?_; intro ff00; refine withF (p := w'.cell? ⟨w3.heap.size, 1, none⟩ = some (.int .i64 (s + 2))) (by first | (rw [hq0]; with_reducible assumption) | (simp (maxDischargeDepth := 7) [go_sem, hq0]; done) | (simp (maxDischargeDepth := 7) [go_sem, hq0, *]; done) | fail) ?_; intro ff01)); (try (refine kuse (b := w3.heap.size + 1) hk (by first | (simp; done) | (simp; omega) | omega) ?_; intro hq1 hg1; have hy1 : w3.heap.size + 1 < w'.heap.size := (by (try simp at hz); omega); have hn1 : ¬ w3.heap.size + 1 = w'.heap.size := (by omega); have hm1 : ¬ w3.heap.size + 1 = w'.heap.size + 1 := (by omega); refine withF (p := w'.cell? ⟨w3.heap.size + 1, 0, none⟩ = some (.int .i64 (c - 2))) (by first | (rw [hq1]; with_reducible assumption) | (simp (maxDischargeDepth := 7) [go_sem, hq1]; done) | (simp (maxDischargeDepth := 7) [go_sem, hq1, *]; done) | fail) ?_; intro ff10; refine withF (p := w'.cell? ⟨w3.heap.size + 1, 1, none⟩ = some (.int .i64 (c + 2))) (by first | (rw [hq1]; with_reducible assumption) | (simp (maxDischargeDepth := 7) [go_sem, hq1]; done) | (simp (maxDischargeDepth := 7) [go_sem, hq1, *]; done) | fail) ?_; intro ff11))) | (go_at_call 15; (first | with_reducible refine (CW _).mono ?_); rintro e w' ⟨rfl, hk⟩; have hz := hk.size; (try (refine kuse (b := w3.heap.size) hk (by first | (simp; done) | (simp; omega) | omega) ?_; intro hq0 hg0; have hy0 : w3.heap.size < w'.heap.size := (by (try simp at hz); omega); have hn0 : ¬ w3.heap.size = w'.heap.size := (by omega); have hm0 : ¬ w3.heap.size = w'.heap.size + 1 := (by omega); refine withF (p := w'.cell? ⟨w3.heap.size, 0, none⟩ = some (.int .i64 (s - 2))) (by first | (rw [hq0]; with_reducible assumption) | (simp (maxDischargeDepth := 7) [go_sem, hq0]; done) | (simp (maxDischargeDepth := 7) [go_sem, hq0, *]; done) | fail) ?_; intro ff00; refine withF (p := w'.cell? ⟨w3.heap.size, 1, none⟩ = some (.int .i64 (s + 2))) (by first | (rw [hq0]; with_reducible assumption) | (simp (maxDischargeDepth := 7) [go_sem, hq0]; done) | (simp (maxDischargeDepth := 7) [go_sem, hq0, *]; done) | fail) ?_; intro ff01)); (try (refine kuse (b := w3.heap.size + 1) hk (by first | (simp; done) | (simp; omega) | omega) ?_; intro hq1 hg1; have hy1 : w3.heap.size + 1 < w'.heap.size := (by (try simp at hz); omega); have hn1 : ¬ w3.heap.size + 1 = w'.heap.size := (by omega); have hm1 : ¬ w3.heap.size + 1 = w'.heap.size + 1 := (by omega); refine withF (p := w'.cell? ⟨w3.heap.size + 1, 0, none⟩ = some (.int .i64 (c - 2))) (by first | (rw [hq1]; with_reducible assumption) | (simp (maxDischargeDepth := 7) [go_sem, hq1]; done) | (simp (maxDischargeDepth := 7) [go_sem, hq1, *]; done) | fail) ?_; intro ff10; refine withF (p := w'.cell? ⟨w3.heap.size + 1, 1, none⟩ = some (.int .i64 (c + 2))) (by first | (rw [hq1]; with_reducible assumption) | (simp (maxDischargeDepth := 7) [go_sem, hq1]; done) | (simp (maxDischargeDepth := 7) [go_sem, hq1, *]; done) | fail) ?_; intro ff11))))
  all_goals go_wp2_with fail
  all_goals go_ret
  all_goals exact ⟨rfl, (by repeat (first | with_reducible exact Kept.refl _ | with_reducible assumption | with_reducible refine Kept.setCell ?_ (by first | (simp; done) | (simp; omega) | omega) _ | with_reducible refine Kept.alloc ?_ _ | with_reducible refine Kept.drewN ?_ _ | with_reducible refine Kept.drew ?_ | with_reducible refine Kept.trans ?_ (by with_reducible assumption) | with_reducible refine Kept.dr ?_ (by with_reducible assumption)))⟩
theorem sinV_le (a b : Int) (h0 : -32400000 ≤ a) (h : a ≤ b) (h1 : b ≤ 32400000) : sinV a ≤ sinV b := by
  have pos : ∀ c, 0 ≤ c → c ≤ 32400000 → sinV c = qsn c := fun c g0 g1 => sinV_q c g0 g1
  have neg : ∀ c, -32400000 ≤ c → c ≤ 0 → sinV c = -qsn (-c) := fun c g0 g1 => by
    have e0 := sin_neg (-c) (by omega) (by omega)
    rw [Int.neg_neg] at e0
    rw [e0, sinV_q (-c) (by omega) (by omega)]
  rcases Int.le_total 0 a with ha | ha
  · rw [pos a ha (by omega), pos b (by omega) h1]; exact qsn_le a b ha h h1
  · rcases Int.le_total 0 b with hb | hb
    · have := qsn_bd (-a) (by omega) (by omega)
      have := qsn_bd b hb h1
      rw [neg a h0 ha, pos b hb h1]; omega
    · have := qsn_le (-b) (-a) (by omega) (by omega) (by omega)
      rw [neg a h0 ha, neg b (by omega) hb]; omega
theorem sinV_lt (a b : Int) (h0 : -16200000 ≤ a) (h : a < b) (h1 : b ≤ 16200000) : sinV a < sinV b := by
  have pos : ∀ c, 0 ≤ c → c ≤ 32400000 → sinV c = qsn c := fun c g0 g1 => sinV_q c g0 g1
  have neg : ∀ c, -32400000 ≤ c → c ≤ 0 → sinV c = -qsn (-c) := fun c g0 g1 => by
    have e0 := sin_neg (-c) (by omega) (by omega)
    rw [Int.neg_neg] at e0
    rw [e0, sinV_q (-c) (by omega) (by omega)]
  rcases Int.le_total 0 a with ha | ha
  · rw [pos a ha (by omega), pos b (by omega) (by omega)]; exact qsn_lt a b ha (by omega) h (by omega)
  · rcases Int.le_total 0 b with hb | hb
    · have g1 := qsn_bd (-a) (by omega) (by omega)
      have g2 := qsn_bd b hb (by omega)
      rw [neg a (by omega) ha, pos b hb (by omega)]
      by_cases hz : a = 0
      · have := qsn_pos b (by omega) (by omega); omega
      · have := qsn_pos (-a) (by omega) (by omega); omega
    · have := qsn_lt (-b) (-a) (by omega) (by omega) (by omega) (by omega)
      rw [neg a (by omega) ha, neg b (by omega) hb]; omega
set_option maxHeartbeats 2000000 in
set_option maxRecDepth 100000 in
theorem law_rises (a b : Int) (a_0 : -9223372036854775808 ≤ a) (a_1 : a ≤ 9223372036854775807) (b_0 : -9223372036854775808 ≤ b) (b_1 : b ≤ 9223372036854775807) (w : World) : Calls Try.prog 8 #[.int .i64 a, .int .i64 b] w fun e w' => e = .returned (.bool true) ∧ Kept w w' := by
  obtain ⟨p, hp⟩ : ∃ p, a.tmod 32400001 = p := ⟨_, rfl⟩
  have p0 : -32400000 ≤ p := by have := Int.lt_tmod_of_pos a (show (0 : Int) < 32400001 by omega); omega
  have p1 : p ≤ 32400000 := by have := Int.tmod_lt_of_pos a (show (0 : Int) < 32400001 by omega); omega
  obtain ⟨q, hq⟩ : ∃ p, b.tmod 32400001 = p := ⟨_, rfl⟩
  have q0 : -32400000 ≤ q := by have := Int.lt_tmod_of_pos b (show (0 : Int) < 32400001 by omega); omega
  have q1 : q ≤ 32400000 := by have := Int.tmod_lt_of_pos b (show (0 : Int) < 32400001 by omega); omega
  rcases Int.lt_trichotomy p q with h | h | h
  · by_cases c1 : p < -16200000
    · have e : (p == q) = false := by (simp; omega)
      have g := sinV_le p q (by omega) (by omega) (by omega)
      have ng : ¬ sinV p > sinV q := by omega
      go_enter Try.func8, Try.ntmps8
      go_wp2_with fail
      refine (awake_w _).mono ?_
      rintro e w1 ⟨rfl, hk1⟩
      go_wp2_with fail
      refine (sin_w p (by omega) (by omega) _).mono ?_
      rintro e w2 ⟨rfl, hk2⟩
      go_wp2_with fail
      refine (sin_w q (by omega) (by omega) _).mono ?_
      rintro e w3 ⟨rfl, hk3⟩
      go_wp2_with fail
      all_goals first | (go_ret; exact ⟨rfl, (by repeat (first | with_reducible exact Kept.refl _ | with_reducible assumption | with_reducible refine Kept.setCell ?_ (by first | (simp; done) | (simp; omega) | omega) _ | with_reducible refine Kept.alloc ?_ _ | with_reducible refine Kept.drewN ?_ _ | with_reducible refine Kept.drew ?_ | with_reducible refine Kept.trans ?_ (by with_reducible assumption) | with_reducible refine Kept.dr ?_ (by with_reducible assumption)))⟩) | (exfalso; omega)
    by_cases c2 : 16200000 < q
    · have e : (p == q) = false := by (simp; omega)
      have g := sinV_le p q (by omega) (by omega) (by omega)
      have ng : ¬ sinV p > sinV q := by omega
      go_enter Try.func8, Try.ntmps8
      go_wp2_with fail
      refine (awake_w _).mono ?_
      rintro e w1 ⟨rfl, hk1⟩
      go_wp2_with fail
      refine (sin_w p (by omega) (by omega) _).mono ?_
      rintro e w2 ⟨rfl, hk2⟩
      go_wp2_with fail
      refine (sin_w q (by omega) (by omega) _).mono ?_
      rintro e w3 ⟨rfl, hk3⟩
      go_wp2_with fail
      all_goals first | (go_ret; exact ⟨rfl, (by repeat (first | with_reducible exact Kept.refl _ | with_reducible assumption | with_reducible refine Kept.setCell ?_ (by first | (simp; done) | (simp; omega) | omega) _ | with_reducible refine Kept.alloc ?_ _ | with_reducible refine Kept.drewN ?_ _ | with_reducible refine Kept.drew ?_ | with_reducible refine Kept.trans ?_ (by with_reducible assumption) | with_reducible refine Kept.dr ?_ (by with_reducible assumption)))⟩) | (exfalso; omega)
    · have e : (p == q) = false := by (simp; omega)
      have g := sinV_le p q (by omega) (by omega) (by omega)
      have ng : ¬ sinV p > sinV q := by omega
      have l := sinV_lt p q (by omega) (by omega) (by omega)
      clear g
      go_enter Try.func8, Try.ntmps8
      go_wp2_with fail
      refine (awake_w _).mono ?_
      rintro e w1 ⟨rfl, hk1⟩
      go_wp2_with fail
      refine (sin_w p (by omega) (by omega) _).mono ?_
      rintro e w2 ⟨rfl, hk2⟩
      go_wp2_with fail
      refine (sin_w q (by omega) (by omega) _).mono ?_
      rintro e w3 ⟨rfl, hk3⟩
      go_wp2_with fail
      refine (sin_w p (by omega) (by omega) _).mono ?_
      rintro e w4 ⟨rfl, hk4⟩
      go_wp2_with fail
      refine (sin_w q (by omega) (by omega) _).mono ?_
      rintro e w5 ⟨rfl, hk5⟩
      go_wp2_with fail
      all_goals first | (go_ret; exact ⟨rfl, (by repeat (first | with_reducible exact Kept.refl _ | with_reducible assumption | with_reducible refine Kept.setCell ?_ (by first | (simp; done) | (simp; omega) | omega) _ | with_reducible refine Kept.alloc ?_ _ | with_reducible refine Kept.drewN ?_ _ | with_reducible refine Kept.drew ?_ | with_reducible refine Kept.trans ?_ (by with_reducible assumption) | with_reducible refine Kept.dr ?_ (by with_reducible assumption)))⟩) | (exfalso; omega)
  · subst h
    have e : (p == p) = true := by simp
    have g := sinV_le p p (by omega) (by omega) (by omega)
    have ng : ¬ sinV p > sinV p := by omega
    go_enter Try.func8, Try.ntmps8
    go_wp2_with fail
    refine (awake_w _).mono ?_
    rintro e w1 ⟨rfl, hk1⟩
    go_wp2_with fail
    refine (sin_w p (by omega) (by omega) _).mono ?_
    rintro e w2 ⟨rfl, hk2⟩
    go_wp2_with fail
    refine (sin_w p (by omega) (by omega) _).mono ?_
    rintro e w3 ⟨rfl, hk3⟩
    go_wp2_with fail
    all_goals first | (go_ret; exact ⟨rfl, (by repeat (first | with_reducible exact Kept.refl _ | with_reducible assumption | with_reducible refine Kept.setCell ?_ (by first | (simp; done) | (simp; omega) | omega) _ | with_reducible refine Kept.alloc ?_ _ | with_reducible refine Kept.drewN ?_ _ | with_reducible refine Kept.drew ?_ | with_reducible refine Kept.trans ?_ (by with_reducible assumption) | with_reducible refine Kept.dr ?_ (by with_reducible assumption)))⟩) | (exfalso; omega)
  · by_cases c1 : q < -16200000
    · have e : (q == p) = false := by (simp; omega)
      have g := sinV_le q p (by omega) (by omega) (by omega)
      have ng : ¬ sinV q > sinV p := by omega
      go_enter Try.func8, Try.ntmps8
      go_wp2_with fail
      refine (awake_w _).mono ?_
      rintro e w1 ⟨rfl, hk1⟩
      go_wp2_with fail
      refine (sin_w q (by omega) (by omega) _).mono ?_
      rintro e w2 ⟨rfl, hk2⟩
      go_wp2_with fail
      refine (sin_w p (by omega) (by omega) _).mono ?_
      rintro e w3 ⟨rfl, hk3⟩
      go_wp2_with fail
      all_goals first | (go_ret; exact ⟨rfl, (by repeat (first | with_reducible exact Kept.refl _ | with_reducible assumption | with_reducible refine Kept.setCell ?_ (by first | (simp; done) | (simp; omega) | omega) _ | with_reducible refine Kept.alloc ?_ _ | with_reducible refine Kept.drewN ?_ _ | with_reducible refine Kept.drew ?_ | with_reducible refine Kept.trans ?_ (by with_reducible assumption) | with_reducible refine Kept.dr ?_ (by with_reducible assumption)))⟩) | (exfalso; omega)
    by_cases c2 : 16200000 < p
    · have e : (q == p) = false := by (simp; omega)
      have g := sinV_le q p (by omega) (by omega) (by omega)
      have ng : ¬ sinV q > sinV p := by omega
      go_enter Try.func8, Try.ntmps8
      go_wp2_with fail
      refine (awake_w _).mono ?_
      rintro e w1 ⟨rfl, hk1⟩
      go_wp2_with fail
      refine (sin_w q (by omega) (by omega) _).mono ?_
      rintro e w2 ⟨rfl, hk2⟩
      go_wp2_with fail
      refine (sin_w p (by omega) (by omega) _).mono ?_
      rintro e w3 ⟨rfl, hk3⟩
      go_wp2_with fail
      all_goals first | (go_ret; exact ⟨rfl, (by repeat (first | with_reducible exact Kept.refl _ | with_reducible assumption | with_reducible refine Kept.setCell ?_ (by first | (simp; done) | (simp; omega) | omega) _ | with_reducible refine Kept.alloc ?_ _ | with_reducible refine Kept.drewN ?_ _ | with_reducible refine Kept.drew ?_ | with_reducible refine Kept.trans ?_ (by with_reducible assumption) | with_reducible refine Kept.dr ?_ (by with_reducible assumption)))⟩) | (exfalso; omega)
    · have e : (q == p) = false := by (simp; omega)
      have g := sinV_le q p (by omega) (by omega) (by omega)
      have ng : ¬ sinV q > sinV p := by omega
      have l := sinV_lt q p (by omega) (by omega) (by omega)
      clear g
      go_enter Try.func8, Try.ntmps8
      go_wp2_with fail
      refine (awake_w _).mono ?_
      rintro e w1 ⟨rfl, hk1⟩
      go_wp2_with fail
      refine (sin_w q (by omega) (by omega) _).mono ?_
      rintro e w2 ⟨rfl, hk2⟩
      go_wp2_with fail
      refine (sin_w p (by omega) (by omega) _).mono ?_
      rintro e w3 ⟨rfl, hk3⟩
      go_wp2_with fail
      refine (sin_w q (by omega) (by omega) _).mono ?_
      rintro e w4 ⟨rfl, hk4⟩
      go_wp2_with fail
      refine (sin_w p (by omega) (by omega) _).mono ?_
      rintro e w5 ⟨rfl, hk5⟩
      go_wp2_with fail
      all_goals first | (go_ret; exact ⟨rfl, (by repeat (first | with_reducible exact Kept.refl _ | with_reducible assumption | with_reducible refine Kept.setCell ?_ (by first | (simp; done) | (simp; omega) | omega) _ | with_reducible refine Kept.alloc ?_ _ | with_reducible refine Kept.drewN ?_ _ | with_reducible refine Kept.drew ?_ | with_reducible refine Kept.trans ?_ (by with_reducible assumption) | with_reducible refine Kept.dr ?_ (by with_reducible assumption)))⟩) | (exfalso; omega)
theorem at2_quad (y x : Int) (y0 : -2147483647 ≤ y) (y1 : y ≤ 2147483647) (x0 : -2147483647 ≤ x) (x1 : x ≤ 2147483647) (hy : y ≠ 0) (hx : x ≠ 0) :
    0 ≤ at2V y x ∧ at2V y x < 129600000 ∧ at2V (-y) x = nrm (-at2V y x) ∧ at2V y (-x) = nrm (64800000 - at2V y x) ∧ at2V x y = nrm (32400000 - at2V y x) ∧ at2E y x = 0 ∧ at2E (-y) x = 0 ∧ at2E y (-x) = 0 ∧ at2E x y = 0 := by
  have s1 := smB_of y y0 y1
  have s2 := smB_of x x0 x1
  have s3 := smB_of (-y) (by omega) (by omega)
  have s4 := smB_of (-x) (by omega) (by omega)
  obtain ⟨a1, a2⟩ := at2_good y x s1 s2 (by omega)
  obtain ⟨b1, b2⟩ := at2_good (-y) x s3 s2 (by omega)
  obtain ⟨c1, c2⟩ := at2_good y (-x) s1 s4 (by omega)
  obtain ⟨d1, d2⟩ := at2_good x y s2 s1 (by omega)
  have q2 : at2Q (-y) x = at2Q y x := at2Q_iabs _ _ _ _ (iabs_flip y) rfl
  have q3 : at2Q y (-x) = at2Q y x := at2Q_iabs _ _ _ _ rfl (iabs_flip x)
  have q4 : at2Q x y = 32400000 - at2Q y x := by
    unfold at2Q
    rcases Int.lt_trichotomy (iabs y) (iabs x) with h | h | h
    · rw [if_pos h, if_neg (by omega)]
    · rw [h, if_neg (by omega), les_self _ (by unfold iabs; split <;> omega)]; rfl
    · rw [if_neg (by omega), if_pos h]; omega
  obtain ⟨q0, q1⟩ := at2Q_bd y x
  rw [q2] at b2
  rw [q3] at c2
  rw [q4] at d2
  generalize at2Q y x = q at *
  rw [a2, b2, c2, d2]
  clear a2 b2 c2 d2 q2 q3 q4 s1 s2 s3 s4
  refine ⟨?_, ?_, ?_, ?_, ?_, a1, b1, c1, d1⟩
  all_goals
    clear a1 b1 c1 d1
    unfold nrm
    (repeat' split) <;> omega
theorem as_quad (y r : Int) (h1 : 1 ≤ r) (h2 : r ≤ 2147483647) (h3 : y ≤ r) (h4 : -r ≤ y) (hy : y ≠ 0) : asV (-y) r = -asV y r ∧ asE y r = 0 ∧ asE (-y) r = 0 ∧ -32400000 ≤ asV y r ∧ asV y r ≤ 32400000 := by
  have k1 := asn_bd y r
  have k2 := asn_bd (-y) r
  have n1 : ¬ r < 1 := by omega
  have n2 : ¬ (2147483647 < r ∨ r < y ∨ y < -r) := by omega
  have n3 : ¬ (2147483647 < r ∨ r < -y ∨ -y < -r) := by omega
  unfold asV asE
  simp only [if_neg n1, if_neg n2, if_neg n3]
  by_cases h : y < 0
  · simp only [if_neg (show ¬ -y < 0 by omega), if_pos h]; refine ⟨?_, ?_, ?_, ?_, ?_⟩ <;> first | trivial | rfl | omega
  · simp only [if_pos (show -y < 0 by omega), if_neg h, Int.neg_neg]; refine ⟨?_, ?_, ?_, ?_, ?_⟩ <;> first | trivial | rfl | omega
def mx4 (x y z u : Int) : Int := max (max (max x y) z) u
theorem run_max4 {P : Program} {w : World} (ts : Array TypeId) (t : TypeId) (x y z u : Int) : (Builtin.max_ ts t #[.int .i64 x, .int .i64 y, .int .i64 z, .int .i64 u]).run P w = .ok (.int .i64 (mx4 x y z u)) w := by
  have h : ∀ a b : Int, (if b > a then b else a) = max a b := fun a b => by split <;> omega
  simp [Builtin.max_, Builtin.max2, mx4, h]
set_option maxHeartbeats 2000000 in
set_option maxRecDepth 100000 in
theorem law_quadrants (y x : Int) (y_0 : -9223372036854775808 ≤ y) (y_1 : y ≤ 9223372036854775807) (x_0 : -9223372036854775808 ≤ x) (x_1 : x ≤ 9223372036854775807) (w : World) : Calls Try.prog 11 #[.int .i64 y, .int .i64 x] w fun e w' => e = .returned (.bool true) ∧ Kept w w' := by
  obtain ⟨p, hp⟩ : ∃ p, y.tmod 2147483648 = p := ⟨_, rfl⟩
  have p0 : -2147483647 ≤ p := by have := Int.lt_tmod_of_pos y (show (0 : Int) < 2147483648 by omega); omega
  have p1 : p ≤ 2147483647 := by have := Int.tmod_lt_of_pos y (show (0 : Int) < 2147483648 by omega); omega
  obtain ⟨q, hq⟩ : ∃ p, x.tmod 2147483648 = p := ⟨_, rfl⟩
  have q0 : -2147483647 ≤ q := by have := Int.lt_tmod_of_pos x (show (0 : Int) < 2147483648 by omega); omega
  have q1 : q ≤ 2147483647 := by have := Int.tmod_lt_of_pos x (show (0 : Int) < 2147483648 by omega); omega
  obtain ⟨bq, hq0⟩ : ∃ b, (q == 0) = b := ⟨_, rfl⟩
  obtain ⟨bp, hp0⟩ : ∃ b, (p == 0) = b := ⟨_, rfl⟩
  cases bq
  · cases bp
    · obtain ⟨a0, a1, e1, e2, e3, f1, f2, f3, f4⟩ := at2_quad p q p0 p1 q0 q1 (by simpa using hp0) (by simpa using hq0)
      obtain ⟨R, hR⟩ : ∃ R, mx4 p (-p) q (-q) = R := ⟨_, rfl⟩
      have hp1 : p ≠ 0 := by simpa using hp0
      have hR' := hR
      unfold mx4 at hR'
      obtain ⟨g1, g2, g3, g4, g5⟩ := as_quad p R (by omega) (by omega) (by omega) (by omega) hp1
      have R0 : 1 ≤ R := by omega
      have R1 : R ≤ 2147483647 := by omega
      clear hR'
      obtain ⟨A, hA⟩ : ∃ A, at2V p q = A := ⟨_, rfl⟩
      rw [hA] at a0 a1 e1 e2 e3
      obtain ⟨U, hU⟩ : ∃ A, asV p R = A := ⟨_, rfl⟩
      rw [hU] at g1 g4 g5
      have n1 := nrm_bd (-A); have n2 := nrm_bd (64800000 - A); have n3 := nrm_bd (32400000 - A)
      have mxl : ∀ (ts : Array TypeId) (ty : TypeId) (w : World), (Builtin.max_ ts ty #[.int .i64 p, .int .i64 (-p), .int .i64 q, .int .i64 (-q)]).run Try.prog w = .ok (.int .i64 R) w := fun ts ty w => by rw [← hR]; exact run_max4 ts ty p (-p) q (-q)
      have E0 := Lib.hid hA
      have E1 := Lib.hid f1
      have E2 := Lib.hid e1
      have E3 := Lib.hid f2
      have E4 := Lib.hid e2
      have E5 := Lib.hid f3
      have E6 := Lib.hid e3
      have E7 := Lib.hid f4
      have E8 := Lib.hid hU
      have E9 := Lib.hid g2
      have E10 := Lib.hid g1
      have E11 := Lib.hid g3
      clear hA f1 e1 f2 e2 f3 e3 f4 hU g2 g1 g3 hR hp1
      go_enter Try.func11, Try.ntmps11
      go_wp2_with fail
      refine (awake_w _).mono ?_
      rintro e w1 ⟨rfl, hk1⟩
      go_wp2_with fail
      refine (atan2_w p q (by omega) (by omega) (by omega) (by omega) _).mono ?_
      rw [E0.out, E1.out]
      rintro e w2 ⟨rfl, hk2⟩
      go_wp2_with fail
      refine (atan2_w (-p) q (by omega) (by omega) (by omega) (by omega) _).mono ?_
      rw [E2.out, E3.out]
      rintro e w3 ⟨rfl, hk3⟩
      go_wp2_with fail
      refine (atan2_w p (-q) (by omega) (by omega) (by omega) (by omega) _).mono ?_
      rw [E4.out, E5.out]
      rintro e w4 ⟨rfl, hk4⟩
      go_wp2_with fail
      refine (atan2_w q p (by omega) (by omega) (by omega) (by omega) _).mono ?_
      rw [E6.out, E7.out]
      rintro e w5 ⟨rfl, hk5⟩
      go_wp2_with fail
      refine (norm_w (-A) (by omega) (by omega) _).mono ?_
      rintro e w' ⟨rfl, rfl⟩
      go_wp2_with fail
      refine (norm_w (64800000 - A) (by omega) (by omega) _).mono ?_
      rintro e w' ⟨rfl, rfl⟩
      go_wp2_with fail
      refine (norm_w (32400000 - A) (by omega) (by omega) _).mono ?_
      rintro e w' ⟨rfl, rfl⟩
      go_wp2_with fail
      refine (asin_w p R (by omega) (by omega) (by omega) (by omega) _).mono ?_
      rw [E8.out, E9.out]
      rintro e w9 ⟨rfl, hk9⟩
      go_wp2_with fail
      refine (asin_w (-p) R (by omega) (by omega) (by omega) (by omega) _).mono ?_
      rw [E10.out, E11.out]
      rintro e w10 ⟨rfl, hk10⟩
      go_wp2_with fail
      go_ret
      exact ⟨rfl, (by repeat (first | with_reducible exact Kept.refl _ | with_reducible assumption | with_reducible refine Kept.setCell ?_ (by first | (simp; done) | (simp; omega) | omega) _ | with_reducible refine Kept.alloc ?_ _ | with_reducible refine Kept.drewN ?_ _ | with_reducible refine Kept.drew ?_ | with_reducible refine Kept.trans ?_ (by with_reducible assumption) | with_reducible refine Kept.dr ?_ (by with_reducible assumption)))⟩
    · have z1 : at2V 0 0 = 0 := by decide
      have z2 : at2E 0 0 = 1 := by decide
      have Z1 := Lib.hid z1; have Z2 := Lib.hid z2
      clear z1 z2
      go_enter Try.func11, Try.ntmps11
      go_wp2_with fail
      refine (awake_w _).mono ?_
      rintro e w1 ⟨rfl, hk1⟩
      go_wp2_with fail
      refine (atan2_w 0 0 (by omega) (by omega) (by omega) (by omega) _).mono ?_
      rw [Z1.out, Z2.out]
      rintro e w2 ⟨rfl, hk2⟩
      go_wp2_with fail
      go_ret
      exact ⟨rfl, (by repeat (first | with_reducible exact Kept.refl _ | with_reducible assumption | with_reducible refine Kept.setCell ?_ (by first | (simp; done) | (simp; omega) | omega) _ | with_reducible refine Kept.alloc ?_ _ | with_reducible refine Kept.drewN ?_ _ | with_reducible refine Kept.drew ?_ | with_reducible refine Kept.trans ?_ (by with_reducible assumption) | with_reducible refine Kept.dr ?_ (by with_reducible assumption)))⟩
  · have z1 : at2V 0 0 = 0 := by decide
    have z2 : at2E 0 0 = 1 := by decide
    have Z1 := Lib.hid z1; have Z2 := Lib.hid z2
    clear z1 z2
    go_enter Try.func11, Try.ntmps11
    go_wp2_with fail
    refine (awake_w _).mono ?_
    rintro e w1 ⟨rfl, hk1⟩
    go_wp2_with fail
    refine (atan2_w 0 0 (by omega) (by omega) (by omega) (by omega) _).mono ?_
    rw [Z1.out, Z2.out]
    rintro e w2 ⟨rfl, hk2⟩
    go_wp2_with fail
    go_ret
    exact ⟨rfl, (by repeat (first | with_reducible exact Kept.refl _ | with_reducible assumption | with_reducible refine Kept.setCell ?_ (by first | (simp; done) | (simp; omega) | omega) _ | with_reducible refine Kept.alloc ?_ _ | with_reducible refine Kept.drewN ?_ _ | with_reducible refine Kept.drew ?_ | with_reducible refine Kept.trans ?_ (by with_reducible assumption) | with_reducible refine Kept.dr ?_ (by with_reducible assumption)))⟩

end Go.Proofs.Ytknagaaahogpkaa
