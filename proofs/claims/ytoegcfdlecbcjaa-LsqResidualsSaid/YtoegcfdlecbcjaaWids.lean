/-
  Own contracts: the document's answers of layer 2: products.
-/
import Derived.Test.YtoegcfdlecbcjaaWidr
import Derived.WalkKit
import Derived.ProofKit
import Derived.OpenShut
import Derived.WalkLawsBesides
import Derived.WalkSpells
import Derived.Lib.Hide
import Derived.Deep.DeepCutAuto
import Derived.Deep.CutBlock
import Derived.Deep.QuietTactic
import Derived.BigQuiet
import Derived.Handy
import Derived.StillTailTactics
import Derived.IntWalk
import Derived.LoopN
import Derived.Deep.RegionHeld3
namespace Go.Proofs.Ytoegcfdlecbcjaa
open Go.ChangeShapes Go.WideShapes Go.ChangeAt Go.RowKit
set_option linter.unusedVariables false
set_option linter.unusedSimpArgs false

theorem ref_mag_w (a : Int) (h0 : -9223372036854775808 ≤ a) (h1 : a ≤ 9223372036854775807) (w : World) : Calls Try.prog 62 #[.int .i64 a] w fun e w' => e = .returned (.int .u64 (wmag a)) ∧ w = w' := by
  have e : wmag a = (a.natAbs : Int) := by unfold wmag; split <;> omega
  rw [e]; exact ref_size_w a h0 h1 w
theorem ref_prod_w (a b H L : Int) (a0 : 0 ≤ a) (a1 : a ≤ 18446744073709551615) (b0 : 0 ≤ b) (b1 : b ≤ 18446744073709551615) (hH : a * b / 18446744073709551616 = H) (hL : a * b % 18446744073709551616 = L) (w : World) : Calls Try.prog 63 #[.int .u64 a, .int .u64 b] w fun e w' => e = .returned (.tuple #[.int .u64 H, .int .u64 L]) ∧ w = w' := by
  subst hH hL; exact ref_product_w a b a0 a1 b0 b1 w
theorem wmul_bd (a b : Int) (a_0 : -9223372036854775808 ≤ a) (a_1 : a ≤ 9223372036854775807) (b_0 : -9223372036854775808 ≤ b) (b_1 : b ≤ 9223372036854775807) : wfit (a * b) = true ∧ wval (a * b) = a * b := by
  have := sgn_bd a b a_0 a_1 b_0 b_1
  exact wfit_yes (by omega) (by omega)
theorem sgd_mul' (u a : Int) : sgd (wqn u a) (wmag u * wmag a) = u * a := by
  unfold wqn sgd wmag
  by_cases h : u < 0 <;> by_cases k : a < 0 <;> simp [h, k, Int.neg_mul, Int.mul_neg]
theorem mag_mul' (m n mh ml N : Int) (hm : m = mh * 18446744073709551616 + ml) (hN : n = N) : m * n = (mh * N) * 18446744073709551616 + ml * N := by
  subst hN; rw [hm, Int.add_mul, Int.mul_right_comm]
theorem mul_far' (u a : Int) (h : 340282366920938463463374607431768211456 ≤ wmag u * wmag a) : u * a < -170141183460469231731687303715884105728 ∨ 170141183460469231731687303715884105728 ≤ u * a := by
  have := sgd_mul' u a
  rw [← this]
  unfold sgd
  split <;> omega
set_option maxHeartbeats 2000000 in
set_option maxRecDepth 100000 in
theorem refw_mul_w (a b : Int) (a_0 : -9223372036854775808 ≤ a) (a_1 : a ≤ 9223372036854775807) (b_0 : -9223372036854775808 ≤ b) (b_1 : b ≤ 9223372036854775807) (w : World) : Calls Try.prog 44 #[.int .i64 a, .int .i64 b] w fun e w' => e = .returned (.agg #[.int .i64 (wh (a * b)), .int .u64 (wl (a * b))]) ∧ Kept w w' := by
  have na := ref_mag_w a a_0 a_1
  have nb := ref_mag_w b b_0 b_1
  have ma : 0 ≤ wmag a ∧ wmag a ≤ 9223372036854775808 := by unfold wmag; split <;> omega
  have mb : 0 ≤ wmag b ∧ wmag b ≤ 9223372036854775808 := by unfold wmag; split <;> omega
  obtain ⟨p0, p1⟩ := le_mul (wmag a) (wmag b) 9223372036854775808 9223372036854775808 ma.1 ma.2 mb.1 mb.2
  have SG := sgd_mul' a b
  obtain ⟨N, hN⟩ : ∃ N, wqn a b = N := ⟨_, rfl⟩
  have FY := wmul_bd a b a_0 a_1 b_0 b_1
  have NP := ref_prod_w (wmag a) (wmag b) _ _ ma.1 (by omega) mb.1 (by omega) rfl rfl
  have NS := ref_signed_w (wmag a * wmag b) (by omega) (by omega) (wqn a b)
  rw [SG, FY.1, FY.2] at NS
  rw [hN] at NS
  have hN2 : (!(decide (a < 0) == decide (b < 0))) = N := by rw [← hN]; rfl
  have w1 : wh (wmag a * wmag b) = wmag a * wmag b / 18446744073709551616 := rfl
  have w2 : wl (wmag a * wmag b) = wmag a * wmag b % 18446744073709551616 := rfl
  rw [w1, w2] at NS
  have HA := Lib.hid na
  have HB := Lib.hid nb
  have HP := Lib.hid NP
  have HS := Lib.hid NS
  clear na nb NP NS SG FY hN w1 w2
  generalize wmag a * wmag b / 18446744073709551616 = H at *
  generalize wmag a * wmag b % 18446744073709551616 = L at *
  generalize wmag a = X at *
  generalize wmag b = Y at *
  clear p0 p1
  go_enter Try.func44, Try.ntmps44
  go_wp2_with fail
  with_reducible refine (HA.out _).mono ?_
  rintro e w' ⟨rfl, rfl⟩
  go_wp2_with fail
  with_reducible refine (HB.out _).mono ?_
  rintro e w' ⟨rfl, rfl⟩
  go_wp2_with fail
  with_reducible refine (HP.out _).mono ?_
  rintro e w' ⟨rfl, rfl⟩
  go_wp2_with fail
  with_reducible refine (HS.out _).mono ?_
  rintro e w1 ⟨rfl, hk1⟩
  refine kuse (b := w.heap.size) hk1 (by first | (simp; done) | (simp; omega) | omega) ?_
  intro ha hb
  have hz1_0 : w.heap.size < w1.heap.size := by have := hk1.size; (try simp at this); omega
  have hn1_0 : ¬ w.heap.size = w1.heap.size := by omega
  have hm1_0 : ¬ w1.heap.size = w.heap.size := by omega
  have hf1_0_0 : w1.cell? ⟨w.heap.size, 0, none⟩ = some (.int .i64 0) := by first | (rw [ha]; with_reducible assumption) | (simp (maxDischargeDepth := 7) [go_sem, ha]; done) | (rw [ha]; assumption) | (simp (maxDischargeDepth := 7) [go_sem, ha, *]; done)
  have hf1_0_1 : w1.cell? ⟨w.heap.size, 1, none⟩ = some (.int .u64 0) := by first | (rw [ha]; with_reducible assumption) | (simp (maxDischargeDepth := 7) [go_sem, ha]; done) | (rw [ha]; assumption) | (simp (maxDischargeDepth := 7) [go_sem, ha, *]; done)
  try have hg1_0 : ∀ o, w1.frozen? ⟨w.heap.size, o, none⟩ = false := by intro o; first | (simp (maxDischargeDepth := 7) [go_sem, hb]; done) | (rw [hb]; simp (maxDischargeDepth := 7) [go_sem, *]; done)
  clear ha hb
  go_wp2_with fail
  all_goals exact bodyPost_ret (v := .agg #[.int .i64 (wh (a * b)), .int .u64 (wl (a * b))]) (by first | (simp [results, Try.results44, go_sem]; done) | (simp (maxDischargeDepth := 7) [results, Try.results44, go_sem, *]; done)) rfl ⟨rfl, (by repeat (first | with_reducible exact Kept.refl _ | with_reducible assumption | with_reducible refine Kept.setCell ?_ (by first | (simp; done) | (simp; omega) | omega) _ | with_reducible refine Kept.alloc ?_ _ | with_reducible refine Kept.drewN ?_ _ | with_reducible refine Kept.drew ?_ | with_reducible refine Kept.trans ?_ (by with_reducible assumption) | with_reducible refine Kept.dr ?_ (by with_reducible assumption)))⟩
set_option maxHeartbeats 2000000 in
set_option maxRecDepth 100000 in
theorem ref_times_w (u a : Int) (u0 : -170141183460469231731687303715884105728 ≤ u) (u1 : u < 170141183460469231731687303715884105728) (a_0 : -9223372036854775808 ≤ a) (a_1 : a ≤ 9223372036854775807) (w : World) : Calls Try.prog 43 #[.agg #[.int .i64 (wh (u)), .int .u64 (wl (u))], .int .i64 a] w fun e w' => e = .returned (.tuple #[.agg #[.int .i64 (wh (wval (u * a))), .int .u64 (wl (wval (u * a)))], .bool (wfit (u * a))]) ∧ Kept w w' := by
  obtain ⟨_, u2, u3⟩ := wv u
  have HZ := Lib.hid (ref_sz_w u u0 u1)
  have HA := Lib.hid (ref_mag_w a a_0 a_1)
  obtain ⟨m0, m1⟩ := wmag_bd u u0 u1
  have n01 : 0 ≤ wmag a ∧ wmag a ≤ 9223372036854775808 := by unfold wmag; split <;> omega
  obtain ⟨n0, n1⟩ := n01
  obtain ⟨em, b0, b1⟩ := wv (wmag u)
  have B0 : 0 ≤ wh (wmag u) := (by unfold wh; omega)
  have B1 : wh (wmag u) ≤ 18446744073709551615 := (by unfold wh; omega)
  have PM := mag_mul' (wmag u) (wmag a) (wh (wmag u)) (wl (wmag u)) (wmag a) em rfl
  have p1 := le_mul (wl (wmag u)) (wmag a) 18446744073709551615 9223372036854775808 b0 b1 n0 n1
  have p2 := le_mul (wh (wmag u)) (wmag a) 18446744073709551615 9223372036854775808 B0 B1 n0 n1
  have far := mul_far' u a
  have SG := sgd_mul' u a
  obtain ⟨N, hN⟩ : ∃ N, wqn u a = N := ⟨_, rfl⟩
  have hN2 : (!(decide (wh u < 0) == decide (a < 0))) = N := by
    rw [← hN]; unfold wqn
    have x1 : decide (wh u < 0) = decide (u < 0) := by rw [decide_eq_decide]; unfold wh; omega
    rw [x1]; rfl
  rw [hN] at SG
  obtain ⟨H1, hH1⟩ : ∃ x, wl (wmag u) * wmag a / 18446744073709551616 = x := ⟨_, rfl⟩
  obtain ⟨L1, hL1⟩ : ∃ x, wl (wmag u) * wmag a % 18446744073709551616 = x := ⟨_, rfl⟩
  obtain ⟨H2, hH2⟩ : ∃ x, wh (wmag u) * wmag a / 18446744073709551616 = x := ⟨_, rfl⟩
  obtain ⟨L2, hL2⟩ : ∃ x, wh (wmag u) * wmag a % 18446744073709551616 = x := ⟨_, rfl⟩
  have HM1 := Lib.hid (ref_prod_w (wl (wmag u)) (wmag a) H1 L1 b0 b1 n0 (by omega) hH1 hL1)
  have HM2 := Lib.hid (ref_prod_w (wh (wmag u)) (wmag a) H2 L2 B0 B1 n0 (by omega) hH2 hL2)
  generalize hP1 : wl (wmag u) * wmag a = P1 at *
  generalize hP2 : wh (wmag u) * wmag a = P2 at *
  clear hP1 hP2
  obtain ⟨SS, hSS⟩ : ∃ x, IntKind.u64.wrap (H1 + L2) = x := ⟨_, rfl⟩
  have kSS : SS = (H1 + L2) % 18446744073709551616 := by rw [← hSS, IntKind.wrap_u64]
  generalize hQ : wmag u * wmag a = Q at *
  clear em hN
  generalize wh (wmag u) = BB at *; generalize wl (wmag u) = bb at *; generalize hna : wmag a = NN at *; generalize hma : wmag u = MM at *
  clear hna hma
  generalize hwu : wh u = A at *; generalize hwl : wl u = al at *
  clear hwu hwl
  by_cases c1 : H2 = 0
  · by_cases c2 : SS < H1
    · have e3 := wfit_no (far (by omega))
      rw [e3.2, e3.1]
      clear e3 far
      clear PM SG hQ
      rw [c1] at HM2
      clear c1 hH1 hH2 hL1 hL2 kSS
      go_enter Try.func43, Try.ntmps43
      go_wp2_with fail
      with_reducible refine (HZ.out _).mono ?_
      rintro e w1 ⟨rfl, hk1⟩
      refine kuse (b := w.heap.size) hk1 (by first | (simp; done) | (simp; omega) | omega) ?_
      intro ha hb
      have hz1_0 : w.heap.size < w1.heap.size := by have := hk1.size; (try simp at this); omega
      have hn1_0 : ¬ w.heap.size = w1.heap.size := by omega
      have hm1_0 : ¬ w1.heap.size = w.heap.size := by omega
      have hf1_0_0 : w1.cell? ⟨w.heap.size, 0, none⟩ = some (.int .i64 A) := by first | (rw [ha]; with_reducible assumption) | (simp (maxDischargeDepth := 7) [go_sem, ha]; done) | (rw [ha]; assumption) | (simp (maxDischargeDepth := 7) [go_sem, ha, *]; done)
      have hf1_0_1 : w1.cell? ⟨w.heap.size, 1, none⟩ = some (.int .u64 al) := by first | (rw [ha]; with_reducible assumption) | (simp (maxDischargeDepth := 7) [go_sem, ha]; done) | (rw [ha]; assumption) | (simp (maxDischargeDepth := 7) [go_sem, ha, *]; done)
      try have hg1_0 : ∀ o, w1.frozen? ⟨w.heap.size, o, none⟩ = false := by intro o; first | (simp (maxDischargeDepth := 7) [go_sem, hb]; done) | (rw [hb]; simp (maxDischargeDepth := 7) [go_sem, *]; done)
      clear ha hb
      refine kuse (b := w.heap.size + 1) hk1 (by first | (simp; done) | (simp; omega) | omega) ?_
      intro ha hb
      have hz1_1 : w.heap.size + 1 < w1.heap.size := by have := hk1.size; (try simp at this); omega
      have hn1_1 : ¬ w.heap.size + 1 = w1.heap.size := by omega
      have hm1_1 : ¬ w1.heap.size = w.heap.size + 1 := by omega
      have hf1_1_0 : w1.cell? ⟨w.heap.size + 1, 0, none⟩ = some (.int .i64 0) := by first | (rw [ha]; with_reducible assumption) | (simp (maxDischargeDepth := 7) [go_sem, ha]; done) | (rw [ha]; assumption) | (simp (maxDischargeDepth := 7) [go_sem, ha, *]; done)
      have hf1_1_1 : w1.cell? ⟨w.heap.size + 1, 1, none⟩ = some (.int .u64 0) := by first | (rw [ha]; with_reducible assumption) | (simp (maxDischargeDepth := 7) [go_sem, ha]; done) | (rw [ha]; assumption) | (simp (maxDischargeDepth := 7) [go_sem, ha, *]; done)
      try have hg1_1 : ∀ o, w1.frozen? ⟨w.heap.size + 1, o, none⟩ = false := by intro o; first | (simp (maxDischargeDepth := 7) [go_sem, hb]; done) | (rw [hb]; simp (maxDischargeDepth := 7) [go_sem, *]; done)
      clear ha hb
      go_wp2_with fail
      with_reducible refine (HA.out _).mono ?_
      rintro e w' ⟨rfl, rfl⟩
      go_wp2_with fail
      with_reducible refine (HM1.out _).mono ?_
      rintro e w' ⟨rfl, rfl⟩
      go_wp2_with fail
      with_reducible refine (HM2.out _).mono ?_
      rintro e w' ⟨rfl, rfl⟩
      go_wp2_with fail
      all_goals exact bodyPost_ret (v := .tuple #[.agg #[.int .i64 0, .int .u64 0], .bool false]) (by first | (simp [results, Try.results43, go_sem]; done) | (simp (maxDischargeDepth := 7) [results, Try.results43, go_sem, *]; done)) rfl ⟨rfl, (by repeat (first | with_reducible exact Kept.refl _ | with_reducible assumption | with_reducible refine Kept.setCell ?_ (by first | (simp; done) | (simp; omega) | omega) _ | with_reducible refine Kept.alloc ?_ _ | with_reducible refine Kept.drewN ?_ _ | with_reducible refine Kept.drew ?_ | with_reducible refine Kept.trans ?_ (by with_reducible assumption) | with_reducible refine Kept.dr ?_ (by with_reducible assumption)))⟩
    · have q1 : wh Q = SS := by unfold wh; omega
      have q2 : wl Q = L1 := by unfold wl; omega
      have q3 : ¬ SS < H1 := by omega
      have Q0 : 0 ≤ Q := by omega
      have Q1 : Q < 340282366920938463463374607431768211456 := by omega
      clear PM hQ far
      clear c2
      cases N
      · by_cases z1 : SS = 0
        · by_cases z2 : L1 = 0
          · have e0 : Q = 0 := by have := wv Q; omega
            have sz : sgd true Q = sgd false Q := by rw [e0]; rfl
            clear e0
            have HG := Lib.hid (ref_signed_w Q Q0 Q1 false)
            rw [q1, q2, z1, z2] at HG
            rw [SG] at HG
            rw [z1] at hSS
            rw [z2] at HM1
            rw [z1] at q3
            clear sz
            clear SG q1 q2
            generalize hV : wval (u * a) = V at *
            generalize hW : wfit (u * a) = O at *
            clear hV hW
            rw [c1] at HM2
            clear c1 Q0 Q1 z1 z2
            clear hH1 hH2 hL1 hL2 kSS
            go_enter Try.func43, Try.ntmps43
            go_wp2_with fail
            with_reducible refine (HZ.out _).mono ?_
            rintro e w1 ⟨rfl, hk1⟩
            refine kuse (b := w.heap.size) hk1 (by first | (simp; done) | (simp; omega) | omega) ?_
            intro ha hb
            have hz1_0 : w.heap.size < w1.heap.size := by have := hk1.size; (try simp at this); omega
            have hn1_0 : ¬ w.heap.size = w1.heap.size := by omega
            have hm1_0 : ¬ w1.heap.size = w.heap.size := by omega
            have hf1_0_0 : w1.cell? ⟨w.heap.size, 0, none⟩ = some (.int .i64 A) := by first | (rw [ha]; with_reducible assumption) | (simp (maxDischargeDepth := 7) [go_sem, ha]; done) | (rw [ha]; assumption) | (simp (maxDischargeDepth := 7) [go_sem, ha, *]; done)
            have hf1_0_1 : w1.cell? ⟨w.heap.size, 1, none⟩ = some (.int .u64 al) := by first | (rw [ha]; with_reducible assumption) | (simp (maxDischargeDepth := 7) [go_sem, ha]; done) | (rw [ha]; assumption) | (simp (maxDischargeDepth := 7) [go_sem, ha, *]; done)
            try have hg1_0 : ∀ o, w1.frozen? ⟨w.heap.size, o, none⟩ = false := by intro o; first | (simp (maxDischargeDepth := 7) [go_sem, hb]; done) | (rw [hb]; simp (maxDischargeDepth := 7) [go_sem, *]; done)
            clear ha hb
            refine kuse (b := w.heap.size + 1) hk1 (by first | (simp; done) | (simp; omega) | omega) ?_
            intro ha hb
            have hz1_1 : w.heap.size + 1 < w1.heap.size := by have := hk1.size; (try simp at this); omega
            have hn1_1 : ¬ w.heap.size + 1 = w1.heap.size := by omega
            have hm1_1 : ¬ w1.heap.size = w.heap.size + 1 := by omega
            have hf1_1_0 : w1.cell? ⟨w.heap.size + 1, 0, none⟩ = some (.int .i64 0) := by first | (rw [ha]; with_reducible assumption) | (simp (maxDischargeDepth := 7) [go_sem, ha]; done) | (rw [ha]; assumption) | (simp (maxDischargeDepth := 7) [go_sem, ha, *]; done)
            have hf1_1_1 : w1.cell? ⟨w.heap.size + 1, 1, none⟩ = some (.int .u64 0) := by first | (rw [ha]; with_reducible assumption) | (simp (maxDischargeDepth := 7) [go_sem, ha]; done) | (rw [ha]; assumption) | (simp (maxDischargeDepth := 7) [go_sem, ha, *]; done)
            try have hg1_1 : ∀ o, w1.frozen? ⟨w.heap.size + 1, o, none⟩ = false := by intro o; first | (simp (maxDischargeDepth := 7) [go_sem, hb]; done) | (rw [hb]; simp (maxDischargeDepth := 7) [go_sem, *]; done)
            clear ha hb
            go_wp2_with fail
            with_reducible refine (HA.out _).mono ?_
            rintro e w' ⟨rfl, rfl⟩
            go_wp2_with fail
            with_reducible refine (HM1.out _).mono ?_
            rintro e w' ⟨rfl, rfl⟩
            go_wp2_with fail
            with_reducible refine (HM2.out _).mono ?_
            rintro e w' ⟨rfl, rfl⟩
            go_wp2_with fail
            with_reducible refine (HG.out _).mono ?_
            rintro e w2 ⟨rfl, hk2⟩
            refine kuse (b := w.heap.size) hk2 (by first | (simp; done) | (simp; omega) | omega) ?_
            intro ha hb
            have hz2_0 : w.heap.size < w2.heap.size := by have := hk2.size; (try simp at this); omega
            have hn2_0 : ¬ w.heap.size = w2.heap.size := by omega
            have hm2_0 : ¬ w2.heap.size = w.heap.size := by omega
            have hf2_0_0 : w2.cell? ⟨w.heap.size, 0, none⟩ = some (.int .i64 A) := by first | (rw [ha]; with_reducible assumption) | (simp (maxDischargeDepth := 7) [go_sem, ha]; done) | (rw [ha]; assumption) | (simp (maxDischargeDepth := 7) [go_sem, ha, *]; done)
            have hf2_0_1 : w2.cell? ⟨w.heap.size, 1, none⟩ = some (.int .u64 al) := by first | (rw [ha]; with_reducible assumption) | (simp (maxDischargeDepth := 7) [go_sem, ha]; done) | (rw [ha]; assumption) | (simp (maxDischargeDepth := 7) [go_sem, ha, *]; done)
            try have hg2_0 : ∀ o, w2.frozen? ⟨w.heap.size, o, none⟩ = false := by intro o; first | (simp (maxDischargeDepth := 7) [go_sem, hb]; done) | (rw [hb]; simp (maxDischargeDepth := 7) [go_sem, *]; done)
            clear ha hb
            refine kuse (b := w.heap.size + 1) hk2 (by first | (simp; done) | (simp; omega) | omega) ?_
            intro ha hb
            have hz2_1 : w.heap.size + 1 < w2.heap.size := by have := hk2.size; (try simp at this); omega
            have hn2_1 : ¬ w.heap.size + 1 = w2.heap.size := by omega
            have hm2_1 : ¬ w2.heap.size = w.heap.size + 1 := by omega
            have hf2_1_0 : w2.cell? ⟨w.heap.size + 1, 0, none⟩ = some (.int .i64 0) := by first | (rw [ha]; with_reducible assumption) | (simp (maxDischargeDepth := 7) [go_sem, ha]; done) | (rw [ha]; assumption) | (simp (maxDischargeDepth := 7) [go_sem, ha, *]; done)
            have hf2_1_1 : w2.cell? ⟨w.heap.size + 1, 1, none⟩ = some (.int .u64 0) := by first | (rw [ha]; with_reducible assumption) | (simp (maxDischargeDepth := 7) [go_sem, ha]; done) | (rw [ha]; assumption) | (simp (maxDischargeDepth := 7) [go_sem, ha, *]; done)
            try have hg2_1 : ∀ o, w2.frozen? ⟨w.heap.size + 1, o, none⟩ = false := by intro o; first | (simp (maxDischargeDepth := 7) [go_sem, hb]; done) | (rw [hb]; simp (maxDischargeDepth := 7) [go_sem, *]; done)
            clear ha hb
            try clear hf1_0_0
            try clear hf1_0_1
            try clear hf1_1_0
            try clear hf1_1_1
            try clear hg1_0
            try clear hg1_1
            try clear hz1_1
            go_wp2_with fail
            all_goals exact bodyPost_ret (v := .tuple #[.agg #[.int .i64 (wh (V)), .int .u64 (wl (V))], .bool O]) (by first | (simp [results, Try.results43, go_sem]; done) | (simp (maxDischargeDepth := 7) [results, Try.results43, go_sem, *]; done)) rfl ⟨rfl, (by repeat (first | with_reducible exact Kept.refl _ | with_reducible assumption | with_reducible refine Kept.setCell ?_ (by first | (simp; done) | (simp; omega) | omega) _ | with_reducible refine Kept.alloc ?_ _ | with_reducible refine Kept.drewN ?_ _ | with_reducible refine Kept.drew ?_ | with_reducible refine Kept.trans ?_ (by with_reducible assumption) | with_reducible refine Kept.dr ?_ (by with_reducible assumption)))⟩
          · have z2a : (L1 == 0) = false := by rw [beq_eq_false_iff_ne]; exact z2
            have z2b : (L1 != 0) = true := by rw [bne_iff_ne]; exact z2
            have HG := Lib.hid (ref_signed_w Q Q0 Q1 false)
            rw [q1, q2, z1, SG] at HG
            rw [z1] at hSS
            rw [z1] at q3
            clear SG q1 q2
            generalize hV : wval (u * a) = V at *
            generalize hW : wfit (u * a) = O at *
            clear hV hW
            rw [c1] at HM2
            clear c1 Q0 Q1 z1 z2
            clear hH1 hH2 hL1 hL2 kSS
            go_enter Try.func43, Try.ntmps43
            go_wp2_with fail
            with_reducible refine (HZ.out _).mono ?_
            rintro e w1 ⟨rfl, hk1⟩
            refine kuse (b := w.heap.size) hk1 (by first | (simp; done) | (simp; omega) | omega) ?_
            intro ha hb
            have hz1_0 : w.heap.size < w1.heap.size := by have := hk1.size; (try simp at this); omega
            have hn1_0 : ¬ w.heap.size = w1.heap.size := by omega
            have hm1_0 : ¬ w1.heap.size = w.heap.size := by omega
            have hf1_0_0 : w1.cell? ⟨w.heap.size, 0, none⟩ = some (.int .i64 A) := by first | (rw [ha]; with_reducible assumption) | (simp (maxDischargeDepth := 7) [go_sem, ha]; done) | (rw [ha]; assumption) | (simp (maxDischargeDepth := 7) [go_sem, ha, *]; done)
            have hf1_0_1 : w1.cell? ⟨w.heap.size, 1, none⟩ = some (.int .u64 al) := by first | (rw [ha]; with_reducible assumption) | (simp (maxDischargeDepth := 7) [go_sem, ha]; done) | (rw [ha]; assumption) | (simp (maxDischargeDepth := 7) [go_sem, ha, *]; done)
            try have hg1_0 : ∀ o, w1.frozen? ⟨w.heap.size, o, none⟩ = false := by intro o; first | (simp (maxDischargeDepth := 7) [go_sem, hb]; done) | (rw [hb]; simp (maxDischargeDepth := 7) [go_sem, *]; done)
            clear ha hb
            refine kuse (b := w.heap.size + 1) hk1 (by first | (simp; done) | (simp; omega) | omega) ?_
            intro ha hb
            have hz1_1 : w.heap.size + 1 < w1.heap.size := by have := hk1.size; (try simp at this); omega
            have hn1_1 : ¬ w.heap.size + 1 = w1.heap.size := by omega
            have hm1_1 : ¬ w1.heap.size = w.heap.size + 1 := by omega
            have hf1_1_0 : w1.cell? ⟨w.heap.size + 1, 0, none⟩ = some (.int .i64 0) := by first | (rw [ha]; with_reducible assumption) | (simp (maxDischargeDepth := 7) [go_sem, ha]; done) | (rw [ha]; assumption) | (simp (maxDischargeDepth := 7) [go_sem, ha, *]; done)
            have hf1_1_1 : w1.cell? ⟨w.heap.size + 1, 1, none⟩ = some (.int .u64 0) := by first | (rw [ha]; with_reducible assumption) | (simp (maxDischargeDepth := 7) [go_sem, ha]; done) | (rw [ha]; assumption) | (simp (maxDischargeDepth := 7) [go_sem, ha, *]; done)
            try have hg1_1 : ∀ o, w1.frozen? ⟨w.heap.size + 1, o, none⟩ = false := by intro o; first | (simp (maxDischargeDepth := 7) [go_sem, hb]; done) | (rw [hb]; simp (maxDischargeDepth := 7) [go_sem, *]; done)
            clear ha hb
            go_wp2_with fail
            with_reducible refine (HA.out _).mono ?_
            rintro e w' ⟨rfl, rfl⟩
            go_wp2_with fail
            with_reducible refine (HM1.out _).mono ?_
            rintro e w' ⟨rfl, rfl⟩
            go_wp2_with fail
            with_reducible refine (HM2.out _).mono ?_
            rintro e w' ⟨rfl, rfl⟩
            go_wp2_with fail
            with_reducible refine (HG.out _).mono ?_
            rintro e w2 ⟨rfl, hk2⟩
            refine kuse (b := w.heap.size) hk2 (by first | (simp; done) | (simp; omega) | omega) ?_
            intro ha hb
            have hz2_0 : w.heap.size < w2.heap.size := by have := hk2.size; (try simp at this); omega
            have hn2_0 : ¬ w.heap.size = w2.heap.size := by omega
            have hm2_0 : ¬ w2.heap.size = w.heap.size := by omega
            have hf2_0_0 : w2.cell? ⟨w.heap.size, 0, none⟩ = some (.int .i64 A) := by first | (rw [ha]; with_reducible assumption) | (simp (maxDischargeDepth := 7) [go_sem, ha]; done) | (rw [ha]; assumption) | (simp (maxDischargeDepth := 7) [go_sem, ha, *]; done)
            have hf2_0_1 : w2.cell? ⟨w.heap.size, 1, none⟩ = some (.int .u64 al) := by first | (rw [ha]; with_reducible assumption) | (simp (maxDischargeDepth := 7) [go_sem, ha]; done) | (rw [ha]; assumption) | (simp (maxDischargeDepth := 7) [go_sem, ha, *]; done)
            try have hg2_0 : ∀ o, w2.frozen? ⟨w.heap.size, o, none⟩ = false := by intro o; first | (simp (maxDischargeDepth := 7) [go_sem, hb]; done) | (rw [hb]; simp (maxDischargeDepth := 7) [go_sem, *]; done)
            clear ha hb
            refine kuse (b := w.heap.size + 1) hk2 (by first | (simp; done) | (simp; omega) | omega) ?_
            intro ha hb
            have hz2_1 : w.heap.size + 1 < w2.heap.size := by have := hk2.size; (try simp at this); omega
            have hn2_1 : ¬ w.heap.size + 1 = w2.heap.size := by omega
            have hm2_1 : ¬ w2.heap.size = w.heap.size + 1 := by omega
            have hf2_1_0 : w2.cell? ⟨w.heap.size + 1, 0, none⟩ = some (.int .i64 0) := by first | (rw [ha]; with_reducible assumption) | (simp (maxDischargeDepth := 7) [go_sem, ha]; done) | (rw [ha]; assumption) | (simp (maxDischargeDepth := 7) [go_sem, ha, *]; done)
            have hf2_1_1 : w2.cell? ⟨w.heap.size + 1, 1, none⟩ = some (.int .u64 0) := by first | (rw [ha]; with_reducible assumption) | (simp (maxDischargeDepth := 7) [go_sem, ha]; done) | (rw [ha]; assumption) | (simp (maxDischargeDepth := 7) [go_sem, ha, *]; done)
            try have hg2_1 : ∀ o, w2.frozen? ⟨w.heap.size + 1, o, none⟩ = false := by intro o; first | (simp (maxDischargeDepth := 7) [go_sem, hb]; done) | (rw [hb]; simp (maxDischargeDepth := 7) [go_sem, *]; done)
            clear ha hb
            try clear hf1_0_0
            try clear hf1_0_1
            try clear hf1_1_0
            try clear hf1_1_1
            try clear hg1_0
            try clear hg1_1
            try clear hz1_1
            go_wp2_with fail
            all_goals exact bodyPost_ret (v := .tuple #[.agg #[.int .i64 (wh (V)), .int .u64 (wl (V))], .bool O]) (by first | (simp [results, Try.results43, go_sem]; done) | (simp (maxDischargeDepth := 7) [results, Try.results43, go_sem, *]; done)) rfl ⟨rfl, (by repeat (first | with_reducible exact Kept.refl _ | with_reducible assumption | with_reducible refine Kept.setCell ?_ (by first | (simp; done) | (simp; omega) | omega) _ | with_reducible refine Kept.alloc ?_ _ | with_reducible refine Kept.drewN ?_ _ | with_reducible refine Kept.drew ?_ | with_reducible refine Kept.trans ?_ (by with_reducible assumption) | with_reducible refine Kept.dr ?_ (by with_reducible assumption)))⟩
        · have z1a : (SS == 0) = false := by rw [beq_eq_false_iff_ne]; exact z1
          have z1b : (SS != 0) = true := by rw [bne_iff_ne]; exact z1
          have HG := Lib.hid (ref_signed_w Q Q0 Q1 false)
          rw [q1, q2, SG] at HG
          clear SG q1 q2
          generalize hV : wval (u * a) = V at *
          generalize hW : wfit (u * a) = O at *
          clear hV hW
          rw [c1] at HM2
          clear c1 Q0 Q1 z1
          clear hH1 hH2 hL1 hL2 kSS
          go_enter Try.func43, Try.ntmps43
          go_wp2_with fail
          with_reducible refine (HZ.out _).mono ?_
          rintro e w1 ⟨rfl, hk1⟩
          refine kuse (b := w.heap.size) hk1 (by first | (simp; done) | (simp; omega) | omega) ?_
          intro ha hb
          have hz1_0 : w.heap.size < w1.heap.size := by have := hk1.size; (try simp at this); omega
          have hn1_0 : ¬ w.heap.size = w1.heap.size := by omega
          have hm1_0 : ¬ w1.heap.size = w.heap.size := by omega
          have hf1_0_0 : w1.cell? ⟨w.heap.size, 0, none⟩ = some (.int .i64 A) := by first | (rw [ha]; with_reducible assumption) | (simp (maxDischargeDepth := 7) [go_sem, ha]; done) | (rw [ha]; assumption) | (simp (maxDischargeDepth := 7) [go_sem, ha, *]; done)
          have hf1_0_1 : w1.cell? ⟨w.heap.size, 1, none⟩ = some (.int .u64 al) := by first | (rw [ha]; with_reducible assumption) | (simp (maxDischargeDepth := 7) [go_sem, ha]; done) | (rw [ha]; assumption) | (simp (maxDischargeDepth := 7) [go_sem, ha, *]; done)
          try have hg1_0 : ∀ o, w1.frozen? ⟨w.heap.size, o, none⟩ = false := by intro o; first | (simp (maxDischargeDepth := 7) [go_sem, hb]; done) | (rw [hb]; simp (maxDischargeDepth := 7) [go_sem, *]; done)
          clear ha hb
          refine kuse (b := w.heap.size + 1) hk1 (by first | (simp; done) | (simp; omega) | omega) ?_
          intro ha hb
          have hz1_1 : w.heap.size + 1 < w1.heap.size := by have := hk1.size; (try simp at this); omega
          have hn1_1 : ¬ w.heap.size + 1 = w1.heap.size := by omega
          have hm1_1 : ¬ w1.heap.size = w.heap.size + 1 := by omega
          have hf1_1_0 : w1.cell? ⟨w.heap.size + 1, 0, none⟩ = some (.int .i64 0) := by first | (rw [ha]; with_reducible assumption) | (simp (maxDischargeDepth := 7) [go_sem, ha]; done) | (rw [ha]; assumption) | (simp (maxDischargeDepth := 7) [go_sem, ha, *]; done)
          have hf1_1_1 : w1.cell? ⟨w.heap.size + 1, 1, none⟩ = some (.int .u64 0) := by first | (rw [ha]; with_reducible assumption) | (simp (maxDischargeDepth := 7) [go_sem, ha]; done) | (rw [ha]; assumption) | (simp (maxDischargeDepth := 7) [go_sem, ha, *]; done)
          try have hg1_1 : ∀ o, w1.frozen? ⟨w.heap.size + 1, o, none⟩ = false := by intro o; first | (simp (maxDischargeDepth := 7) [go_sem, hb]; done) | (rw [hb]; simp (maxDischargeDepth := 7) [go_sem, *]; done)
          clear ha hb
          go_wp2_with fail
          with_reducible refine (HA.out _).mono ?_
          rintro e w' ⟨rfl, rfl⟩
          go_wp2_with fail
          with_reducible refine (HM1.out _).mono ?_
          rintro e w' ⟨rfl, rfl⟩
          go_wp2_with fail
          with_reducible refine (HM2.out _).mono ?_
          rintro e w' ⟨rfl, rfl⟩
          go_wp2_with fail
          with_reducible refine (HG.out _).mono ?_
          rintro e w2 ⟨rfl, hk2⟩
          refine kuse (b := w.heap.size) hk2 (by first | (simp; done) | (simp; omega) | omega) ?_
          intro ha hb
          have hz2_0 : w.heap.size < w2.heap.size := by have := hk2.size; (try simp at this); omega
          have hn2_0 : ¬ w.heap.size = w2.heap.size := by omega
          have hm2_0 : ¬ w2.heap.size = w.heap.size := by omega
          have hf2_0_0 : w2.cell? ⟨w.heap.size, 0, none⟩ = some (.int .i64 A) := by first | (rw [ha]; with_reducible assumption) | (simp (maxDischargeDepth := 7) [go_sem, ha]; done) | (rw [ha]; assumption) | (simp (maxDischargeDepth := 7) [go_sem, ha, *]; done)
          have hf2_0_1 : w2.cell? ⟨w.heap.size, 1, none⟩ = some (.int .u64 al) := by first | (rw [ha]; with_reducible assumption) | (simp (maxDischargeDepth := 7) [go_sem, ha]; done) | (rw [ha]; assumption) | (simp (maxDischargeDepth := 7) [go_sem, ha, *]; done)
          try have hg2_0 : ∀ o, w2.frozen? ⟨w.heap.size, o, none⟩ = false := by intro o; first | (simp (maxDischargeDepth := 7) [go_sem, hb]; done) | (rw [hb]; simp (maxDischargeDepth := 7) [go_sem, *]; done)
          clear ha hb
          refine kuse (b := w.heap.size + 1) hk2 (by first | (simp; done) | (simp; omega) | omega) ?_
          intro ha hb
          have hz2_1 : w.heap.size + 1 < w2.heap.size := by have := hk2.size; (try simp at this); omega
          have hn2_1 : ¬ w.heap.size + 1 = w2.heap.size := by omega
          have hm2_1 : ¬ w2.heap.size = w.heap.size + 1 := by omega
          have hf2_1_0 : w2.cell? ⟨w.heap.size + 1, 0, none⟩ = some (.int .i64 0) := by first | (rw [ha]; with_reducible assumption) | (simp (maxDischargeDepth := 7) [go_sem, ha]; done) | (rw [ha]; assumption) | (simp (maxDischargeDepth := 7) [go_sem, ha, *]; done)
          have hf2_1_1 : w2.cell? ⟨w.heap.size + 1, 1, none⟩ = some (.int .u64 0) := by first | (rw [ha]; with_reducible assumption) | (simp (maxDischargeDepth := 7) [go_sem, ha]; done) | (rw [ha]; assumption) | (simp (maxDischargeDepth := 7) [go_sem, ha, *]; done)
          try have hg2_1 : ∀ o, w2.frozen? ⟨w.heap.size + 1, o, none⟩ = false := by intro o; first | (simp (maxDischargeDepth := 7) [go_sem, hb]; done) | (rw [hb]; simp (maxDischargeDepth := 7) [go_sem, *]; done)
          clear ha hb
          try clear hf1_0_0
          try clear hf1_0_1
          try clear hf1_1_0
          try clear hf1_1_1
          try clear hg1_0
          try clear hg1_1
          try clear hz1_1
          go_wp2_with fail
          all_goals exact bodyPost_ret (v := .tuple #[.agg #[.int .i64 (wh (V)), .int .u64 (wl (V))], .bool O]) (by first | (simp [results, Try.results43, go_sem]; done) | (simp (maxDischargeDepth := 7) [results, Try.results43, go_sem, *]; done)) rfl ⟨rfl, (by repeat (first | with_reducible exact Kept.refl _ | with_reducible assumption | with_reducible refine Kept.setCell ?_ (by first | (simp; done) | (simp; omega) | omega) _ | with_reducible refine Kept.alloc ?_ _ | with_reducible refine Kept.drewN ?_ _ | with_reducible refine Kept.drew ?_ | with_reducible refine Kept.trans ?_ (by with_reducible assumption) | with_reducible refine Kept.dr ?_ (by with_reducible assumption)))⟩
      · by_cases z1 : SS = 0
        · by_cases z2 : L1 = 0
          · have e0 : Q = 0 := by have := wv Q; omega
            have sz : sgd true Q = sgd false Q := by rw [e0]; rfl
            clear e0
            have HG := Lib.hid (ref_signed_w Q Q0 Q1 false)
            rw [q1, q2, z1, z2] at HG
            rw [← sz, SG] at HG
            rw [z1] at hSS
            rw [z2] at HM1
            rw [z1] at q3
            clear sz
            clear SG q1 q2
            generalize hV : wval (u * a) = V at *
            generalize hW : wfit (u * a) = O at *
            clear hV hW
            rw [c1] at HM2
            clear c1 Q0 Q1 z1 z2
            clear hH1 hH2 hL1 hL2 kSS
            go_enter Try.func43, Try.ntmps43
            go_wp2_with fail
            with_reducible refine (HZ.out _).mono ?_
            rintro e w1 ⟨rfl, hk1⟩
            refine kuse (b := w.heap.size) hk1 (by first | (simp; done) | (simp; omega) | omega) ?_
            intro ha hb
            have hz1_0 : w.heap.size < w1.heap.size := by have := hk1.size; (try simp at this); omega
            have hn1_0 : ¬ w.heap.size = w1.heap.size := by omega
            have hm1_0 : ¬ w1.heap.size = w.heap.size := by omega
            have hf1_0_0 : w1.cell? ⟨w.heap.size, 0, none⟩ = some (.int .i64 A) := by first | (rw [ha]; with_reducible assumption) | (simp (maxDischargeDepth := 7) [go_sem, ha]; done) | (rw [ha]; assumption) | (simp (maxDischargeDepth := 7) [go_sem, ha, *]; done)
            have hf1_0_1 : w1.cell? ⟨w.heap.size, 1, none⟩ = some (.int .u64 al) := by first | (rw [ha]; with_reducible assumption) | (simp (maxDischargeDepth := 7) [go_sem, ha]; done) | (rw [ha]; assumption) | (simp (maxDischargeDepth := 7) [go_sem, ha, *]; done)
            try have hg1_0 : ∀ o, w1.frozen? ⟨w.heap.size, o, none⟩ = false := by intro o; first | (simp (maxDischargeDepth := 7) [go_sem, hb]; done) | (rw [hb]; simp (maxDischargeDepth := 7) [go_sem, *]; done)
            clear ha hb
            refine kuse (b := w.heap.size + 1) hk1 (by first | (simp; done) | (simp; omega) | omega) ?_
            intro ha hb
            have hz1_1 : w.heap.size + 1 < w1.heap.size := by have := hk1.size; (try simp at this); omega
            have hn1_1 : ¬ w.heap.size + 1 = w1.heap.size := by omega
            have hm1_1 : ¬ w1.heap.size = w.heap.size + 1 := by omega
            have hf1_1_0 : w1.cell? ⟨w.heap.size + 1, 0, none⟩ = some (.int .i64 0) := by first | (rw [ha]; with_reducible assumption) | (simp (maxDischargeDepth := 7) [go_sem, ha]; done) | (rw [ha]; assumption) | (simp (maxDischargeDepth := 7) [go_sem, ha, *]; done)
            have hf1_1_1 : w1.cell? ⟨w.heap.size + 1, 1, none⟩ = some (.int .u64 0) := by first | (rw [ha]; with_reducible assumption) | (simp (maxDischargeDepth := 7) [go_sem, ha]; done) | (rw [ha]; assumption) | (simp (maxDischargeDepth := 7) [go_sem, ha, *]; done)
            try have hg1_1 : ∀ o, w1.frozen? ⟨w.heap.size + 1, o, none⟩ = false := by intro o; first | (simp (maxDischargeDepth := 7) [go_sem, hb]; done) | (rw [hb]; simp (maxDischargeDepth := 7) [go_sem, *]; done)
            clear ha hb
            go_wp2_with fail
            with_reducible refine (HA.out _).mono ?_
            rintro e w' ⟨rfl, rfl⟩
            go_wp2_with fail
            with_reducible refine (HM1.out _).mono ?_
            rintro e w' ⟨rfl, rfl⟩
            go_wp2_with fail
            with_reducible refine (HM2.out _).mono ?_
            rintro e w' ⟨rfl, rfl⟩
            go_wp2_with fail
            with_reducible refine (HG.out _).mono ?_
            rintro e w2 ⟨rfl, hk2⟩
            refine kuse (b := w.heap.size) hk2 (by first | (simp; done) | (simp; omega) | omega) ?_
            intro ha hb
            have hz2_0 : w.heap.size < w2.heap.size := by have := hk2.size; (try simp at this); omega
            have hn2_0 : ¬ w.heap.size = w2.heap.size := by omega
            have hm2_0 : ¬ w2.heap.size = w.heap.size := by omega
            have hf2_0_0 : w2.cell? ⟨w.heap.size, 0, none⟩ = some (.int .i64 A) := by first | (rw [ha]; with_reducible assumption) | (simp (maxDischargeDepth := 7) [go_sem, ha]; done) | (rw [ha]; assumption) | (simp (maxDischargeDepth := 7) [go_sem, ha, *]; done)
            have hf2_0_1 : w2.cell? ⟨w.heap.size, 1, none⟩ = some (.int .u64 al) := by first | (rw [ha]; with_reducible assumption) | (simp (maxDischargeDepth := 7) [go_sem, ha]; done) | (rw [ha]; assumption) | (simp (maxDischargeDepth := 7) [go_sem, ha, *]; done)
            try have hg2_0 : ∀ o, w2.frozen? ⟨w.heap.size, o, none⟩ = false := by intro o; first | (simp (maxDischargeDepth := 7) [go_sem, hb]; done) | (rw [hb]; simp (maxDischargeDepth := 7) [go_sem, *]; done)
            clear ha hb
            refine kuse (b := w.heap.size + 1) hk2 (by first | (simp; done) | (simp; omega) | omega) ?_
            intro ha hb
            have hz2_1 : w.heap.size + 1 < w2.heap.size := by have := hk2.size; (try simp at this); omega
            have hn2_1 : ¬ w.heap.size + 1 = w2.heap.size := by omega
            have hm2_1 : ¬ w2.heap.size = w.heap.size + 1 := by omega
            have hf2_1_0 : w2.cell? ⟨w.heap.size + 1, 0, none⟩ = some (.int .i64 0) := by first | (rw [ha]; with_reducible assumption) | (simp (maxDischargeDepth := 7) [go_sem, ha]; done) | (rw [ha]; assumption) | (simp (maxDischargeDepth := 7) [go_sem, ha, *]; done)
            have hf2_1_1 : w2.cell? ⟨w.heap.size + 1, 1, none⟩ = some (.int .u64 0) := by first | (rw [ha]; with_reducible assumption) | (simp (maxDischargeDepth := 7) [go_sem, ha]; done) | (rw [ha]; assumption) | (simp (maxDischargeDepth := 7) [go_sem, ha, *]; done)
            try have hg2_1 : ∀ o, w2.frozen? ⟨w.heap.size + 1, o, none⟩ = false := by intro o; first | (simp (maxDischargeDepth := 7) [go_sem, hb]; done) | (rw [hb]; simp (maxDischargeDepth := 7) [go_sem, *]; done)
            clear ha hb
            try clear hf1_0_0
            try clear hf1_0_1
            try clear hf1_1_0
            try clear hf1_1_1
            try clear hg1_0
            try clear hg1_1
            try clear hz1_1
            go_wp2_with fail
            all_goals exact bodyPost_ret (v := .tuple #[.agg #[.int .i64 (wh (V)), .int .u64 (wl (V))], .bool O]) (by first | (simp [results, Try.results43, go_sem]; done) | (simp (maxDischargeDepth := 7) [results, Try.results43, go_sem, *]; done)) rfl ⟨rfl, (by repeat (first | with_reducible exact Kept.refl _ | with_reducible assumption | with_reducible refine Kept.setCell ?_ (by first | (simp; done) | (simp; omega) | omega) _ | with_reducible refine Kept.alloc ?_ _ | with_reducible refine Kept.drewN ?_ _ | with_reducible refine Kept.drew ?_ | with_reducible refine Kept.trans ?_ (by with_reducible assumption) | with_reducible refine Kept.dr ?_ (by with_reducible assumption)))⟩
          · have z2a : (L1 == 0) = false := by rw [beq_eq_false_iff_ne]; exact z2
            have z2b : (L1 != 0) = true := by rw [bne_iff_ne]; exact z2
            have HG := Lib.hid (ref_signed_w Q Q0 Q1 true)
            rw [q1, q2, z1, SG] at HG
            rw [z1] at hSS
            rw [z1] at q3
            clear SG q1 q2
            generalize hV : wval (u * a) = V at *
            generalize hW : wfit (u * a) = O at *
            clear hV hW
            rw [c1] at HM2
            clear c1 Q0 Q1 z1 z2
            clear hH1 hH2 hL1 hL2 kSS
            go_enter Try.func43, Try.ntmps43
            go_wp2_with fail
            with_reducible refine (HZ.out _).mono ?_
            rintro e w1 ⟨rfl, hk1⟩
            refine kuse (b := w.heap.size) hk1 (by first | (simp; done) | (simp; omega) | omega) ?_
            intro ha hb
            have hz1_0 : w.heap.size < w1.heap.size := by have := hk1.size; (try simp at this); omega
            have hn1_0 : ¬ w.heap.size = w1.heap.size := by omega
            have hm1_0 : ¬ w1.heap.size = w.heap.size := by omega
            have hf1_0_0 : w1.cell? ⟨w.heap.size, 0, none⟩ = some (.int .i64 A) := by first | (rw [ha]; with_reducible assumption) | (simp (maxDischargeDepth := 7) [go_sem, ha]; done) | (rw [ha]; assumption) | (simp (maxDischargeDepth := 7) [go_sem, ha, *]; done)
            have hf1_0_1 : w1.cell? ⟨w.heap.size, 1, none⟩ = some (.int .u64 al) := by first | (rw [ha]; with_reducible assumption) | (simp (maxDischargeDepth := 7) [go_sem, ha]; done) | (rw [ha]; assumption) | (simp (maxDischargeDepth := 7) [go_sem, ha, *]; done)
            try have hg1_0 : ∀ o, w1.frozen? ⟨w.heap.size, o, none⟩ = false := by intro o; first | (simp (maxDischargeDepth := 7) [go_sem, hb]; done) | (rw [hb]; simp (maxDischargeDepth := 7) [go_sem, *]; done)
            clear ha hb
            refine kuse (b := w.heap.size + 1) hk1 (by first | (simp; done) | (simp; omega) | omega) ?_
            intro ha hb
            have hz1_1 : w.heap.size + 1 < w1.heap.size := by have := hk1.size; (try simp at this); omega
            have hn1_1 : ¬ w.heap.size + 1 = w1.heap.size := by omega
            have hm1_1 : ¬ w1.heap.size = w.heap.size + 1 := by omega
            have hf1_1_0 : w1.cell? ⟨w.heap.size + 1, 0, none⟩ = some (.int .i64 0) := by first | (rw [ha]; with_reducible assumption) | (simp (maxDischargeDepth := 7) [go_sem, ha]; done) | (rw [ha]; assumption) | (simp (maxDischargeDepth := 7) [go_sem, ha, *]; done)
            have hf1_1_1 : w1.cell? ⟨w.heap.size + 1, 1, none⟩ = some (.int .u64 0) := by first | (rw [ha]; with_reducible assumption) | (simp (maxDischargeDepth := 7) [go_sem, ha]; done) | (rw [ha]; assumption) | (simp (maxDischargeDepth := 7) [go_sem, ha, *]; done)
            try have hg1_1 : ∀ o, w1.frozen? ⟨w.heap.size + 1, o, none⟩ = false := by intro o; first | (simp (maxDischargeDepth := 7) [go_sem, hb]; done) | (rw [hb]; simp (maxDischargeDepth := 7) [go_sem, *]; done)
            clear ha hb
            go_wp2_with fail
            with_reducible refine (HA.out _).mono ?_
            rintro e w' ⟨rfl, rfl⟩
            go_wp2_with fail
            with_reducible refine (HM1.out _).mono ?_
            rintro e w' ⟨rfl, rfl⟩
            go_wp2_with fail
            with_reducible refine (HM2.out _).mono ?_
            rintro e w' ⟨rfl, rfl⟩
            go_wp2_with fail
            with_reducible refine (HG.out _).mono ?_
            rintro e w2 ⟨rfl, hk2⟩
            refine kuse (b := w.heap.size) hk2 (by first | (simp; done) | (simp; omega) | omega) ?_
            intro ha hb
            have hz2_0 : w.heap.size < w2.heap.size := by have := hk2.size; (try simp at this); omega
            have hn2_0 : ¬ w.heap.size = w2.heap.size := by omega
            have hm2_0 : ¬ w2.heap.size = w.heap.size := by omega
            have hf2_0_0 : w2.cell? ⟨w.heap.size, 0, none⟩ = some (.int .i64 A) := by first | (rw [ha]; with_reducible assumption) | (simp (maxDischargeDepth := 7) [go_sem, ha]; done) | (rw [ha]; assumption) | (simp (maxDischargeDepth := 7) [go_sem, ha, *]; done)
            have hf2_0_1 : w2.cell? ⟨w.heap.size, 1, none⟩ = some (.int .u64 al) := by first | (rw [ha]; with_reducible assumption) | (simp (maxDischargeDepth := 7) [go_sem, ha]; done) | (rw [ha]; assumption) | (simp (maxDischargeDepth := 7) [go_sem, ha, *]; done)
            try have hg2_0 : ∀ o, w2.frozen? ⟨w.heap.size, o, none⟩ = false := by intro o; first | (simp (maxDischargeDepth := 7) [go_sem, hb]; done) | (rw [hb]; simp (maxDischargeDepth := 7) [go_sem, *]; done)
            clear ha hb
            refine kuse (b := w.heap.size + 1) hk2 (by first | (simp; done) | (simp; omega) | omega) ?_
            intro ha hb
            have hz2_1 : w.heap.size + 1 < w2.heap.size := by have := hk2.size; (try simp at this); omega
            have hn2_1 : ¬ w.heap.size + 1 = w2.heap.size := by omega
            have hm2_1 : ¬ w2.heap.size = w.heap.size + 1 := by omega
            have hf2_1_0 : w2.cell? ⟨w.heap.size + 1, 0, none⟩ = some (.int .i64 0) := by first | (rw [ha]; with_reducible assumption) | (simp (maxDischargeDepth := 7) [go_sem, ha]; done) | (rw [ha]; assumption) | (simp (maxDischargeDepth := 7) [go_sem, ha, *]; done)
            have hf2_1_1 : w2.cell? ⟨w.heap.size + 1, 1, none⟩ = some (.int .u64 0) := by first | (rw [ha]; with_reducible assumption) | (simp (maxDischargeDepth := 7) [go_sem, ha]; done) | (rw [ha]; assumption) | (simp (maxDischargeDepth := 7) [go_sem, ha, *]; done)
            try have hg2_1 : ∀ o, w2.frozen? ⟨w.heap.size + 1, o, none⟩ = false := by intro o; first | (simp (maxDischargeDepth := 7) [go_sem, hb]; done) | (rw [hb]; simp (maxDischargeDepth := 7) [go_sem, *]; done)
            clear ha hb
            try clear hf1_0_0
            try clear hf1_0_1
            try clear hf1_1_0
            try clear hf1_1_1
            try clear hg1_0
            try clear hg1_1
            try clear hz1_1
            go_wp2_with fail
            all_goals exact bodyPost_ret (v := .tuple #[.agg #[.int .i64 (wh (V)), .int .u64 (wl (V))], .bool O]) (by first | (simp [results, Try.results43, go_sem]; done) | (simp (maxDischargeDepth := 7) [results, Try.results43, go_sem, *]; done)) rfl ⟨rfl, (by repeat (first | with_reducible exact Kept.refl _ | with_reducible assumption | with_reducible refine Kept.setCell ?_ (by first | (simp; done) | (simp; omega) | omega) _ | with_reducible refine Kept.alloc ?_ _ | with_reducible refine Kept.drewN ?_ _ | with_reducible refine Kept.drew ?_ | with_reducible refine Kept.trans ?_ (by with_reducible assumption) | with_reducible refine Kept.dr ?_ (by with_reducible assumption)))⟩
        · have z1a : (SS == 0) = false := by rw [beq_eq_false_iff_ne]; exact z1
          have z1b : (SS != 0) = true := by rw [bne_iff_ne]; exact z1
          have HG := Lib.hid (ref_signed_w Q Q0 Q1 true)
          rw [q1, q2, SG] at HG
          clear SG q1 q2
          generalize hV : wval (u * a) = V at *
          generalize hW : wfit (u * a) = O at *
          clear hV hW
          rw [c1] at HM2
          clear c1 Q0 Q1 z1
          clear hH1 hH2 hL1 hL2 kSS
          go_enter Try.func43, Try.ntmps43
          go_wp2_with fail
          with_reducible refine (HZ.out _).mono ?_
          rintro e w1 ⟨rfl, hk1⟩
          refine kuse (b := w.heap.size) hk1 (by first | (simp; done) | (simp; omega) | omega) ?_
          intro ha hb
          have hz1_0 : w.heap.size < w1.heap.size := by have := hk1.size; (try simp at this); omega
          have hn1_0 : ¬ w.heap.size = w1.heap.size := by omega
          have hm1_0 : ¬ w1.heap.size = w.heap.size := by omega
          have hf1_0_0 : w1.cell? ⟨w.heap.size, 0, none⟩ = some (.int .i64 A) := by first | (rw [ha]; with_reducible assumption) | (simp (maxDischargeDepth := 7) [go_sem, ha]; done) | (rw [ha]; assumption) | (simp (maxDischargeDepth := 7) [go_sem, ha, *]; done)
          have hf1_0_1 : w1.cell? ⟨w.heap.size, 1, none⟩ = some (.int .u64 al) := by first | (rw [ha]; with_reducible assumption) | (simp (maxDischargeDepth := 7) [go_sem, ha]; done) | (rw [ha]; assumption) | (simp (maxDischargeDepth := 7) [go_sem, ha, *]; done)
          try have hg1_0 : ∀ o, w1.frozen? ⟨w.heap.size, o, none⟩ = false := by intro o; first | (simp (maxDischargeDepth := 7) [go_sem, hb]; done) | (rw [hb]; simp (maxDischargeDepth := 7) [go_sem, *]; done)
          clear ha hb
          refine kuse (b := w.heap.size + 1) hk1 (by first | (simp; done) | (simp; omega) | omega) ?_
          intro ha hb
          have hz1_1 : w.heap.size + 1 < w1.heap.size := by have := hk1.size; (try simp at this); omega
          have hn1_1 : ¬ w.heap.size + 1 = w1.heap.size := by omega
          have hm1_1 : ¬ w1.heap.size = w.heap.size + 1 := by omega
          have hf1_1_0 : w1.cell? ⟨w.heap.size + 1, 0, none⟩ = some (.int .i64 0) := by first | (rw [ha]; with_reducible assumption) | (simp (maxDischargeDepth := 7) [go_sem, ha]; done) | (rw [ha]; assumption) | (simp (maxDischargeDepth := 7) [go_sem, ha, *]; done)
          have hf1_1_1 : w1.cell? ⟨w.heap.size + 1, 1, none⟩ = some (.int .u64 0) := by first | (rw [ha]; with_reducible assumption) | (simp (maxDischargeDepth := 7) [go_sem, ha]; done) | (rw [ha]; assumption) | (simp (maxDischargeDepth := 7) [go_sem, ha, *]; done)
          try have hg1_1 : ∀ o, w1.frozen? ⟨w.heap.size + 1, o, none⟩ = false := by intro o; first | (simp (maxDischargeDepth := 7) [go_sem, hb]; done) | (rw [hb]; simp (maxDischargeDepth := 7) [go_sem, *]; done)
          clear ha hb
          go_wp2_with fail
          with_reducible refine (HA.out _).mono ?_
          rintro e w' ⟨rfl, rfl⟩
          go_wp2_with fail
          with_reducible refine (HM1.out _).mono ?_
          rintro e w' ⟨rfl, rfl⟩
          go_wp2_with fail
          with_reducible refine (HM2.out _).mono ?_
          rintro e w' ⟨rfl, rfl⟩
          go_wp2_with fail
          with_reducible refine (HG.out _).mono ?_
          rintro e w2 ⟨rfl, hk2⟩
          refine kuse (b := w.heap.size) hk2 (by first | (simp; done) | (simp; omega) | omega) ?_
          intro ha hb
          have hz2_0 : w.heap.size < w2.heap.size := by have := hk2.size; (try simp at this); omega
          have hn2_0 : ¬ w.heap.size = w2.heap.size := by omega
          have hm2_0 : ¬ w2.heap.size = w.heap.size := by omega
          have hf2_0_0 : w2.cell? ⟨w.heap.size, 0, none⟩ = some (.int .i64 A) := by first | (rw [ha]; with_reducible assumption) | (simp (maxDischargeDepth := 7) [go_sem, ha]; done) | (rw [ha]; assumption) | (simp (maxDischargeDepth := 7) [go_sem, ha, *]; done)
          have hf2_0_1 : w2.cell? ⟨w.heap.size, 1, none⟩ = some (.int .u64 al) := by first | (rw [ha]; with_reducible assumption) | (simp (maxDischargeDepth := 7) [go_sem, ha]; done) | (rw [ha]; assumption) | (simp (maxDischargeDepth := 7) [go_sem, ha, *]; done)
          try have hg2_0 : ∀ o, w2.frozen? ⟨w.heap.size, o, none⟩ = false := by intro o; first | (simp (maxDischargeDepth := 7) [go_sem, hb]; done) | (rw [hb]; simp (maxDischargeDepth := 7) [go_sem, *]; done)
          clear ha hb
          refine kuse (b := w.heap.size + 1) hk2 (by first | (simp; done) | (simp; omega) | omega) ?_
          intro ha hb
          have hz2_1 : w.heap.size + 1 < w2.heap.size := by have := hk2.size; (try simp at this); omega
          have hn2_1 : ¬ w.heap.size + 1 = w2.heap.size := by omega
          have hm2_1 : ¬ w2.heap.size = w.heap.size + 1 := by omega
          have hf2_1_0 : w2.cell? ⟨w.heap.size + 1, 0, none⟩ = some (.int .i64 0) := by first | (rw [ha]; with_reducible assumption) | (simp (maxDischargeDepth := 7) [go_sem, ha]; done) | (rw [ha]; assumption) | (simp (maxDischargeDepth := 7) [go_sem, ha, *]; done)
          have hf2_1_1 : w2.cell? ⟨w.heap.size + 1, 1, none⟩ = some (.int .u64 0) := by first | (rw [ha]; with_reducible assumption) | (simp (maxDischargeDepth := 7) [go_sem, ha]; done) | (rw [ha]; assumption) | (simp (maxDischargeDepth := 7) [go_sem, ha, *]; done)
          try have hg2_1 : ∀ o, w2.frozen? ⟨w.heap.size + 1, o, none⟩ = false := by intro o; first | (simp (maxDischargeDepth := 7) [go_sem, hb]; done) | (rw [hb]; simp (maxDischargeDepth := 7) [go_sem, *]; done)
          clear ha hb
          try clear hf1_0_0
          try clear hf1_0_1
          try clear hf1_1_0
          try clear hf1_1_1
          try clear hg1_0
          try clear hg1_1
          try clear hz1_1
          go_wp2_with fail
          all_goals exact bodyPost_ret (v := .tuple #[.agg #[.int .i64 (wh (V)), .int .u64 (wl (V))], .bool O]) (by first | (simp [results, Try.results43, go_sem]; done) | (simp (maxDischargeDepth := 7) [results, Try.results43, go_sem, *]; done)) rfl ⟨rfl, (by repeat (first | with_reducible exact Kept.refl _ | with_reducible assumption | with_reducible refine Kept.setCell ?_ (by first | (simp; done) | (simp; omega) | omega) _ | with_reducible refine Kept.alloc ?_ _ | with_reducible refine Kept.drewN ?_ _ | with_reducible refine Kept.drew ?_ | with_reducible refine Kept.trans ?_ (by with_reducible assumption) | with_reducible refine Kept.dr ?_ (by with_reducible assumption)))⟩
  · have c1a : (H2 == 0) = false := by rw [beq_eq_false_iff_ne]; exact c1
    have c1b : (H2 != 0) = true := by rw [bne_iff_ne]; exact c1
    have e3 := wfit_no (far (by omega))
    rw [e3.2, e3.1]
    clear e3 far
    clear PM SG hQ
    clear c1 hH1 hH2 hL1 hL2 kSS
    go_enter Try.func43, Try.ntmps43
    go_wp2_with fail
    with_reducible refine (HZ.out _).mono ?_
    rintro e w1 ⟨rfl, hk1⟩
    refine kuse (b := w.heap.size) hk1 (by first | (simp; done) | (simp; omega) | omega) ?_
    intro ha hb
    have hz1_0 : w.heap.size < w1.heap.size := by have := hk1.size; (try simp at this); omega
    have hn1_0 : ¬ w.heap.size = w1.heap.size := by omega
    have hm1_0 : ¬ w1.heap.size = w.heap.size := by omega
    have hf1_0_0 : w1.cell? ⟨w.heap.size, 0, none⟩ = some (.int .i64 A) := by first | (rw [ha]; with_reducible assumption) | (simp (maxDischargeDepth := 7) [go_sem, ha]; done) | (rw [ha]; assumption) | (simp (maxDischargeDepth := 7) [go_sem, ha, *]; done)
    have hf1_0_1 : w1.cell? ⟨w.heap.size, 1, none⟩ = some (.int .u64 al) := by first | (rw [ha]; with_reducible assumption) | (simp (maxDischargeDepth := 7) [go_sem, ha]; done) | (rw [ha]; assumption) | (simp (maxDischargeDepth := 7) [go_sem, ha, *]; done)
    try have hg1_0 : ∀ o, w1.frozen? ⟨w.heap.size, o, none⟩ = false := by intro o; first | (simp (maxDischargeDepth := 7) [go_sem, hb]; done) | (rw [hb]; simp (maxDischargeDepth := 7) [go_sem, *]; done)
    clear ha hb
    refine kuse (b := w.heap.size + 1) hk1 (by first | (simp; done) | (simp; omega) | omega) ?_
    intro ha hb
    have hz1_1 : w.heap.size + 1 < w1.heap.size := by have := hk1.size; (try simp at this); omega
    have hn1_1 : ¬ w.heap.size + 1 = w1.heap.size := by omega
    have hm1_1 : ¬ w1.heap.size = w.heap.size + 1 := by omega
    have hf1_1_0 : w1.cell? ⟨w.heap.size + 1, 0, none⟩ = some (.int .i64 0) := by first | (rw [ha]; with_reducible assumption) | (simp (maxDischargeDepth := 7) [go_sem, ha]; done) | (rw [ha]; assumption) | (simp (maxDischargeDepth := 7) [go_sem, ha, *]; done)
    have hf1_1_1 : w1.cell? ⟨w.heap.size + 1, 1, none⟩ = some (.int .u64 0) := by first | (rw [ha]; with_reducible assumption) | (simp (maxDischargeDepth := 7) [go_sem, ha]; done) | (rw [ha]; assumption) | (simp (maxDischargeDepth := 7) [go_sem, ha, *]; done)
    try have hg1_1 : ∀ o, w1.frozen? ⟨w.heap.size + 1, o, none⟩ = false := by intro o; first | (simp (maxDischargeDepth := 7) [go_sem, hb]; done) | (rw [hb]; simp (maxDischargeDepth := 7) [go_sem, *]; done)
    clear ha hb
    go_wp2_with fail
    with_reducible refine (HA.out _).mono ?_
    rintro e w' ⟨rfl, rfl⟩
    go_wp2_with fail
    with_reducible refine (HM1.out _).mono ?_
    rintro e w' ⟨rfl, rfl⟩
    go_wp2_with fail
    with_reducible refine (HM2.out _).mono ?_
    rintro e w' ⟨rfl, rfl⟩
    go_wp2_with fail
    all_goals exact bodyPost_ret (v := .tuple #[.agg #[.int .i64 0, .int .u64 0], .bool false]) (by first | (simp [results, Try.results43, go_sem]; done) | (simp (maxDischargeDepth := 7) [results, Try.results43, go_sem, *]; done)) rfl ⟨rfl, (by repeat (first | with_reducible exact Kept.refl _ | with_reducible assumption | with_reducible refine Kept.setCell ?_ (by first | (simp; done) | (simp; omega) | omega) _ | with_reducible refine Kept.alloc ?_ _ | with_reducible refine Kept.drewN ?_ _ | with_reducible refine Kept.drew ?_ | with_reducible refine Kept.trans ?_ (by with_reducible assumption) | with_reducible refine Kept.dr ?_ (by with_reducible assumption)))⟩
end Go.Proofs.Ytoegcfdlecbcjaa
