/-
  Own contracts: the document's quotients of layer 2.
-/
import Derived.Test.YtoegcfdlecbcjaaWidx
import Derived.WalkKit
import Derived.ProofKit
import Derived.OpenShut
import Derived.WalkLawsBesides
import Derived.WalkSpells
import Derived.Lib.Hide
import Derived.Deep.DeepCutAuto
import Derived.Deep.CutBlock
import Derived.Deep.QuietTactic
import Derived.BigQuiet
import Derived.Handy
import Derived.StillTailTactics
import Derived.IntWalk
import Derived.LoopN
import Derived.Deep.RegionHeld3
namespace Go.Proofs.Ytoegcfdlecbcjaa
open Go.ChangeShapes Go.WideShapes Go.ChangeAt Go.RowKit
set_option linter.unusedVariables false
set_option linter.unusedSimpArgs false

set_option maxHeartbeats 90000000 in
set_option maxRecDepth 100000 in
theorem ref_quo_2_f (u v : Int) (u0 : -170141183460469231731687303715884105728 ≤ u) (u1 : u < 170141183460469231731687303715884105728) (v0 : -170141183460469231731687303715884105728 ≤ v) (v1 : v < 170141183460469231731687303715884105728) (hNN : Hid (wqn u v = false)) (w : World) : Calls Try.prog 71 #[.agg #[.int .i64 (wh (u)), .int .u64 (wl (u))], .agg #[.int .i64 (wh (v)), .int .u64 (wl (v))], .int .i64 2] w fun e w' => e = .returned (.tuple #[.agg #[.int .i64 (wh (wqV 2 u v)), .int .u64 (wl (wqV 2 u v))], .bool (wqE 2 u v)]) ∧ Kept w w' := by
  by_cases hv : v = 0
  · subst hv
    rw [(wqVE0 2 u).1, (wqVE0 2 u).2]
    have sg := ref_sign_w 0
    have z1 : wh 0 = 0 := by decide
    have z2 : wl 0 = 0 := by decide
    have z3 : wcm 0 0 = 0 := by decide
    rw [z1, z2, z3] at sg
    rw [z1, z2]
    have HS := Lib.hid sg
    clear sg z1 z2 z3 u0 u1 v0 v1
    generalize wh u = A at *; generalize wl u = a at *
    go_enter Try.func71, Try.ntmps71
    go_wp2_with fail
    with_reducible refine (HS.out _).mono ?_
    rintro e w1 ⟨rfl, hk1⟩
    refine kuse (b := w.heap.size) hk1 (by first | (simp; done) | (simp; omega) | omega) ?_
    intro ha hb
    have hz1_0 : w.heap.size < w1.heap.size := by have := hk1.size; (try simp at this); omega
    have hn1_0 : ¬ w.heap.size = w1.heap.size := by omega
    have hm1_0 : ¬ w1.heap.size = w.heap.size := by omega
    have hf1_0_0 : w1.cell? ⟨w.heap.size, 0, none⟩ = some (.int .i64 A) := by first | (rw [ha]; with_reducible assumption) | (simp (maxDischargeDepth := 7) [go_sem, ha]; done) | (rw [ha]; assumption) | (simp (maxDischargeDepth := 7) [go_sem, ha, *]; done)
    have hf1_0_1 : w1.cell? ⟨w.heap.size, 1, none⟩ = some (.int .u64 a) := by first | (rw [ha]; with_reducible assumption) | (simp (maxDischargeDepth := 7) [go_sem, ha]; done) | (rw [ha]; assumption) | (simp (maxDischargeDepth := 7) [go_sem, ha, *]; done)
    try have hg1_0 : ∀ o, w1.frozen? ⟨w.heap.size, o, none⟩ = false := by intro o; first | (simp (maxDischargeDepth := 7) [go_sem, hb]; done) | (rw [hb]; simp (maxDischargeDepth := 7) [go_sem, *]; done)
    clear ha hb
    refine kuse (b := w.heap.size + 1) hk1 (by first | (simp; done) | (simp; omega) | omega) ?_
    intro ha hb
    have hz1_1 : w.heap.size + 1 < w1.heap.size := by have := hk1.size; (try simp at this); omega
    have hn1_1 : ¬ w.heap.size + 1 = w1.heap.size := by omega
    have hm1_1 : ¬ w1.heap.size = w.heap.size + 1 := by omega
    have hf1_1_0 : w1.cell? ⟨w.heap.size + 1, 0, none⟩ = some (.int .i64 0) := by first | (rw [ha]; with_reducible assumption) | (simp (maxDischargeDepth := 7) [go_sem, ha]; done) | (rw [ha]; assumption) | (simp (maxDischargeDepth := 7) [go_sem, ha, *]; done)
    have hf1_1_1 : w1.cell? ⟨w.heap.size + 1, 1, none⟩ = some (.int .u64 0) := by first | (rw [ha]; with_reducible assumption) | (simp (maxDischargeDepth := 7) [go_sem, ha]; done) | (rw [ha]; assumption) | (simp (maxDischargeDepth := 7) [go_sem, ha, *]; done)
    try have hg1_1 : ∀ o, w1.frozen? ⟨w.heap.size + 1, o, none⟩ = false := by intro o; first | (simp (maxDischargeDepth := 7) [go_sem, hb]; done) | (rw [hb]; simp (maxDischargeDepth := 7) [go_sem, *]; done)
    clear ha hb
    refine kuse (b := w.heap.size + 2) hk1 (by first | (simp; done) | (simp; omega) | omega) ?_
    intro ha hb
    have hz1_2 : w.heap.size + 2 < w1.heap.size := by have := hk1.size; (try simp at this); omega
    have hn1_2 : ¬ w.heap.size + 2 = w1.heap.size := by omega
    have hm1_2 : ¬ w1.heap.size = w.heap.size + 2 := by omega
    have hf1_2_0 : w1.cell? ⟨w.heap.size + 2, 0, none⟩ = some (.int .i64 0) := by first | (rw [ha]; with_reducible assumption) | (simp (maxDischargeDepth := 7) [go_sem, ha]; done) | (rw [ha]; assumption) | (simp (maxDischargeDepth := 7) [go_sem, ha, *]; done)
    have hf1_2_1 : w1.cell? ⟨w.heap.size + 2, 1, none⟩ = some (.int .u64 0) := by first | (rw [ha]; with_reducible assumption) | (simp (maxDischargeDepth := 7) [go_sem, ha]; done) | (rw [ha]; assumption) | (simp (maxDischargeDepth := 7) [go_sem, ha, *]; done)
    try have hg1_2 : ∀ o, w1.frozen? ⟨w.heap.size + 2, o, none⟩ = false := by intro o; first | (simp (maxDischargeDepth := 7) [go_sem, hb]; done) | (rw [hb]; simp (maxDischargeDepth := 7) [go_sem, *]; done)
    clear ha hb
    go_wp2_with fail
    all_goals exact bodyPost_ret (v := .tuple #[.agg #[.int .i64 0, .int .u64 0], .bool false]) (by first | (simp [results, Try.results71, go_sem]; done) | (simp (maxDischargeDepth := 7) [results, Try.results71, go_sem, *]; done)) rfl ⟨rfl, (by repeat (first | with_reducible exact Kept.refl _ | with_reducible assumption | with_reducible refine Kept.setCell ?_ (by first | (simp; done) | (simp; omega) | omega) _ | with_reducible refine Kept.alloc ?_ _ | with_reducible refine Kept.drewN ?_ _ | with_reducible refine Kept.drew ?_ | with_reducible refine Kept.trans ?_ (by with_reducible assumption) | with_reducible refine Kept.dr ?_ (by with_reducible assumption)))⟩

  · rw [(wqVE 2 u v hv).1, (wqVE 2 u v hv).2]
    obtain ⟨N, hN⟩ : ∃ N, wqn u v = N := ⟨_, rfl⟩
    obtain ⟨m0, m1⟩ := wmag_bd u u0 u1
    obtain ⟨d0', d1⟩ := wmag_bd v v0 v1
    have d0 : 0 < wmag v := by unfold wmag; split <;> omega
    have sg := ref_sign_w v
    have sn : wcm v 0 ≠ 0 := by unfold wcm; split <;> (try split) <;> omega
    have szu := ref_sz_w u u0 u1
    have szv := ref_sz_w v v0 v1
    have dv := ref_divide2_w (wmag u) (wmag v) m0 (by omega) d0 d1
    have q0 : 0 ≤ wmag u / wmag v := Int.ediv_nonneg m0 d0'
    have q1 : wmag u / wmag v ≤ 170141183460469231731687303715884105728 := by
      have := Int.ediv_le_self (a := wmag u) (wmag v) m0
      omega
    have r0 := Int.emod_nonneg (wmag u) (show wmag v ≠ 0 by omega)
    have r1 := Int.emod_lt_of_pos (wmag u) d0
    have hN2 : (!(decide (wh u < 0) == decide (wh v < 0))) = N := by
      rw [← hN]; unfold wqn
      have x1 : decide (wh u < 0) = decide (u < 0) := by rw [decide_eq_decide]; unfold wh; omega
      have x2 : decide (wh v < 0) = decide (v < 0) := by rw [decide_eq_decide]; unfold wh; omega
      rw [x1, x2]; rfl
    obtain ⟨T, hT⟩ : ∃ T, wq 2 u v = T := ⟨_, rfl⟩
    have eT := wq_g 2 u v N hN
    rw [hT] at eT ⊢
    generalize wmag u / wmag v = Q at *
    generalize wmag u % wmag v = R at *
    have eQ := wv Q
    have eR := wv R
    have eD := wv (wmag v)
    have Q0' : 0 ≤ wh Q := (by unfold wh; omega)
    have Q1' : wh Q ≤ 9223372036854775808 := (by unfold wh; omega)
    have R0' : 0 ≤ wh R := (by unfold wh; omega)
    have D1' : wh (wmag v) ≤ 9223372036854775808 := (by unfold wh; omega)
    have D0' : 0 ≤ wh (wmag v) := (by unfold wh; omega)
    generalize wh (wmag u) = mh at *; generalize wl (wmag u) = ml at *
    generalize wmag v = D at *
    generalize wh Q = qh at *; generalize wl Q = ql at *; generalize wh R = rh at *; generalize wl R = rl at *; generalize wh D = dh at *; generalize wl D = dl at *
    generalize wcm v 0 = S at *
    generalize wh u = A at *; generalize wl u = a at *; generalize wh v = B at *; generalize wl v = b at *
    have sn2 : (S == 0) = false := by rw [beq_eq_false_iff_ne]; exact sn
    obtain ⟨V, hV⟩ : ∃ V, wval T = V := ⟨_, rfl⟩
    obtain ⟨O, hO⟩ : ∃ O, wfit T = O := ⟨_, rfl⟩
    have SC := fun h l n h0 h1 l0 l1 hT w => ref_signed_c h l n h0 h1 l0 l1 T hT w
    simp only [hV, hO] at SC
    rw [hV, hO]
    have HN := Lib.hid hN
    clear hV hO hT hN sn m0 m1 d0' hv u0 u1 v0 v1
    obtain ⟨eQ, Q2, Q3⟩ := eQ
    obtain ⟨eR, R2, R3⟩ := eR
    obtain ⟨eD, D2, D3⟩ := eD
    have HSG := Lib.hid sg
    have HSU := Lib.hid szu
    have HSV := Lib.hid szv
    have HDV := Lib.hid dv
    have HSC := Lib.hid SC
    clear sg szu szv dv SC
    obtain ⟨z, hz⟩ : ∃ z, (!decide (R = 0)) = z := ⟨_, rfl⟩
    obtain ⟨g, hg⟩ : ∃ g, gr 2 R D N = g := ⟨_, rfl⟩
    rw [hg] at eT
    have HG := Lib.hid hg
    have HZ := Lib.hid hz
    have HEQ := Lib.hid eQ
    have HER := Lib.hid eR
    have HED := Lib.hid eD
    have HET := Lib.hid eT
    clear hg hz eQ eR eD eT
    go_enter Try.func71, Try.ntmps71
    go_wp2_with fail
    with_reducible refine (HSG.out _).mono ?_
    rintro e w1 ⟨rfl, hk1⟩
    refine kuse (b := w.heap.size) hk1 (by first | (simp; done) | (simp; omega) | omega) ?_
    intro ha hb
    have hz1_0 : w.heap.size < w1.heap.size := by have := hk1.size; (try simp at this); omega
    have hn1_0 : ¬ w.heap.size = w1.heap.size := by omega
    have hm1_0 : ¬ w1.heap.size = w.heap.size := by omega
    have hf1_0_0 : w1.cell? ⟨w.heap.size, 0, none⟩ = some (.int .i64 A) := by first | (rw [ha]; with_reducible assumption) | (simp (maxDischargeDepth := 7) [go_sem, ha]; done) | (rw [ha]; assumption) | (simp (maxDischargeDepth := 7) [go_sem, ha, *]; done)
    have hf1_0_1 : w1.cell? ⟨w.heap.size, 1, none⟩ = some (.int .u64 a) := by first | (rw [ha]; with_reducible assumption) | (simp (maxDischargeDepth := 7) [go_sem, ha]; done) | (rw [ha]; assumption) | (simp (maxDischargeDepth := 7) [go_sem, ha, *]; done)
    try have hg1_0 : ∀ o, w1.frozen? ⟨w.heap.size, o, none⟩ = false := by intro o; first | (simp (maxDischargeDepth := 7) [go_sem, hb]; done) | (rw [hb]; simp (maxDischargeDepth := 7) [go_sem, *]; done)
    clear ha hb
    refine kuse (b := w.heap.size + 1) hk1 (by first | (simp; done) | (simp; omega) | omega) ?_
    intro ha hb
    have hz1_1 : w.heap.size + 1 < w1.heap.size := by have := hk1.size; (try simp at this); omega
    have hn1_1 : ¬ w.heap.size + 1 = w1.heap.size := by omega
    have hm1_1 : ¬ w1.heap.size = w.heap.size + 1 := by omega
    have hf1_1_0 : w1.cell? ⟨w.heap.size + 1, 0, none⟩ = some (.int .i64 B) := by first | (rw [ha]; with_reducible assumption) | (simp (maxDischargeDepth := 7) [go_sem, ha]; done) | (rw [ha]; assumption) | (simp (maxDischargeDepth := 7) [go_sem, ha, *]; done)
    have hf1_1_1 : w1.cell? ⟨w.heap.size + 1, 1, none⟩ = some (.int .u64 b) := by first | (rw [ha]; with_reducible assumption) | (simp (maxDischargeDepth := 7) [go_sem, ha]; done) | (rw [ha]; assumption) | (simp (maxDischargeDepth := 7) [go_sem, ha, *]; done)
    try have hg1_1 : ∀ o, w1.frozen? ⟨w.heap.size + 1, o, none⟩ = false := by intro o; first | (simp (maxDischargeDepth := 7) [go_sem, hb]; done) | (rw [hb]; simp (maxDischargeDepth := 7) [go_sem, *]; done)
    clear ha hb
    refine kuse (b := w.heap.size + 2) hk1 (by first | (simp; done) | (simp; omega) | omega) ?_
    intro ha hb
    have hz1_2 : w.heap.size + 2 < w1.heap.size := by have := hk1.size; (try simp at this); omega
    have hn1_2 : ¬ w.heap.size + 2 = w1.heap.size := by omega
    have hm1_2 : ¬ w1.heap.size = w.heap.size + 2 := by omega
    have hf1_2_0 : w1.cell? ⟨w.heap.size + 2, 0, none⟩ = some (.int .i64 0) := by first | (rw [ha]; with_reducible assumption) | (simp (maxDischargeDepth := 7) [go_sem, ha]; done) | (rw [ha]; assumption) | (simp (maxDischargeDepth := 7) [go_sem, ha, *]; done)
    have hf1_2_1 : w1.cell? ⟨w.heap.size + 2, 1, none⟩ = some (.int .u64 0) := by first | (rw [ha]; with_reducible assumption) | (simp (maxDischargeDepth := 7) [go_sem, ha]; done) | (rw [ha]; assumption) | (simp (maxDischargeDepth := 7) [go_sem, ha, *]; done)
    try have hg1_2 : ∀ o, w1.frozen? ⟨w.heap.size + 2, o, none⟩ = false := by intro o; first | (simp (maxDischargeDepth := 7) [go_sem, hb]; done) | (rw [hb]; simp (maxDischargeDepth := 7) [go_sem, *]; done)
    clear ha hb
    go_wp2_with fail
    with_reducible refine (HSU.out _).mono ?_
    rintro e w2 ⟨rfl, hk2⟩
    refine kuse (b := w.heap.size) hk2 (by first | (simp; done) | (simp; omega) | omega) ?_
    intro ha hb
    have hz2_0 : w.heap.size < w2.heap.size := by have := hk2.size; (try simp at this); omega
    have hn2_0 : ¬ w.heap.size = w2.heap.size := by omega
    have hm2_0 : ¬ w2.heap.size = w.heap.size := by omega
    have hf2_0_0 : w2.cell? ⟨w.heap.size, 0, none⟩ = some (.int .i64 A) := by first | (rw [ha]; with_reducible assumption) | (simp (maxDischargeDepth := 7) [go_sem, ha]; done) | (rw [ha]; assumption) | (simp (maxDischargeDepth := 7) [go_sem, ha, *]; done)
    have hf2_0_1 : w2.cell? ⟨w.heap.size, 1, none⟩ = some (.int .u64 a) := by first | (rw [ha]; with_reducible assumption) | (simp (maxDischargeDepth := 7) [go_sem, ha]; done) | (rw [ha]; assumption) | (simp (maxDischargeDepth := 7) [go_sem, ha, *]; done)
    try have hg2_0 : ∀ o, w2.frozen? ⟨w.heap.size, o, none⟩ = false := by intro o; first | (simp (maxDischargeDepth := 7) [go_sem, hb]; done) | (rw [hb]; simp (maxDischargeDepth := 7) [go_sem, *]; done)
    clear ha hb
    refine kuse (b := w.heap.size + 1) hk2 (by first | (simp; done) | (simp; omega) | omega) ?_
    intro ha hb
    have hz2_1 : w.heap.size + 1 < w2.heap.size := by have := hk2.size; (try simp at this); omega
    have hn2_1 : ¬ w.heap.size + 1 = w2.heap.size := by omega
    have hm2_1 : ¬ w2.heap.size = w.heap.size + 1 := by omega
    have hf2_1_0 : w2.cell? ⟨w.heap.size + 1, 0, none⟩ = some (.int .i64 B) := by first | (rw [ha]; with_reducible assumption) | (simp (maxDischargeDepth := 7) [go_sem, ha]; done) | (rw [ha]; assumption) | (simp (maxDischargeDepth := 7) [go_sem, ha, *]; done)
    have hf2_1_1 : w2.cell? ⟨w.heap.size + 1, 1, none⟩ = some (.int .u64 b) := by first | (rw [ha]; with_reducible assumption) | (simp (maxDischargeDepth := 7) [go_sem, ha]; done) | (rw [ha]; assumption) | (simp (maxDischargeDepth := 7) [go_sem, ha, *]; done)
    try have hg2_1 : ∀ o, w2.frozen? ⟨w.heap.size + 1, o, none⟩ = false := by intro o; first | (simp (maxDischargeDepth := 7) [go_sem, hb]; done) | (rw [hb]; simp (maxDischargeDepth := 7) [go_sem, *]; done)
    clear ha hb
    refine kuse (b := w.heap.size + 2) hk2 (by first | (simp; done) | (simp; omega) | omega) ?_
    intro ha hb
    have hz2_2 : w.heap.size + 2 < w2.heap.size := by have := hk2.size; (try simp at this); omega
    have hn2_2 : ¬ w.heap.size + 2 = w2.heap.size := by omega
    have hm2_2 : ¬ w2.heap.size = w.heap.size + 2 := by omega
    have hf2_2_0 : w2.cell? ⟨w.heap.size + 2, 0, none⟩ = some (.int .i64 0) := by first | (rw [ha]; with_reducible assumption) | (simp (maxDischargeDepth := 7) [go_sem, ha]; done) | (rw [ha]; assumption) | (simp (maxDischargeDepth := 7) [go_sem, ha, *]; done)
    have hf2_2_1 : w2.cell? ⟨w.heap.size + 2, 1, none⟩ = some (.int .u64 0) := by first | (rw [ha]; with_reducible assumption) | (simp (maxDischargeDepth := 7) [go_sem, ha]; done) | (rw [ha]; assumption) | (simp (maxDischargeDepth := 7) [go_sem, ha, *]; done)
    try have hg2_2 : ∀ o, w2.frozen? ⟨w.heap.size + 2, o, none⟩ = false := by intro o; first | (simp (maxDischargeDepth := 7) [go_sem, hb]; done) | (rw [hb]; simp (maxDischargeDepth := 7) [go_sem, *]; done)
    clear ha hb
    try clear hf1_0_0
    try clear hf1_0_1
    try clear hf1_1_0
    try clear hf1_1_1
    try clear hf1_2_0
    try clear hf1_2_1
    try clear hg1_0
    try clear hg1_1
    try clear hg1_2
    try clear hz1_1
    try clear hz1_2
    go_wp2_with fail
    with_reducible refine (HSV.out _).mono ?_
    rintro e w3 ⟨rfl, hk3⟩
    refine kuse (b := w.heap.size) hk3 (by first | (simp; done) | (simp; omega) | omega) ?_
    intro ha hb
    have hz3_0 : w.heap.size < w3.heap.size := by have := hk3.size; (try simp at this); omega
    have hn3_0 : ¬ w.heap.size = w3.heap.size := by omega
    have hm3_0 : ¬ w3.heap.size = w.heap.size := by omega
    have hf3_0_0 : w3.cell? ⟨w.heap.size, 0, none⟩ = some (.int .i64 A) := by first | (rw [ha]; with_reducible assumption) | (simp (maxDischargeDepth := 7) [go_sem, ha]; done) | (rw [ha]; assumption) | (simp (maxDischargeDepth := 7) [go_sem, ha, *]; done)
    have hf3_0_1 : w3.cell? ⟨w.heap.size, 1, none⟩ = some (.int .u64 a) := by first | (rw [ha]; with_reducible assumption) | (simp (maxDischargeDepth := 7) [go_sem, ha]; done) | (rw [ha]; assumption) | (simp (maxDischargeDepth := 7) [go_sem, ha, *]; done)
    try have hg3_0 : ∀ o, w3.frozen? ⟨w.heap.size, o, none⟩ = false := by intro o; first | (simp (maxDischargeDepth := 7) [go_sem, hb]; done) | (rw [hb]; simp (maxDischargeDepth := 7) [go_sem, *]; done)
    clear ha hb
    refine kuse (b := w.heap.size + 1) hk3 (by first | (simp; done) | (simp; omega) | omega) ?_
    intro ha hb
    have hz3_1 : w.heap.size + 1 < w3.heap.size := by have := hk3.size; (try simp at this); omega
    have hn3_1 : ¬ w.heap.size + 1 = w3.heap.size := by omega
    have hm3_1 : ¬ w3.heap.size = w.heap.size + 1 := by omega
    have hf3_1_0 : w3.cell? ⟨w.heap.size + 1, 0, none⟩ = some (.int .i64 B) := by first | (rw [ha]; with_reducible assumption) | (simp (maxDischargeDepth := 7) [go_sem, ha]; done) | (rw [ha]; assumption) | (simp (maxDischargeDepth := 7) [go_sem, ha, *]; done)
    have hf3_1_1 : w3.cell? ⟨w.heap.size + 1, 1, none⟩ = some (.int .u64 b) := by first | (rw [ha]; with_reducible assumption) | (simp (maxDischargeDepth := 7) [go_sem, ha]; done) | (rw [ha]; assumption) | (simp (maxDischargeDepth := 7) [go_sem, ha, *]; done)
    try have hg3_1 : ∀ o, w3.frozen? ⟨w.heap.size + 1, o, none⟩ = false := by intro o; first | (simp (maxDischargeDepth := 7) [go_sem, hb]; done) | (rw [hb]; simp (maxDischargeDepth := 7) [go_sem, *]; done)
    clear ha hb
    refine kuse (b := w.heap.size + 2) hk3 (by first | (simp; done) | (simp; omega) | omega) ?_
    intro ha hb
    have hz3_2 : w.heap.size + 2 < w3.heap.size := by have := hk3.size; (try simp at this); omega
    have hn3_2 : ¬ w.heap.size + 2 = w3.heap.size := by omega
    have hm3_2 : ¬ w3.heap.size = w.heap.size + 2 := by omega
    have hf3_2_0 : w3.cell? ⟨w.heap.size + 2, 0, none⟩ = some (.int .i64 0) := by first | (rw [ha]; with_reducible assumption) | (simp (maxDischargeDepth := 7) [go_sem, ha]; done) | (rw [ha]; assumption) | (simp (maxDischargeDepth := 7) [go_sem, ha, *]; done)
    have hf3_2_1 : w3.cell? ⟨w.heap.size + 2, 1, none⟩ = some (.int .u64 0) := by first | (rw [ha]; with_reducible assumption) | (simp (maxDischargeDepth := 7) [go_sem, ha]; done) | (rw [ha]; assumption) | (simp (maxDischargeDepth := 7) [go_sem, ha, *]; done)
    try have hg3_2 : ∀ o, w3.frozen? ⟨w.heap.size + 2, o, none⟩ = false := by intro o; first | (simp (maxDischargeDepth := 7) [go_sem, hb]; done) | (rw [hb]; simp (maxDischargeDepth := 7) [go_sem, *]; done)
    clear ha hb
    try clear hf2_0_0
    try clear hf2_0_1
    try clear hf2_1_0
    try clear hf2_1_1
    try clear hf2_2_0
    try clear hf2_2_1
    try clear hg2_0
    try clear hg2_1
    try clear hg2_2
    try clear hz2_1
    try clear hz2_2
    go_wp2_with fail
    with_reducible refine (HDV.out _).mono ?_
    rintro e w' ⟨rfl, rfl⟩
    go_upto_region 7 with (fail)
    go_cut [17] (fun s wx => s = .bool z ∧ w3 = wx)
    case first =>
      by_cases h1 : rh = 0
      · by_cases h2 : rl = 0
        · have HZV : Hid (z = false) := Lib.hid (by have := HER.out; rw [← HZ.out, decide_eq_true (by omega)]; rfl)
          subst h1 h2
          go_wp2_with fail
          all_goals (go_meet; case rel => exact ⟨(by rw [HZV.out]), rfl⟩)
        · have HZV : Hid (z = true) := Lib.hid (by have := HER.out; rw [← HZ.out, decide_eq_false (by omega)]; rfl)
          have x1a : (rl == 0) = false := by rw [beq_eq_false_iff_ne]; omega
          have x1b : (rl != 0) = true := by rw [bne_iff_ne]; omega
          subst h1
          go_wp2_with fail
          all_goals (go_meet; case rel => exact ⟨(by rw [HZV.out]), rfl⟩)
      · have HZV : Hid (z = true) := Lib.hid (by have := HER.out; rw [← HZ.out, decide_eq_false (by omega)]; rfl)
        have x1a : (rh == 0) = false := by rw [beq_eq_false_iff_ne]; omega
        have x1b : (rh != 0) = true := by rw [bne_iff_ne]; omega
        go_wp2_with fail
        all_goals (go_meet; case rel => exact ⟨(by rw [HZV.out]), rfl⟩)
    case rest =>
    obtain ⟨rfl, rfl⟩ := hcut
    go_upto_region 8 with (fail)
    go_cut [18] (fun s wx => (∃ b : Bool, s = .bool b) ∧ w3 = wx)
    case first =>
      cases N <;> cases z
      · go_wp2_with fail
        all_goals (go_meet; case rel => exact ⟨⟨_, rfl⟩, rfl⟩)
      · go_wp2_with fail
        all_goals (go_meet; case rel => exact ⟨⟨_, rfl⟩, rfl⟩)
      · go_wp2_with fail
        all_goals (go_meet; case rel => exact ⟨⟨_, rfl⟩, rfl⟩)
      · go_wp2_with fail
        all_goals (go_meet; case rel => exact ⟨⟨_, rfl⟩, rfl⟩)
    case rest =>
    obtain ⟨⟨b0, rfl⟩, rfl⟩ := hcut
    go_upto_if 71 with (fail)
    go_cut [18, 19, 20, 21] (fun s _ _ _ wx => s = .bool g ∧ w3 = wx)
    case first =>
      have er := HER.out
      have ed := HED.out
      have hle : rh ≤ dh := by omega
      by_cases kb : dl < rl
      · have hlt : rh < dh := by omega
        clear er ed
        obtain ⟨sh, hsh⟩ : ∃ x, dh - rh - 1 = x := ⟨_, rfl⟩
        obtain ⟨sl, hsl⟩ : ∃ x, dl - rl + 18446744073709551616 = x := ⟨_, rfl⟩
        have u1 : IntKind.u64.wrap (dh - rh) = dh - rh := by rw [IntKind.wrap_u64]; omega
        have u2 : IntKind.u64.wrap (dh - rh - 1) = sh := by rw [IntKind.wrap_u64]; omega
        have u3 : IntKind.u64.wrap (dl - rl) = sl := by rw [IntKind.wrap_u64]; omega
        have er := HER.out
        have ed := HED.out
        by_cases k1 : sh < rh
        · have gv : g = true := by rw [← HG.out]; exact gr2_gt R D N (by omega) (by omega)
          have GV := Lib.hid gv
          clear gv er ed hsh hsl
          go_wp2_with fail
          all_goals (go_meet; case rel => exact ⟨(by rw [GV.out]), rfl⟩)
        · by_cases k2 : rh = sh
          · by_cases k3 : sl < rl
            · have gv : g = true := by rw [← HG.out]; exact gr2_gt R D N (by omega) (by omega)
              have GV := Lib.hid gv
              clear gv er ed hsh hsl
              subst k2
              go_wp2_with fail
              all_goals (go_meet; case rel => exact ⟨(by rw [GV.out]), rfl⟩)
            · by_cases k4 : rl = sl
              · have gv : g = !N := by rw [← HG.out]; exact gr2_eq R D N (by omega) (by omega)
                have GV := Lib.hid gv
                clear gv er ed hsh hsl
                subst k2 k4
                go_wp2_with fail
                all_goals (go_meet; case rel => exact ⟨(by rw [GV.out]), rfl⟩)
              · have k4a : (rl == sl) = false := by rw [beq_eq_false_iff_ne]; exact k4
                have gv : g = false := by rw [← HG.out]; exact gr2_lt R D N (by omega)
                have GV := Lib.hid gv
                clear gv er ed hsh hsl
                subst k2
                go_wp2_with fail
                all_goals (go_meet; case rel => exact ⟨(by rw [GV.out]), rfl⟩)
          · have k2a : (rh == sh) = false := by rw [beq_eq_false_iff_ne]; exact k2
            have gv : g = false := by rw [← HG.out]; exact gr2_lt R D N (by omega)
            have GV := Lib.hid gv
            clear gv er ed hsh hsl
            go_wp2_with fail
            all_goals (go_meet; case rel => exact ⟨(by rw [GV.out]), rfl⟩)
      · clear er ed
        obtain ⟨sh, hsh⟩ : ∃ x, dh - rh = x := ⟨_, rfl⟩
        obtain ⟨sl, hsl⟩ : ∃ x, dl - rl = x := ⟨_, rfl⟩
        have u1 : IntKind.u64.wrap (dh - rh) = sh := by rw [IntKind.wrap_u64]; omega
        have u3 : IntKind.u64.wrap (dl - rl) = sl := by rw [IntKind.wrap_u64]; omega
        have er := HER.out
        have ed := HED.out
        by_cases k1 : sh < rh
        · have gv : g = true := by rw [← HG.out]; exact gr2_gt R D N (by omega) (by omega)
          have GV := Lib.hid gv
          clear gv er ed hsh hsl
          go_wp2_with fail
          all_goals (go_meet; case rel => exact ⟨(by rw [GV.out]), rfl⟩)
        · by_cases k2 : rh = sh
          · by_cases k3 : sl < rl
            · have gv : g = true := by rw [← HG.out]; exact gr2_gt R D N (by omega) (by omega)
              have GV := Lib.hid gv
              clear gv er ed hsh hsl
              subst k2
              go_wp2_with fail
              all_goals (go_meet; case rel => exact ⟨(by rw [GV.out]), rfl⟩)
            · by_cases k4 : rl = sl
              · have gv : g = !N := by rw [← HG.out]; exact gr2_eq R D N (by omega) (by omega)
                have GV := Lib.hid gv
                clear gv er ed hsh hsl
                subst k2 k4
                go_wp2_with fail
                all_goals (go_meet; case rel => exact ⟨(by rw [GV.out]), rfl⟩)
              · have k4a : (rl == sl) = false := by rw [beq_eq_false_iff_ne]; exact k4
                have gv : g = false := by rw [← HG.out]; exact gr2_lt R D N (by omega)
                have GV := Lib.hid gv
                clear gv er ed hsh hsl
                subst k2
                go_wp2_with fail
                all_goals (go_meet; case rel => exact ⟨(by rw [GV.out]), rfl⟩)
          · have k2a : (rh == sh) = false := by rw [beq_eq_false_iff_ne]; exact k2
            have gv : g = false := by rw [← HG.out]; exact gr2_lt R D N (by omega)
            have GV := Lib.hid gv
            clear gv er ed hsh hsl
            go_wp2_with fail
            all_goals (go_meet; case rel => exact ⟨(by rw [GV.out]), rfl⟩)
    case rest =>
    obtain ⟨rfl, rfl⟩ := hcut
    clear HG HZ HER HED r0 r1 d0 d1 R0' D1' D0' R2 R3 D2 D3
    cases N
    · cases g
      · by_cases k2 : qh = 0
        · by_cases k1 : ql = 0
          · have HT : Hid (sgd false ((0) * 18446744073709551616 + (0)) = T) := Lib.hid (by have et := HET.out; have eq := HEQ.out; rw [sgd_f]; rw [sgd_f] at et; simp only [bi, if_true, Bool.false_eq_true, if_false] at et; omega)
            subst k2 k1
            go_wp2_with fail
            with_reducible refine (HSC.out (0) (0) false (by omega) (by omega) (by omega) (by omega) HT.out _).mono ?_
            rintro e w4 ⟨rfl, hk4⟩
            refine kuse (b := w.heap.size) hk4 (by first | (simp; done) | (simp; omega) | omega) ?_
            intro ha hb
            have hz4_0 : w.heap.size < w4.heap.size := by have := hk4.size; (try simp at this); omega
            have hn4_0 : ¬ w.heap.size = w4.heap.size := by omega
            have hm4_0 : ¬ w4.heap.size = w.heap.size := by omega
            have hf4_0_0 : w4.cell? ⟨w.heap.size, 0, none⟩ = some (.int .i64 A) := by first | (rw [ha]; with_reducible assumption) | (simp (maxDischargeDepth := 7) [go_sem, ha]; done) | (rw [ha]; assumption) | (simp (maxDischargeDepth := 7) [go_sem, ha, *]; done)
            have hf4_0_1 : w4.cell? ⟨w.heap.size, 1, none⟩ = some (.int .u64 a) := by first | (rw [ha]; with_reducible assumption) | (simp (maxDischargeDepth := 7) [go_sem, ha]; done) | (rw [ha]; assumption) | (simp (maxDischargeDepth := 7) [go_sem, ha, *]; done)
            try have hg4_0 : ∀ o, w4.frozen? ⟨w.heap.size, o, none⟩ = false := by intro o; first | (simp (maxDischargeDepth := 7) [go_sem, hb]; done) | (rw [hb]; simp (maxDischargeDepth := 7) [go_sem, *]; done)
            clear ha hb
            refine kuse (b := w.heap.size + 1) hk4 (by first | (simp; done) | (simp; omega) | omega) ?_
            intro ha hb
            have hz4_1 : w.heap.size + 1 < w4.heap.size := by have := hk4.size; (try simp at this); omega
            have hn4_1 : ¬ w.heap.size + 1 = w4.heap.size := by omega
            have hm4_1 : ¬ w4.heap.size = w.heap.size + 1 := by omega
            have hf4_1_0 : w4.cell? ⟨w.heap.size + 1, 0, none⟩ = some (.int .i64 B) := by first | (rw [ha]; with_reducible assumption) | (simp (maxDischargeDepth := 7) [go_sem, ha]; done) | (rw [ha]; assumption) | (simp (maxDischargeDepth := 7) [go_sem, ha, *]; done)
            have hf4_1_1 : w4.cell? ⟨w.heap.size + 1, 1, none⟩ = some (.int .u64 b) := by first | (rw [ha]; with_reducible assumption) | (simp (maxDischargeDepth := 7) [go_sem, ha]; done) | (rw [ha]; assumption) | (simp (maxDischargeDepth := 7) [go_sem, ha, *]; done)
            try have hg4_1 : ∀ o, w4.frozen? ⟨w.heap.size + 1, o, none⟩ = false := by intro o; first | (simp (maxDischargeDepth := 7) [go_sem, hb]; done) | (rw [hb]; simp (maxDischargeDepth := 7) [go_sem, *]; done)
            clear ha hb
            refine kuse (b := w.heap.size + 2) hk4 (by first | (simp; done) | (simp; omega) | omega) ?_
            intro ha hb
            have hz4_2 : w.heap.size + 2 < w4.heap.size := by have := hk4.size; (try simp at this); omega
            have hn4_2 : ¬ w.heap.size + 2 = w4.heap.size := by omega
            have hm4_2 : ¬ w4.heap.size = w.heap.size + 2 := by omega
            have hf4_2_0 : w4.cell? ⟨w.heap.size + 2, 0, none⟩ = some (.int .i64 0) := by first | (rw [ha]; with_reducible assumption) | (simp (maxDischargeDepth := 7) [go_sem, ha]; done) | (rw [ha]; assumption) | (simp (maxDischargeDepth := 7) [go_sem, ha, *]; done)
            have hf4_2_1 : w4.cell? ⟨w.heap.size + 2, 1, none⟩ = some (.int .u64 0) := by first | (rw [ha]; with_reducible assumption) | (simp (maxDischargeDepth := 7) [go_sem, ha]; done) | (rw [ha]; assumption) | (simp (maxDischargeDepth := 7) [go_sem, ha, *]; done)
            try have hg4_2 : ∀ o, w4.frozen? ⟨w.heap.size + 2, o, none⟩ = false := by intro o; first | (simp (maxDischargeDepth := 7) [go_sem, hb]; done) | (rw [hb]; simp (maxDischargeDepth := 7) [go_sem, *]; done)
            clear ha hb
            try clear hf3_0_0
            try clear hf3_0_1
            try clear hf3_1_0
            try clear hf3_1_1
            try clear hf3_2_0
            try clear hf3_2_1
            try clear hg3_0
            try clear hg3_1
            try clear hg3_2
            try clear hz3_1
            try clear hz3_2
            go_wp2_with fail
            all_goals exact bodyPost_ret (v := .tuple #[.agg #[.int .i64 (wh (V)), .int .u64 (wl (V))], .bool O]) (by first | (simp [results, Try.results71, go_sem]; done) | (simp (maxDischargeDepth := 7) [results, Try.results71, go_sem, *]; done)) rfl ⟨rfl, (by repeat (first | with_reducible exact Kept.refl _ | with_reducible assumption | with_reducible refine Kept.setCell ?_ (by first | (simp; done) | (simp; omega) | omega) _ | with_reducible refine Kept.alloc ?_ _ | with_reducible refine Kept.drewN ?_ _ | with_reducible refine Kept.drew ?_ | with_reducible refine Kept.trans ?_ (by with_reducible assumption) | with_reducible refine Kept.dr ?_ (by with_reducible assumption)))⟩
          · have y1a : (ql == 0) = false := by rw [beq_eq_false_iff_ne]; omega
            have y1b : (ql != 0) = true := by rw [bne_iff_ne]; omega
            have HT : Hid (sgd false ((0) * 18446744073709551616 + (ql)) = T) := Lib.hid (by have et := HET.out; have eq := HEQ.out; rw [sgd_f]; rw [sgd_f] at et; simp only [bi, if_true, Bool.false_eq_true, if_false] at et; omega)
            subst k2
            go_wp2_with fail
            with_reducible refine (HSC.out (0) (ql) false (by omega) (by omega) (by omega) (by omega) HT.out _).mono ?_
            rintro e w4 ⟨rfl, hk4⟩
            refine kuse (b := w.heap.size) hk4 (by first | (simp; done) | (simp; omega) | omega) ?_
            intro ha hb
            have hz4_0 : w.heap.size < w4.heap.size := by have := hk4.size; (try simp at this); omega
            have hn4_0 : ¬ w.heap.size = w4.heap.size := by omega
            have hm4_0 : ¬ w4.heap.size = w.heap.size := by omega
            have hf4_0_0 : w4.cell? ⟨w.heap.size, 0, none⟩ = some (.int .i64 A) := by first | (rw [ha]; with_reducible assumption) | (simp (maxDischargeDepth := 7) [go_sem, ha]; done) | (rw [ha]; assumption) | (simp (maxDischargeDepth := 7) [go_sem, ha, *]; done)
            have hf4_0_1 : w4.cell? ⟨w.heap.size, 1, none⟩ = some (.int .u64 a) := by first | (rw [ha]; with_reducible assumption) | (simp (maxDischargeDepth := 7) [go_sem, ha]; done) | (rw [ha]; assumption) | (simp (maxDischargeDepth := 7) [go_sem, ha, *]; done)
            try have hg4_0 : ∀ o, w4.frozen? ⟨w.heap.size, o, none⟩ = false := by intro o; first | (simp (maxDischargeDepth := 7) [go_sem, hb]; done) | (rw [hb]; simp (maxDischargeDepth := 7) [go_sem, *]; done)
            clear ha hb
            refine kuse (b := w.heap.size + 1) hk4 (by first | (simp; done) | (simp; omega) | omega) ?_
            intro ha hb
            have hz4_1 : w.heap.size + 1 < w4.heap.size := by have := hk4.size; (try simp at this); omega
            have hn4_1 : ¬ w.heap.size + 1 = w4.heap.size := by omega
            have hm4_1 : ¬ w4.heap.size = w.heap.size + 1 := by omega
            have hf4_1_0 : w4.cell? ⟨w.heap.size + 1, 0, none⟩ = some (.int .i64 B) := by first | (rw [ha]; with_reducible assumption) | (simp (maxDischargeDepth := 7) [go_sem, ha]; done) | (rw [ha]; assumption) | (simp (maxDischargeDepth := 7) [go_sem, ha, *]; done)
            have hf4_1_1 : w4.cell? ⟨w.heap.size + 1, 1, none⟩ = some (.int .u64 b) := by first | (rw [ha]; with_reducible assumption) | (simp (maxDischargeDepth := 7) [go_sem, ha]; done) | (rw [ha]; assumption) | (simp (maxDischargeDepth := 7) [go_sem, ha, *]; done)
            try have hg4_1 : ∀ o, w4.frozen? ⟨w.heap.size + 1, o, none⟩ = false := by intro o; first | (simp (maxDischargeDepth := 7) [go_sem, hb]; done) | (rw [hb]; simp (maxDischargeDepth := 7) [go_sem, *]; done)
            clear ha hb
            refine kuse (b := w.heap.size + 2) hk4 (by first | (simp; done) | (simp; omega) | omega) ?_
            intro ha hb
            have hz4_2 : w.heap.size + 2 < w4.heap.size := by have := hk4.size; (try simp at this); omega
            have hn4_2 : ¬ w.heap.size + 2 = w4.heap.size := by omega
            have hm4_2 : ¬ w4.heap.size = w.heap.size + 2 := by omega
            have hf4_2_0 : w4.cell? ⟨w.heap.size + 2, 0, none⟩ = some (.int .i64 0) := by first | (rw [ha]; with_reducible assumption) | (simp (maxDischargeDepth := 7) [go_sem, ha]; done) | (rw [ha]; assumption) | (simp (maxDischargeDepth := 7) [go_sem, ha, *]; done)
            have hf4_2_1 : w4.cell? ⟨w.heap.size + 2, 1, none⟩ = some (.int .u64 0) := by first | (rw [ha]; with_reducible assumption) | (simp (maxDischargeDepth := 7) [go_sem, ha]; done) | (rw [ha]; assumption) | (simp (maxDischargeDepth := 7) [go_sem, ha, *]; done)
            try have hg4_2 : ∀ o, w4.frozen? ⟨w.heap.size + 2, o, none⟩ = false := by intro o; first | (simp (maxDischargeDepth := 7) [go_sem, hb]; done) | (rw [hb]; simp (maxDischargeDepth := 7) [go_sem, *]; done)
            clear ha hb
            try clear hf3_0_0
            try clear hf3_0_1
            try clear hf3_1_0
            try clear hf3_1_1
            try clear hf3_2_0
            try clear hf3_2_1
            try clear hg3_0
            try clear hg3_1
            try clear hg3_2
            try clear hz3_1
            try clear hz3_2
            go_wp2_with fail
            all_goals exact bodyPost_ret (v := .tuple #[.agg #[.int .i64 (wh (V)), .int .u64 (wl (V))], .bool O]) (by first | (simp [results, Try.results71, go_sem]; done) | (simp (maxDischargeDepth := 7) [results, Try.results71, go_sem, *]; done)) rfl ⟨rfl, (by repeat (first | with_reducible exact Kept.refl _ | with_reducible assumption | with_reducible refine Kept.setCell ?_ (by first | (simp; done) | (simp; omega) | omega) _ | with_reducible refine Kept.alloc ?_ _ | with_reducible refine Kept.drewN ?_ _ | with_reducible refine Kept.drew ?_ | with_reducible refine Kept.trans ?_ (by with_reducible assumption) | with_reducible refine Kept.dr ?_ (by with_reducible assumption)))⟩
        · by_cases k3 : ql = 0
          · have y2a : (qh == 0) = false := by rw [beq_eq_false_iff_ne]; omega
            have y2b : (qh != 0) = true := by rw [bne_iff_ne]; omega
            have HT : Hid (sgd false ((qh) * 18446744073709551616 + (0)) = T) := Lib.hid (by have et := HET.out; have eq := HEQ.out; rw [sgd_f]; rw [sgd_f] at et; simp only [bi, if_true, Bool.false_eq_true, if_false] at et; omega)
            subst k3
            go_wp2_with fail
            with_reducible refine (HSC.out (qh) (0) false (by omega) (by omega) (by omega) (by omega) HT.out _).mono ?_
            rintro e w4 ⟨rfl, hk4⟩
            refine kuse (b := w.heap.size) hk4 (by first | (simp; done) | (simp; omega) | omega) ?_
            intro ha hb
            have hz4_0 : w.heap.size < w4.heap.size := by have := hk4.size; (try simp at this); omega
            have hn4_0 : ¬ w.heap.size = w4.heap.size := by omega
            have hm4_0 : ¬ w4.heap.size = w.heap.size := by omega
            have hf4_0_0 : w4.cell? ⟨w.heap.size, 0, none⟩ = some (.int .i64 A) := by first | (rw [ha]; with_reducible assumption) | (simp (maxDischargeDepth := 7) [go_sem, ha]; done) | (rw [ha]; assumption) | (simp (maxDischargeDepth := 7) [go_sem, ha, *]; done)
            have hf4_0_1 : w4.cell? ⟨w.heap.size, 1, none⟩ = some (.int .u64 a) := by first | (rw [ha]; with_reducible assumption) | (simp (maxDischargeDepth := 7) [go_sem, ha]; done) | (rw [ha]; assumption) | (simp (maxDischargeDepth := 7) [go_sem, ha, *]; done)
            try have hg4_0 : ∀ o, w4.frozen? ⟨w.heap.size, o, none⟩ = false := by intro o; first | (simp (maxDischargeDepth := 7) [go_sem, hb]; done) | (rw [hb]; simp (maxDischargeDepth := 7) [go_sem, *]; done)
            clear ha hb
            refine kuse (b := w.heap.size + 1) hk4 (by first | (simp; done) | (simp; omega) | omega) ?_
            intro ha hb
            have hz4_1 : w.heap.size + 1 < w4.heap.size := by have := hk4.size; (try simp at this); omega
            have hn4_1 : ¬ w.heap.size + 1 = w4.heap.size := by omega
            have hm4_1 : ¬ w4.heap.size = w.heap.size + 1 := by omega
            have hf4_1_0 : w4.cell? ⟨w.heap.size + 1, 0, none⟩ = some (.int .i64 B) := by first | (rw [ha]; with_reducible assumption) | (simp (maxDischargeDepth := 7) [go_sem, ha]; done) | (rw [ha]; assumption) | (simp (maxDischargeDepth := 7) [go_sem, ha, *]; done)
            have hf4_1_1 : w4.cell? ⟨w.heap.size + 1, 1, none⟩ = some (.int .u64 b) := by first | (rw [ha]; with_reducible assumption) | (simp (maxDischargeDepth := 7) [go_sem, ha]; done) | (rw [ha]; assumption) | (simp (maxDischargeDepth := 7) [go_sem, ha, *]; done)
            try have hg4_1 : ∀ o, w4.frozen? ⟨w.heap.size + 1, o, none⟩ = false := by intro o; first | (simp (maxDischargeDepth := 7) [go_sem, hb]; done) | (rw [hb]; simp (maxDischargeDepth := 7) [go_sem, *]; done)
            clear ha hb
            refine kuse (b := w.heap.size + 2) hk4 (by first | (simp; done) | (simp; omega) | omega) ?_
            intro ha hb
            have hz4_2 : w.heap.size + 2 < w4.heap.size := by have := hk4.size; (try simp at this); omega
            have hn4_2 : ¬ w.heap.size + 2 = w4.heap.size := by omega
            have hm4_2 : ¬ w4.heap.size = w.heap.size + 2 := by omega
            have hf4_2_0 : w4.cell? ⟨w.heap.size + 2, 0, none⟩ = some (.int .i64 0) := by first | (rw [ha]; with_reducible assumption) | (simp (maxDischargeDepth := 7) [go_sem, ha]; done) | (rw [ha]; assumption) | (simp (maxDischargeDepth := 7) [go_sem, ha, *]; done)
            have hf4_2_1 : w4.cell? ⟨w.heap.size + 2, 1, none⟩ = some (.int .u64 0) := by first | (rw [ha]; with_reducible assumption) | (simp (maxDischargeDepth := 7) [go_sem, ha]; done) | (rw [ha]; assumption) | (simp (maxDischargeDepth := 7) [go_sem, ha, *]; done)
            try have hg4_2 : ∀ o, w4.frozen? ⟨w.heap.size + 2, o, none⟩ = false := by intro o; first | (simp (maxDischargeDepth := 7) [go_sem, hb]; done) | (rw [hb]; simp (maxDischargeDepth := 7) [go_sem, *]; done)
            clear ha hb
            try clear hf3_0_0
            try clear hf3_0_1
            try clear hf3_1_0
            try clear hf3_1_1
            try clear hf3_2_0
            try clear hf3_2_1
            try clear hg3_0
            try clear hg3_1
            try clear hg3_2
            try clear hz3_1
            try clear hz3_2
            go_wp2_with fail
            all_goals exact bodyPost_ret (v := .tuple #[.agg #[.int .i64 (wh (V)), .int .u64 (wl (V))], .bool O]) (by first | (simp [results, Try.results71, go_sem]; done) | (simp (maxDischargeDepth := 7) [results, Try.results71, go_sem, *]; done)) rfl ⟨rfl, (by repeat (first | with_reducible exact Kept.refl _ | with_reducible assumption | with_reducible refine Kept.setCell ?_ (by first | (simp; done) | (simp; omega) | omega) _ | with_reducible refine Kept.alloc ?_ _ | with_reducible refine Kept.drewN ?_ _ | with_reducible refine Kept.drew ?_ | with_reducible refine Kept.trans ?_ (by with_reducible assumption) | with_reducible refine Kept.dr ?_ (by with_reducible assumption)))⟩
          · have y2a : (qh == 0) = false := by rw [beq_eq_false_iff_ne]; omega
            have y2b : (qh != 0) = true := by rw [bne_iff_ne]; omega
            have y1a : (ql == 0) = false := by rw [beq_eq_false_iff_ne]; omega
            have y1b : (ql != 0) = true := by rw [bne_iff_ne]; omega
            have HT : Hid (sgd false ((qh) * 18446744073709551616 + (ql)) = T) := Lib.hid (by have et := HET.out; have eq := HEQ.out; rw [sgd_f]; rw [sgd_f] at et; simp only [bi, if_true, Bool.false_eq_true, if_false] at et; omega)
            go_wp2_with fail
            with_reducible refine (HSC.out (qh) (ql) false (by omega) (by omega) (by omega) (by omega) HT.out _).mono ?_
            rintro e w4 ⟨rfl, hk4⟩
            refine kuse (b := w.heap.size) hk4 (by first | (simp; done) | (simp; omega) | omega) ?_
            intro ha hb
            have hz4_0 : w.heap.size < w4.heap.size := by have := hk4.size; (try simp at this); omega
            have hn4_0 : ¬ w.heap.size = w4.heap.size := by omega
            have hm4_0 : ¬ w4.heap.size = w.heap.size := by omega
            have hf4_0_0 : w4.cell? ⟨w.heap.size, 0, none⟩ = some (.int .i64 A) := by first | (rw [ha]; with_reducible assumption) | (simp (maxDischargeDepth := 7) [go_sem, ha]; done) | (rw [ha]; assumption) | (simp (maxDischargeDepth := 7) [go_sem, ha, *]; done)
            have hf4_0_1 : w4.cell? ⟨w.heap.size, 1, none⟩ = some (.int .u64 a) := by first | (rw [ha]; with_reducible assumption) | (simp (maxDischargeDepth := 7) [go_sem, ha]; done) | (rw [ha]; assumption) | (simp (maxDischargeDepth := 7) [go_sem, ha, *]; done)
            try have hg4_0 : ∀ o, w4.frozen? ⟨w.heap.size, o, none⟩ = false := by intro o; first | (simp (maxDischargeDepth := 7) [go_sem, hb]; done) | (rw [hb]; simp (maxDischargeDepth := 7) [go_sem, *]; done)
            clear ha hb
            refine kuse (b := w.heap.size + 1) hk4 (by first | (simp; done) | (simp; omega) | omega) ?_
            intro ha hb
            have hz4_1 : w.heap.size + 1 < w4.heap.size := by have := hk4.size; (try simp at this); omega
            have hn4_1 : ¬ w.heap.size + 1 = w4.heap.size := by omega
            have hm4_1 : ¬ w4.heap.size = w.heap.size + 1 := by omega
            have hf4_1_0 : w4.cell? ⟨w.heap.size + 1, 0, none⟩ = some (.int .i64 B) := by first | (rw [ha]; with_reducible assumption) | (simp (maxDischargeDepth := 7) [go_sem, ha]; done) | (rw [ha]; assumption) | (simp (maxDischargeDepth := 7) [go_sem, ha, *]; done)
            have hf4_1_1 : w4.cell? ⟨w.heap.size + 1, 1, none⟩ = some (.int .u64 b) := by first | (rw [ha]; with_reducible assumption) | (simp (maxDischargeDepth := 7) [go_sem, ha]; done) | (rw [ha]; assumption) | (simp (maxDischargeDepth := 7) [go_sem, ha, *]; done)
            try have hg4_1 : ∀ o, w4.frozen? ⟨w.heap.size + 1, o, none⟩ = false := by intro o; first | (simp (maxDischargeDepth := 7) [go_sem, hb]; done) | (rw [hb]; simp (maxDischargeDepth := 7) [go_sem, *]; done)
            clear ha hb
            refine kuse (b := w.heap.size + 2) hk4 (by first | (simp; done) | (simp; omega) | omega) ?_
            intro ha hb
            have hz4_2 : w.heap.size + 2 < w4.heap.size := by have := hk4.size; (try simp at this); omega
            have hn4_2 : ¬ w.heap.size + 2 = w4.heap.size := by omega
            have hm4_2 : ¬ w4.heap.size = w.heap.size + 2 := by omega
            have hf4_2_0 : w4.cell? ⟨w.heap.size + 2, 0, none⟩ = some (.int .i64 0) := by first | (rw [ha]; with_reducible assumption) | (simp (maxDischargeDepth := 7) [go_sem, ha]; done) | (rw [ha]; assumption) | (simp (maxDischargeDepth := 7) [go_sem, ha, *]; done)
            have hf4_2_1 : w4.cell? ⟨w.heap.size + 2, 1, none⟩ = some (.int .u64 0) := by first | (rw [ha]; with_reducible assumption) | (simp (maxDischargeDepth := 7) [go_sem, ha]; done) | (rw [ha]; assumption) | (simp (maxDischargeDepth := 7) [go_sem, ha, *]; done)
            try have hg4_2 : ∀ o, w4.frozen? ⟨w.heap.size + 2, o, none⟩ = false := by intro o; first | (simp (maxDischargeDepth := 7) [go_sem, hb]; done) | (rw [hb]; simp (maxDischargeDepth := 7) [go_sem, *]; done)
            clear ha hb
            try clear hf3_0_0
            try clear hf3_0_1
            try clear hf3_1_0
            try clear hf3_1_1
            try clear hf3_2_0
            try clear hf3_2_1
            try clear hg3_0
            try clear hg3_1
            try clear hg3_2
            try clear hz3_1
            try clear hz3_2
            go_wp2_with fail
            all_goals exact bodyPost_ret (v := .tuple #[.agg #[.int .i64 (wh (V)), .int .u64 (wl (V))], .bool O]) (by first | (simp [results, Try.results71, go_sem]; done) | (simp (maxDischargeDepth := 7) [results, Try.results71, go_sem, *]; done)) rfl ⟨rfl, (by repeat (first | with_reducible exact Kept.refl _ | with_reducible assumption | with_reducible refine Kept.setCell ?_ (by first | (simp; done) | (simp; omega) | omega) _ | with_reducible refine Kept.alloc ?_ _ | with_reducible refine Kept.drewN ?_ _ | with_reducible refine Kept.drew ?_ | with_reducible refine Kept.trans ?_ (by with_reducible assumption) | with_reducible refine Kept.dr ?_ (by with_reducible assumption)))⟩
      · by_cases k1 : ql = 18446744073709551615
        · have wq0 : IntKind.u64.wrap (18446744073709551615 + 1) = 0 := by decide
          have wq0' : IntKind.u64.wrap 18446744073709551616 = 0 := by decide
          have wqh : IntKind.u64.wrap (qh + 1) = qh + 1 := by rw [IntKind.wrap_u64]; omega
          have y1a : (qh + 1 == 0) = false := by rw [beq_eq_false_iff_ne]; omega
          have y1b : (qh + 1 != 0) = true := by rw [bne_iff_ne]; omega
          have HT : Hid (sgd false ((qh + 1) * 18446744073709551616 + (0)) = T) := Lib.hid (by have et := HET.out; have eq := HEQ.out; rw [sgd_f]; rw [sgd_f] at et; simp only [bi, if_true, Bool.false_eq_true, if_false] at et; omega)
          subst k1
          go_wp2_with fail
          with_reducible refine (HSC.out (qh + 1) (0) false (by omega) (by omega) (by omega) (by omega) HT.out _).mono ?_
          rintro e w4 ⟨rfl, hk4⟩
          refine kuse (b := w.heap.size) hk4 (by first | (simp; done) | (simp; omega) | omega) ?_
          intro ha hb
          have hz4_0 : w.heap.size < w4.heap.size := by have := hk4.size; (try simp at this); omega
          have hn4_0 : ¬ w.heap.size = w4.heap.size := by omega
          have hm4_0 : ¬ w4.heap.size = w.heap.size := by omega
          have hf4_0_0 : w4.cell? ⟨w.heap.size, 0, none⟩ = some (.int .i64 A) := by first | (rw [ha]; with_reducible assumption) | (simp (maxDischargeDepth := 7) [go_sem, ha]; done) | (rw [ha]; assumption) | (simp (maxDischargeDepth := 7) [go_sem, ha, *]; done)
          have hf4_0_1 : w4.cell? ⟨w.heap.size, 1, none⟩ = some (.int .u64 a) := by first | (rw [ha]; with_reducible assumption) | (simp (maxDischargeDepth := 7) [go_sem, ha]; done) | (rw [ha]; assumption) | (simp (maxDischargeDepth := 7) [go_sem, ha, *]; done)
          try have hg4_0 : ∀ o, w4.frozen? ⟨w.heap.size, o, none⟩ = false := by intro o; first | (simp (maxDischargeDepth := 7) [go_sem, hb]; done) | (rw [hb]; simp (maxDischargeDepth := 7) [go_sem, *]; done)
          clear ha hb
          refine kuse (b := w.heap.size + 1) hk4 (by first | (simp; done) | (simp; omega) | omega) ?_
          intro ha hb
          have hz4_1 : w.heap.size + 1 < w4.heap.size := by have := hk4.size; (try simp at this); omega
          have hn4_1 : ¬ w.heap.size + 1 = w4.heap.size := by omega
          have hm4_1 : ¬ w4.heap.size = w.heap.size + 1 := by omega
          have hf4_1_0 : w4.cell? ⟨w.heap.size + 1, 0, none⟩ = some (.int .i64 B) := by first | (rw [ha]; with_reducible assumption) | (simp (maxDischargeDepth := 7) [go_sem, ha]; done) | (rw [ha]; assumption) | (simp (maxDischargeDepth := 7) [go_sem, ha, *]; done)
          have hf4_1_1 : w4.cell? ⟨w.heap.size + 1, 1, none⟩ = some (.int .u64 b) := by first | (rw [ha]; with_reducible assumption) | (simp (maxDischargeDepth := 7) [go_sem, ha]; done) | (rw [ha]; assumption) | (simp (maxDischargeDepth := 7) [go_sem, ha, *]; done)
          try have hg4_1 : ∀ o, w4.frozen? ⟨w.heap.size + 1, o, none⟩ = false := by intro o; first | (simp (maxDischargeDepth := 7) [go_sem, hb]; done) | (rw [hb]; simp (maxDischargeDepth := 7) [go_sem, *]; done)
          clear ha hb
          refine kuse (b := w.heap.size + 2) hk4 (by first | (simp; done) | (simp; omega) | omega) ?_
          intro ha hb
          have hz4_2 : w.heap.size + 2 < w4.heap.size := by have := hk4.size; (try simp at this); omega
          have hn4_2 : ¬ w.heap.size + 2 = w4.heap.size := by omega
          have hm4_2 : ¬ w4.heap.size = w.heap.size + 2 := by omega
          have hf4_2_0 : w4.cell? ⟨w.heap.size + 2, 0, none⟩ = some (.int .i64 0) := by first | (rw [ha]; with_reducible assumption) | (simp (maxDischargeDepth := 7) [go_sem, ha]; done) | (rw [ha]; assumption) | (simp (maxDischargeDepth := 7) [go_sem, ha, *]; done)
          have hf4_2_1 : w4.cell? ⟨w.heap.size + 2, 1, none⟩ = some (.int .u64 0) := by first | (rw [ha]; with_reducible assumption) | (simp (maxDischargeDepth := 7) [go_sem, ha]; done) | (rw [ha]; assumption) | (simp (maxDischargeDepth := 7) [go_sem, ha, *]; done)
          try have hg4_2 : ∀ o, w4.frozen? ⟨w.heap.size + 2, o, none⟩ = false := by intro o; first | (simp (maxDischargeDepth := 7) [go_sem, hb]; done) | (rw [hb]; simp (maxDischargeDepth := 7) [go_sem, *]; done)
          clear ha hb
          try clear hf3_0_0
          try clear hf3_0_1
          try clear hf3_1_0
          try clear hf3_1_1
          try clear hf3_2_0
          try clear hf3_2_1
          try clear hg3_0
          try clear hg3_1
          try clear hg3_2
          try clear hz3_1
          try clear hz3_2
          go_wp2_with fail
          all_goals exact bodyPost_ret (v := .tuple #[.agg #[.int .i64 (wh (V)), .int .u64 (wl (V))], .bool O]) (by first | (simp [results, Try.results71, go_sem]; done) | (simp (maxDischargeDepth := 7) [results, Try.results71, go_sem, *]; done)) rfl ⟨rfl, (by repeat (first | with_reducible exact Kept.refl _ | with_reducible assumption | with_reducible refine Kept.setCell ?_ (by first | (simp; done) | (simp; omega) | omega) _ | with_reducible refine Kept.alloc ?_ _ | with_reducible refine Kept.drewN ?_ _ | with_reducible refine Kept.drew ?_ | with_reducible refine Kept.trans ?_ (by with_reducible assumption) | with_reducible refine Kept.dr ?_ (by with_reducible assumption)))⟩
        · by_cases k2 : qh = 0
          · have wq1 : IntKind.u64.wrap (ql + 1) = ql + 1 := by rw [IntKind.wrap_u64]; omega
            have y1a : (ql + 1 == 0) = false := by rw [beq_eq_false_iff_ne]; omega
            have y1b : (ql + 1 != 0) = true := by rw [bne_iff_ne]; omega
            have HT : Hid (sgd false ((0) * 18446744073709551616 + (ql + 1)) = T) := Lib.hid (by have et := HET.out; have eq := HEQ.out; rw [sgd_f]; rw [sgd_f] at et; simp only [bi, if_true, Bool.false_eq_true, if_false] at et; omega)
            subst k2
            go_wp2_with fail
            with_reducible refine (HSC.out (0) (ql + 1) false (by omega) (by omega) (by omega) (by omega) HT.out _).mono ?_
            rintro e w4 ⟨rfl, hk4⟩
            refine kuse (b := w.heap.size) hk4 (by first | (simp; done) | (simp; omega) | omega) ?_
            intro ha hb
            have hz4_0 : w.heap.size < w4.heap.size := by have := hk4.size; (try simp at this); omega
            have hn4_0 : ¬ w.heap.size = w4.heap.size := by omega
            have hm4_0 : ¬ w4.heap.size = w.heap.size := by omega
            have hf4_0_0 : w4.cell? ⟨w.heap.size, 0, none⟩ = some (.int .i64 A) := by first | (rw [ha]; with_reducible assumption) | (simp (maxDischargeDepth := 7) [go_sem, ha]; done) | (rw [ha]; assumption) | (simp (maxDischargeDepth := 7) [go_sem, ha, *]; done)
            have hf4_0_1 : w4.cell? ⟨w.heap.size, 1, none⟩ = some (.int .u64 a) := by first | (rw [ha]; with_reducible assumption) | (simp (maxDischargeDepth := 7) [go_sem, ha]; done) | (rw [ha]; assumption) | (simp (maxDischargeDepth := 7) [go_sem, ha, *]; done)
            try have hg4_0 : ∀ o, w4.frozen? ⟨w.heap.size, o, none⟩ = false := by intro o; first | (simp (maxDischargeDepth := 7) [go_sem, hb]; done) | (rw [hb]; simp (maxDischargeDepth := 7) [go_sem, *]; done)
            clear ha hb
            refine kuse (b := w.heap.size + 1) hk4 (by first | (simp; done) | (simp; omega) | omega) ?_
            intro ha hb
            have hz4_1 : w.heap.size + 1 < w4.heap.size := by have := hk4.size; (try simp at this); omega
            have hn4_1 : ¬ w.heap.size + 1 = w4.heap.size := by omega
            have hm4_1 : ¬ w4.heap.size = w.heap.size + 1 := by omega
            have hf4_1_0 : w4.cell? ⟨w.heap.size + 1, 0, none⟩ = some (.int .i64 B) := by first | (rw [ha]; with_reducible assumption) | (simp (maxDischargeDepth := 7) [go_sem, ha]; done) | (rw [ha]; assumption) | (simp (maxDischargeDepth := 7) [go_sem, ha, *]; done)
            have hf4_1_1 : w4.cell? ⟨w.heap.size + 1, 1, none⟩ = some (.int .u64 b) := by first | (rw [ha]; with_reducible assumption) | (simp (maxDischargeDepth := 7) [go_sem, ha]; done) | (rw [ha]; assumption) | (simp (maxDischargeDepth := 7) [go_sem, ha, *]; done)
            try have hg4_1 : ∀ o, w4.frozen? ⟨w.heap.size + 1, o, none⟩ = false := by intro o; first | (simp (maxDischargeDepth := 7) [go_sem, hb]; done) | (rw [hb]; simp (maxDischargeDepth := 7) [go_sem, *]; done)
            clear ha hb
            refine kuse (b := w.heap.size + 2) hk4 (by first | (simp; done) | (simp; omega) | omega) ?_
            intro ha hb
            have hz4_2 : w.heap.size + 2 < w4.heap.size := by have := hk4.size; (try simp at this); omega
            have hn4_2 : ¬ w.heap.size + 2 = w4.heap.size := by omega
            have hm4_2 : ¬ w4.heap.size = w.heap.size + 2 := by omega
            have hf4_2_0 : w4.cell? ⟨w.heap.size + 2, 0, none⟩ = some (.int .i64 0) := by first | (rw [ha]; with_reducible assumption) | (simp (maxDischargeDepth := 7) [go_sem, ha]; done) | (rw [ha]; assumption) | (simp (maxDischargeDepth := 7) [go_sem, ha, *]; done)
            have hf4_2_1 : w4.cell? ⟨w.heap.size + 2, 1, none⟩ = some (.int .u64 0) := by first | (rw [ha]; with_reducible assumption) | (simp (maxDischargeDepth := 7) [go_sem, ha]; done) | (rw [ha]; assumption) | (simp (maxDischargeDepth := 7) [go_sem, ha, *]; done)
            try have hg4_2 : ∀ o, w4.frozen? ⟨w.heap.size + 2, o, none⟩ = false := by intro o; first | (simp (maxDischargeDepth := 7) [go_sem, hb]; done) | (rw [hb]; simp (maxDischargeDepth := 7) [go_sem, *]; done)
            clear ha hb
            try clear hf3_0_0
            try clear hf3_0_1
            try clear hf3_1_0
            try clear hf3_1_1
            try clear hf3_2_0
            try clear hf3_2_1
            try clear hg3_0
            try clear hg3_1
            try clear hg3_2
            try clear hz3_1
            try clear hz3_2
            go_wp2_with fail
            all_goals exact bodyPost_ret (v := .tuple #[.agg #[.int .i64 (wh (V)), .int .u64 (wl (V))], .bool O]) (by first | (simp [results, Try.results71, go_sem]; done) | (simp (maxDischargeDepth := 7) [results, Try.results71, go_sem, *]; done)) rfl ⟨rfl, (by repeat (first | with_reducible exact Kept.refl _ | with_reducible assumption | with_reducible refine Kept.setCell ?_ (by first | (simp; done) | (simp; omega) | omega) _ | with_reducible refine Kept.alloc ?_ _ | with_reducible refine Kept.drewN ?_ _ | with_reducible refine Kept.drew ?_ | with_reducible refine Kept.trans ?_ (by with_reducible assumption) | with_reducible refine Kept.dr ?_ (by with_reducible assumption)))⟩
          · have wq1 : IntKind.u64.wrap (ql + 1) = ql + 1 := by rw [IntKind.wrap_u64]; omega
            have y1a : (ql + 1 == 0) = false := by rw [beq_eq_false_iff_ne]; omega
            have y1b : (ql + 1 != 0) = true := by rw [bne_iff_ne]; omega
            have y2a : (qh == 0) = false := by rw [beq_eq_false_iff_ne]; omega
            have y2b : (qh != 0) = true := by rw [bne_iff_ne]; omega
            have HT : Hid (sgd false ((qh) * 18446744073709551616 + (ql + 1)) = T) := Lib.hid (by have et := HET.out; have eq := HEQ.out; rw [sgd_f]; rw [sgd_f] at et; simp only [bi, if_true, Bool.false_eq_true, if_false] at et; omega)
            go_wp2_with fail
            with_reducible refine (HSC.out (qh) (ql + 1) false (by omega) (by omega) (by omega) (by omega) HT.out _).mono ?_
            rintro e w4 ⟨rfl, hk4⟩
            refine kuse (b := w.heap.size) hk4 (by first | (simp; done) | (simp; omega) | omega) ?_
            intro ha hb
            have hz4_0 : w.heap.size < w4.heap.size := by have := hk4.size; (try simp at this); omega
            have hn4_0 : ¬ w.heap.size = w4.heap.size := by omega
            have hm4_0 : ¬ w4.heap.size = w.heap.size := by omega
            have hf4_0_0 : w4.cell? ⟨w.heap.size, 0, none⟩ = some (.int .i64 A) := by first | (rw [ha]; with_reducible assumption) | (simp (maxDischargeDepth := 7) [go_sem, ha]; done) | (rw [ha]; assumption) | (simp (maxDischargeDepth := 7) [go_sem, ha, *]; done)
            have hf4_0_1 : w4.cell? ⟨w.heap.size, 1, none⟩ = some (.int .u64 a) := by first | (rw [ha]; with_reducible assumption) | (simp (maxDischargeDepth := 7) [go_sem, ha]; done) | (rw [ha]; assumption) | (simp (maxDischargeDepth := 7) [go_sem, ha, *]; done)
            try have hg4_0 : ∀ o, w4.frozen? ⟨w.heap.size, o, none⟩ = false := by intro o; first | (simp (maxDischargeDepth := 7) [go_sem, hb]; done) | (rw [hb]; simp (maxDischargeDepth := 7) [go_sem, *]; done)
            clear ha hb
            refine kuse (b := w.heap.size + 1) hk4 (by first | (simp; done) | (simp; omega) | omega) ?_
            intro ha hb
            have hz4_1 : w.heap.size + 1 < w4.heap.size := by have := hk4.size; (try simp at this); omega
            have hn4_1 : ¬ w.heap.size + 1 = w4.heap.size := by omega
            have hm4_1 : ¬ w4.heap.size = w.heap.size + 1 := by omega
            have hf4_1_0 : w4.cell? ⟨w.heap.size + 1, 0, none⟩ = some (.int .i64 B) := by first | (rw [ha]; with_reducible assumption) | (simp (maxDischargeDepth := 7) [go_sem, ha]; done) | (rw [ha]; assumption) | (simp (maxDischargeDepth := 7) [go_sem, ha, *]; done)
            have hf4_1_1 : w4.cell? ⟨w.heap.size + 1, 1, none⟩ = some (.int .u64 b) := by first | (rw [ha]; with_reducible assumption) | (simp (maxDischargeDepth := 7) [go_sem, ha]; done) | (rw [ha]; assumption) | (simp (maxDischargeDepth := 7) [go_sem, ha, *]; done)
            try have hg4_1 : ∀ o, w4.frozen? ⟨w.heap.size + 1, o, none⟩ = false := by intro o; first | (simp (maxDischargeDepth := 7) [go_sem, hb]; done) | (rw [hb]; simp (maxDischargeDepth := 7) [go_sem, *]; done)
            clear ha hb
            refine kuse (b := w.heap.size + 2) hk4 (by first | (simp; done) | (simp; omega) | omega) ?_
            intro ha hb
            have hz4_2 : w.heap.size + 2 < w4.heap.size := by have := hk4.size; (try simp at this); omega
            have hn4_2 : ¬ w.heap.size + 2 = w4.heap.size := by omega
            have hm4_2 : ¬ w4.heap.size = w.heap.size + 2 := by omega
            have hf4_2_0 : w4.cell? ⟨w.heap.size + 2, 0, none⟩ = some (.int .i64 0) := by first | (rw [ha]; with_reducible assumption) | (simp (maxDischargeDepth := 7) [go_sem, ha]; done) | (rw [ha]; assumption) | (simp (maxDischargeDepth := 7) [go_sem, ha, *]; done)
            have hf4_2_1 : w4.cell? ⟨w.heap.size + 2, 1, none⟩ = some (.int .u64 0) := by first | (rw [ha]; with_reducible assumption) | (simp (maxDischargeDepth := 7) [go_sem, ha]; done) | (rw [ha]; assumption) | (simp (maxDischargeDepth := 7) [go_sem, ha, *]; done)
            try have hg4_2 : ∀ o, w4.frozen? ⟨w.heap.size + 2, o, none⟩ = false := by intro o; first | (simp (maxDischargeDepth := 7) [go_sem, hb]; done) | (rw [hb]; simp (maxDischargeDepth := 7) [go_sem, *]; done)
            clear ha hb
            try clear hf3_0_0
            try clear hf3_0_1
            try clear hf3_1_0
            try clear hf3_1_1
            try clear hf3_2_0
            try clear hf3_2_1
            try clear hg3_0
            try clear hg3_1
            try clear hg3_2
            try clear hz3_1
            try clear hz3_2
            go_wp2_with fail
            all_goals exact bodyPost_ret (v := .tuple #[.agg #[.int .i64 (wh (V)), .int .u64 (wl (V))], .bool O]) (by first | (simp [results, Try.results71, go_sem]; done) | (simp (maxDischargeDepth := 7) [results, Try.results71, go_sem, *]; done)) rfl ⟨rfl, (by repeat (first | with_reducible exact Kept.refl _ | with_reducible assumption | with_reducible refine Kept.setCell ?_ (by first | (simp; done) | (simp; omega) | omega) _ | with_reducible refine Kept.alloc ?_ _ | with_reducible refine Kept.drewN ?_ _ | with_reducible refine Kept.drew ?_ | with_reducible refine Kept.trans ?_ (by with_reducible assumption) | with_reducible refine Kept.dr ?_ (by with_reducible assumption)))⟩
    · exact Bool.noConfusion (HN.out.symm.trans hNN.out)
end Go.Proofs.Ytoegcfdlecbcjaa
