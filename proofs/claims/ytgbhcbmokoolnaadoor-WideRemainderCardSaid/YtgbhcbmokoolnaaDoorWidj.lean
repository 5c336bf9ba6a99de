/-
  Own walks: the laws of layer 2 that join a quotient with its product.
-/
import Derived.Test.YtgbhcbmokoolnaaDoorWidl
import Derived.WalkKit
import Derived.ProofKit
import Derived.OpenShut
import Derived.WalkLawsBesides
import Derived.WalkSpells
import Derived.Lib.Hide
import Derived.Deep.DeepCutAuto
import Derived.Deep.CutBlock
import Derived.Deep.QuietTactic
import Derived.BigQuiet
import Derived.Handy
import Derived.StillTailTactics
import Derived.IntWalk
import Derived.LoopN
import Derived.Deep.RegionHeld3
namespace Go.Proofs.YtgbhcbmokoolnaaDoor
open Go.ChangeShapes Go.WideShapes Go.ChangeAt Go.RowKit
set_option linter.unusedVariables false
set_option linter.unusedSimpArgs false

theorem wq_fit (way u v : Int) (hu : wmag u ≤ 85070591730234615865843651857942052864) (hv : v ≠ 0) : wfit (wq way u v) = true ∧ wval (wq way u v) = wq way u v := by
  have h0 : 0 ≤ wmag u := by unfold wmag; split <;> omega
  have q0 : 0 ≤ wmag u / wmag v := Int.ediv_nonneg h0 (by unfold wmag; split <;> omega)
  have q1 := Int.ediv_le_self (a := wmag u) (wmag v) h0
  have b : 0 ≤ bi (gr way (wmag u % wmag v) (wmag v) (wqn u v)) ∧ bi (gr way (wmag u % wmag v) (wmag v) (wqn u v)) ≤ 1 := by unfold bi; split <;> omega
  have m0 : 0 ≤ wqm way u v ∧ wqm way u v ≤ 85070591730234615865843651857942052865 := by unfold wqm; omega
  refine wfit_yes ?_ ?_ <;> unfold wq sgd <;> split <;> omega
theorem mag64 (a b : Int) (a_0 : -9223372036854775808 ≤ a) (a_1 : a ≤ 9223372036854775807) (b_0 : -9223372036854775808 ≤ b) (b_1 : b ≤ 9223372036854775807) : wmag (a * b) ≤ 85070591730234615865843651857942052864 := by
  have := sgn_bd a b a_0 a_1 b_0 b_1
  unfold wmag; split <;> omega
set_option maxHeartbeats 2000000 in
set_option maxRecDepth 100000 in
theorem lawi_WideScales (a b c : Int) (a_0 : -9223372036854775808 ≤ a) (a_1 : a ≤ 9223372036854775807) (b_0 : -9223372036854775808 ≤ b) (b_1 : b ≤ 9223372036854775807) (c_0 : -9223372036854775808 ≤ c) (c_1 : c ≤ 9223372036854775807) (w : World) (hT : Hid (Tb w)) : Calls Tryd.prog 12 #[.int .i64 a, .int .i64 b, .int .i64 c] w fun e w' => e = .returned (.bool true) ∧ Kept w w' := by
  by_cases hc : c = 0
  · have md := fun w => (muldiv_w a b c a_0 a_1 b_0 b_1 c_0 c_1 w).mono fun _ _ k => And.intro k.1 k.2.kept
    have ml := wmul_w a b a_0 a_1 b_0 b_1
    have oc := of_w c c_0 c_1
    have bb := sgn_bd a b a_0 a_1 b_0 b_1
    have dv := wDiv_w (a * b) c (by omega) (by omega) (by omega) (by omega)
    obtain rfl := hc
    have e1 : mqv 0 a b 0 = 0 := by simp [mqv]
    have e2 : mqe 0 a b 0 = 1 := by simp [mqe]
    rw [e1, e2] at md
    rw [(wqVE0 0 (a * b)).1, (wqVE0 0 (a * b)).2] at dv
    have it := int_ok 0 (by omega) (by omega)
    have z0 : wh 0 = 0 := by decide
    have z1 : wl 0 = 0 := by decide
    rw [z0, z1] at dv it oc
    clear z0 z1 e1 e2
    clear bb
    generalize a * b = P at *
    have Hmd := Lib.hid md
    clear md
    have Hml := Lib.hid ml
    clear ml
    have Hoc := Lib.hid oc
    clear oc
    have Hdv := Lib.hid dv
    clear dv
    have Hit := Lib.hid it
    clear it
    generalize wh P = ph at *; generalize wl P = pl at *
    go_enter Tryd.func12, Tryd.ntmps12
    go_wp2_with fail
    refine (awake_w _ (tab_kept hT.out (by repeat (first | with_reducible exact Kept.refl _ | with_reducible assumption | with_reducible refine Kept.setCell ?_ (by first | (simp; done) | (simp; omega) | omega) _ | with_reducible refine Kept.alloc ?_ _ | with_reducible refine Kept.drewN ?_ _ | with_reducible refine Kept.drew ?_ | with_reducible refine Kept.trans ?_ (by with_reducible assumption) | with_reducible refine Kept.dr ?_ (by with_reducible assumption))))).mono ?_
    rintro e w1 ⟨rfl, hk1⟩
    go_wp2_with fail
    with_reducible refine (Hmd.out _).mono ?_
    rintro e w2 ⟨rfl, hk2⟩
    go_wp2_with fail
    with_reducible refine (Hml.out _).mono ?_
    rintro e w3 ⟨rfl, hk3⟩
    go_wp2_with fail
    with_reducible refine (Hoc.out _).mono ?_
    rintro e w4 ⟨rfl, hk4⟩
    go_wp2_with fail
    with_reducible refine (Hdv.out _).mono ?_
    rintro e w5 ⟨rfl, hk5⟩
    go_wp2_with fail
    with_reducible refine (Hit.out _).mono ?_
    rintro e w6 ⟨rfl, hk6⟩
    refine kuse (b := w5.heap.size) hk6 (by first | (simp; done) | (simp; omega) | omega) ?_
    intro ha hb
    have hz6_0 : w5.heap.size < w6.heap.size := by have := hk6.size; (try simp at this); omega
    have hn6_0 : ¬ w5.heap.size = w6.heap.size := by omega
    have hm6_0 : ¬ w6.heap.size = w5.heap.size := by omega
    have hf6_0_0 : w6.cell? ⟨w5.heap.size, 0, none⟩ = some (.int .i64 0) := by first | (rw [ha]; with_reducible assumption) | (simp (maxDischargeDepth := 7) [go_sem, ha]; done) | (rw [ha]; assumption) | (simp (maxDischargeDepth := 7) [go_sem, ha, *]; done)
    have hf6_0_1 : w6.cell? ⟨w5.heap.size, 1, none⟩ = some (.int .u64 0) := by first | (rw [ha]; with_reducible assumption) | (simp (maxDischargeDepth := 7) [go_sem, ha]; done) | (rw [ha]; assumption) | (simp (maxDischargeDepth := 7) [go_sem, ha, *]; done)
    try have hg6_0 : ∀ o, w6.frozen? ⟨w5.heap.size, o, none⟩ = false := by intro o; first | (simp (maxDischargeDepth := 7) [go_sem, hb]; done) | (rw [hb]; simp (maxDischargeDepth := 7) [go_sem, *]; done)
    clear ha hb
    all_goals go_wp2_with fail
    all_goals go_ret
    all_goals exact ⟨rfl, (by repeat (first | with_reducible exact Kept.refl _ | with_reducible assumption | with_reducible refine Kept.setCell ?_ (by first | (simp; done) | (simp; omega) | omega) _ | with_reducible refine Kept.alloc ?_ _ | with_reducible refine Kept.drewN ?_ _ | with_reducible refine Kept.drew ?_ | with_reducible refine Kept.trans ?_ (by with_reducible assumption) | with_reducible refine Kept.dr ?_ (by with_reducible assumption)))⟩
  · by_cases hf : fit64 (rnd 0 (a * b) c) = true
    · have md := fun w => (muldiv_w a b c a_0 a_1 b_0 b_1 c_0 c_1 w).mono fun _ _ k => And.intro k.1 k.2.kept
      have ml := wmul_w a b a_0 a_1 b_0 b_1
      have oc := of_w c c_0 c_1
      have bb := sgn_bd a b a_0 a_1 b_0 b_1
      have dv := wDiv_w (a * b) c (by omega) (by omega) (by omega) (by omega)
      have fq := wq_fit 0 (a * b) c (mag64 a b a_0 a_1 b_0 b_1) hc
      have ve := wqVE 0 (a * b) c hc
      rw [ve.1, ve.2, fq.1, fq.2, wq_rnd 0 (a * b) c (Or.inl rfl) hc] at dv
      have cn : (c == 0) = false := by rw [beq_eq_false_iff_ne]; exact hc
      have e1 : mqv 0 a b c = rnd 0 (a * b) c := by unfold mqv; rw [if_neg hc, if_pos hf]
      have e2 : mqe 0 a b c = 0 := by unfold mqe; rw [if_neg hc, if_pos hf]
      rw [e1, e2] at md
      have hf' : -9223372036854775808 ≤ rnd 0 (a * b) c ∧ rnd 0 (a * b) c ≤ 9223372036854775807 := by unfold fit64 at hf; exact of_decide_eq_true hf
      have it := int_ok _ hf'.1 hf'.2
      clear hf'
      clear fq ve e1 e2 hf hc
      generalize rnd 0 (a * b) c = R at *
      clear bb
      generalize a * b = P at *
      have Hmd := Lib.hid md
      clear md
      have Hml := Lib.hid ml
      clear ml
      have Hoc := Lib.hid oc
      clear oc
      have Hdv := Lib.hid dv
      clear dv
      have Hit := Lib.hid it
      clear it
      generalize wh P = ph at *; generalize wl P = pl at *
      generalize wh c = ch at *; generalize wl c = cl at *
      generalize wh R = rh at *; generalize wl R = rl at *
      go_enter Tryd.func12, Tryd.ntmps12
      go_wp2_with fail
      refine (awake_w _ (tab_kept hT.out (by repeat (first | with_reducible exact Kept.refl _ | with_reducible assumption | with_reducible refine Kept.setCell ?_ (by first | (simp; done) | (simp; omega) | omega) _ | with_reducible refine Kept.alloc ?_ _ | with_reducible refine Kept.drewN ?_ _ | with_reducible refine Kept.drew ?_ | with_reducible refine Kept.trans ?_ (by with_reducible assumption) | with_reducible refine Kept.dr ?_ (by with_reducible assumption))))).mono ?_
      rintro e w1 ⟨rfl, hk1⟩
      go_wp2_with fail
      with_reducible refine (Hmd.out _).mono ?_
      rintro e w2 ⟨rfl, hk2⟩
      go_wp2_with fail
      with_reducible refine (Hml.out _).mono ?_
      rintro e w3 ⟨rfl, hk3⟩
      go_wp2_with fail
      with_reducible refine (Hoc.out _).mono ?_
      rintro e w4 ⟨rfl, hk4⟩
      go_wp2_with fail
      with_reducible refine (Hdv.out _).mono ?_
      rintro e w5 ⟨rfl, hk5⟩
      go_wp2_with fail
      with_reducible refine (Hit.out _).mono ?_
      rintro e w6 ⟨rfl, hk6⟩
      refine kuse (b := w5.heap.size) hk6 (by first | (simp; done) | (simp; omega) | omega) ?_
      intro ha hb
      have hz6_0 : w5.heap.size < w6.heap.size := by have := hk6.size; (try simp at this); omega
      have hn6_0 : ¬ w5.heap.size = w6.heap.size := by omega
      have hm6_0 : ¬ w6.heap.size = w5.heap.size := by omega
      have hf6_0_0 : w6.cell? ⟨w5.heap.size, 0, none⟩ = some (.int .i64 rh) := by first | (rw [ha]; with_reducible assumption) | (simp (maxDischargeDepth := 7) [go_sem, ha]; done) | (rw [ha]; assumption) | (simp (maxDischargeDepth := 7) [go_sem, ha, *]; done)
      have hf6_0_1 : w6.cell? ⟨w5.heap.size, 1, none⟩ = some (.int .u64 rl) := by first | (rw [ha]; with_reducible assumption) | (simp (maxDischargeDepth := 7) [go_sem, ha]; done) | (rw [ha]; assumption) | (simp (maxDischargeDepth := 7) [go_sem, ha, *]; done)
      try have hg6_0 : ∀ o, w6.frozen? ⟨w5.heap.size, o, none⟩ = false := by intro o; first | (simp (maxDischargeDepth := 7) [go_sem, hb]; done) | (rw [hb]; simp (maxDischargeDepth := 7) [go_sem, *]; done)
      clear ha hb
      all_goals go_wp2_with fail
      all_goals go_ret
      all_goals exact ⟨rfl, (by repeat (first | with_reducible exact Kept.refl _ | with_reducible assumption | with_reducible refine Kept.setCell ?_ (by first | (simp; done) | (simp; omega) | omega) _ | with_reducible refine Kept.alloc ?_ _ | with_reducible refine Kept.drewN ?_ _ | with_reducible refine Kept.drew ?_ | with_reducible refine Kept.trans ?_ (by with_reducible assumption) | with_reducible refine Kept.dr ?_ (by with_reducible assumption)))⟩
    · have md := fun w => (muldiv_w a b c a_0 a_1 b_0 b_1 c_0 c_1 w).mono fun _ _ k => And.intro k.1 k.2.kept
      have ml := wmul_w a b a_0 a_1 b_0 b_1
      have oc := of_w c c_0 c_1
      have bb := sgn_bd a b a_0 a_1 b_0 b_1
      have dv := wDiv_w (a * b) c (by omega) (by omega) (by omega) (by omega)
      have fq := wq_fit 0 (a * b) c (mag64 a b a_0 a_1 b_0 b_1) hc
      have ve := wqVE 0 (a * b) c hc
      rw [ve.1, ve.2, fq.1, fq.2, wq_rnd 0 (a * b) c (Or.inl rfl) hc] at dv
      have cn : (c == 0) = false := by rw [beq_eq_false_iff_ne]; exact hc
      have e1 : mqv 0 a b c = 0 := by unfold mqv; rw [if_neg hc, if_neg hf]
      have e2 : mqe 0 a b c = 2 := by unfold mqe; rw [if_neg hc, if_neg hf]
      rw [e1, e2] at md
      have hf' : rnd 0 (a * b) c < -9223372036854775808 ∨ 9223372036854775807 < rnd 0 (a * b) c := by
        have hx : ¬ (-9223372036854775808 ≤ rnd 0 (a * b) c ∧ rnd 0 (a * b) c ≤ 9223372036854775807) := fun h => hf (by unfold fit64; exact decide_eq_true h)
        omega
      have it := int_no _ hf'
      clear hf'
      clear fq ve e1 e2 hf hc
      generalize rnd 0 (a * b) c = R at *
      clear bb
      generalize a * b = P at *
      have Hmd := Lib.hid md
      clear md
      have Hml := Lib.hid ml
      clear ml
      have Hoc := Lib.hid oc
      clear oc
      have Hdv := Lib.hid dv
      clear dv
      have Hit := Lib.hid it
      clear it
      generalize wh P = ph at *; generalize wl P = pl at *
      generalize wh c = ch at *; generalize wl c = cl at *
      generalize wh R = rh at *; generalize wl R = rl at *
      go_enter Tryd.func12, Tryd.ntmps12
      go_wp2_with fail
      refine (awake_w _ (tab_kept hT.out (by repeat (first | with_reducible exact Kept.refl _ | with_reducible assumption | with_reducible refine Kept.setCell ?_ (by first | (simp; done) | (simp; omega) | omega) _ | with_reducible refine Kept.alloc ?_ _ | with_reducible refine Kept.drewN ?_ _ | with_reducible refine Kept.drew ?_ | with_reducible refine Kept.trans ?_ (by with_reducible assumption) | with_reducible refine Kept.dr ?_ (by with_reducible assumption))))).mono ?_
      rintro e w1 ⟨rfl, hk1⟩
      go_wp2_with fail
      with_reducible refine (Hmd.out _).mono ?_
      rintro e w2 ⟨rfl, hk2⟩
      go_wp2_with fail
      with_reducible refine (Hml.out _).mono ?_
      rintro e w3 ⟨rfl, hk3⟩
      go_wp2_with fail
      with_reducible refine (Hoc.out _).mono ?_
      rintro e w4 ⟨rfl, hk4⟩
      go_wp2_with fail
      with_reducible refine (Hdv.out _).mono ?_
      rintro e w5 ⟨rfl, hk5⟩
      go_wp2_with fail
      with_reducible refine (Hit.out _).mono ?_
      rintro e w6 ⟨rfl, hk6⟩
      refine kuse (b := w5.heap.size) hk6 (by first | (simp; done) | (simp; omega) | omega) ?_
      intro ha hb
      have hz6_0 : w5.heap.size < w6.heap.size := by have := hk6.size; (try simp at this); omega
      have hn6_0 : ¬ w5.heap.size = w6.heap.size := by omega
      have hm6_0 : ¬ w6.heap.size = w5.heap.size := by omega
      have hf6_0_0 : w6.cell? ⟨w5.heap.size, 0, none⟩ = some (.int .i64 rh) := by first | (rw [ha]; with_reducible assumption) | (simp (maxDischargeDepth := 7) [go_sem, ha]; done) | (rw [ha]; assumption) | (simp (maxDischargeDepth := 7) [go_sem, ha, *]; done)
      have hf6_0_1 : w6.cell? ⟨w5.heap.size, 1, none⟩ = some (.int .u64 rl) := by first | (rw [ha]; with_reducible assumption) | (simp (maxDischargeDepth := 7) [go_sem, ha]; done) | (rw [ha]; assumption) | (simp (maxDischargeDepth := 7) [go_sem, ha, *]; done)
      try have hg6_0 : ∀ o, w6.frozen? ⟨w5.heap.size, o, none⟩ = false := by intro o; first | (simp (maxDischargeDepth := 7) [go_sem, hb]; done) | (rw [hb]; simp (maxDischargeDepth := 7) [go_sem, *]; done)
      clear ha hb
      all_goals go_wp2_with fail
      all_goals go_ret
      all_goals exact ⟨rfl, (by repeat (first | with_reducible exact Kept.refl _ | with_reducible assumption | with_reducible refine Kept.setCell ?_ (by first | (simp; done) | (simp; omega) | omega) _ | with_reducible refine Kept.alloc ?_ _ | with_reducible refine Kept.drewN ?_ _ | with_reducible refine Kept.drew ?_ | with_reducible refine Kept.trans ?_ (by with_reducible assumption) | with_reducible refine Kept.dr ?_ (by with_reducible assumption)))⟩
theorem law_WideScales (a b c : Int) (a_0 : -9223372036854775808 ≤ a) (a_1 : a ≤ 9223372036854775807) (b_0 : -9223372036854775808 ≤ b) (b_1 : b ≤ 9223372036854775807) (c_0 : -9223372036854775808 ≤ c) (c_1 : c ≤ 9223372036854775807) (w : World) (hT : Hid (Tb w)) : Calls Tryd.prog 12 #[.int .i64 a, .int .i64 b, .int .i64 c] w fun e w' => e = .returned (.bool true) ∧ Kept w w' := by
  have h := lawi_WideScales a b c a_0 a_1 b_0 b_1 c_0 c_1 w hT
  skip
  exact h
set_option maxHeartbeats 2000000 in
set_option maxRecDepth 100000 in
theorem lawi_WideRemainder (u a : Int) (u0 : -170141183460469231731687303715884105728 ≤ u) (u1 : u < 170141183460469231731687303715884105728) (a_0 : -9223372036854775808 ≤ a) (a_1 : a ≤ 9223372036854775807) (w : World) (hT : Hid (Tb w)) : Calls Tryd.prog 10 #[.agg #[.int .i64 (wh u), .int .u64 (wl u)], .int .i64 a] w fun e w' => e = .returned (.bool true) ∧ Kept w w' := by
  by_cases hc : a = 0
  · have oa := of_w a a_0 a_1
    have dv := wDiv_w u a u0 u1 (by omega) (by omega)
    obtain rfl := hc
    rw [(wqVE0 0 u).1, (wqVE0 0 u).2] at dv
    have z0 : wh 0 = 0 := by decide
    have z1 : wl 0 = 0 := by decide
    rw [z0, z1] at dv oa
    clear z0 z1 u0 u1
    have eqz : ∀ w, (Op.equalIn 10000 24 (.agg #[.int .i64 (0), .int .u64 (0)]) (.agg #[.int .i64 (0), .int .u64 (0)])).run Tryd.prog w = .ok true w := fun w => by rw [eqW]; simp
    have Hoa := Lib.hid oa
    clear oa
    have Hdv := Lib.hid dv
    clear dv
    generalize wh u = uh at *; generalize wl u = ul at *
    go_enter Tryd.func10, Tryd.ntmps10
    go_wp2_with fail
    refine (awake_w _ (tab_kept hT.out (by repeat (first | with_reducible exact Kept.refl _ | with_reducible assumption | with_reducible refine Kept.setCell ?_ (by first | (simp; done) | (simp; omega) | omega) _ | with_reducible refine Kept.alloc ?_ _ | with_reducible refine Kept.drewN ?_ _ | with_reducible refine Kept.drew ?_ | with_reducible refine Kept.trans ?_ (by with_reducible assumption) | with_reducible refine Kept.dr ?_ (by with_reducible assumption))))).mono ?_
    rintro e w1 ⟨rfl, hk1⟩
    refine kuse (b := w.heap.size) hk1 (by first | (simp; done) | (simp; omega) | omega) ?_
    intro ha hb
    have hz1_0 : w.heap.size < w1.heap.size := by have := hk1.size; (try simp at this); omega
    have hn1_0 : ¬ w.heap.size = w1.heap.size := by omega
    have hm1_0 : ¬ w1.heap.size = w.heap.size := by omega
    have hf1_0_0 : w1.cell? ⟨w.heap.size, 0, none⟩ = some (.int .i64 uh) := by first | (rw [ha]; with_reducible assumption) | (simp (maxDischargeDepth := 7) [go_sem, ha]; done) | (rw [ha]; assumption) | (simp (maxDischargeDepth := 7) [go_sem, ha, *]; done)
    have hf1_0_1 : w1.cell? ⟨w.heap.size, 1, none⟩ = some (.int .u64 ul) := by first | (rw [ha]; with_reducible assumption) | (simp (maxDischargeDepth := 7) [go_sem, ha]; done) | (rw [ha]; assumption) | (simp (maxDischargeDepth := 7) [go_sem, ha, *]; done)
    try have hg1_0 : ∀ o, w1.frozen? ⟨w.heap.size, o, none⟩ = false := by intro o; first | (simp (maxDischargeDepth := 7) [go_sem, hb]; done) | (rw [hb]; simp (maxDischargeDepth := 7) [go_sem, *]; done)
    clear ha hb
    go_wp2_with fail
    have B0 : OwnB w1 (w.heap.size) [.int .i64 uh, .int .u64 ul] := ⟨hz1_0, hg1_0, hf1_0_0, hf1_0_1, trivial⟩
    have HB0_0 := Lib.hid B0
    clear B0
    go_upto_region 3 with (fail)
    go_cut [5, 6] (fun p0 c0 wx => ∃ b0 : Nat, p0 = .pointer (some ⟨b0, 0, none⟩) ∧ c0 = .bool false ∧ w.heap.size < b0 ∧ OwnB wx (b0) [.int .i64 0, .int .u64 0] ∧ OwnB wx (w.heap.size) [.int .i64 uh, .int .u64 ul] ∧ Kept w1 wx)
    case first =>
      go_region_held3 (fun W => W.cell? ⟨w.heap.size, 0, none⟩ = some (.int .i64 uh) ∧ W.cell? ⟨w.heap.size, 1, none⟩ = some (.int .u64 ul)) (first | (go_keep; done) | (simp (maxDischargeDepth := 9) [*, World.cell?_alloc_some, World.cell?_setCell_far]; done) | (simp (maxDischargeDepth := 9) [go_sem, *]; done)) (first | (go_at_call 31; (with_reducible refine (Hoa.out _).mono ?_); rintro e v0 ⟨rfl, hk⟩; have hz := hk.size; (try (refine kuse (b := w.heap.size) hk (by first | (simp; done) | (simp; omega) | omega) ?_; intro hq hg; have hy : w.heap.size < v0.heap.size := (by (try simp at hz); omega); have hn : ¬ w.heap.size = v0.heap.size := (by omega); have hm : ¬ w.heap.size = v0.heap.size + 1 := (by omega); have hn' : ¬ v0.heap.size = w.heap.size := (by omega); have hm' : ¬ v0.heap.size + 1 = w.heap.size := (by omega))); (try (have hle : w1.heap.size ≤ v0.heap.size := (by (try simp at hz); omega))); (try (refine kuse (b := w1.heap.size) hk (by first | (simp; done) | (simp; omega) | omega) ?_; intro hq hg; have hy : w1.heap.size < v0.heap.size := (by (try simp at hz); omega))); (try (refine withF (p := v0.cell? ⟨w.heap.size, 0, none⟩ = some (.int .i64 uh)) (by first | (simp (maxDischargeDepth := 7) [go_sem, *]; done) | fail) ?_; intro ff)); (try (refine withF (p := v0.cell? ⟨w.heap.size, 1, none⟩ = some (.int .u64 ul)) (by first | (simp (maxDischargeDepth := 7) [go_sem, *]; done) | fail) ?_; intro ff))) | (go_at_call 33; (with_reducible refine (Hdv.out _).mono ?_); rintro e v1 ⟨rfl, hk⟩; have hz := hk.size; (try (refine kuse (b := w.heap.size) hk (by first | (simp; done) | (simp; omega) | omega) ?_; intro hq hg; have hy : w.heap.size < v1.heap.size := (by (try simp at hz); omega); have hn : ¬ w.heap.size = v1.heap.size := (by omega); have hm : ¬ w.heap.size = v1.heap.size + 1 := (by omega); have hn' : ¬ v1.heap.size = w.heap.size := (by omega); have hm' : ¬ v1.heap.size + 1 = w.heap.size := (by omega))); (try (have hle : w1.heap.size ≤ v1.heap.size := (by (try simp at hz); omega))); (try (have hle : v0.heap.size ≤ v1.heap.size := (by (try simp at hz); omega))); (try (refine kuse (b := v0.heap.size) hk (by first | (simp; done) | (simp; omega) | omega) ?_; intro hq hg; have hy : v0.heap.size < v1.heap.size := (by (try simp at hz); omega))); (try (refine kuse (b := w1.heap.size) hk (by first | (simp; done) | (simp; omega) | omega) ?_; intro hq hg; have hy : w1.heap.size < v1.heap.size := (by (try simp at hz); omega))); (try (refine withF (p := v1.cell? ⟨w.heap.size, 0, none⟩ = some (.int .i64 uh)) (by first | (simp (maxDischargeDepth := 7) [go_sem, *]; done) | fail) ?_; intro ff)); (try (refine withF (p := v1.cell? ⟨w.heap.size, 1, none⟩ = some (.int .u64 ul)) (by first | (simp (maxDischargeDepth := 7) [go_sem, *]; done) | fail) ?_; intro ff))))
      all_goals (try go_wp2_with fail)
      all_goals (go_meet; case rel => refine (fun (hkx : Kept w1 _) => ⟨_, rfl, rfl, (by first | with_reducible assumption | omega | (simp; omega)), (by repeat (first | with_reducible exact own_alloc _ [.int .i64 0, .int .u64 0] 24 | with_reducible exact own_alloc _ [.int .i64 0, .int .u64 0] 24 | ((with_reducible refine own_allocE _ [.int .i64 0, .int .u64 0] 24 _ ?_); (simp; done)) | ((with_reducible refine own_allocE _ [.int .i64 0, .int .u64 0] 24 _ ?_); (simp; done)) | with_reducible refine own_set2 (us := [.int .i64 0, .int .u64 0]) ?_ rfl | with_reducible refine OwnB.other2 ?_ (by first | with_reducible assumption | omega | (simp; done) | (simp; omega)) | with_reducible refine OwnB.alloc ?_ _ | with_reducible refine OwnB.drew ?_ | with_reducible refine OwnB.drewN ?_ _ | with_reducible refine OwnB.kept (by with_reducible assumption) ?_)), OwnB.kept hkx HB0_0.out, hkx⟩) ?_; exact (by repeat (first | with_reducible exact Kept.refl _ | with_reducible assumption | with_reducible refine Kept.set12 ?_ (by first | with_reducible assumption | omega | (simp; done) | (simp; omega)) | with_reducible refine Kept.set11 ?_ (by first | with_reducible assumption | omega | (simp; done) | (simp; omega)) | with_reducible refine Kept.set10 ?_ (by first | with_reducible assumption | omega | (simp; done) | (simp; omega)) | with_reducible refine Kept.set9 ?_ (by first | with_reducible assumption | omega | (simp; done) | (simp; omega)) | with_reducible refine Kept.set8 ?_ (by first | with_reducible assumption | omega | (simp; done) | (simp; omega)) | with_reducible refine Kept.set7 ?_ (by first | with_reducible assumption | omega | (simp; done) | (simp; omega)) | with_reducible refine Kept.set6 ?_ (by first | with_reducible assumption | omega | (simp; done) | (simp; omega)) | with_reducible refine Kept.set5 ?_ (by first | with_reducible assumption | omega | (simp; done) | (simp; omega)) | with_reducible refine Kept.set4 ?_ (by first | with_reducible assumption | omega | (simp; done) | (simp; omega)) | with_reducible refine Kept.set3 ?_ (by first | with_reducible assumption | omega | (simp; done) | (simp; omega)) | with_reducible refine Kept.set2 ?_ (by first | with_reducible assumption | omega | (simp; done) | (simp; omega)) | with_reducible refine Kept.setCell ?_ (by first | with_reducible assumption | omega | (simp; done) | (simp; omega)) _ | with_reducible refine Kept.alloc ?_ _ | with_reducible refine Kept.drewN ?_ _ | with_reducible refine Kept.drew ?_ | with_reducible refine Kept.trans ?_ (by with_reducible assumption) | with_reducible refine Kept.dr ?_ (by with_reducible assumption))))
    case rest =>
    obtain ⟨b1_0, rfl, rfl, lt1_0, O1_0, O1_1, hkc1⟩ := hcut
    obtain ⟨hz_c1_0, hg_c1_0, hf_c1_0_0, hf_c1_0_1, _⟩ := O1_0
    obtain ⟨hz_c1_1, hg_c1_1, hf_c1_1_0, hf_c1_1_1, _⟩ := O1_1
    try clear hf1_0_0
    try clear hf1_0_1
    try clear hg1_0
    go_wp2_with fail
    all_goals go_ret
    all_goals exact ⟨rfl, (by repeat (first | with_reducible exact Kept.refl _ | with_reducible assumption | with_reducible refine Kept.setCell ?_ (by first | (simp; done) | (simp; omega) | omega) _ | with_reducible refine Kept.alloc ?_ _ | with_reducible refine Kept.drewN ?_ _ | with_reducible refine Kept.drew ?_ | with_reducible refine Kept.trans ?_ (by with_reducible assumption) | with_reducible refine Kept.dr ?_ (by with_reducible assumption)))⟩
  · by_cases hl : a < 1
    · have oa := of_w a a_0 a_1
      have dv := wDiv_w u a u0 u1 (by omega) (by omega)
      generalize wqV 0 u a = Q at *
      generalize wqE 0 u a = E at *
      have cn : (a == 0) = false := by rw [beq_eq_false_iff_ne]; omega
      have cn2 : (a != 0) = true := by rw [bne_iff_ne]; omega
      have al : a < 1 := by omega
      clear hc hl
      clear u0 u1
      have Hoa := Lib.hid oa
      clear oa
      have Hdv := Lib.hid dv
      clear dv
      generalize wh u = uh at *; generalize wl u = ul at *
      generalize wh Q = qh at *; generalize wl Q = ql at *; generalize wh a = ah at *; generalize wl a = aL at *
      go_enter Tryd.func10, Tryd.ntmps10
      go_wp2_with fail
      refine (awake_w _ (tab_kept hT.out (by repeat (first | with_reducible exact Kept.refl _ | with_reducible assumption | with_reducible refine Kept.setCell ?_ (by first | (simp; done) | (simp; omega) | omega) _ | with_reducible refine Kept.alloc ?_ _ | with_reducible refine Kept.drewN ?_ _ | with_reducible refine Kept.drew ?_ | with_reducible refine Kept.trans ?_ (by with_reducible assumption) | with_reducible refine Kept.dr ?_ (by with_reducible assumption))))).mono ?_
      rintro e w1 ⟨rfl, hk1⟩
      refine kuse (b := w.heap.size) hk1 (by first | (simp; done) | (simp; omega) | omega) ?_
      intro ha hb
      have hz1_0 : w.heap.size < w1.heap.size := by have := hk1.size; (try simp at this); omega
      have hn1_0 : ¬ w.heap.size = w1.heap.size := by omega
      have hm1_0 : ¬ w1.heap.size = w.heap.size := by omega
      have hf1_0_0 : w1.cell? ⟨w.heap.size, 0, none⟩ = some (.int .i64 uh) := by first | (rw [ha]; with_reducible assumption) | (simp (maxDischargeDepth := 7) [go_sem, ha]; done) | (rw [ha]; assumption) | (simp (maxDischargeDepth := 7) [go_sem, ha, *]; done)
      have hf1_0_1 : w1.cell? ⟨w.heap.size, 1, none⟩ = some (.int .u64 ul) := by first | (rw [ha]; with_reducible assumption) | (simp (maxDischargeDepth := 7) [go_sem, ha]; done) | (rw [ha]; assumption) | (simp (maxDischargeDepth := 7) [go_sem, ha, *]; done)
      try have hg1_0 : ∀ o, w1.frozen? ⟨w.heap.size, o, none⟩ = false := by intro o; first | (simp (maxDischargeDepth := 7) [go_sem, hb]; done) | (rw [hb]; simp (maxDischargeDepth := 7) [go_sem, *]; done)
      clear ha hb
      go_wp2_with fail
      have B0 : OwnB w1 (w.heap.size) [.int .i64 uh, .int .u64 ul] := ⟨hz1_0, hg1_0, hf1_0_0, hf1_0_1, trivial⟩
      have HB0_0 := Lib.hid B0
      clear B0
      go_upto_region 3 with (fail)
      go_cut [5, 6] (fun p0 c0 wx => ∃ b0 : Nat, p0 = .pointer (some ⟨b0, 0, none⟩) ∧ c0 = .bool E ∧ w.heap.size < b0 ∧ OwnB wx (b0) [.int .i64 qh, .int .u64 ql] ∧ OwnB wx (w.heap.size) [.int .i64 uh, .int .u64 ul] ∧ Kept w1 wx)
      case first =>
        go_region_held3 (fun W => W.cell? ⟨w.heap.size, 0, none⟩ = some (.int .i64 uh) ∧ W.cell? ⟨w.heap.size, 1, none⟩ = some (.int .u64 ul)) (first | (go_keep; done) | (simp (maxDischargeDepth := 9) [*, World.cell?_alloc_some, World.cell?_setCell_far]; done) | (simp (maxDischargeDepth := 9) [go_sem, *]; done)) (first | (go_at_call 31; (with_reducible refine (Hoa.out _).mono ?_); rintro e v0 ⟨rfl, hk⟩; have hz := hk.size; (try (refine kuse (b := w.heap.size) hk (by first | (simp; done) | (simp; omega) | omega) ?_; intro hq hg; have hy : w.heap.size < v0.heap.size := (by (try simp at hz); omega); have hn : ¬ w.heap.size = v0.heap.size := (by omega); have hm : ¬ w.heap.size = v0.heap.size + 1 := (by omega); have hn' : ¬ v0.heap.size = w.heap.size := (by omega); have hm' : ¬ v0.heap.size + 1 = w.heap.size := (by omega))); (try (have hle : w1.heap.size ≤ v0.heap.size := (by (try simp at hz); omega))); (try (refine kuse (b := w1.heap.size) hk (by first | (simp; done) | (simp; omega) | omega) ?_; intro hq hg; have hy : w1.heap.size < v0.heap.size := (by (try simp at hz); omega))); (try (refine withF (p := v0.cell? ⟨w.heap.size, 0, none⟩ = some (.int .i64 uh)) (by first | (simp (maxDischargeDepth := 7) [go_sem, *]; done) | fail) ?_; intro ff)); (try (refine withF (p := v0.cell? ⟨w.heap.size, 1, none⟩ = some (.int .u64 ul)) (by first | (simp (maxDischargeDepth := 7) [go_sem, *]; done) | fail) ?_; intro ff))) | (go_at_call 33; (with_reducible refine (Hdv.out _).mono ?_); rintro e v1 ⟨rfl, hk⟩; have hz := hk.size; (try (refine kuse (b := w.heap.size) hk (by first | (simp; done) | (simp; omega) | omega) ?_; intro hq hg; have hy : w.heap.size < v1.heap.size := (by (try simp at hz); omega); have hn : ¬ w.heap.size = v1.heap.size := (by omega); have hm : ¬ w.heap.size = v1.heap.size + 1 := (by omega); have hn' : ¬ v1.heap.size = w.heap.size := (by omega); have hm' : ¬ v1.heap.size + 1 = w.heap.size := (by omega))); (try (have hle : w1.heap.size ≤ v1.heap.size := (by (try simp at hz); omega))); (try (have hle : v0.heap.size ≤ v1.heap.size := (by (try simp at hz); omega))); (try (refine kuse (b := v0.heap.size) hk (by first | (simp; done) | (simp; omega) | omega) ?_; intro hq hg; have hy : v0.heap.size < v1.heap.size := (by (try simp at hz); omega))); (try (refine kuse (b := w1.heap.size) hk (by first | (simp; done) | (simp; omega) | omega) ?_; intro hq hg; have hy : w1.heap.size < v1.heap.size := (by (try simp at hz); omega))); (try (refine withF (p := v1.cell? ⟨w.heap.size, 0, none⟩ = some (.int .i64 uh)) (by first | (simp (maxDischargeDepth := 7) [go_sem, *]; done) | fail) ?_; intro ff)); (try (refine withF (p := v1.cell? ⟨w.heap.size, 1, none⟩ = some (.int .u64 ul)) (by first | (simp (maxDischargeDepth := 7) [go_sem, *]; done) | fail) ?_; intro ff))))
        all_goals (try go_wp2_with fail)
        all_goals (go_meet; case rel => refine (fun (hkx : Kept w1 _) => ⟨_, rfl, rfl, (by first | with_reducible assumption | omega | (simp; omega)), (by repeat (first | with_reducible exact own_alloc _ [.int .i64 qh, .int .u64 ql] 24 | with_reducible exact own_alloc _ [.int .i64 0, .int .u64 0] 24 | ((with_reducible refine own_allocE _ [.int .i64 qh, .int .u64 ql] 24 _ ?_); (simp; done)) | ((with_reducible refine own_allocE _ [.int .i64 0, .int .u64 0] 24 _ ?_); (simp; done)) | with_reducible refine own_set2 (us := [.int .i64 0, .int .u64 0]) ?_ rfl | with_reducible refine OwnB.other2 ?_ (by first | with_reducible assumption | omega | (simp; done) | (simp; omega)) | with_reducible refine OwnB.alloc ?_ _ | with_reducible refine OwnB.drew ?_ | with_reducible refine OwnB.drewN ?_ _ | with_reducible refine OwnB.kept (by with_reducible assumption) ?_)), OwnB.kept hkx HB0_0.out, hkx⟩) ?_; exact (by repeat (first | with_reducible exact Kept.refl _ | with_reducible assumption | with_reducible refine Kept.set12 ?_ (by first | with_reducible assumption | omega | (simp; done) | (simp; omega)) | with_reducible refine Kept.set11 ?_ (by first | with_reducible assumption | omega | (simp; done) | (simp; omega)) | with_reducible refine Kept.set10 ?_ (by first | with_reducible assumption | omega | (simp; done) | (simp; omega)) | with_reducible refine Kept.set9 ?_ (by first | with_reducible assumption | omega | (simp; done) | (simp; omega)) | with_reducible refine Kept.set8 ?_ (by first | with_reducible assumption | omega | (simp; done) | (simp; omega)) | with_reducible refine Kept.set7 ?_ (by first | with_reducible assumption | omega | (simp; done) | (simp; omega)) | with_reducible refine Kept.set6 ?_ (by first | with_reducible assumption | omega | (simp; done) | (simp; omega)) | with_reducible refine Kept.set5 ?_ (by first | with_reducible assumption | omega | (simp; done) | (simp; omega)) | with_reducible refine Kept.set4 ?_ (by first | with_reducible assumption | omega | (simp; done) | (simp; omega)) | with_reducible refine Kept.set3 ?_ (by first | with_reducible assumption | omega | (simp; done) | (simp; omega)) | with_reducible refine Kept.set2 ?_ (by first | with_reducible assumption | omega | (simp; done) | (simp; omega)) | with_reducible refine Kept.setCell ?_ (by first | with_reducible assumption | omega | (simp; done) | (simp; omega)) _ | with_reducible refine Kept.alloc ?_ _ | with_reducible refine Kept.drewN ?_ _ | with_reducible refine Kept.drew ?_ | with_reducible refine Kept.trans ?_ (by with_reducible assumption) | with_reducible refine Kept.dr ?_ (by with_reducible assumption))))
      case rest =>
      obtain ⟨b1_0, rfl, rfl, lt1_0, O1_0, O1_1, hkc1⟩ := hcut
      obtain ⟨hz_c1_0, hg_c1_0, hf_c1_0_0, hf_c1_0_1, _⟩ := O1_0
      obtain ⟨hz_c1_1, hg_c1_1, hf_c1_1_0, hf_c1_1_1, _⟩ := O1_1
      try clear hf1_0_0
      try clear hf1_0_1
      try clear hg1_0
      go_wp2_with fail
      all_goals go_ret
      all_goals exact ⟨rfl, (by repeat (first | with_reducible exact Kept.refl _ | with_reducible assumption | with_reducible refine Kept.setCell ?_ (by first | (simp; done) | (simp; omega) | omega) _ | with_reducible refine Kept.alloc ?_ _ | with_reducible refine Kept.drewN ?_ _ | with_reducible refine Kept.drew ?_ | with_reducible refine Kept.trans ?_ (by with_reducible assumption) | with_reducible refine Kept.dr ?_ (by with_reducible assumption)))⟩
    · by_cases hh : wh u = -9223372036854775808
      · have oa := of_w a a_0 a_1
        have dv := wDiv_w u a u0 u1 (by omega) (by omega)
        generalize wqV 0 u a = Q at *
        generalize wqE 0 u a = E at *
        have cn : (a == 0) = false := by rw [beq_eq_false_iff_ne]; omega
        have cn2 : (a != 0) = true := by rw [bne_iff_ne]; omega
        have al : ¬ a < 1 := by omega
        rw [hh] at dv ⊢
        clear hc hl hh
        clear u0 u1
        have Hoa := Lib.hid oa
        clear oa
        have Hdv := Lib.hid dv
        clear dv
        generalize wl u = ul at *
        generalize wh Q = qh at *; generalize wl Q = ql at *; generalize wh a = ah at *; generalize wl a = aL at *
        go_enter Tryd.func10, Tryd.ntmps10
        go_wp2_with fail
        refine (awake_w _ (tab_kept hT.out (by repeat (first | with_reducible exact Kept.refl _ | with_reducible assumption | with_reducible refine Kept.setCell ?_ (by first | (simp; done) | (simp; omega) | omega) _ | with_reducible refine Kept.alloc ?_ _ | with_reducible refine Kept.drewN ?_ _ | with_reducible refine Kept.drew ?_ | with_reducible refine Kept.trans ?_ (by with_reducible assumption) | with_reducible refine Kept.dr ?_ (by with_reducible assumption))))).mono ?_
        rintro e w1 ⟨rfl, hk1⟩
        refine kuse (b := w.heap.size) hk1 (by first | (simp; done) | (simp; omega) | omega) ?_
        intro ha hb
        have hz1_0 : w.heap.size < w1.heap.size := by have := hk1.size; (try simp at this); omega
        have hn1_0 : ¬ w.heap.size = w1.heap.size := by omega
        have hm1_0 : ¬ w1.heap.size = w.heap.size := by omega
        have hf1_0_0 : w1.cell? ⟨w.heap.size, 0, none⟩ = some (.int .i64 (-9223372036854775808)) := by first | (rw [ha]; with_reducible assumption) | (simp (maxDischargeDepth := 7) [go_sem, ha]; done) | (rw [ha]; assumption) | (simp (maxDischargeDepth := 7) [go_sem, ha, *]; done)
        have hf1_0_1 : w1.cell? ⟨w.heap.size, 1, none⟩ = some (.int .u64 ul) := by first | (rw [ha]; with_reducible assumption) | (simp (maxDischargeDepth := 7) [go_sem, ha]; done) | (rw [ha]; assumption) | (simp (maxDischargeDepth := 7) [go_sem, ha, *]; done)
        try have hg1_0 : ∀ o, w1.frozen? ⟨w.heap.size, o, none⟩ = false := by intro o; first | (simp (maxDischargeDepth := 7) [go_sem, hb]; done) | (rw [hb]; simp (maxDischargeDepth := 7) [go_sem, *]; done)
        clear ha hb
        go_wp2_with fail
        have B0 : OwnB w1 (w.heap.size) [.int .i64 (-9223372036854775808), .int .u64 ul] := ⟨hz1_0, hg1_0, hf1_0_0, hf1_0_1, trivial⟩
        have HB0_0 := Lib.hid B0
        clear B0
        go_upto_region 3 with (fail)
        go_cut [5, 6] (fun p0 c0 wx => ∃ b0 : Nat, p0 = .pointer (some ⟨b0, 0, none⟩) ∧ c0 = .bool E ∧ w.heap.size < b0 ∧ OwnB wx (b0) [.int .i64 qh, .int .u64 ql] ∧ OwnB wx (w.heap.size) [.int .i64 (-9223372036854775808), .int .u64 ul] ∧ Kept w1 wx)
        case first =>
          go_region_held3 (fun W => W.cell? ⟨w.heap.size, 0, none⟩ = some (.int .i64 (-9223372036854775808)) ∧ W.cell? ⟨w.heap.size, 1, none⟩ = some (.int .u64 ul)) (first | (go_keep; done) | (simp (maxDischargeDepth := 9) [*, World.cell?_alloc_some, World.cell?_setCell_far]; done) | (simp (maxDischargeDepth := 9) [go_sem, *]; done)) (first | (go_at_call 31; (with_reducible refine (Hoa.out _).mono ?_); rintro e v0 ⟨rfl, hk⟩; have hz := hk.size; (try (refine kuse (b := w.heap.size) hk (by first | (simp; done) | (simp; omega) | omega) ?_; intro hq hg; have hy : w.heap.size < v0.heap.size := (by (try simp at hz); omega); have hn : ¬ w.heap.size = v0.heap.size := (by omega); have hm : ¬ w.heap.size = v0.heap.size + 1 := (by omega); have hn' : ¬ v0.heap.size = w.heap.size := (by omega); have hm' : ¬ v0.heap.size + 1 = w.heap.size := (by omega))); (try (have hle : w1.heap.size ≤ v0.heap.size := (by (try simp at hz); omega))); (try (refine kuse (b := w1.heap.size) hk (by first | (simp; done) | (simp; omega) | omega) ?_; intro hq hg; have hy : w1.heap.size < v0.heap.size := (by (try simp at hz); omega))); (try (refine withF (p := v0.cell? ⟨w.heap.size, 0, none⟩ = some (.int .i64 (-9223372036854775808))) (by first | (simp (maxDischargeDepth := 7) [go_sem, *]; done) | fail) ?_; intro ff)); (try (refine withF (p := v0.cell? ⟨w.heap.size, 1, none⟩ = some (.int .u64 ul)) (by first | (simp (maxDischargeDepth := 7) [go_sem, *]; done) | fail) ?_; intro ff))) | (go_at_call 33; (with_reducible refine (Hdv.out _).mono ?_); rintro e v1 ⟨rfl, hk⟩; have hz := hk.size; (try (refine kuse (b := w.heap.size) hk (by first | (simp; done) | (simp; omega) | omega) ?_; intro hq hg; have hy : w.heap.size < v1.heap.size := (by (try simp at hz); omega); have hn : ¬ w.heap.size = v1.heap.size := (by omega); have hm : ¬ w.heap.size = v1.heap.size + 1 := (by omega); have hn' : ¬ v1.heap.size = w.heap.size := (by omega); have hm' : ¬ v1.heap.size + 1 = w.heap.size := (by omega))); (try (have hle : w1.heap.size ≤ v1.heap.size := (by (try simp at hz); omega))); (try (have hle : v0.heap.size ≤ v1.heap.size := (by (try simp at hz); omega))); (try (refine kuse (b := v0.heap.size) hk (by first | (simp; done) | (simp; omega) | omega) ?_; intro hq hg; have hy : v0.heap.size < v1.heap.size := (by (try simp at hz); omega))); (try (refine kuse (b := w1.heap.size) hk (by first | (simp; done) | (simp; omega) | omega) ?_; intro hq hg; have hy : w1.heap.size < v1.heap.size := (by (try simp at hz); omega))); (try (refine withF (p := v1.cell? ⟨w.heap.size, 0, none⟩ = some (.int .i64 (-9223372036854775808))) (by first | (simp (maxDischargeDepth := 7) [go_sem, *]; done) | fail) ?_; intro ff)); (try (refine withF (p := v1.cell? ⟨w.heap.size, 1, none⟩ = some (.int .u64 ul)) (by first | (simp (maxDischargeDepth := 7) [go_sem, *]; done) | fail) ?_; intro ff))))
          all_goals (try go_wp2_with fail)
          all_goals (go_meet; case rel => refine (fun (hkx : Kept w1 _) => ⟨_, rfl, rfl, (by first | with_reducible assumption | omega | (simp; omega)), (by repeat (first | with_reducible exact own_alloc _ [.int .i64 qh, .int .u64 ql] 24 | with_reducible exact own_alloc _ [.int .i64 0, .int .u64 0] 24 | ((with_reducible refine own_allocE _ [.int .i64 qh, .int .u64 ql] 24 _ ?_); (simp; done)) | ((with_reducible refine own_allocE _ [.int .i64 0, .int .u64 0] 24 _ ?_); (simp; done)) | with_reducible refine own_set2 (us := [.int .i64 0, .int .u64 0]) ?_ rfl | with_reducible refine OwnB.other2 ?_ (by first | with_reducible assumption | omega | (simp; done) | (simp; omega)) | with_reducible refine OwnB.alloc ?_ _ | with_reducible refine OwnB.drew ?_ | with_reducible refine OwnB.drewN ?_ _ | with_reducible refine OwnB.kept (by with_reducible assumption) ?_)), OwnB.kept hkx HB0_0.out, hkx⟩) ?_; exact (by repeat (first | with_reducible exact Kept.refl _ | with_reducible assumption | with_reducible refine Kept.set12 ?_ (by first | with_reducible assumption | omega | (simp; done) | (simp; omega)) | with_reducible refine Kept.set11 ?_ (by first | with_reducible assumption | omega | (simp; done) | (simp; omega)) | with_reducible refine Kept.set10 ?_ (by first | with_reducible assumption | omega | (simp; done) | (simp; omega)) | with_reducible refine Kept.set9 ?_ (by first | with_reducible assumption | omega | (simp; done) | (simp; omega)) | with_reducible refine Kept.set8 ?_ (by first | with_reducible assumption | omega | (simp; done) | (simp; omega)) | with_reducible refine Kept.set7 ?_ (by first | with_reducible assumption | omega | (simp; done) | (simp; omega)) | with_reducible refine Kept.set6 ?_ (by first | with_reducible assumption | omega | (simp; done) | (simp; omega)) | with_reducible refine Kept.set5 ?_ (by first | with_reducible assumption | omega | (simp; done) | (simp; omega)) | with_reducible refine Kept.set4 ?_ (by first | with_reducible assumption | omega | (simp; done) | (simp; omega)) | with_reducible refine Kept.set3 ?_ (by first | with_reducible assumption | omega | (simp; done) | (simp; omega)) | with_reducible refine Kept.set2 ?_ (by first | with_reducible assumption | omega | (simp; done) | (simp; omega)) | with_reducible refine Kept.setCell ?_ (by first | with_reducible assumption | omega | (simp; done) | (simp; omega)) _ | with_reducible refine Kept.alloc ?_ _ | with_reducible refine Kept.drewN ?_ _ | with_reducible refine Kept.drew ?_ | with_reducible refine Kept.trans ?_ (by with_reducible assumption) | with_reducible refine Kept.dr ?_ (by with_reducible assumption))))
        case rest =>
        obtain ⟨b1_0, rfl, rfl, lt1_0, O1_0, O1_1, hkc1⟩ := hcut
        obtain ⟨hz_c1_0, hg_c1_0, hf_c1_0_0, hf_c1_0_1, _⟩ := O1_0
        obtain ⟨hz_c1_1, hg_c1_1, hf_c1_1_0, hf_c1_1_1, _⟩ := O1_1
        try clear hf1_0_0
        try clear hf1_0_1
        try clear hg1_0
        go_wp2_with fail
        all_goals go_ret
        all_goals exact ⟨rfl, (by repeat (first | with_reducible exact Kept.refl _ | with_reducible assumption | with_reducible refine Kept.setCell ?_ (by first | (simp; done) | (simp; omega) | omega) _ | with_reducible refine Kept.alloc ?_ _ | with_reducible refine Kept.drewN ?_ _ | with_reducible refine Kept.drew ?_ | with_reducible refine Kept.trans ?_ (by with_reducible assumption) | with_reducible refine Kept.dr ?_ (by with_reducible assumption)))⟩
      · have oa := of_w a a_0 a_1
        have dv := wDiv_w u a u0 u1 (by omega) (by omega)
        have ve := wqVE 0 u a (by omega)
        have hq := rnd0_bd u a (by omega)
        have Q0 : rnd 0 u a * a ≤ u := hq.1
        have hu : -170141183460469231731687303715884105728 + 18446744073709551616 ≤ u := by
          have := wv u
          have h2 : -9223372036854775808 ≤ wh u := by unfold wh; omega
          omega
        have bl : -170141183460469231731687303715884105728 ≤ rnd 0 u a ∧ rnd 0 u a < 170141183460469231731687303715884105728 := by
          have e : rnd 0 u a = u / a := by unfold rnd; rw [if_pos rfl, Int.fdiv_eq_ediv_of_nonneg _ (by omega)]
          rw [e]
          constructor
          · rw [Int.le_ediv_iff_mul_le (by omega)]
            have := Int.mul_le_mul_of_nonneg_left (show 1 ≤ a by omega) (show (0:Int) ≤ 170141183460469231731687303715884105728 by omega)
            by_cases c : u < 0
            · have := Int.mul_le_mul_of_nonneg_left (show 1 ≤ a by omega) (show 0 ≤ -u by omega)
              omega
            · omega
          · rw [Int.ediv_lt_iff_lt_mul (by omega)]
            have := Int.mul_le_mul_of_nonneg_left (show 1 ≤ a by omega) (show (0:Int) ≤ 170141183460469231731687303715884105728 by omega)
            omega
        have fy := wfit_yes bl.1 bl.2
        rw [ve.1, ve.2, wq_rnd 0 u a (Or.inl rfl) (by omega), fy.1, fy.2] at dv
        generalize rnd 0 u a = Q at *
        have tm := times_w Q a bl.1 bl.2 a_0 a_1
        have fp := wfit_yes (u := Q * a) (by omega) (by omega)
        rw [fp.1, fp.2] at tm
        have sb := wsub_w u (Q * a) u0 u1 (by omega) (by omega)
        obtain ⟨P, hP⟩ : ∃ P, Q * a = P := ⟨_, rfl⟩
        rw [hP] at tm sb hq
        have fr := wfit_yes (u := u - P) (by omega) (by omega)
        rw [fr.1, fr.2] at sb
        obtain ⟨R, hR⟩ : ∃ R, u - P = R := ⟨_, rfl⟩
        rw [hR] at sb
        have sg := sign_w R
        have cm := cmp_w R a
        have ec : wcm R a = -1 := by unfold wcm; rw [if_pos (by omega)]
        rw [ec] at cm
        have al : ¬ a < 1 := by omega
        have hn : (wh u == -9223372036854775808) = false := by rw [beq_eq_false_iff_ne]; exact hh
        have es : 0 ≤ wcm R 0 := by unfold wcm; rw [if_neg (by omega)]; split <;> omega
        generalize wcm R 0 = S at *
        clear ve hq Q0 hu bl fy fp hP fr hR ec hc hl hh u0 u1
        have Hoa := Lib.hid oa
        clear oa
        have Hdv := Lib.hid dv
        clear dv
        have Htm := Lib.hid tm
        clear tm
        have Hsb := Lib.hid sb
        clear sb
        have Hsg := Lib.hid sg
        clear sg
        have Hcm := Lib.hid cm
        clear cm
        generalize wh u = uh at *; generalize wl u = ul at *
        generalize wh Q = qh at *; generalize wl Q = ql at *; generalize wh a = ah at *; generalize wl a = aL at *; generalize wh P = ph at *; generalize wl P = pl at *; generalize wh R = rh at *; generalize wl R = rl at *
        go_enter Tryd.func10, Tryd.ntmps10
        go_wp2_with fail
        refine (awake_w _ (tab_kept hT.out (by repeat (first | with_reducible exact Kept.refl _ | with_reducible assumption | with_reducible refine Kept.setCell ?_ (by first | (simp; done) | (simp; omega) | omega) _ | with_reducible refine Kept.alloc ?_ _ | with_reducible refine Kept.drewN ?_ _ | with_reducible refine Kept.drew ?_ | with_reducible refine Kept.trans ?_ (by with_reducible assumption) | with_reducible refine Kept.dr ?_ (by with_reducible assumption))))).mono ?_
        rintro e w1 ⟨rfl, hk1⟩
        refine kuse (b := w.heap.size) hk1 (by first | (simp; done) | (simp; omega) | omega) ?_
        intro ha hb
        have hz1_0 : w.heap.size < w1.heap.size := by have := hk1.size; (try simp at this); omega
        have hn1_0 : ¬ w.heap.size = w1.heap.size := by omega
        have hm1_0 : ¬ w1.heap.size = w.heap.size := by omega
        have hf1_0_0 : w1.cell? ⟨w.heap.size, 0, none⟩ = some (.int .i64 uh) := by first | (rw [ha]; with_reducible assumption) | (simp (maxDischargeDepth := 7) [go_sem, ha]; done) | (rw [ha]; assumption) | (simp (maxDischargeDepth := 7) [go_sem, ha, *]; done)
        have hf1_0_1 : w1.cell? ⟨w.heap.size, 1, none⟩ = some (.int .u64 ul) := by first | (rw [ha]; with_reducible assumption) | (simp (maxDischargeDepth := 7) [go_sem, ha]; done) | (rw [ha]; assumption) | (simp (maxDischargeDepth := 7) [go_sem, ha, *]; done)
        try have hg1_0 : ∀ o, w1.frozen? ⟨w.heap.size, o, none⟩ = false := by intro o; first | (simp (maxDischargeDepth := 7) [go_sem, hb]; done) | (rw [hb]; simp (maxDischargeDepth := 7) [go_sem, *]; done)
        clear ha hb
        go_wp2_with fail
        have B0 : OwnB w1 (w.heap.size) [.int .i64 uh, .int .u64 ul] := ⟨hz1_0, hg1_0, hf1_0_0, hf1_0_1, trivial⟩
        have HB0_0 := Lib.hid B0
        clear B0
        go_upto_region 3 with (fail)
        go_cut [5, 6] (fun p0 c0 wx => ∃ b0 : Nat, p0 = .pointer (some ⟨b0, 0, none⟩) ∧ c0 = .bool true ∧ w.heap.size < b0 ∧ OwnB wx (b0) [.int .i64 qh, .int .u64 ql] ∧ OwnB wx (w.heap.size) [.int .i64 uh, .int .u64 ul] ∧ Kept w1 wx)
        case first =>
          go_region_held3 (fun W => W.cell? ⟨w.heap.size, 0, none⟩ = some (.int .i64 uh) ∧ W.cell? ⟨w.heap.size, 1, none⟩ = some (.int .u64 ul)) (first | (go_keep; done) | (simp (maxDischargeDepth := 9) [*, World.cell?_alloc_some, World.cell?_setCell_far]; done) | (simp (maxDischargeDepth := 9) [go_sem, *]; done)) (first | (go_at_call 31; (with_reducible refine (Hoa.out _).mono ?_); rintro e v0 ⟨rfl, hk⟩; have hz := hk.size; (try (refine kuse (b := w.heap.size) hk (by first | (simp; done) | (simp; omega) | omega) ?_; intro hq hg; have hy : w.heap.size < v0.heap.size := (by (try simp at hz); omega); have hn : ¬ w.heap.size = v0.heap.size := (by omega); have hm : ¬ w.heap.size = v0.heap.size + 1 := (by omega); have hn' : ¬ v0.heap.size = w.heap.size := (by omega); have hm' : ¬ v0.heap.size + 1 = w.heap.size := (by omega))); (try (have hle : w1.heap.size ≤ v0.heap.size := (by (try simp at hz); omega))); (try (refine kuse (b := w1.heap.size) hk (by first | (simp; done) | (simp; omega) | omega) ?_; intro hq hg; have hy : w1.heap.size < v0.heap.size := (by (try simp at hz); omega))); (try (refine withF (p := v0.cell? ⟨w.heap.size, 0, none⟩ = some (.int .i64 uh)) (by first | (simp (maxDischargeDepth := 7) [go_sem, *]; done) | fail) ?_; intro ff)); (try (refine withF (p := v0.cell? ⟨w.heap.size, 1, none⟩ = some (.int .u64 ul)) (by first | (simp (maxDischargeDepth := 7) [go_sem, *]; done) | fail) ?_; intro ff))) | (go_at_call 33; (with_reducible refine (Hdv.out _).mono ?_); rintro e v1 ⟨rfl, hk⟩; have hz := hk.size; (try (refine kuse (b := w.heap.size) hk (by first | (simp; done) | (simp; omega) | omega) ?_; intro hq hg; have hy : w.heap.size < v1.heap.size := (by (try simp at hz); omega); have hn : ¬ w.heap.size = v1.heap.size := (by omega); have hm : ¬ w.heap.size = v1.heap.size + 1 := (by omega); have hn' : ¬ v1.heap.size = w.heap.size := (by omega); have hm' : ¬ v1.heap.size + 1 = w.heap.size := (by omega))); (try (have hle : w1.heap.size ≤ v1.heap.size := (by (try simp at hz); omega))); (try (have hle : v0.heap.size ≤ v1.heap.size := (by (try simp at hz); omega))); (try (refine kuse (b := v0.heap.size) hk (by first | (simp; done) | (simp; omega) | omega) ?_; intro hq hg; have hy : v0.heap.size < v1.heap.size := (by (try simp at hz); omega))); (try (refine kuse (b := w1.heap.size) hk (by first | (simp; done) | (simp; omega) | omega) ?_; intro hq hg; have hy : w1.heap.size < v1.heap.size := (by (try simp at hz); omega))); (try (refine withF (p := v1.cell? ⟨w.heap.size, 0, none⟩ = some (.int .i64 uh)) (by first | (simp (maxDischargeDepth := 7) [go_sem, *]; done) | fail) ?_; intro ff)); (try (refine withF (p := v1.cell? ⟨w.heap.size, 1, none⟩ = some (.int .u64 ul)) (by first | (simp (maxDischargeDepth := 7) [go_sem, *]; done) | fail) ?_; intro ff))))
          all_goals (try go_wp2_with fail)
          all_goals (go_meet; case rel => refine (fun (hkx : Kept w1 _) => ⟨_, rfl, rfl, (by first | with_reducible assumption | omega | (simp; omega)), (by repeat (first | with_reducible exact own_alloc _ [.int .i64 qh, .int .u64 ql] 24 | with_reducible exact own_alloc _ [.int .i64 0, .int .u64 0] 24 | ((with_reducible refine own_allocE _ [.int .i64 qh, .int .u64 ql] 24 _ ?_); (simp; done)) | ((with_reducible refine own_allocE _ [.int .i64 0, .int .u64 0] 24 _ ?_); (simp; done)) | with_reducible refine own_set2 (us := [.int .i64 0, .int .u64 0]) ?_ rfl | with_reducible refine OwnB.other2 ?_ (by first | with_reducible assumption | omega | (simp; done) | (simp; omega)) | with_reducible refine OwnB.alloc ?_ _ | with_reducible refine OwnB.drew ?_ | with_reducible refine OwnB.drewN ?_ _ | with_reducible refine OwnB.kept (by with_reducible assumption) ?_)), OwnB.kept hkx HB0_0.out, hkx⟩) ?_; exact (by repeat (first | with_reducible exact Kept.refl _ | with_reducible assumption | with_reducible refine Kept.set12 ?_ (by first | with_reducible assumption | omega | (simp; done) | (simp; omega)) | with_reducible refine Kept.set11 ?_ (by first | with_reducible assumption | omega | (simp; done) | (simp; omega)) | with_reducible refine Kept.set10 ?_ (by first | with_reducible assumption | omega | (simp; done) | (simp; omega)) | with_reducible refine Kept.set9 ?_ (by first | with_reducible assumption | omega | (simp; done) | (simp; omega)) | with_reducible refine Kept.set8 ?_ (by first | with_reducible assumption | omega | (simp; done) | (simp; omega)) | with_reducible refine Kept.set7 ?_ (by first | with_reducible assumption | omega | (simp; done) | (simp; omega)) | with_reducible refine Kept.set6 ?_ (by first | with_reducible assumption | omega | (simp; done) | (simp; omega)) | with_reducible refine Kept.set5 ?_ (by first | with_reducible assumption | omega | (simp; done) | (simp; omega)) | with_reducible refine Kept.set4 ?_ (by first | with_reducible assumption | omega | (simp; done) | (simp; omega)) | with_reducible refine Kept.set3 ?_ (by first | with_reducible assumption | omega | (simp; done) | (simp; omega)) | with_reducible refine Kept.set2 ?_ (by first | with_reducible assumption | omega | (simp; done) | (simp; omega)) | with_reducible refine Kept.setCell ?_ (by first | with_reducible assumption | omega | (simp; done) | (simp; omega)) _ | with_reducible refine Kept.alloc ?_ _ | with_reducible refine Kept.drewN ?_ _ | with_reducible refine Kept.drew ?_ | with_reducible refine Kept.trans ?_ (by with_reducible assumption) | with_reducible refine Kept.dr ?_ (by with_reducible assumption))))
        case rest =>
        obtain ⟨b1_0, rfl, rfl, lt1_0, O1_0, O1_1, hkc1⟩ := hcut
        obtain ⟨hz_c1_0, hg_c1_0, hf_c1_0_0, hf_c1_0_1, _⟩ := O1_0
        obtain ⟨hz_c1_1, hg_c1_1, hf_c1_1_0, hf_c1_1_1, _⟩ := O1_1
        try clear hf1_0_0
        try clear hf1_0_1
        try clear hg1_0
        go_wp2_with fail
        with_reducible refine (Htm.out _).mono ?_
        rintro e w2 ⟨rfl, hk2⟩
        refine kuse (b := b1_0) hk2 (by first | (simp; done) | (simp; omega) | omega) ?_
        intro ha hb
        have hz2_0 : b1_0 < w2.heap.size := by have := hk2.size; (try simp at this); omega
        have hn2_0 : ¬ b1_0 = w2.heap.size := by omega
        have hm2_0 : ¬ w2.heap.size = b1_0 := by omega
        have hf2_0_0 : w2.cell? ⟨b1_0, 0, none⟩ = some (.int .i64 qh) := by first | (rw [ha]; with_reducible assumption) | (simp (maxDischargeDepth := 7) [go_sem, ha]; done) | (rw [ha]; assumption) | (simp (maxDischargeDepth := 7) [go_sem, ha, *]; done)
        have hf2_0_1 : w2.cell? ⟨b1_0, 1, none⟩ = some (.int .u64 ql) := by first | (rw [ha]; with_reducible assumption) | (simp (maxDischargeDepth := 7) [go_sem, ha]; done) | (rw [ha]; assumption) | (simp (maxDischargeDepth := 7) [go_sem, ha, *]; done)
        try have hg2_0 : ∀ o, w2.frozen? ⟨b1_0, o, none⟩ = false := by intro o; first | (simp (maxDischargeDepth := 7) [go_sem, hb]; done) | (rw [hb]; simp (maxDischargeDepth := 7) [go_sem, *]; done)
        clear ha hb
        refine kuse (b := w.heap.size) hk2 (by first | (simp; done) | (simp; omega) | omega) ?_
        intro ha hb
        have hz2_1 : w.heap.size < w2.heap.size := by have := hk2.size; (try simp at this); omega
        have hn2_1 : ¬ w.heap.size = w2.heap.size := by omega
        have hm2_1 : ¬ w2.heap.size = w.heap.size := by omega
        have hf2_1_0 : w2.cell? ⟨w.heap.size, 0, none⟩ = some (.int .i64 uh) := by first | (rw [ha]; with_reducible assumption) | (simp (maxDischargeDepth := 7) [go_sem, ha]; done) | (rw [ha]; assumption) | (simp (maxDischargeDepth := 7) [go_sem, ha, *]; done)
        have hf2_1_1 : w2.cell? ⟨w.heap.size, 1, none⟩ = some (.int .u64 ul) := by first | (rw [ha]; with_reducible assumption) | (simp (maxDischargeDepth := 7) [go_sem, ha]; done) | (rw [ha]; assumption) | (simp (maxDischargeDepth := 7) [go_sem, ha, *]; done)
        try have hg2_1 : ∀ o, w2.frozen? ⟨w.heap.size, o, none⟩ = false := by intro o; first | (simp (maxDischargeDepth := 7) [go_sem, hb]; done) | (rw [hb]; simp (maxDischargeDepth := 7) [go_sem, *]; done)
        clear ha hb
        try clear hf_c1_0_0
        try clear hf_c1_0_1
        try clear hf_c1_1_0
        try clear hf_c1_1_1
        try clear hg_c1_0
        try clear hg_c1_1
        go_wp2_with fail
        with_reducible refine (Hsb.out _).mono ?_
        rintro e w3 ⟨rfl, hk3⟩
        refine kuse (b := b1_0) hk3 (by first | (simp; done) | (simp; omega) | omega) ?_
        intro ha hb
        have hz3_0 : b1_0 < w3.heap.size := by have := hk3.size; (try simp at this); omega
        have hn3_0 : ¬ b1_0 = w3.heap.size := by omega
        have hm3_0 : ¬ w3.heap.size = b1_0 := by omega
        have hf3_0_0 : w3.cell? ⟨b1_0, 0, none⟩ = some (.int .i64 qh) := by first | (rw [ha]; with_reducible assumption) | (simp (maxDischargeDepth := 7) [go_sem, ha]; done) | (rw [ha]; assumption) | (simp (maxDischargeDepth := 7) [go_sem, ha, *]; done)
        have hf3_0_1 : w3.cell? ⟨b1_0, 1, none⟩ = some (.int .u64 ql) := by first | (rw [ha]; with_reducible assumption) | (simp (maxDischargeDepth := 7) [go_sem, ha]; done) | (rw [ha]; assumption) | (simp (maxDischargeDepth := 7) [go_sem, ha, *]; done)
        try have hg3_0 : ∀ o, w3.frozen? ⟨b1_0, o, none⟩ = false := by intro o; first | (simp (maxDischargeDepth := 7) [go_sem, hb]; done) | (rw [hb]; simp (maxDischargeDepth := 7) [go_sem, *]; done)
        clear ha hb
        refine kuse (b := w.heap.size) hk3 (by first | (simp; done) | (simp; omega) | omega) ?_
        intro ha hb
        have hz3_1 : w.heap.size < w3.heap.size := by have := hk3.size; (try simp at this); omega
        have hn3_1 : ¬ w.heap.size = w3.heap.size := by omega
        have hm3_1 : ¬ w3.heap.size = w.heap.size := by omega
        have hf3_1_0 : w3.cell? ⟨w.heap.size, 0, none⟩ = some (.int .i64 uh) := by first | (rw [ha]; with_reducible assumption) | (simp (maxDischargeDepth := 7) [go_sem, ha]; done) | (rw [ha]; assumption) | (simp (maxDischargeDepth := 7) [go_sem, ha, *]; done)
        have hf3_1_1 : w3.cell? ⟨w.heap.size, 1, none⟩ = some (.int .u64 ul) := by first | (rw [ha]; with_reducible assumption) | (simp (maxDischargeDepth := 7) [go_sem, ha]; done) | (rw [ha]; assumption) | (simp (maxDischargeDepth := 7) [go_sem, ha, *]; done)
        try have hg3_1 : ∀ o, w3.frozen? ⟨w.heap.size, o, none⟩ = false := by intro o; first | (simp (maxDischargeDepth := 7) [go_sem, hb]; done) | (rw [hb]; simp (maxDischargeDepth := 7) [go_sem, *]; done)
        clear ha hb
        refine kuse (b := w2.heap.size) hk3 (by first | (simp; done) | (simp; omega) | omega) ?_
        intro ha hb
        have hz3_2 : w2.heap.size < w3.heap.size := by have := hk3.size; (try simp at this); omega
        have hn3_2 : ¬ w2.heap.size = w3.heap.size := by omega
        have hm3_2 : ¬ w3.heap.size = w2.heap.size := by omega
        have hf3_2_0 : w3.cell? ⟨w2.heap.size, 0, none⟩ = some (.int .i64 ph) := by first | (rw [ha]; with_reducible assumption) | (simp (maxDischargeDepth := 7) [go_sem, ha]; done) | (rw [ha]; assumption) | (simp (maxDischargeDepth := 7) [go_sem, ha, *]; done)
        have hf3_2_1 : w3.cell? ⟨w2.heap.size, 1, none⟩ = some (.int .u64 pl) := by first | (rw [ha]; with_reducible assumption) | (simp (maxDischargeDepth := 7) [go_sem, ha]; done) | (rw [ha]; assumption) | (simp (maxDischargeDepth := 7) [go_sem, ha, *]; done)
        try have hg3_2 : ∀ o, w3.frozen? ⟨w2.heap.size, o, none⟩ = false := by intro o; first | (simp (maxDischargeDepth := 7) [go_sem, hb]; done) | (rw [hb]; simp (maxDischargeDepth := 7) [go_sem, *]; done)
        clear ha hb
        try clear hf2_0_0
        try clear hf2_0_1
        try clear hf2_1_0
        try clear hf2_1_1
        try clear hg2_0
        try clear hg2_1
        try clear hz2_1
        go_wp2_with fail
        go_region_held3 (fun W => W.cell? ⟨b1_0, 0, none⟩ = some (.int .i64 qh) ∧ W.cell? ⟨b1_0, 1, none⟩ = some (.int .u64 ql) ∧ W.cell? ⟨w.heap.size, 0, none⟩ = some (.int .i64 uh) ∧ W.cell? ⟨w.heap.size, 1, none⟩ = some (.int .u64 ul) ∧ W.cell? ⟨w2.heap.size, 0, none⟩ = some (.int .i64 ph) ∧ W.cell? ⟨w2.heap.size, 1, none⟩ = some (.int .u64 pl) ∧ W.cell? ⟨w3.heap.size, 0, none⟩ = some (.int .i64 rh) ∧ W.cell? ⟨w3.heap.size, 1, none⟩ = some (.int .u64 rl)) (first | (go_keep; done) | (simp (maxDischargeDepth := 9) [*, World.cell?_alloc_some, World.cell?_setCell_far]; done) | (simp (maxDischargeDepth := 9) [go_sem, *]; done)) (first | (go_at_call 25; (first | with_reducible refine (Hsg.out _).mono ?_); rintro e w' ⟨rfl, hk⟩; have hz := hk.size; (try (refine kuse (b := b1_0) hk (by first | (simp; done) | (simp; omega) | omega) ?_; intro hq0 hg0; have hy0 : b1_0 < w'.heap.size := (by (try simp at hz); omega); have hn0 : ¬ b1_0 = w'.heap.size := (by omega); have hm0 : ¬ b1_0 = w'.heap.size + 1 := (by omega); refine withF (p := w'.cell? ⟨b1_0, 0, none⟩ = some (.int .i64 qh)) (by first | (rw [hq0]; with_reducible assumption) | (simp (maxDischargeDepth := 7) [go_sem, hq0]; done) | (simp (maxDischargeDepth := 7) [go_sem, hq0, *]; done) | fail) ?_; intro ff00; refine withF (p := w'.cell? ⟨b1_0, 1, none⟩ = some (.int .u64 ql)) (by first | (rw [hq0]; with_reducible assumption) | (simp (maxDischargeDepth := 7) [go_sem, hq0]; done) | (simp (maxDischargeDepth := 7) [go_sem, hq0, *]; done) | fail) ?_; intro ff01)); (try (refine kuse (b := w.heap.size) hk (by first | (simp; done) | (simp; omega) | omega) ?_; intro hq1 hg1; have hy1 : w.heap.size < w'.heap.size := (by (try simp at hz); omega); have hn1 : ¬ w.heap.size = w'.heap.size := (by omega); have hm1 : ¬ w.heap.size = w'.heap.size + 1 := (by omega); refine withF (p := w'.cell? ⟨w.heap.size, 0, none⟩ = some (.int .i64 uh)) (by first | (rw [hq1]; with_reducible assumption) | (simp (maxDischargeDepth := 7) [go_sem, hq1]; done) | (simp (maxDischargeDepth := 7) [go_sem, hq1, *]; done) | fail) ?_; intro ff10; refine withF (p := w'.cell? ⟨w.heap.size, 1, none⟩ = some (.int .u64 ul)) (by first | (rw [hq1]; with_reducible assumption) | (simp (maxDischargeDepth := 7) [go_sem, hq1]; done) | (simp (maxDischargeDepth := 7) [go_sem, hq1, *]; done) | fail) ?_; intro ff11)); (try (refine kuse (b := w2.heap.size) hk (by first | (simp; done) | (simp; omega) | omega) ?_; intro hq2 hg2; have hy2 : w2.heap.size < w'.heap.size := (by (try simp at hz); omega); have hn2 : ¬ w2.heap.size = w'.heap.size := (by omega); have hm2 : ¬ w2.heap.size = w'.heap.size + 1 := (by omega); refine withF (p := w'.cell? ⟨w2.heap.size, 0, none⟩ = some (.int .i64 ph)) (by first | (rw [hq2]; with_reducible assumption) | (simp (maxDischargeDepth := 7) [go_sem, hq2]; done) | (simp (maxDischargeDepth := 7) [go_sem, hq2, *]; done) | fail) ?_; intro ff20; refine withF (p := w'.cell? ⟨w2.heap.size, 1, none⟩ = some (.int .u64 pl)) (by first | (rw [hq2]; with_reducible assumption) | (simp (maxDischargeDepth := 7) [go_sem, hq2]; done) | (simp (maxDischargeDepth := 7) [go_sem, hq2, *]; done) | fail) ?_; intro ff21)); (try (refine kuse (b := w3.heap.size) hk (by first | (simp; done) | (simp; omega) | omega) ?_; intro hq3 hg3; have hy3 : w3.heap.size < w'.heap.size := (by (try simp at hz); omega); have hn3 : ¬ w3.heap.size = w'.heap.size := (by omega); have hm3 : ¬ w3.heap.size = w'.heap.size + 1 := (by omega); refine withF (p := w'.cell? ⟨w3.heap.size, 0, none⟩ = some (.int .i64 rh)) (by first | (rw [hq3]; with_reducible assumption) | (simp (maxDischargeDepth := 7) [go_sem, hq3]; done) | (simp (maxDischargeDepth := 7) [go_sem, hq3, *]; done) | fail) ?_; intro ff30; refine withF (p := w'.cell? ⟨w3.heap.size, 1, none⟩ = some (.int .u64 rl)) (by first | (rw [hq3]; with_reducible assumption) | (simp (maxDischargeDepth := 7) [go_sem, hq3]; done) | (simp (maxDischargeDepth := 7) [go_sem, hq3, *]; done) | fail) ?_; intro ff31))) | (go_at_call 31; (first | with_reducible refine (Hoa.out _).mono ?_); rintro e w' ⟨rfl, hk⟩; have hz := hk.size; (try (refine kuse (b := b1_0) hk (by first | (simp; done) | (simp; omega) | omega) ?_; intro hq0 hg0; have hy0 : b1_0 < w'.heap.size := (by (try simp at hz); omega); have hn0 : ¬ b1_0 = w'.heap.size := (by omega); have hm0 : ¬ b1_0 = w'.heap.size + 1 := (by omega); refine withF (p := w'.cell? ⟨b1_0, 0, none⟩ = some (.int .i64 qh)) (by first | (rw [hq0]; with_reducible assumption) | (simp (maxDischargeDepth := 7) [go_sem, hq0]; done) | (simp (maxDischargeDepth := 7) [go_sem, hq0, *]; done) | fail) ?_; intro ff00; refine withF (p := w'.cell? ⟨b1_0, 1, none⟩ = some (.int .u64 ql)) (by first | (rw [hq0]; with_reducible assumption) | (simp (maxDischargeDepth := 7) [go_sem, hq0]; done) | (simp (maxDischargeDepth := 7) [go_sem, hq0, *]; done) | fail) ?_; intro ff01)); (try (refine kuse (b := w.heap.size) hk (by first | (simp; done) | (simp; omega) | omega) ?_; intro hq1 hg1; have hy1 : w.heap.size < w'.heap.size := (by (try simp at hz); omega); have hn1 : ¬ w.heap.size = w'.heap.size := (by omega); have hm1 : ¬ w.heap.size = w'.heap.size + 1 := (by omega); refine withF (p := w'.cell? ⟨w.heap.size, 0, none⟩ = some (.int .i64 uh)) (by first | (rw [hq1]; with_reducible assumption) | (simp (maxDischargeDepth := 7) [go_sem, hq1]; done) | (simp (maxDischargeDepth := 7) [go_sem, hq1, *]; done) | fail) ?_; intro ff10; refine withF (p := w'.cell? ⟨w.heap.size, 1, none⟩ = some (.int .u64 ul)) (by first | (rw [hq1]; with_reducible assumption) | (simp (maxDischargeDepth := 7) [go_sem, hq1]; done) | (simp (maxDischargeDepth := 7) [go_sem, hq1, *]; done) | fail) ?_; intro ff11)); (try (refine kuse (b := w2.heap.size) hk (by first | (simp; done) | (simp; omega) | omega) ?_; intro hq2 hg2; have hy2 : w2.heap.size < w'.heap.size := (by (try simp at hz); omega); have hn2 : ¬ w2.heap.size = w'.heap.size := (by omega); have hm2 : ¬ w2.heap.size = w'.heap.size + 1 := (by omega); refine withF (p := w'.cell? ⟨w2.heap.size, 0, none⟩ = some (.int .i64 ph)) (by first | (rw [hq2]; with_reducible assumption) | (simp (maxDischargeDepth := 7) [go_sem, hq2]; done) | (simp (maxDischargeDepth := 7) [go_sem, hq2, *]; done) | fail) ?_; intro ff20; refine withF (p := w'.cell? ⟨w2.heap.size, 1, none⟩ = some (.int .u64 pl)) (by first | (rw [hq2]; with_reducible assumption) | (simp (maxDischargeDepth := 7) [go_sem, hq2]; done) | (simp (maxDischargeDepth := 7) [go_sem, hq2, *]; done) | fail) ?_; intro ff21)); (try (refine kuse (b := w3.heap.size) hk (by first | (simp; done) | (simp; omega) | omega) ?_; intro hq3 hg3; have hy3 : w3.heap.size < w'.heap.size := (by (try simp at hz); omega); have hn3 : ¬ w3.heap.size = w'.heap.size := (by omega); have hm3 : ¬ w3.heap.size = w'.heap.size + 1 := (by omega); refine withF (p := w'.cell? ⟨w3.heap.size, 0, none⟩ = some (.int .i64 rh)) (by first | (rw [hq3]; with_reducible assumption) | (simp (maxDischargeDepth := 7) [go_sem, hq3]; done) | (simp (maxDischargeDepth := 7) [go_sem, hq3, *]; done) | fail) ?_; intro ff30; refine withF (p := w'.cell? ⟨w3.heap.size, 1, none⟩ = some (.int .u64 rl)) (by first | (rw [hq3]; with_reducible assumption) | (simp (maxDischargeDepth := 7) [go_sem, hq3]; done) | (simp (maxDischargeDepth := 7) [go_sem, hq3, *]; done) | fail) ?_; intro ff31))) | (go_at_call 23; (first | with_reducible refine (Hcm.out _).mono ?_); rintro e w' ⟨rfl, hk⟩; have hz := hk.size; (try (refine kuse (b := b1_0) hk (by first | (simp; done) | (simp; omega) | omega) ?_; intro hq0 hg0; have hy0 : b1_0 < w'.heap.size := (by (try simp at hz); omega); have hn0 : ¬ b1_0 = w'.heap.size := (by omega); have hm0 : ¬ b1_0 = w'.heap.size + 1 := (by omega); refine withF (p := w'.cell? ⟨b1_0, 0, none⟩ = some (.int .i64 qh)) (by first | (rw [hq0]; with_reducible assumption) | (simp (maxDischargeDepth := 7) [go_sem, hq0]; done) | (simp (maxDischargeDepth := 7) [go_sem, hq0, *]; done) | fail) ?_; intro ff00; refine withF (p := w'.cell? ⟨b1_0, 1, none⟩ = some (.int .u64 ql)) (by first | (rw [hq0]; with_reducible assumption) | (simp (maxDischargeDepth := 7) [go_sem, hq0]; done) | (simp (maxDischargeDepth := 7) [go_sem, hq0, *]; done) | fail) ?_; intro ff01)); (try (refine kuse (b := w.heap.size) hk (by first | (simp; done) | (simp; omega) | omega) ?_; intro hq1 hg1; have hy1 : w.heap.size < w'.heap.size := (by (try simp at hz); omega); have hn1 : ¬ w.heap.size = w'.heap.size := (by omega); have hm1 : ¬ w.heap.size = w'.heap.size + 1 := (by omega); refine withF (p := w'.cell? ⟨w.heap.size, 0, none⟩ = some (.int .i64 uh)) (by first | (rw [hq1]; with_reducible assumption) | (simp (maxDischargeDepth := 7) [go_sem, hq1]; done) | (simp (maxDischargeDepth := 7) [go_sem, hq1, *]; done) | fail) ?_; intro ff10; refine withF (p := w'.cell? ⟨w.heap.size, 1, none⟩ = some (.int .u64 ul)) (by first | (rw [hq1]; with_reducible assumption) | (simp (maxDischargeDepth := 7) [go_sem, hq1]; done) | (simp (maxDischargeDepth := 7) [go_sem, hq1, *]; done) | fail) ?_; intro ff11)); (try (refine kuse (b := w2.heap.size) hk (by first | (simp; done) | (simp; omega) | omega) ?_; intro hq2 hg2; have hy2 : w2.heap.size < w'.heap.size := (by (try simp at hz); omega); have hn2 : ¬ w2.heap.size = w'.heap.size := (by omega); have hm2 : ¬ w2.heap.size = w'.heap.size + 1 := (by omega); refine withF (p := w'.cell? ⟨w2.heap.size, 0, none⟩ = some (.int .i64 ph)) (by first | (rw [hq2]; with_reducible assumption) | (simp (maxDischargeDepth := 7) [go_sem, hq2]; done) | (simp (maxDischargeDepth := 7) [go_sem, hq2, *]; done) | fail) ?_; intro ff20; refine withF (p := w'.cell? ⟨w2.heap.size, 1, none⟩ = some (.int .u64 pl)) (by first | (rw [hq2]; with_reducible assumption) | (simp (maxDischargeDepth := 7) [go_sem, hq2]; done) | (simp (maxDischargeDepth := 7) [go_sem, hq2, *]; done) | fail) ?_; intro ff21)); (try (refine kuse (b := w3.heap.size) hk (by first | (simp; done) | (simp; omega) | omega) ?_; intro hq3 hg3; have hy3 : w3.heap.size < w'.heap.size := (by (try simp at hz); omega); have hn3 : ¬ w3.heap.size = w'.heap.size := (by omega); have hm3 : ¬ w3.heap.size = w'.heap.size + 1 := (by omega); refine withF (p := w'.cell? ⟨w3.heap.size, 0, none⟩ = some (.int .i64 rh)) (by first | (rw [hq3]; with_reducible assumption) | (simp (maxDischargeDepth := 7) [go_sem, hq3]; done) | (simp (maxDischargeDepth := 7) [go_sem, hq3, *]; done) | fail) ?_; intro ff30; refine withF (p := w'.cell? ⟨w3.heap.size, 1, none⟩ = some (.int .u64 rl)) (by first | (rw [hq3]; with_reducible assumption) | (simp (maxDischargeDepth := 7) [go_sem, hq3]; done) | (simp (maxDischargeDepth := 7) [go_sem, hq3, *]; done) | fail) ?_; intro ff31))))
        all_goals go_wp2_with fail
        all_goals go_ret
        all_goals exact ⟨rfl, (by repeat (first | with_reducible exact Kept.refl _ | with_reducible assumption | with_reducible refine Kept.setCell ?_ (by first | (simp; done) | (simp; omega) | omega) _ | with_reducible refine Kept.alloc ?_ _ | with_reducible refine Kept.drewN ?_ _ | with_reducible refine Kept.drew ?_ | with_reducible refine Kept.trans ?_ (by with_reducible assumption) | with_reducible refine Kept.dr ?_ (by with_reducible assumption)))⟩
theorem law_WideRemainder (uh ul a : Int) (uh0 : -9223372036854775808 ≤ uh) (uh1 : uh ≤ 9223372036854775807) (ul0 : 0 ≤ ul) (ul1 : ul ≤ 18446744073709551615) (a_0 : -9223372036854775808 ≤ a) (a_1 : a ≤ 9223372036854775807) (w : World) (hT : Hid (Tb w)) : Calls Tryd.prog 10 #[.agg #[.int .i64 uh, .int .u64 ul], .int .i64 a] w fun e w' => e = .returned (.bool true) ∧ Kept w w' := by
  have h := lawi_WideRemainder (uh * 18446744073709551616 + ul) a (by omega) (by omega) a_0 a_1 w hT
  rw [wh_of uh ul ul0 ul1, wl_of uh ul ul0 ul1] at h
  exact h
end Go.Proofs.YtgbhcbmokoolnaaDoor
