/-
  Own contracts: the law LsqSolves.
-/
import Derived.Test.YtoegcfdlecbcjaaLsqi
import Derived.Test.YtoegcfdlecbcjaaLsqj
import Derived.Test.YtoegcfdlecbcjaaLsqe
import Derived.Test.YtoegcfdlecbcjaaLsqq
import Derived.WalkKit
import Derived.ProofKit
import Derived.OpenShut
import Derived.WalkLawsBesides
import Derived.WalkSpells
import Derived.Lib.Hide
import Derived.Deep.DeepCutAuto
import Derived.Deep.CutBlock
import Derived.Deep.QuietTactic
import Derived.BigQuiet
import Derived.Handy
import Derived.StillTailTactics
import Derived.IntWalk
import Derived.LoopN
import Derived.Deep.RegionHeld3
namespace Go.Proofs.Ytoegcfdlecbcjaa
open Go.ChangeShapes Go.WideShapes Go.ChangeAt Go.RowKit
set_option linter.unusedVariables false
set_option linter.unusedSimpArgs false
theorem eqS_yes (a b c d e g h : Int) (w : World) : (Op.equalIn 10000 38 (.agg #[.int .i64 a, .int .u64 b, .int .i64 c, .int .u64 d, .int .i64 e, .int .i64 g, .int .i64 h]) (.agg #[.int .i64 a, .int .u64 b, .int .i64 c, .int .u64 d, .int .i64 e, .int .i64 g, .int .i64 h])).run Try.prog w = .ok true w := by
  go_simp
theorem eqN_yes (a b c d e : Int) (w : World) : (Op.equalIn 10000 26 (.agg #[.int .i64 a, .int .i64 b, .int .i64 c, .int .i64 d, .int .i64 e]) (.agg #[.int .i64 a, .int .i64 b, .int .i64 c, .int .i64 d, .int .i64 e])).run Try.prog w = .ok true w := by
  go_simp
set_option maxHeartbeats 8000000 in
set_option maxRecDepth 100000 in
theorem lawi_LsqSolves (p : Option Addr) (n c b o : Nat) (M : Ms) (m : Nat)  (hl : n ≤ c) (hc : c ≤ maxLen) (hm2 : m ≤ 20) (hmc : (n ≤ 20 ∧ m = n) ∨ (20 < n ∧ m = 20))  (w : World) (hS : SlM w p m b o M) : Calls Try.prog 4 #[.slice p n c] w fun e w' => e = .returned (.bool true) ∧ Kept w w' := by
  by_cases h1 : M.chk m = 0
  · by_cases h2 : M.det m = 0
    · have HS := Lib.hid hS
      clear hS
      have HC := Lib.hid (solve_rank p m c b o M (by unfold maxLen; omega) h1 h2)
      have HR := Lib.hid (rsolve_rank p m c b o M (by unfold maxLen; omega) h1 h2)
      have eqz := fun w => eqS_yes 0 0 0 0 0 0 0 w
      go_enter Try.func4, Try.ntmps4
      go_wp2_with fail
      with_reducible refine (awake_w _).mono ?_
      rintro e w1 ⟨rfl, hk1⟩
      go_wp2_with fail
      with_reducible refine (cut_w p n c m hl hc hmc _).mono ?_
      rintro e w' ⟨rfl, rfl⟩
      go_wp2_with fail
      refine (HC.out _ (HS.out.kept (by repeat (first | with_reducible exact Kept.refl _ | with_reducible assumption | with_reducible refine Kept.setCell ?_ (by first | (simp; done) | (simp; omega) | omega) _ | with_reducible refine Kept.alloc ?_ _ | with_reducible refine Kept.drewN ?_ _ | with_reducible refine Kept.drew ?_ | with_reducible refine Kept.trans ?_ (by with_reducible assumption) | with_reducible refine Kept.dr ?_ (by with_reducible assumption))))).mono ?_
      rintro e w3 ⟨rfl, hk3⟩
      go_wp2_with fail
      refine (HR.out _ (HS.out.kept (by repeat (first | with_reducible exact Kept.refl _ | with_reducible assumption | with_reducible refine Kept.setCell ?_ (by first | (simp; done) | (simp; omega) | omega) _ | with_reducible refine Kept.alloc ?_ _ | with_reducible refine Kept.drewN ?_ _ | with_reducible refine Kept.drew ?_ | with_reducible refine Kept.trans ?_ (by with_reducible assumption) | with_reducible refine Kept.dr ?_ (by with_reducible assumption))))).mono ?_
      rintro e w4 ⟨rfl, hk4⟩
      refine kuz (b := w3.heap.size) hk4 (by first | (simp; done) | (simp; omega) | omega) ?_
      intro ha hb hz4_0 hn4_0 hm4_0
      have hf4_0_0 : w4.cell? ⟨w3.heap.size, 0, none⟩ = some (.int .i64 0) := (ha _).trans (by first | with_reducible assumption | (simp (maxDischargeDepth := 7) [go_sem]; done) | (simp (maxDischargeDepth := 7) [go_sem, *]; done))
      have hf4_0_1 : w4.cell? ⟨w3.heap.size, 1, none⟩ = some (.int .u64 0) := (ha _).trans (by first | with_reducible assumption | (simp (maxDischargeDepth := 7) [go_sem]; done) | (simp (maxDischargeDepth := 7) [go_sem, *]; done))
      have hf4_0_2 : w4.cell? ⟨w3.heap.size, 2, none⟩ = some (.int .i64 0) := (ha _).trans (by first | with_reducible assumption | (simp (maxDischargeDepth := 7) [go_sem]; done) | (simp (maxDischargeDepth := 7) [go_sem, *]; done))
      have hf4_0_3 : w4.cell? ⟨w3.heap.size, 3, none⟩ = some (.int .u64 0) := (ha _).trans (by first | with_reducible assumption | (simp (maxDischargeDepth := 7) [go_sem]; done) | (simp (maxDischargeDepth := 7) [go_sem, *]; done))
      have hf4_0_4 : w4.cell? ⟨w3.heap.size, 4, none⟩ = some (.int .i64 0) := (ha _).trans (by first | with_reducible assumption | (simp (maxDischargeDepth := 7) [go_sem]; done) | (simp (maxDischargeDepth := 7) [go_sem, *]; done))
      have hf4_0_5 : w4.cell? ⟨w3.heap.size, 5, none⟩ = some (.int .i64 0) := (ha _).trans (by first | with_reducible assumption | (simp (maxDischargeDepth := 7) [go_sem]; done) | (simp (maxDischargeDepth := 7) [go_sem, *]; done))
      have hf4_0_6 : w4.cell? ⟨w3.heap.size, 6, none⟩ = some (.int .i64 0) := (ha _).trans (by first | with_reducible assumption | (simp (maxDischargeDepth := 7) [go_sem]; done) | (simp (maxDischargeDepth := 7) [go_sem, *]; done))
      try have hg4_0 : ∀ o, w4.frozen? ⟨w3.heap.size, o, none⟩ = false := by intro o; rw [hb]; first | (simp (maxDischargeDepth := 7) [go_sem]; done) | (simp (maxDischargeDepth := 7) [go_sem, *]; done)
      clear ha hb
      go_wp2_with fail
      all_goals first | (go_ret; exact ⟨rfl, (by repeat (first | with_reducible exact Kept.refl _ | with_reducible assumption | with_reducible refine Kept.setCell ?_ (by first | (simp; done) | (simp; omega) | omega) _ | with_reducible refine Kept.alloc ?_ _ | with_reducible refine Kept.drewN ?_ _ | with_reducible refine Kept.drew ?_ | with_reducible refine Kept.trans ?_ (by with_reducible assumption) | with_reducible refine Kept.dr ?_ (by with_reducible assumption)))⟩) | (go_ret; refine ⟨?_, (by repeat (first | with_reducible exact Kept.refl _ | with_reducible assumption | with_reducible refine Kept.setCell ?_ (by first | (simp; done) | (simp; omega) | omega) _ | with_reducible refine Kept.alloc ?_ _ | with_reducible refine Kept.drewN ?_ _ | with_reducible refine Kept.drew ?_ | with_reducible refine Kept.trans ?_ (by with_reducible assumption) | with_reducible refine Kept.dr ?_ (by with_reducible assumption)))⟩; refine retb ?_; simp; done)
    · cases h3 : pok (M.px m) (M.py m)
      · have HS := Lib.hid hS
        clear hS
        have HC := Lib.hid (solve_rng p m c b o M (by unfold maxLen; omega) h1 h2 h3)
        have HR := Lib.hid (rsolve_rng p m c b o M (by unfold maxLen; omega) h1 h2 h3)
        have eqz := fun w => eqS_yes 0 0 0 0 0 0 0 w
        go_enter Try.func4, Try.ntmps4
        go_wp2_with fail
        with_reducible refine (awake_w _).mono ?_
        rintro e w1 ⟨rfl, hk1⟩
        go_wp2_with fail
        with_reducible refine (cut_w p n c m hl hc hmc _).mono ?_
        rintro e w' ⟨rfl, rfl⟩
        go_wp2_with fail
        refine (HC.out _ (HS.out.kept (by repeat (first | with_reducible exact Kept.refl _ | with_reducible assumption | with_reducible refine Kept.setCell ?_ (by first | (simp; done) | (simp; omega) | omega) _ | with_reducible refine Kept.alloc ?_ _ | with_reducible refine Kept.drewN ?_ _ | with_reducible refine Kept.drew ?_ | with_reducible refine Kept.trans ?_ (by with_reducible assumption) | with_reducible refine Kept.dr ?_ (by with_reducible assumption))))).mono ?_
        rintro e w3 ⟨rfl, hk3⟩
        go_wp2_with fail
        refine (HR.out _ (HS.out.kept (by repeat (first | with_reducible exact Kept.refl _ | with_reducible assumption | with_reducible refine Kept.setCell ?_ (by first | (simp; done) | (simp; omega) | omega) _ | with_reducible refine Kept.alloc ?_ _ | with_reducible refine Kept.drewN ?_ _ | with_reducible refine Kept.drew ?_ | with_reducible refine Kept.trans ?_ (by with_reducible assumption) | with_reducible refine Kept.dr ?_ (by with_reducible assumption))))).mono ?_
        rintro e w4 ⟨rfl, hk4⟩
        refine kuz (b := w3.heap.size) hk4 (by first | (simp; done) | (simp; omega) | omega) ?_
        intro ha hb hz4_0 hn4_0 hm4_0
        have hf4_0_0 : w4.cell? ⟨w3.heap.size, 0, none⟩ = some (.int .i64 0) := (ha _).trans (by first | with_reducible assumption | (simp (maxDischargeDepth := 7) [go_sem]; done) | (simp (maxDischargeDepth := 7) [go_sem, *]; done))
        have hf4_0_1 : w4.cell? ⟨w3.heap.size, 1, none⟩ = some (.int .u64 0) := (ha _).trans (by first | with_reducible assumption | (simp (maxDischargeDepth := 7) [go_sem]; done) | (simp (maxDischargeDepth := 7) [go_sem, *]; done))
        have hf4_0_2 : w4.cell? ⟨w3.heap.size, 2, none⟩ = some (.int .i64 0) := (ha _).trans (by first | with_reducible assumption | (simp (maxDischargeDepth := 7) [go_sem]; done) | (simp (maxDischargeDepth := 7) [go_sem, *]; done))
        have hf4_0_3 : w4.cell? ⟨w3.heap.size, 3, none⟩ = some (.int .u64 0) := (ha _).trans (by first | with_reducible assumption | (simp (maxDischargeDepth := 7) [go_sem]; done) | (simp (maxDischargeDepth := 7) [go_sem, *]; done))
        have hf4_0_4 : w4.cell? ⟨w3.heap.size, 4, none⟩ = some (.int .i64 0) := (ha _).trans (by first | with_reducible assumption | (simp (maxDischargeDepth := 7) [go_sem]; done) | (simp (maxDischargeDepth := 7) [go_sem, *]; done))
        have hf4_0_5 : w4.cell? ⟨w3.heap.size, 5, none⟩ = some (.int .i64 0) := (ha _).trans (by first | with_reducible assumption | (simp (maxDischargeDepth := 7) [go_sem]; done) | (simp (maxDischargeDepth := 7) [go_sem, *]; done))
        have hf4_0_6 : w4.cell? ⟨w3.heap.size, 6, none⟩ = some (.int .i64 0) := (ha _).trans (by first | with_reducible assumption | (simp (maxDischargeDepth := 7) [go_sem]; done) | (simp (maxDischargeDepth := 7) [go_sem, *]; done))
        try have hg4_0 : ∀ o, w4.frozen? ⟨w3.heap.size, o, none⟩ = false := by intro o; rw [hb]; first | (simp (maxDischargeDepth := 7) [go_sem]; done) | (simp (maxDischargeDepth := 7) [go_sem, *]; done)
        clear ha hb
        go_wp2_with fail
        all_goals first | (go_ret; exact ⟨rfl, (by repeat (first | with_reducible exact Kept.refl _ | with_reducible assumption | with_reducible refine Kept.setCell ?_ (by first | (simp; done) | (simp; omega) | omega) _ | with_reducible refine Kept.alloc ?_ _ | with_reducible refine Kept.drewN ?_ _ | with_reducible refine Kept.drew ?_ | with_reducible refine Kept.trans ?_ (by with_reducible assumption) | with_reducible refine Kept.dr ?_ (by with_reducible assumption)))⟩) | (go_ret; refine ⟨?_, (by repeat (first | with_reducible exact Kept.refl _ | with_reducible assumption | with_reducible refine Kept.setCell ?_ (by first | (simp; done) | (simp; omega) | omega) _ | with_reducible refine Kept.alloc ?_ _ | with_reducible refine Kept.drewN ?_ _ | with_reducible refine Kept.drew ?_ | with_reducible refine Kept.trans ?_ (by with_reducible assumption) | with_reducible refine Kept.dr ?_ (by with_reducible assumption)))⟩; refine retb ?_; simp; done)
      · have HS := Lib.hid hS
        clear hS
        have HC := Lib.hid (solve_ok p m c b o M (by unfold maxLen; omega) h1 h2 h3)
        have HR := Lib.hid (rsolve_ok p m c b o M (by unfold maxLen; omega) h1 h2 h3)
        clear h1 h2 h3
        generalize wh (M.X m) = A at *; generalize wl (M.X m) = e1 at *; generalize wh (M.Y m) = B at *; generalize wl (M.Y m) = e2 at *; generalize M.det m = D at *; generalize M.px m = px at *; generalize M.py m = py at *
        have eqz := fun w => eqS_yes A e1 B e2 D px py w
        go_enter Try.func4, Try.ntmps4
        go_wp2_with fail
        with_reducible refine (awake_w _).mono ?_
        rintro e w1 ⟨rfl, hk1⟩
        go_wp2_with fail
        with_reducible refine (cut_w p n c m hl hc hmc _).mono ?_
        rintro e w' ⟨rfl, rfl⟩
        go_wp2_with fail
        refine (HC.out _ (HS.out.kept (by repeat (first | with_reducible exact Kept.refl _ | with_reducible assumption | with_reducible refine Kept.setCell ?_ (by first | (simp; done) | (simp; omega) | omega) _ | with_reducible refine Kept.alloc ?_ _ | with_reducible refine Kept.drewN ?_ _ | with_reducible refine Kept.drew ?_ | with_reducible refine Kept.trans ?_ (by with_reducible assumption) | with_reducible refine Kept.dr ?_ (by with_reducible assumption))))).mono ?_
        rintro e w3 ⟨rfl, hk3⟩
        go_wp2_with fail
        refine (HR.out _ (HS.out.kept (by repeat (first | with_reducible exact Kept.refl _ | with_reducible assumption | with_reducible refine Kept.setCell ?_ (by first | (simp; done) | (simp; omega) | omega) _ | with_reducible refine Kept.alloc ?_ _ | with_reducible refine Kept.drewN ?_ _ | with_reducible refine Kept.drew ?_ | with_reducible refine Kept.trans ?_ (by with_reducible assumption) | with_reducible refine Kept.dr ?_ (by with_reducible assumption))))).mono ?_
        rintro e w4 ⟨rfl, hk4⟩
        refine kuz (b := w3.heap.size) hk4 (by first | (simp; done) | (simp; omega) | omega) ?_
        intro ha hb hz4_0 hn4_0 hm4_0
        have hf4_0_0 : w4.cell? ⟨w3.heap.size, 0, none⟩ = some (.int .i64 A) := (ha _).trans (by first | with_reducible assumption | (simp (maxDischargeDepth := 7) [go_sem]; done) | (simp (maxDischargeDepth := 7) [go_sem, *]; done))
        have hf4_0_1 : w4.cell? ⟨w3.heap.size, 1, none⟩ = some (.int .u64 e1) := (ha _).trans (by first | with_reducible assumption | (simp (maxDischargeDepth := 7) [go_sem]; done) | (simp (maxDischargeDepth := 7) [go_sem, *]; done))
        have hf4_0_2 : w4.cell? ⟨w3.heap.size, 2, none⟩ = some (.int .i64 B) := (ha _).trans (by first | with_reducible assumption | (simp (maxDischargeDepth := 7) [go_sem]; done) | (simp (maxDischargeDepth := 7) [go_sem, *]; done))
        have hf4_0_3 : w4.cell? ⟨w3.heap.size, 3, none⟩ = some (.int .u64 e2) := (ha _).trans (by first | with_reducible assumption | (simp (maxDischargeDepth := 7) [go_sem]; done) | (simp (maxDischargeDepth := 7) [go_sem, *]; done))
        have hf4_0_4 : w4.cell? ⟨w3.heap.size, 4, none⟩ = some (.int .i64 D) := (ha _).trans (by first | with_reducible assumption | (simp (maxDischargeDepth := 7) [go_sem]; done) | (simp (maxDischargeDepth := 7) [go_sem, *]; done))
        have hf4_0_5 : w4.cell? ⟨w3.heap.size, 5, none⟩ = some (.int .i64 px) := (ha _).trans (by first | with_reducible assumption | (simp (maxDischargeDepth := 7) [go_sem]; done) | (simp (maxDischargeDepth := 7) [go_sem, *]; done))
        have hf4_0_6 : w4.cell? ⟨w3.heap.size, 6, none⟩ = some (.int .i64 py) := (ha _).trans (by first | with_reducible assumption | (simp (maxDischargeDepth := 7) [go_sem]; done) | (simp (maxDischargeDepth := 7) [go_sem, *]; done))
        try have hg4_0 : ∀ o, w4.frozen? ⟨w3.heap.size, o, none⟩ = false := by intro o; rw [hb]; first | (simp (maxDischargeDepth := 7) [go_sem]; done) | (simp (maxDischargeDepth := 7) [go_sem, *]; done)
        clear ha hb
        go_wp2_with fail
        all_goals first | (go_ret; exact ⟨rfl, (by repeat (first | with_reducible exact Kept.refl _ | with_reducible assumption | with_reducible refine Kept.setCell ?_ (by first | (simp; done) | (simp; omega) | omega) _ | with_reducible refine Kept.alloc ?_ _ | with_reducible refine Kept.drewN ?_ _ | with_reducible refine Kept.drew ?_ | with_reducible refine Kept.trans ?_ (by with_reducible assumption) | with_reducible refine Kept.dr ?_ (by with_reducible assumption)))⟩) | (go_ret; refine ⟨?_, (by repeat (first | with_reducible exact Kept.refl _ | with_reducible assumption | with_reducible refine Kept.setCell ?_ (by first | (simp; done) | (simp; omega) | omega) _ | with_reducible refine Kept.alloc ?_ _ | with_reducible refine Kept.drewN ?_ _ | with_reducible refine Kept.drew ?_ | with_reducible refine Kept.trans ?_ (by with_reducible assumption) | with_reducible refine Kept.dr ?_ (by with_reducible assumption)))⟩; refine retb ?_; simp; done)
  · have HS := Lib.hid hS
    clear hS
    have HC := Lib.hid (solve_no p m c b o M (by unfold maxLen; omega) h1)
    have HR := Lib.hid (rsolve_no p m c b o M (by unfold maxLen; omega) h1)
    obtain ⟨E, hE⟩ : ∃ E, M.chk m = E := ⟨_, rfl⟩
    rw [hE] at HC HR
    clear hE h1
    have eqz := fun w => eqS_yes 0 0 0 0 0 0 0 w
    go_enter Try.func4, Try.ntmps4
    go_wp2_with fail
    with_reducible refine (awake_w _).mono ?_
    rintro e w1 ⟨rfl, hk1⟩
    go_wp2_with fail
    with_reducible refine (cut_w p n c m hl hc hmc _).mono ?_
    rintro e w' ⟨rfl, rfl⟩
    go_wp2_with fail
    refine (HC.out _ (HS.out.kept (by repeat (first | with_reducible exact Kept.refl _ | with_reducible assumption | with_reducible refine Kept.setCell ?_ (by first | (simp; done) | (simp; omega) | omega) _ | with_reducible refine Kept.alloc ?_ _ | with_reducible refine Kept.drewN ?_ _ | with_reducible refine Kept.drew ?_ | with_reducible refine Kept.trans ?_ (by with_reducible assumption) | with_reducible refine Kept.dr ?_ (by with_reducible assumption))))).mono ?_
    rintro e w3 ⟨rfl, hk3⟩
    go_wp2_with fail
    refine (HR.out _ (HS.out.kept (by repeat (first | with_reducible exact Kept.refl _ | with_reducible assumption | with_reducible refine Kept.setCell ?_ (by first | (simp; done) | (simp; omega) | omega) _ | with_reducible refine Kept.alloc ?_ _ | with_reducible refine Kept.drewN ?_ _ | with_reducible refine Kept.drew ?_ | with_reducible refine Kept.trans ?_ (by with_reducible assumption) | with_reducible refine Kept.dr ?_ (by with_reducible assumption))))).mono ?_
    rintro e w4 ⟨rfl, hk4⟩
    refine kuz (b := w3.heap.size) hk4 (by first | (simp; done) | (simp; omega) | omega) ?_
    intro ha hb hz4_0 hn4_0 hm4_0
    have hf4_0_0 : w4.cell? ⟨w3.heap.size, 0, none⟩ = some (.int .i64 0) := (ha _).trans (by first | with_reducible assumption | (simp (maxDischargeDepth := 7) [go_sem]; done) | (simp (maxDischargeDepth := 7) [go_sem, *]; done))
    have hf4_0_1 : w4.cell? ⟨w3.heap.size, 1, none⟩ = some (.int .u64 0) := (ha _).trans (by first | with_reducible assumption | (simp (maxDischargeDepth := 7) [go_sem]; done) | (simp (maxDischargeDepth := 7) [go_sem, *]; done))
    have hf4_0_2 : w4.cell? ⟨w3.heap.size, 2, none⟩ = some (.int .i64 0) := (ha _).trans (by first | with_reducible assumption | (simp (maxDischargeDepth := 7) [go_sem]; done) | (simp (maxDischargeDepth := 7) [go_sem, *]; done))
    have hf4_0_3 : w4.cell? ⟨w3.heap.size, 3, none⟩ = some (.int .u64 0) := (ha _).trans (by first | with_reducible assumption | (simp (maxDischargeDepth := 7) [go_sem]; done) | (simp (maxDischargeDepth := 7) [go_sem, *]; done))
    have hf4_0_4 : w4.cell? ⟨w3.heap.size, 4, none⟩ = some (.int .i64 0) := (ha _).trans (by first | with_reducible assumption | (simp (maxDischargeDepth := 7) [go_sem]; done) | (simp (maxDischargeDepth := 7) [go_sem, *]; done))
    have hf4_0_5 : w4.cell? ⟨w3.heap.size, 5, none⟩ = some (.int .i64 0) := (ha _).trans (by first | with_reducible assumption | (simp (maxDischargeDepth := 7) [go_sem]; done) | (simp (maxDischargeDepth := 7) [go_sem, *]; done))
    have hf4_0_6 : w4.cell? ⟨w3.heap.size, 6, none⟩ = some (.int .i64 0) := (ha _).trans (by first | with_reducible assumption | (simp (maxDischargeDepth := 7) [go_sem]; done) | (simp (maxDischargeDepth := 7) [go_sem, *]; done))
    try have hg4_0 : ∀ o, w4.frozen? ⟨w3.heap.size, o, none⟩ = false := by intro o; rw [hb]; first | (simp (maxDischargeDepth := 7) [go_sem]; done) | (simp (maxDischargeDepth := 7) [go_sem, *]; done)
    clear ha hb
    go_wp2_with fail
    all_goals first | (go_ret; exact ⟨rfl, (by repeat (first | with_reducible exact Kept.refl _ | with_reducible assumption | with_reducible refine Kept.setCell ?_ (by first | (simp; done) | (simp; omega) | omega) _ | with_reducible refine Kept.alloc ?_ _ | with_reducible refine Kept.drewN ?_ _ | with_reducible refine Kept.drew ?_ | with_reducible refine Kept.trans ?_ (by with_reducible assumption) | with_reducible refine Kept.dr ?_ (by with_reducible assumption)))⟩) | (go_ret; refine ⟨?_, (by repeat (first | with_reducible exact Kept.refl _ | with_reducible assumption | with_reducible refine Kept.setCell ?_ (by first | (simp; done) | (simp; omega) | omega) _ | with_reducible refine Kept.alloc ?_ _ | with_reducible refine Kept.drewN ?_ _ | with_reducible refine Kept.drew ?_ | with_reducible refine Kept.trans ?_ (by with_reducible assumption) | with_reducible refine Kept.dr ?_ (by with_reducible assumption)))⟩; refine retb ?_; simp; done)
theorem law_LsqSolves (p0 : Option Addr) (n0 c0 b0 o0 : Nat) (F0_0 F0_1 F0_2 F0_3 F0_4 F0_5 : Nat → Int)  (hl0 : n0 ≤ c0) (hm0 : c0 ≤ maxLen) (fb0_0 : ∀ i, i < n0 → -9223372036854775808 ≤ F0_0 i ∧ F0_0 i ≤ 9223372036854775807) (fb0_1 : ∀ i, i < n0 → -9223372036854775808 ≤ F0_1 i ∧ F0_1 i ≤ 9223372036854775807) (fb0_2 : ∀ i, i < n0 → -9223372036854775808 ≤ F0_2 i ∧ F0_2 i ≤ 9223372036854775807) (fb0_3 : ∀ i, i < n0 → -9223372036854775808 ≤ F0_3 i ∧ F0_3 i ≤ 9223372036854775807) (fb0_4 : ∀ i, i < n0 → -9223372036854775808 ≤ F0_4 i ∧ F0_4 i ≤ 9223372036854775807) (fb0_5 : ∀ i, i < n0 → -9223372036854775808 ≤ F0_5 i ∧ F0_5 i ≤ 9223372036854775807)  (w : World) (hp0 : 0 < n0 → p0 = some ⟨b0, o0, none⟩ ∧ b0 < w.heap.size) (hc0_0 : ∀ i, i < n0 → w.cell? ⟨b0, o0 + (i * 6 + 0), none⟩ = some (.int .i64 (F0_0 i))) (hc0_1 : ∀ i, i < n0 → w.cell? ⟨b0, o0 + (i * 6 + 1), none⟩ = some (.int .i64 (F0_1 i))) (hc0_2 : ∀ i, i < n0 → w.cell? ⟨b0, o0 + (i * 6 + 2), none⟩ = some (.int .i64 (F0_2 i))) (hc0_3 : ∀ i, i < n0 → w.cell? ⟨b0, o0 + (i * 6 + 3), none⟩ = some (.int .i64 (F0_3 i))) (hc0_4 : ∀ i, i < n0 → w.cell? ⟨b0, o0 + (i * 6 + 4), none⟩ = some (.int .i64 (F0_4 i))) (hc0_5 : ∀ i, i < n0 → w.cell? ⟨b0, o0 + (i * 6 + 5), none⟩ = some (.int .i64 (F0_5 i))) :
    Calls Try.prog 4 #[.slice p0 n0 c0] w fun en w' => en = .returned (.bool true) ∧ Kept w w' := by
  obtain ⟨m, hm, hm2, hmc⟩ := cutm n0
  exact lawi_LsqSolves p0 n0 c0 b0 o0 ⟨F0_0, F0_1, F0_2, F0_3, F0_4, F0_5⟩ m  hl0 hm0 hm2 hmc w ((sl_of p0 n0 c0 b0 o0 F0_0 F0_1 F0_2 F0_3 F0_4 F0_5 w hp0 hc0_0 hc0_1 hc0_2 hc0_3 hc0_4 hc0_5).le hm)
end Go.Proofs.Ytoegcfdlecbcjaa
