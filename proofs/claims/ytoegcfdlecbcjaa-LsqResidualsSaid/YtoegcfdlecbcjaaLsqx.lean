/-
  Own contracts: the law LsqResiduals.
-/
import Derived.Test.YtoegcfdlecbcjaaLsqi
import Derived.Test.YtoegcfdlecbcjaaLsqj
import Derived.Test.YtoegcfdlecbcjaaLsqv
import Derived.Test.YtoegcfdlecbcjaaLsqw
import Derived.WalkKit
import Derived.ProofKit
import Derived.OpenShut
import Derived.WalkLawsBesides
import Derived.WalkSpells
import Derived.Lib.Hide
import Derived.Deep.DeepCutAuto
import Derived.Deep.CutBlock
import Derived.Deep.QuietTactic
import Derived.BigQuiet
import Derived.Handy
import Derived.StillTailTactics
import Derived.IntWalk
import Derived.LoopN
import Derived.Deep.RegionHeld3
namespace Go.Proofs.Ytoegcfdlecbcjaa
open Go.ChangeShapes Go.WideShapes Go.ChangeAt Go.RowKit
set_option linter.unusedVariables false
set_option linter.unusedSimpArgs false
set_option maxHeartbeats 8000000 in
set_option maxRecDepth 100000 in
theorem lawi_LsqResiduals (p : Option Addr) (n c b o : Nat) (M : Ms) (m : Nat) (x y : Int) (hl : n ≤ c) (hc : c ≤ maxLen) (hm2 : m ≤ 20) (hmc : (n ≤ 20 ∧ m = n) ∨ (20 < n ∧ m = 20))  (w : World) (hS : SlM w p m b o M) : Calls Try.prog 5 #[.slice p n c, .agg #[.int .i64 x, .int .i64 y]] w fun e w' => e = .returned (.bool true) ∧ Kept w w' := by
  by_cases h1 : M.chk m = 0
  · cases h4 : pok x y
    · have HS := Lib.hid hS
      clear hS
      have HC := Lib.hid (resid_bad p m c b o M x y (by unfold maxLen; omega) h1 h4)
      have HR := Lib.hid (rresid_bad p m c b o M x y (by unfold maxLen; omega) h1 h4)
      clear h1 h4
      have eqz : ∀ w, (Op.equalIn 10000 34 (.agg #[.int .i64 0, .int .u64 0]) (.agg #[.int .i64 0, .int .u64 0])).run Try.prog w = .ok true w := fun w => by rw [eqW]; simp
      go_enter Try.func5, Try.ntmps5
      go_wp2_with fail
      with_reducible refine (awake_w _).mono ?_
      rintro e w1 ⟨rfl, hk1⟩
      refine kuz (b := w.heap.size) hk1 (by first | (simp; done) | (simp; omega) | omega) ?_
      intro ha hb hz1_0 hn1_0 hm1_0
      have hf1_0_0 : w1.cell? ⟨w.heap.size, 0, none⟩ = some (.int .i64 x) := (ha _).trans (by first | with_reducible assumption | (simp (maxDischargeDepth := 7) [go_sem]; done) | (simp (maxDischargeDepth := 7) [go_sem, *]; done))
      have hf1_0_1 : w1.cell? ⟨w.heap.size, 1, none⟩ = some (.int .i64 y) := (ha _).trans (by first | with_reducible assumption | (simp (maxDischargeDepth := 7) [go_sem]; done) | (simp (maxDischargeDepth := 7) [go_sem, *]; done))
      try have hg1_0 : ∀ o, w1.frozen? ⟨w.heap.size, o, none⟩ = false := by intro o; rw [hb]; first | (simp (maxDischargeDepth := 7) [go_sem]; done) | (simp (maxDischargeDepth := 7) [go_sem, *]; done)
      clear ha hb
      go_wp2_with fail
      with_reducible refine (cut_w p n c m hl hc hmc _).mono ?_
      rintro e w' ⟨rfl, rfl⟩
      go_wp2_with fail
      refine (HC.out _ (HS.out.kept (by repeat (first | with_reducible exact Kept.refl _ | with_reducible assumption | with_reducible refine Kept.setCell ?_ (by first | (simp; done) | (simp; omega) | omega) _ | with_reducible refine Kept.alloc ?_ _ | with_reducible refine Kept.drewN ?_ _ | with_reducible refine Kept.drew ?_ | with_reducible refine Kept.trans ?_ (by with_reducible assumption) | with_reducible refine Kept.dr ?_ (by with_reducible assumption))))).mono ?_
      rintro e w3 ⟨rfl, hk3⟩
      refine kuz (b := w.heap.size) hk3 (by first | (simp; done) | (simp; omega) | omega) ?_
      intro ha hb hz3_0 hn3_0 hm3_0
      have hf3_0_0 := (ha _).trans hf1_0_0
      have hf3_0_1 := (ha _).trans hf1_0_1
      have hg3_0 := fun o => (hb o).trans (hg1_0 o)
      clear ha hb
      try clear hf1_0_0
      try clear hf1_0_1
      try clear hg1_0
      go_wp2_with fail
      refine (HR.out _ (HS.out.kept (by repeat (first | with_reducible exact Kept.refl _ | with_reducible assumption | with_reducible refine Kept.setCell ?_ (by first | (simp; done) | (simp; omega) | omega) _ | with_reducible refine Kept.alloc ?_ _ | with_reducible refine Kept.drewN ?_ _ | with_reducible refine Kept.drew ?_ | with_reducible refine Kept.trans ?_ (by with_reducible assumption) | with_reducible refine Kept.dr ?_ (by with_reducible assumption))))).mono ?_
      rintro e w4 ⟨rfl, hk4⟩
      refine kuz (b := w.heap.size) hk4 (by first | (simp; done) | (simp; omega) | omega) ?_
      intro ha hb hz4_0 hn4_0 hm4_0
      have hf4_0_0 : w4.cell? ⟨w.heap.size, 0, none⟩ = some (.int .i64 x) := (ha _).trans (by first | with_reducible assumption | (simp (maxDischargeDepth := 7) [go_sem]; done) | (simp (maxDischargeDepth := 7) [go_sem, *]; done))
      have hf4_0_1 : w4.cell? ⟨w.heap.size, 1, none⟩ = some (.int .i64 y) := (ha _).trans (by first | with_reducible assumption | (simp (maxDischargeDepth := 7) [go_sem]; done) | (simp (maxDischargeDepth := 7) [go_sem, *]; done))
      try have hg4_0 : ∀ o, w4.frozen? ⟨w.heap.size, o, none⟩ = false := by intro o; rw [hb]; first | (simp (maxDischargeDepth := 7) [go_sem]; done) | (simp (maxDischargeDepth := 7) [go_sem, *]; done)
      clear ha hb
      refine kuz (b := w3.heap.size) hk4 (by first | (simp; done) | (simp; omega) | omega) ?_
      intro ha hb hz4_1 hn4_1 hm4_1
      have hf4_1_0 : w4.cell? ⟨w3.heap.size, 0, none⟩ = some (.int .i64 0) := (ha _).trans (by first | with_reducible assumption | (simp (maxDischargeDepth := 7) [go_sem]; done) | (simp (maxDischargeDepth := 7) [go_sem, *]; done))
      have hf4_1_1 : w4.cell? ⟨w3.heap.size, 1, none⟩ = some (.int .u64 0) := (ha _).trans (by first | with_reducible assumption | (simp (maxDischargeDepth := 7) [go_sem]; done) | (simp (maxDischargeDepth := 7) [go_sem, *]; done))
      try have hg4_1 : ∀ o, w4.frozen? ⟨w3.heap.size, o, none⟩ = false := by intro o; rw [hb]; first | (simp (maxDischargeDepth := 7) [go_sem]; done) | (simp (maxDischargeDepth := 7) [go_sem, *]; done)
      clear ha hb
      try clear hf3_0_0
      try clear hf3_0_1
      try clear hg3_0
      go_wp2_with fail
      have H0 : OwnB w4 w.heap.size [.int .i64 x, .int .i64 y] := ⟨hz4_0, hg4_0, hf4_0_0, hf4_0_1, trivial⟩
      go_loopw [37] (fun i wr => ∃ k : Nat, i = .int .i64 k ∧ k ≤ m ∧ Hid (OwnB wr w.heap.size [.int .i64 x, .int .i64 y]) ∧ Hid (Kept w wr)) (fun i _ => m - (intOf i).toNat)
      case atStart => exact ⟨0, rfl, Nat.zero_le _, Lib.hid (OwnB.alloc H0 _), Lib.hid (by repeat (first | with_reducible exact Kept.refl _ | with_reducible assumption | with_reducible refine Kept.setCell ?_ (by first | (simp; done) | (simp; omega) | omega) _ | with_reducible refine Kept.alloc ?_ _ | with_reducible refine Kept.drewN ?_ _ | with_reducible refine Kept.drew ?_ | with_reducible refine Kept.trans ?_ (by with_reducible assumption) | with_reducible refine Kept.dr ?_ (by with_reducible assumption)))⟩
      case round =>
        obtain ⟨k, rfl, hk, HO0, HK⟩ := hrel
        by_cases hlt : k < m
        · obtain ⟨s, hs⟩ : ∃ x, M.s k = x := ⟨_, rfl⟩
          obtain ⟨a, ha⟩ : ∃ x, M.a k = x := ⟨_, rfl⟩
          obtain ⟨bb, hb⟩ : ∃ x, M.b k = x := ⟨_, rfl⟩
          obtain ⟨z, hz⟩ : ∃ x, M.z k = x := ⟨_, rfl⟩
          obtain ⟨ee, he⟩ : ∃ x, M.e k = x := ⟨_, rfl⟩
          obtain ⟨u, hu⟩ : ∃ x, M.u k = x := ⟨_, rfl⟩
          have hS := HS.out.kept HK.out
          have c0 := hS.cs k hlt
          have c1 := hS.ca k hlt
          have c2 := hS.cb k hlt
          have c3 := hS.cz k hlt
          have c4 := hS.ce k hlt
          have c5 := hS.cu k hlt
          obtain ⟨hp, hb_⟩ := hS.hp (by omega)
          rw [hs] at c0
          rw [ha] at c1
          rw [hb] at c2
          rw [hz] at c3
          rw [he] at c4
          rw [hu] at c5
          clear hS
          subst hp
          clear hs ha hb hz he hu
          have hkk := HK.out
          have hsz := hkk.size
          clear HK HC HR
          have HH := Lib.hid (holds_w s a bb z ee u x y)
          have HQ := Lib.hid (ref_holds_w s a bb z ee u x y)
          generalize hld s a bb z ee u x y = V at *
          obtain ⟨hz_c9_0, hg_c9_0, hf_c9_0_0, hf_c9_0_1, _⟩ := HO0.out
          go_wp2_with fail
          go_region_held3 (fun W => W.cell? ⟨wr.heap.size, 0, none⟩ = some (.int .i64 s) ∧ W.cell? ⟨wr.heap.size, 1, none⟩ = some (.int .i64 a) ∧ W.cell? ⟨wr.heap.size, 2, none⟩ = some (.int .i64 bb) ∧ W.cell? ⟨wr.heap.size, 3, none⟩ = some (.int .i64 z) ∧ W.cell? ⟨wr.heap.size, 4, none⟩ = some (.int .i64 ee) ∧ W.cell? ⟨wr.heap.size, 5, none⟩ = some (.int .i64 u) ∧ W.cell? ⟨w.heap.size, 0, none⟩ = some (.int .i64 x) ∧ W.cell? ⟨w.heap.size, 1, none⟩ = some (.int .i64 y)) (first | (go_keep; done) | (simp (maxDischargeDepth := 9) [*, World.cell?_alloc_some, World.cell?_setCell_far]; done) | (simp (maxDischargeDepth := 9) [go_sem, *]; done)) (first | (go_at_call 22; (first | with_reducible refine (HH.out _).mono ?_); rintro e w' ⟨rfl, hk⟩; have hz := hk.size; (try (refine kuse (b := wr.heap.size) hk (by first | (simp; done) | (simp; omega) | omega) ?_; intro hq0 hg0; have hy0 : wr.heap.size < w'.heap.size := (by (try simp at hz); omega); have hn0 : ¬ wr.heap.size = w'.heap.size := (by omega); have hm0 : ¬ wr.heap.size = w'.heap.size + 1 := (by omega); refine withF (p := w'.cell? ⟨wr.heap.size, 0, none⟩ = some (.int .i64 s)) (by first | (rw [hq0]; with_reducible assumption) | (simp (maxDischargeDepth := 7) [go_sem, hq0]; done) | (simp (maxDischargeDepth := 7) [go_sem, hq0, *]; done) | fail) ?_; intro ff00; refine withF (p := w'.cell? ⟨wr.heap.size, 1, none⟩ = some (.int .i64 a)) (by first | (rw [hq0]; with_reducible assumption) | (simp (maxDischargeDepth := 7) [go_sem, hq0]; done) | (simp (maxDischargeDepth := 7) [go_sem, hq0, *]; done) | fail) ?_; intro ff01; refine withF (p := w'.cell? ⟨wr.heap.size, 2, none⟩ = some (.int .i64 bb)) (by first | (rw [hq0]; with_reducible assumption) | (simp (maxDischargeDepth := 7) [go_sem, hq0]; done) | (simp (maxDischargeDepth := 7) [go_sem, hq0, *]; done) | fail) ?_; intro ff02; refine withF (p := w'.cell? ⟨wr.heap.size, 3, none⟩ = some (.int .i64 z)) (by first | (rw [hq0]; with_reducible assumption) | (simp (maxDischargeDepth := 7) [go_sem, hq0]; done) | (simp (maxDischargeDepth := 7) [go_sem, hq0, *]; done) | fail) ?_; intro ff03; refine withF (p := w'.cell? ⟨wr.heap.size, 4, none⟩ = some (.int .i64 ee)) (by first | (rw [hq0]; with_reducible assumption) | (simp (maxDischargeDepth := 7) [go_sem, hq0]; done) | (simp (maxDischargeDepth := 7) [go_sem, hq0, *]; done) | fail) ?_; intro ff04; refine withF (p := w'.cell? ⟨wr.heap.size, 5, none⟩ = some (.int .i64 u)) (by first | (rw [hq0]; with_reducible assumption) | (simp (maxDischargeDepth := 7) [go_sem, hq0]; done) | (simp (maxDischargeDepth := 7) [go_sem, hq0, *]; done) | fail) ?_; intro ff05)); (try (refine kuse (b := w.heap.size) hk (by first | (simp; done) | (simp; omega) | omega) ?_; intro hq1 hg1; have hy1 : w.heap.size < w'.heap.size := (by (try simp at hz); omega); have hn1 : ¬ w.heap.size = w'.heap.size := (by omega); have hm1 : ¬ w.heap.size = w'.heap.size + 1 := (by omega); refine withF (p := w'.cell? ⟨w.heap.size, 0, none⟩ = some (.int .i64 x)) (by first | (rw [hq1]; with_reducible assumption) | (simp (maxDischargeDepth := 7) [go_sem, hq1]; done) | (simp (maxDischargeDepth := 7) [go_sem, hq1, *]; done) | fail) ?_; intro ff10; refine withF (p := w'.cell? ⟨w.heap.size, 1, none⟩ = some (.int .i64 y)) (by first | (rw [hq1]; with_reducible assumption) | (simp (maxDischargeDepth := 7) [go_sem, hq1]; done) | (simp (maxDischargeDepth := 7) [go_sem, hq1, *]; done) | fail) ?_; intro ff11))) | (go_at_call 23; (first | with_reducible refine (HQ.out _).mono ?_); rintro e w' ⟨rfl, hk⟩; have hz := hk.size; (try (refine kuse (b := wr.heap.size) hk (by first | (simp; done) | (simp; omega) | omega) ?_; intro hq0 hg0; have hy0 : wr.heap.size < w'.heap.size := (by (try simp at hz); omega); have hn0 : ¬ wr.heap.size = w'.heap.size := (by omega); have hm0 : ¬ wr.heap.size = w'.heap.size + 1 := (by omega); refine withF (p := w'.cell? ⟨wr.heap.size, 0, none⟩ = some (.int .i64 s)) (by first | (rw [hq0]; with_reducible assumption) | (simp (maxDischargeDepth := 7) [go_sem, hq0]; done) | (simp (maxDischargeDepth := 7) [go_sem, hq0, *]; done) | fail) ?_; intro ff00; refine withF (p := w'.cell? ⟨wr.heap.size, 1, none⟩ = some (.int .i64 a)) (by first | (rw [hq0]; with_reducible assumption) | (simp (maxDischargeDepth := 7) [go_sem, hq0]; done) | (simp (maxDischargeDepth := 7) [go_sem, hq0, *]; done) | fail) ?_; intro ff01; refine withF (p := w'.cell? ⟨wr.heap.size, 2, none⟩ = some (.int .i64 bb)) (by first | (rw [hq0]; with_reducible assumption) | (simp (maxDischargeDepth := 7) [go_sem, hq0]; done) | (simp (maxDischargeDepth := 7) [go_sem, hq0, *]; done) | fail) ?_; intro ff02; refine withF (p := w'.cell? ⟨wr.heap.size, 3, none⟩ = some (.int .i64 z)) (by first | (rw [hq0]; with_reducible assumption) | (simp (maxDischargeDepth := 7) [go_sem, hq0]; done) | (simp (maxDischargeDepth := 7) [go_sem, hq0, *]; done) | fail) ?_; intro ff03; refine withF (p := w'.cell? ⟨wr.heap.size, 4, none⟩ = some (.int .i64 ee)) (by first | (rw [hq0]; with_reducible assumption) | (simp (maxDischargeDepth := 7) [go_sem, hq0]; done) | (simp (maxDischargeDepth := 7) [go_sem, hq0, *]; done) | fail) ?_; intro ff04; refine withF (p := w'.cell? ⟨wr.heap.size, 5, none⟩ = some (.int .i64 u)) (by first | (rw [hq0]; with_reducible assumption) | (simp (maxDischargeDepth := 7) [go_sem, hq0]; done) | (simp (maxDischargeDepth := 7) [go_sem, hq0, *]; done) | fail) ?_; intro ff05)); (try (refine kuse (b := w.heap.size) hk (by first | (simp; done) | (simp; omega) | omega) ?_; intro hq1 hg1; have hy1 : w.heap.size < w'.heap.size := (by (try simp at hz); omega); have hn1 : ¬ w.heap.size = w'.heap.size := (by omega); have hm1 : ¬ w.heap.size = w'.heap.size + 1 := (by omega); refine withF (p := w'.cell? ⟨w.heap.size, 0, none⟩ = some (.int .i64 x)) (by first | (rw [hq1]; with_reducible assumption) | (simp (maxDischargeDepth := 7) [go_sem, hq1]; done) | (simp (maxDischargeDepth := 7) [go_sem, hq1, *]; done) | fail) ?_; intro ff10; refine withF (p := w'.cell? ⟨w.heap.size, 1, none⟩ = some (.int .i64 y)) (by first | (rw [hq1]; with_reducible assumption) | (simp (maxDischargeDepth := 7) [go_sem, hq1]; done) | (simp (maxDischargeDepth := 7) [go_sem, hq1, *]; done) | fail) ?_; intro ff11))))
          all_goals (try go_wp2_with fail)
          all_goals exact ⟨⟨k + 1, by go_num, by omega, Lib.hid (by repeat (first | with_reducible exact HO0.out | with_reducible refine OwnB.drew ?_ | with_reducible refine OwnB.alloc ?_ _ | with_reducible refine OwnB.kept (by with_reducible assumption) ?_)), Lib.hid (by repeat (first | with_reducible exact Kept.refl _ | with_reducible assumption | with_reducible refine Kept.setCell ?_ (by first | (simp; done) | (simp; omega) | omega) _ | with_reducible refine Kept.alloc ?_ _ | with_reducible refine Kept.drewN ?_ _ | with_reducible refine Kept.drew ?_ | with_reducible refine Kept.trans ?_ (by with_reducible assumption) | with_reducible refine Kept.dr ?_ (by with_reducible assumption)))⟩, by simp [intOf]; omega⟩
        · obtain rfl : k = m := by omega
          have hkk := HK.out
          clear HK HC HR
          go_wp2_with fail
          go_ret
          exact ⟨rfl, (by repeat (first | with_reducible exact Kept.refl _ | with_reducible assumption | with_reducible refine Kept.setCell ?_ (by first | (simp; done) | (simp; omega) | omega) _ | with_reducible refine Kept.alloc ?_ _ | with_reducible refine Kept.drewN ?_ _ | with_reducible refine Kept.drew ?_ | with_reducible refine Kept.trans ?_ (by with_reducible assumption) | with_reducible refine Kept.dr ?_ (by with_reducible assumption)))⟩
    · have HS := Lib.hid hS
      clear hS
      have HC := Lib.hid (resid_ok p m c b o M x y (by unfold maxLen; omega) h1 h4)
      have HR := Lib.hid (rresid_ok p m c b o M x y (by unfold maxLen; omega) h1 h4)
      clear h1 h4
      generalize wh (M.rr x y m) = G at *; generalize wl (M.rr x y m) = g at *
      have eqz : ∀ w, (Op.equalIn 10000 34 (.agg #[.int .i64 G, .int .u64 g]) (.agg #[.int .i64 G, .int .u64 g])).run Try.prog w = .ok true w := fun w => by rw [eqW]; simp
      go_enter Try.func5, Try.ntmps5
      go_wp2_with fail
      with_reducible refine (awake_w _).mono ?_
      rintro e w1 ⟨rfl, hk1⟩
      refine kuz (b := w.heap.size) hk1 (by first | (simp; done) | (simp; omega) | omega) ?_
      intro ha hb hz1_0 hn1_0 hm1_0
      have hf1_0_0 : w1.cell? ⟨w.heap.size, 0, none⟩ = some (.int .i64 x) := (ha _).trans (by first | with_reducible assumption | (simp (maxDischargeDepth := 7) [go_sem]; done) | (simp (maxDischargeDepth := 7) [go_sem, *]; done))
      have hf1_0_1 : w1.cell? ⟨w.heap.size, 1, none⟩ = some (.int .i64 y) := (ha _).trans (by first | with_reducible assumption | (simp (maxDischargeDepth := 7) [go_sem]; done) | (simp (maxDischargeDepth := 7) [go_sem, *]; done))
      try have hg1_0 : ∀ o, w1.frozen? ⟨w.heap.size, o, none⟩ = false := by intro o; rw [hb]; first | (simp (maxDischargeDepth := 7) [go_sem]; done) | (simp (maxDischargeDepth := 7) [go_sem, *]; done)
      clear ha hb
      go_wp2_with fail
      with_reducible refine (cut_w p n c m hl hc hmc _).mono ?_
      rintro e w' ⟨rfl, rfl⟩
      go_wp2_with fail
      refine (HC.out _ (HS.out.kept (by repeat (first | with_reducible exact Kept.refl _ | with_reducible assumption | with_reducible refine Kept.setCell ?_ (by first | (simp; done) | (simp; omega) | omega) _ | with_reducible refine Kept.alloc ?_ _ | with_reducible refine Kept.drewN ?_ _ | with_reducible refine Kept.drew ?_ | with_reducible refine Kept.trans ?_ (by with_reducible assumption) | with_reducible refine Kept.dr ?_ (by with_reducible assumption))))).mono ?_
      rintro e w3 ⟨rfl, hk3⟩
      refine kuz (b := w.heap.size) hk3 (by first | (simp; done) | (simp; omega) | omega) ?_
      intro ha hb hz3_0 hn3_0 hm3_0
      have hf3_0_0 := (ha _).trans hf1_0_0
      have hf3_0_1 := (ha _).trans hf1_0_1
      have hg3_0 := fun o => (hb o).trans (hg1_0 o)
      clear ha hb
      try clear hf1_0_0
      try clear hf1_0_1
      try clear hg1_0
      go_wp2_with fail
      refine (HR.out _ (HS.out.kept (by repeat (first | with_reducible exact Kept.refl _ | with_reducible assumption | with_reducible refine Kept.setCell ?_ (by first | (simp; done) | (simp; omega) | omega) _ | with_reducible refine Kept.alloc ?_ _ | with_reducible refine Kept.drewN ?_ _ | with_reducible refine Kept.drew ?_ | with_reducible refine Kept.trans ?_ (by with_reducible assumption) | with_reducible refine Kept.dr ?_ (by with_reducible assumption))))).mono ?_
      rintro e w4 ⟨rfl, hk4⟩
      refine kuz (b := w.heap.size) hk4 (by first | (simp; done) | (simp; omega) | omega) ?_
      intro ha hb hz4_0 hn4_0 hm4_0
      have hf4_0_0 : w4.cell? ⟨w.heap.size, 0, none⟩ = some (.int .i64 x) := (ha _).trans (by first | with_reducible assumption | (simp (maxDischargeDepth := 7) [go_sem]; done) | (simp (maxDischargeDepth := 7) [go_sem, *]; done))
      have hf4_0_1 : w4.cell? ⟨w.heap.size, 1, none⟩ = some (.int .i64 y) := (ha _).trans (by first | with_reducible assumption | (simp (maxDischargeDepth := 7) [go_sem]; done) | (simp (maxDischargeDepth := 7) [go_sem, *]; done))
      try have hg4_0 : ∀ o, w4.frozen? ⟨w.heap.size, o, none⟩ = false := by intro o; rw [hb]; first | (simp (maxDischargeDepth := 7) [go_sem]; done) | (simp (maxDischargeDepth := 7) [go_sem, *]; done)
      clear ha hb
      refine kuz (b := w3.heap.size) hk4 (by first | (simp; done) | (simp; omega) | omega) ?_
      intro ha hb hz4_1 hn4_1 hm4_1
      have hf4_1_0 : w4.cell? ⟨w3.heap.size, 0, none⟩ = some (.int .i64 G) := (ha _).trans (by first | with_reducible assumption | (simp (maxDischargeDepth := 7) [go_sem]; done) | (simp (maxDischargeDepth := 7) [go_sem, *]; done))
      have hf4_1_1 : w4.cell? ⟨w3.heap.size, 1, none⟩ = some (.int .u64 g) := (ha _).trans (by first | with_reducible assumption | (simp (maxDischargeDepth := 7) [go_sem]; done) | (simp (maxDischargeDepth := 7) [go_sem, *]; done))
      try have hg4_1 : ∀ o, w4.frozen? ⟨w3.heap.size, o, none⟩ = false := by intro o; rw [hb]; first | (simp (maxDischargeDepth := 7) [go_sem]; done) | (simp (maxDischargeDepth := 7) [go_sem, *]; done)
      clear ha hb
      try clear hf3_0_0
      try clear hf3_0_1
      try clear hg3_0
      go_wp2_with fail
      have H0 : OwnB w4 w.heap.size [.int .i64 x, .int .i64 y] := ⟨hz4_0, hg4_0, hf4_0_0, hf4_0_1, trivial⟩
      go_loopw [37] (fun i wr => ∃ k : Nat, i = .int .i64 k ∧ k ≤ m ∧ Hid (OwnB wr w.heap.size [.int .i64 x, .int .i64 y]) ∧ Hid (Kept w wr)) (fun i _ => m - (intOf i).toNat)
      case atStart => exact ⟨0, rfl, Nat.zero_le _, Lib.hid (OwnB.alloc H0 _), Lib.hid (by repeat (first | with_reducible exact Kept.refl _ | with_reducible assumption | with_reducible refine Kept.setCell ?_ (by first | (simp; done) | (simp; omega) | omega) _ | with_reducible refine Kept.alloc ?_ _ | with_reducible refine Kept.drewN ?_ _ | with_reducible refine Kept.drew ?_ | with_reducible refine Kept.trans ?_ (by with_reducible assumption) | with_reducible refine Kept.dr ?_ (by with_reducible assumption)))⟩
      case round =>
        obtain ⟨k, rfl, hk, HO0, HK⟩ := hrel
        by_cases hlt : k < m
        · obtain ⟨s, hs⟩ : ∃ x, M.s k = x := ⟨_, rfl⟩
          obtain ⟨a, ha⟩ : ∃ x, M.a k = x := ⟨_, rfl⟩
          obtain ⟨bb, hb⟩ : ∃ x, M.b k = x := ⟨_, rfl⟩
          obtain ⟨z, hz⟩ : ∃ x, M.z k = x := ⟨_, rfl⟩
          obtain ⟨ee, he⟩ : ∃ x, M.e k = x := ⟨_, rfl⟩
          obtain ⟨u, hu⟩ : ∃ x, M.u k = x := ⟨_, rfl⟩
          have hS := HS.out.kept HK.out
          have c0 := hS.cs k hlt
          have c1 := hS.ca k hlt
          have c2 := hS.cb k hlt
          have c3 := hS.cz k hlt
          have c4 := hS.ce k hlt
          have c5 := hS.cu k hlt
          obtain ⟨hp, hb_⟩ := hS.hp (by omega)
          rw [hs] at c0
          rw [ha] at c1
          rw [hb] at c2
          rw [hz] at c3
          rw [he] at c4
          rw [hu] at c5
          clear hS
          subst hp
          clear hs ha hb hz he hu
          have hkk := HK.out
          have hsz := hkk.size
          clear HK HC HR
          have HH := Lib.hid (holds_w s a bb z ee u x y)
          have HQ := Lib.hid (ref_holds_w s a bb z ee u x y)
          generalize hld s a bb z ee u x y = V at *
          obtain ⟨hz_c9_0, hg_c9_0, hf_c9_0_0, hf_c9_0_1, _⟩ := HO0.out
          go_wp2_with fail
          go_region_held3 (fun W => W.cell? ⟨wr.heap.size, 0, none⟩ = some (.int .i64 s) ∧ W.cell? ⟨wr.heap.size, 1, none⟩ = some (.int .i64 a) ∧ W.cell? ⟨wr.heap.size, 2, none⟩ = some (.int .i64 bb) ∧ W.cell? ⟨wr.heap.size, 3, none⟩ = some (.int .i64 z) ∧ W.cell? ⟨wr.heap.size, 4, none⟩ = some (.int .i64 ee) ∧ W.cell? ⟨wr.heap.size, 5, none⟩ = some (.int .i64 u) ∧ W.cell? ⟨w.heap.size, 0, none⟩ = some (.int .i64 x) ∧ W.cell? ⟨w.heap.size, 1, none⟩ = some (.int .i64 y)) (first | (go_keep; done) | (simp (maxDischargeDepth := 9) [*, World.cell?_alloc_some, World.cell?_setCell_far]; done) | (simp (maxDischargeDepth := 9) [go_sem, *]; done)) (first | (go_at_call 22; (first | with_reducible refine (HH.out _).mono ?_); rintro e w' ⟨rfl, hk⟩; have hz := hk.size; (try (refine kuse (b := wr.heap.size) hk (by first | (simp; done) | (simp; omega) | omega) ?_; intro hq0 hg0; have hy0 : wr.heap.size < w'.heap.size := (by (try simp at hz); omega); have hn0 : ¬ wr.heap.size = w'.heap.size := (by omega); have hm0 : ¬ wr.heap.size = w'.heap.size + 1 := (by omega); refine withF (p := w'.cell? ⟨wr.heap.size, 0, none⟩ = some (.int .i64 s)) (by first | (rw [hq0]; with_reducible assumption) | (simp (maxDischargeDepth := 7) [go_sem, hq0]; done) | (simp (maxDischargeDepth := 7) [go_sem, hq0, *]; done) | fail) ?_; intro ff00; refine withF (p := w'.cell? ⟨wr.heap.size, 1, none⟩ = some (.int .i64 a)) (by first | (rw [hq0]; with_reducible assumption) | (simp (maxDischargeDepth := 7) [go_sem, hq0]; done) | (simp (maxDischargeDepth := 7) [go_sem, hq0, *]; done) | fail) ?_; intro ff01; refine withF (p := w'.cell? ⟨wr.heap.size, 2, none⟩ = some (.int .i64 bb)) (by first | (rw [hq0]; with_reducible assumption) | (simp (maxDischargeDepth := 7) [go_sem, hq0]; done) | (simp (maxDischargeDepth := 7) [go_sem, hq0, *]; done) | fail) ?_; intro ff02; refine withF (p := w'.cell? ⟨wr.heap.size, 3, none⟩ = some (.int .i64 z)) (by first | (rw [hq0]; with_reducible assumption) | (simp (maxDischargeDepth := 7) [go_sem, hq0]; done) | (simp (maxDischargeDepth := 7) [go_sem, hq0, *]; done) | fail) ?_; intro ff03; refine withF (p := w'.cell? ⟨wr.heap.size, 4, none⟩ = some (.int .i64 ee)) (by first | (rw [hq0]; with_reducible assumption) | (simp (maxDischargeDepth := 7) [go_sem, hq0]; done) | (simp (maxDischargeDepth := 7) [go_sem, hq0, *]; done) | fail) ?_; intro ff04; refine withF (p := w'.cell? ⟨wr.heap.size, 5, none⟩ = some (.int .i64 u)) (by first | (rw [hq0]; with_reducible assumption) | (simp (maxDischargeDepth := 7) [go_sem, hq0]; done) | (simp (maxDischargeDepth := 7) [go_sem, hq0, *]; done) | fail) ?_; intro ff05)); (try (refine kuse (b := w.heap.size) hk (by first | (simp; done) | (simp; omega) | omega) ?_; intro hq1 hg1; have hy1 : w.heap.size < w'.heap.size := (by (try simp at hz); omega); have hn1 : ¬ w.heap.size = w'.heap.size := (by omega); have hm1 : ¬ w.heap.size = w'.heap.size + 1 := (by omega); refine withF (p := w'.cell? ⟨w.heap.size, 0, none⟩ = some (.int .i64 x)) (by first | (rw [hq1]; with_reducible assumption) | (simp (maxDischargeDepth := 7) [go_sem, hq1]; done) | (simp (maxDischargeDepth := 7) [go_sem, hq1, *]; done) | fail) ?_; intro ff10; refine withF (p := w'.cell? ⟨w.heap.size, 1, none⟩ = some (.int .i64 y)) (by first | (rw [hq1]; with_reducible assumption) | (simp (maxDischargeDepth := 7) [go_sem, hq1]; done) | (simp (maxDischargeDepth := 7) [go_sem, hq1, *]; done) | fail) ?_; intro ff11))) | (go_at_call 23; (first | with_reducible refine (HQ.out _).mono ?_); rintro e w' ⟨rfl, hk⟩; have hz := hk.size; (try (refine kuse (b := wr.heap.size) hk (by first | (simp; done) | (simp; omega) | omega) ?_; intro hq0 hg0; have hy0 : wr.heap.size < w'.heap.size := (by (try simp at hz); omega); have hn0 : ¬ wr.heap.size = w'.heap.size := (by omega); have hm0 : ¬ wr.heap.size = w'.heap.size + 1 := (by omega); refine withF (p := w'.cell? ⟨wr.heap.size, 0, none⟩ = some (.int .i64 s)) (by first | (rw [hq0]; with_reducible assumption) | (simp (maxDischargeDepth := 7) [go_sem, hq0]; done) | (simp (maxDischargeDepth := 7) [go_sem, hq0, *]; done) | fail) ?_; intro ff00; refine withF (p := w'.cell? ⟨wr.heap.size, 1, none⟩ = some (.int .i64 a)) (by first | (rw [hq0]; with_reducible assumption) | (simp (maxDischargeDepth := 7) [go_sem, hq0]; done) | (simp (maxDischargeDepth := 7) [go_sem, hq0, *]; done) | fail) ?_; intro ff01; refine withF (p := w'.cell? ⟨wr.heap.size, 2, none⟩ = some (.int .i64 bb)) (by first | (rw [hq0]; with_reducible assumption) | (simp (maxDischargeDepth := 7) [go_sem, hq0]; done) | (simp (maxDischargeDepth := 7) [go_sem, hq0, *]; done) | fail) ?_; intro ff02; refine withF (p := w'.cell? ⟨wr.heap.size, 3, none⟩ = some (.int .i64 z)) (by first | (rw [hq0]; with_reducible assumption) | (simp (maxDischargeDepth := 7) [go_sem, hq0]; done) | (simp (maxDischargeDepth := 7) [go_sem, hq0, *]; done) | fail) ?_; intro ff03; refine withF (p := w'.cell? ⟨wr.heap.size, 4, none⟩ = some (.int .i64 ee)) (by first | (rw [hq0]; with_reducible assumption) | (simp (maxDischargeDepth := 7) [go_sem, hq0]; done) | (simp (maxDischargeDepth := 7) [go_sem, hq0, *]; done) | fail) ?_; intro ff04; refine withF (p := w'.cell? ⟨wr.heap.size, 5, none⟩ = some (.int .i64 u)) (by first | (rw [hq0]; with_reducible assumption) | (simp (maxDischargeDepth := 7) [go_sem, hq0]; done) | (simp (maxDischargeDepth := 7) [go_sem, hq0, *]; done) | fail) ?_; intro ff05)); (try (refine kuse (b := w.heap.size) hk (by first | (simp; done) | (simp; omega) | omega) ?_; intro hq1 hg1; have hy1 : w.heap.size < w'.heap.size := (by (try simp at hz); omega); have hn1 : ¬ w.heap.size = w'.heap.size := (by omega); have hm1 : ¬ w.heap.size = w'.heap.size + 1 := (by omega); refine withF (p := w'.cell? ⟨w.heap.size, 0, none⟩ = some (.int .i64 x)) (by first | (rw [hq1]; with_reducible assumption) | (simp (maxDischargeDepth := 7) [go_sem, hq1]; done) | (simp (maxDischargeDepth := 7) [go_sem, hq1, *]; done) | fail) ?_; intro ff10; refine withF (p := w'.cell? ⟨w.heap.size, 1, none⟩ = some (.int .i64 y)) (by first | (rw [hq1]; with_reducible assumption) | (simp (maxDischargeDepth := 7) [go_sem, hq1]; done) | (simp (maxDischargeDepth := 7) [go_sem, hq1, *]; done) | fail) ?_; intro ff11))))
          all_goals (try go_wp2_with fail)
          all_goals exact ⟨⟨k + 1, by go_num, by omega, Lib.hid (by repeat (first | with_reducible exact HO0.out | with_reducible refine OwnB.drew ?_ | with_reducible refine OwnB.alloc ?_ _ | with_reducible refine OwnB.kept (by with_reducible assumption) ?_)), Lib.hid (by repeat (first | with_reducible exact Kept.refl _ | with_reducible assumption | with_reducible refine Kept.setCell ?_ (by first | (simp; done) | (simp; omega) | omega) _ | with_reducible refine Kept.alloc ?_ _ | with_reducible refine Kept.drewN ?_ _ | with_reducible refine Kept.drew ?_ | with_reducible refine Kept.trans ?_ (by with_reducible assumption) | with_reducible refine Kept.dr ?_ (by with_reducible assumption)))⟩, by simp [intOf]; omega⟩
        · obtain rfl : k = m := by omega
          have hkk := HK.out
          clear HK HC HR
          go_wp2_with fail
          go_ret
          exact ⟨rfl, (by repeat (first | with_reducible exact Kept.refl _ | with_reducible assumption | with_reducible refine Kept.setCell ?_ (by first | (simp; done) | (simp; omega) | omega) _ | with_reducible refine Kept.alloc ?_ _ | with_reducible refine Kept.drewN ?_ _ | with_reducible refine Kept.drew ?_ | with_reducible refine Kept.trans ?_ (by with_reducible assumption) | with_reducible refine Kept.dr ?_ (by with_reducible assumption)))⟩
  · have HS := Lib.hid hS
    clear hS
    have HC := Lib.hid (resid_no p m c b o M x y (by unfold maxLen; omega) h1)
    have HR := Lib.hid (rresid_no p m c b o M x y (by unfold maxLen; omega) h1)
    obtain ⟨E, hE⟩ : ∃ E, M.chk m = E := ⟨_, rfl⟩
    rw [hE] at HC HR
    clear hE h1
    have eqz : ∀ w, (Op.equalIn 10000 34 (.agg #[.int .i64 0, .int .u64 0]) (.agg #[.int .i64 0, .int .u64 0])).run Try.prog w = .ok true w := fun w => by rw [eqW]; simp
    go_enter Try.func5, Try.ntmps5
    go_wp2_with fail
    with_reducible refine (awake_w _).mono ?_
    rintro e w1 ⟨rfl, hk1⟩
    refine kuz (b := w.heap.size) hk1 (by first | (simp; done) | (simp; omega) | omega) ?_
    intro ha hb hz1_0 hn1_0 hm1_0
    have hf1_0_0 : w1.cell? ⟨w.heap.size, 0, none⟩ = some (.int .i64 x) := (ha _).trans (by first | with_reducible assumption | (simp (maxDischargeDepth := 7) [go_sem]; done) | (simp (maxDischargeDepth := 7) [go_sem, *]; done))
    have hf1_0_1 : w1.cell? ⟨w.heap.size, 1, none⟩ = some (.int .i64 y) := (ha _).trans (by first | with_reducible assumption | (simp (maxDischargeDepth := 7) [go_sem]; done) | (simp (maxDischargeDepth := 7) [go_sem, *]; done))
    try have hg1_0 : ∀ o, w1.frozen? ⟨w.heap.size, o, none⟩ = false := by intro o; rw [hb]; first | (simp (maxDischargeDepth := 7) [go_sem]; done) | (simp (maxDischargeDepth := 7) [go_sem, *]; done)
    clear ha hb
    go_wp2_with fail
    with_reducible refine (cut_w p n c m hl hc hmc _).mono ?_
    rintro e w' ⟨rfl, rfl⟩
    go_wp2_with fail
    refine (HC.out _ (HS.out.kept (by repeat (first | with_reducible exact Kept.refl _ | with_reducible assumption | with_reducible refine Kept.setCell ?_ (by first | (simp; done) | (simp; omega) | omega) _ | with_reducible refine Kept.alloc ?_ _ | with_reducible refine Kept.drewN ?_ _ | with_reducible refine Kept.drew ?_ | with_reducible refine Kept.trans ?_ (by with_reducible assumption) | with_reducible refine Kept.dr ?_ (by with_reducible assumption))))).mono ?_
    rintro e w3 ⟨rfl, hk3⟩
    refine kuz (b := w.heap.size) hk3 (by first | (simp; done) | (simp; omega) | omega) ?_
    intro ha hb hz3_0 hn3_0 hm3_0
    have hf3_0_0 := (ha _).trans hf1_0_0
    have hf3_0_1 := (ha _).trans hf1_0_1
    have hg3_0 := fun o => (hb o).trans (hg1_0 o)
    clear ha hb
    try clear hf1_0_0
    try clear hf1_0_1
    try clear hg1_0
    go_wp2_with fail
    refine (HR.out _ (HS.out.kept (by repeat (first | with_reducible exact Kept.refl _ | with_reducible assumption | with_reducible refine Kept.setCell ?_ (by first | (simp; done) | (simp; omega) | omega) _ | with_reducible refine Kept.alloc ?_ _ | with_reducible refine Kept.drewN ?_ _ | with_reducible refine Kept.drew ?_ | with_reducible refine Kept.trans ?_ (by with_reducible assumption) | with_reducible refine Kept.dr ?_ (by with_reducible assumption))))).mono ?_
    rintro e w4 ⟨rfl, hk4⟩
    refine kuz (b := w.heap.size) hk4 (by first | (simp; done) | (simp; omega) | omega) ?_
    intro ha hb hz4_0 hn4_0 hm4_0
    have hf4_0_0 : w4.cell? ⟨w.heap.size, 0, none⟩ = some (.int .i64 x) := (ha _).trans (by first | with_reducible assumption | (simp (maxDischargeDepth := 7) [go_sem]; done) | (simp (maxDischargeDepth := 7) [go_sem, *]; done))
    have hf4_0_1 : w4.cell? ⟨w.heap.size, 1, none⟩ = some (.int .i64 y) := (ha _).trans (by first | with_reducible assumption | (simp (maxDischargeDepth := 7) [go_sem]; done) | (simp (maxDischargeDepth := 7) [go_sem, *]; done))
    try have hg4_0 : ∀ o, w4.frozen? ⟨w.heap.size, o, none⟩ = false := by intro o; rw [hb]; first | (simp (maxDischargeDepth := 7) [go_sem]; done) | (simp (maxDischargeDepth := 7) [go_sem, *]; done)
    clear ha hb
    refine kuz (b := w3.heap.size) hk4 (by first | (simp; done) | (simp; omega) | omega) ?_
    intro ha hb hz4_1 hn4_1 hm4_1
    have hf4_1_0 : w4.cell? ⟨w3.heap.size, 0, none⟩ = some (.int .i64 0) := (ha _).trans (by first | with_reducible assumption | (simp (maxDischargeDepth := 7) [go_sem]; done) | (simp (maxDischargeDepth := 7) [go_sem, *]; done))
    have hf4_1_1 : w4.cell? ⟨w3.heap.size, 1, none⟩ = some (.int .u64 0) := (ha _).trans (by first | with_reducible assumption | (simp (maxDischargeDepth := 7) [go_sem]; done) | (simp (maxDischargeDepth := 7) [go_sem, *]; done))
    try have hg4_1 : ∀ o, w4.frozen? ⟨w3.heap.size, o, none⟩ = false := by intro o; rw [hb]; first | (simp (maxDischargeDepth := 7) [go_sem]; done) | (simp (maxDischargeDepth := 7) [go_sem, *]; done)
    clear ha hb
    try clear hf3_0_0
    try clear hf3_0_1
    try clear hg3_0
    go_wp2_with fail
    have H0 : OwnB w4 w.heap.size [.int .i64 x, .int .i64 y] := ⟨hz4_0, hg4_0, hf4_0_0, hf4_0_1, trivial⟩
    go_loopw [37] (fun i wr => ∃ k : Nat, i = .int .i64 k ∧ k ≤ m ∧ Hid (OwnB wr w.heap.size [.int .i64 x, .int .i64 y]) ∧ Hid (Kept w wr)) (fun i _ => m - (intOf i).toNat)
    case atStart => exact ⟨0, rfl, Nat.zero_le _, Lib.hid (OwnB.alloc H0 _), Lib.hid (by repeat (first | with_reducible exact Kept.refl _ | with_reducible assumption | with_reducible refine Kept.setCell ?_ (by first | (simp; done) | (simp; omega) | omega) _ | with_reducible refine Kept.alloc ?_ _ | with_reducible refine Kept.drewN ?_ _ | with_reducible refine Kept.drew ?_ | with_reducible refine Kept.trans ?_ (by with_reducible assumption) | with_reducible refine Kept.dr ?_ (by with_reducible assumption)))⟩
    case round =>
      obtain ⟨k, rfl, hk, HO0, HK⟩ := hrel
      by_cases hlt : k < m
      · obtain ⟨s, hs⟩ : ∃ x, M.s k = x := ⟨_, rfl⟩
        obtain ⟨a, ha⟩ : ∃ x, M.a k = x := ⟨_, rfl⟩
        obtain ⟨bb, hb⟩ : ∃ x, M.b k = x := ⟨_, rfl⟩
        obtain ⟨z, hz⟩ : ∃ x, M.z k = x := ⟨_, rfl⟩
        obtain ⟨ee, he⟩ : ∃ x, M.e k = x := ⟨_, rfl⟩
        obtain ⟨u, hu⟩ : ∃ x, M.u k = x := ⟨_, rfl⟩
        have hS := HS.out.kept HK.out
        have c0 := hS.cs k hlt
        have c1 := hS.ca k hlt
        have c2 := hS.cb k hlt
        have c3 := hS.cz k hlt
        have c4 := hS.ce k hlt
        have c5 := hS.cu k hlt
        obtain ⟨hp, hb_⟩ := hS.hp (by omega)
        rw [hs] at c0
        rw [ha] at c1
        rw [hb] at c2
        rw [hz] at c3
        rw [he] at c4
        rw [hu] at c5
        clear hS
        subst hp
        clear hs ha hb hz he hu
        have hkk := HK.out
        have hsz := hkk.size
        clear HK HC HR
        have HH := Lib.hid (holds_w s a bb z ee u x y)
        have HQ := Lib.hid (ref_holds_w s a bb z ee u x y)
        generalize hld s a bb z ee u x y = V at *
        obtain ⟨hz_c9_0, hg_c9_0, hf_c9_0_0, hf_c9_0_1, _⟩ := HO0.out
        go_wp2_with fail
        go_region_held3 (fun W => W.cell? ⟨wr.heap.size, 0, none⟩ = some (.int .i64 s) ∧ W.cell? ⟨wr.heap.size, 1, none⟩ = some (.int .i64 a) ∧ W.cell? ⟨wr.heap.size, 2, none⟩ = some (.int .i64 bb) ∧ W.cell? ⟨wr.heap.size, 3, none⟩ = some (.int .i64 z) ∧ W.cell? ⟨wr.heap.size, 4, none⟩ = some (.int .i64 ee) ∧ W.cell? ⟨wr.heap.size, 5, none⟩ = some (.int .i64 u) ∧ W.cell? ⟨w.heap.size, 0, none⟩ = some (.int .i64 x) ∧ W.cell? ⟨w.heap.size, 1, none⟩ = some (.int .i64 y)) (first | (go_keep; done) | (simp (maxDischargeDepth := 9) [*, World.cell?_alloc_some, World.cell?_setCell_far]; done) | (simp (maxDischargeDepth := 9) [go_sem, *]; done)) (first | (go_at_call 22; (first | with_reducible refine (HH.out _).mono ?_); rintro e w' ⟨rfl, hk⟩; have hz := hk.size; (try (refine kuse (b := wr.heap.size) hk (by first | (simp; done) | (simp; omega) | omega) ?_; intro hq0 hg0; have hy0 : wr.heap.size < w'.heap.size := (by (try simp at hz); omega); have hn0 : ¬ wr.heap.size = w'.heap.size := (by omega); have hm0 : ¬ wr.heap.size = w'.heap.size + 1 := (by omega); refine withF (p := w'.cell? ⟨wr.heap.size, 0, none⟩ = some (.int .i64 s)) (by first | (rw [hq0]; with_reducible assumption) | (simp (maxDischargeDepth := 7) [go_sem, hq0]; done) | (simp (maxDischargeDepth := 7) [go_sem, hq0, *]; done) | fail) ?_; intro ff00; refine withF (p := w'.cell? ⟨wr.heap.size, 1, none⟩ = some (.int .i64 a)) (by first | (rw [hq0]; with_reducible assumption) | (simp (maxDischargeDepth := 7) [go_sem, hq0]; done) | (simp (maxDischargeDepth := 7) [go_sem, hq0, *]; done) | fail) ?_; intro ff01; refine withF (p := w'.cell? ⟨wr.heap.size, 2, none⟩ = some (.int .i64 bb)) (by first | (rw [hq0]; with_reducible assumption) | (simp (maxDischargeDepth := 7) [go_sem, hq0]; done) | (simp (maxDischargeDepth := 7) [go_sem, hq0, *]; done) | fail) ?_; intro ff02; refine withF (p := w'.cell? ⟨wr.heap.size, 3, none⟩ = some (.int .i64 z)) (by first | (rw [hq0]; with_reducible assumption) | (simp (maxDischargeDepth := 7) [go_sem, hq0]; done) | (simp (maxDischargeDepth := 7) [go_sem, hq0, *]; done) | fail) ?_; intro ff03; refine withF (p := w'.cell? ⟨wr.heap.size, 4, none⟩ = some (.int .i64 ee)) (by first | (rw [hq0]; with_reducible assumption) | (simp (maxDischargeDepth := 7) [go_sem, hq0]; done) | (simp (maxDischargeDepth := 7) [go_sem, hq0, *]; done) | fail) ?_; intro ff04; refine withF (p := w'.cell? ⟨wr.heap.size, 5, none⟩ = some (.int .i64 u)) (by first | (rw [hq0]; with_reducible assumption) | (simp (maxDischargeDepth := 7) [go_sem, hq0]; done) | (simp (maxDischargeDepth := 7) [go_sem, hq0, *]; done) | fail) ?_; intro ff05)); (try (refine kuse (b := w.heap.size) hk (by first | (simp; done) | (simp; omega) | omega) ?_; intro hq1 hg1; have hy1 : w.heap.size < w'.heap.size := (by (try simp at hz); omega); have hn1 : ¬ w.heap.size = w'.heap.size := (by omega); have hm1 : ¬ w.heap.size = w'.heap.size + 1 := (by omega); refine withF (p := w'.cell? ⟨w.heap.size, 0, none⟩ = some (.int .i64 x)) (by first | (rw [hq1]; with_reducible assumption) | (simp (maxDischargeDepth := 7) [go_sem, hq1]; done) | (simp (maxDischargeDepth := 7) [go_sem, hq1, *]; done) | fail) ?_; intro ff10; refine withF (p := w'.cell? ⟨w.heap.size, 1, none⟩ = some (.int .i64 y)) (by first | (rw [hq1]; with_reducible assumption) | (simp (maxDischargeDepth := 7) [go_sem, hq1]; done) | (simp (maxDischargeDepth := 7) [go_sem, hq1, *]; done) | fail) ?_; intro ff11))) | (go_at_call 23; (first | with_reducible refine (HQ.out _).mono ?_); rintro e w' ⟨rfl, hk⟩; have hz := hk.size; (try (refine kuse (b := wr.heap.size) hk (by first | (simp; done) | (simp; omega) | omega) ?_; intro hq0 hg0; have hy0 : wr.heap.size < w'.heap.size := (by (try simp at hz); omega); have hn0 : ¬ wr.heap.size = w'.heap.size := (by omega); have hm0 : ¬ wr.heap.size = w'.heap.size + 1 := (by omega); refine withF (p := w'.cell? ⟨wr.heap.size, 0, none⟩ = some (.int .i64 s)) (by first | (rw [hq0]; with_reducible assumption) | (simp (maxDischargeDepth := 7) [go_sem, hq0]; done) | (simp (maxDischargeDepth := 7) [go_sem, hq0, *]; done) | fail) ?_; intro ff00; refine withF (p := w'.cell? ⟨wr.heap.size, 1, none⟩ = some (.int .i64 a)) (by first | (rw [hq0]; with_reducible assumption) | (simp (maxDischargeDepth := 7) [go_sem, hq0]; done) | (simp (maxDischargeDepth := 7) [go_sem, hq0, *]; done) | fail) ?_; intro ff01; refine withF (p := w'.cell? ⟨wr.heap.size, 2, none⟩ = some (.int .i64 bb)) (by first | (rw [hq0]; with_reducible assumption) | (simp (maxDischargeDepth := 7) [go_sem, hq0]; done) | (simp (maxDischargeDepth := 7) [go_sem, hq0, *]; done) | fail) ?_; intro ff02; refine withF (p := w'.cell? ⟨wr.heap.size, 3, none⟩ = some (.int .i64 z)) (by first | (rw [hq0]; with_reducible assumption) | (simp (maxDischargeDepth := 7) [go_sem, hq0]; done) | (simp (maxDischargeDepth := 7) [go_sem, hq0, *]; done) | fail) ?_; intro ff03; refine withF (p := w'.cell? ⟨wr.heap.size, 4, none⟩ = some (.int .i64 ee)) (by first | (rw [hq0]; with_reducible assumption) | (simp (maxDischargeDepth := 7) [go_sem, hq0]; done) | (simp (maxDischargeDepth := 7) [go_sem, hq0, *]; done) | fail) ?_; intro ff04; refine withF (p := w'.cell? ⟨wr.heap.size, 5, none⟩ = some (.int .i64 u)) (by first | (rw [hq0]; with_reducible assumption) | (simp (maxDischargeDepth := 7) [go_sem, hq0]; done) | (simp (maxDischargeDepth := 7) [go_sem, hq0, *]; done) | fail) ?_; intro ff05)); (try (refine kuse (b := w.heap.size) hk (by first | (simp; done) | (simp; omega) | omega) ?_; intro hq1 hg1; have hy1 : w.heap.size < w'.heap.size := (by (try simp at hz); omega); have hn1 : ¬ w.heap.size = w'.heap.size := (by omega); have hm1 : ¬ w.heap.size = w'.heap.size + 1 := (by omega); refine withF (p := w'.cell? ⟨w.heap.size, 0, none⟩ = some (.int .i64 x)) (by first | (rw [hq1]; with_reducible assumption) | (simp (maxDischargeDepth := 7) [go_sem, hq1]; done) | (simp (maxDischargeDepth := 7) [go_sem, hq1, *]; done) | fail) ?_; intro ff10; refine withF (p := w'.cell? ⟨w.heap.size, 1, none⟩ = some (.int .i64 y)) (by first | (rw [hq1]; with_reducible assumption) | (simp (maxDischargeDepth := 7) [go_sem, hq1]; done) | (simp (maxDischargeDepth := 7) [go_sem, hq1, *]; done) | fail) ?_; intro ff11))))
        all_goals (try go_wp2_with fail)
        all_goals exact ⟨⟨k + 1, by go_num, by omega, Lib.hid (by repeat (first | with_reducible exact HO0.out | with_reducible refine OwnB.drew ?_ | with_reducible refine OwnB.alloc ?_ _ | with_reducible refine OwnB.kept (by with_reducible assumption) ?_)), Lib.hid (by repeat (first | with_reducible exact Kept.refl _ | with_reducible assumption | with_reducible refine Kept.setCell ?_ (by first | (simp; done) | (simp; omega) | omega) _ | with_reducible refine Kept.alloc ?_ _ | with_reducible refine Kept.drewN ?_ _ | with_reducible refine Kept.drew ?_ | with_reducible refine Kept.trans ?_ (by with_reducible assumption) | with_reducible refine Kept.dr ?_ (by with_reducible assumption)))⟩, by simp [intOf]; omega⟩
      · obtain rfl : k = m := by omega
        have hkk := HK.out
        clear HK HC HR
        go_wp2_with fail
        go_ret
        exact ⟨rfl, (by repeat (first | with_reducible exact Kept.refl _ | with_reducible assumption | with_reducible refine Kept.setCell ?_ (by first | (simp; done) | (simp; omega) | omega) _ | with_reducible refine Kept.alloc ?_ _ | with_reducible refine Kept.drewN ?_ _ | with_reducible refine Kept.drew ?_ | with_reducible refine Kept.trans ?_ (by with_reducible assumption) | with_reducible refine Kept.dr ?_ (by with_reducible assumption)))⟩
theorem law_LsqResiduals (p0 : Option Addr) (n0 c0 b0 o0 : Nat) (F0_0 F0_1 F0_2 F0_3 F0_4 F0_5 : Nat → Int) (x y : Int) (hl0 : n0 ≤ c0) (hm0 : c0 ≤ maxLen) (fb0_0 : ∀ i, i < n0 → -9223372036854775808 ≤ F0_0 i ∧ F0_0 i ≤ 9223372036854775807) (fb0_1 : ∀ i, i < n0 → -9223372036854775808 ≤ F0_1 i ∧ F0_1 i ≤ 9223372036854775807) (fb0_2 : ∀ i, i < n0 → -9223372036854775808 ≤ F0_2 i ∧ F0_2 i ≤ 9223372036854775807) (fb0_3 : ∀ i, i < n0 → -9223372036854775808 ≤ F0_3 i ∧ F0_3 i ≤ 9223372036854775807) (fb0_4 : ∀ i, i < n0 → -9223372036854775808 ≤ F0_4 i ∧ F0_4 i ≤ 9223372036854775807) (fb0_5 : ∀ i, i < n0 → -9223372036854775808 ≤ F0_5 i ∧ F0_5 i ≤ 9223372036854775807) (xa : -9223372036854775808 ≤ x) (xb : x ≤ 9223372036854775807) (ya : -9223372036854775808 ≤ y) (yb : y ≤ 9223372036854775807) (w : World) (hp0 : 0 < n0 → p0 = some ⟨b0, o0, none⟩ ∧ b0 < w.heap.size) (hc0_0 : ∀ i, i < n0 → w.cell? ⟨b0, o0 + (i * 6 + 0), none⟩ = some (.int .i64 (F0_0 i))) (hc0_1 : ∀ i, i < n0 → w.cell? ⟨b0, o0 + (i * 6 + 1), none⟩ = some (.int .i64 (F0_1 i))) (hc0_2 : ∀ i, i < n0 → w.cell? ⟨b0, o0 + (i * 6 + 2), none⟩ = some (.int .i64 (F0_2 i))) (hc0_3 : ∀ i, i < n0 → w.cell? ⟨b0, o0 + (i * 6 + 3), none⟩ = some (.int .i64 (F0_3 i))) (hc0_4 : ∀ i, i < n0 → w.cell? ⟨b0, o0 + (i * 6 + 4), none⟩ = some (.int .i64 (F0_4 i))) (hc0_5 : ∀ i, i < n0 → w.cell? ⟨b0, o0 + (i * 6 + 5), none⟩ = some (.int .i64 (F0_5 i))) :
    Calls Try.prog 5 #[.slice p0 n0 c0, .agg #[.int .i64 x, .int .i64 y]] w fun en w' => en = .returned (.bool true) ∧ Kept w w' := by
  obtain ⟨m, hm, hm2, hmc⟩ := cutm n0
  exact lawi_LsqResiduals p0 n0 c0 b0 o0 ⟨F0_0, F0_1, F0_2, F0_3, F0_4, F0_5⟩ m x y hl0 hm0 hm2 hmc w ((sl_of p0 n0 c0 b0 o0 F0_0 F0_1 F0_2 F0_3 F0_4 F0_5 w hp0 hc0_0 hc0_1 hc0_2 hc0_3 hc0_4 hc0_5).le hm)
end Go.Proofs.Ytoegcfdlecbcjaa
