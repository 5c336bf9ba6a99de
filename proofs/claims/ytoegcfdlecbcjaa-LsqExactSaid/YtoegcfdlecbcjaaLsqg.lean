/-
  Own contracts: package lsq: residuals.
-/
import Derived.Test.YtoegcfdlecbcjaaLsqd
import Derived.Test.YtoegcfdlecbcjaaWidc
import Derived.WalkKit
import Derived.ProofKit
import Derived.OpenShut
import Derived.WalkLawsBesides
import Derived.WalkSpells
import Derived.Lib.Hide
import Derived.Deep.DeepCutAuto
import Derived.Deep.CutBlock
import Derived.Deep.QuietTactic
import Derived.BigQuiet
import Derived.Handy
import Derived.StillTailTactics
import Derived.IntWalk
import Derived.LoopN
import Derived.Deep.RegionHeld3
namespace Go.Proofs.Ytoegcfdlecbcjaa
open Go.ChangeShapes Go.WideShapes Go.ChangeAt Go.RowKit
set_option linter.unusedVariables false
set_option linter.unusedSimpArgs false
theorem own_s2 {W : World} {b : Nat} {u0 u1 v0 v1 : Value} (o : OwnB W b [u0, u1]) : OwnB ((W.setCell ⟨b, 0, none⟩ v0).setCell ⟨b, 1, none⟩ v1) b [v0, v1] := own_set2 o rfl
theorem rtn2 {a b c d e : Int} (h1 : a = c) (h2 : b = d) : Ending.returned (.tuple #[.agg #[.int .i64 a, .int .u64 b], .int .i64 e]) = .returned (.tuple #[.agg #[.int .i64 c, .int .u64 d], .int .i64 e]) := by rw [h1, h2]
set_option maxHeartbeats 2000000 in
set_option maxRecDepth 100000 in
theorem res_w (s a b z d u x y r : Int) (hr : a * x + b * y - z = r) (p0 : -512000000 ≤ a * x) (p1 : a * x ≤ 512000000) (q0 : -512000000 ≤ b * y) (q1 : b * y ≤ 512000000) (r0 : -5318967296 ≤ r) (r1 : r ≤ 5318967296) (w : World) : Calls Try.prog 39 #[.agg #[.int .i64 s, .int .i64 a, .int .i64 b, .int .i64 z, .int .i64 d, .int .i64 u], .agg #[.int .i64 x, .int .i64 y]] w fun e w' => e = .returned (.int .i64 r) ∧ Kept w w' := by
  have k0 : IntKind.i64.wrap (a * x) = a * x := IntWalk.i64_in _ (by omega)
  have k1 : IntKind.i64.wrap (b * y) = b * y := IntWalk.i64_in _ (by omega)
  have k2 : IntKind.i64.wrap (a * x + b * y) = a * x + b * y := IntWalk.i64_in _ (by omega)
  have k3 : IntKind.i64.wrap (a * x + b * y - z) = a * x + b * y - z := IntWalk.i64_in _ (by omega)
  rw [← hr]
  clear hr p0 p1 q0 q1 r0 r1
  go_enter Try.func39, Try.ntmps39
  go_wp2_with fail
  go_ret
  exact ⟨rfl, (by repeat (first | with_reducible exact Kept.refl _ | with_reducible assumption | with_reducible refine Kept.setCell ?_ (by first | (simp; done) | (simp; omega) | omega) _ | with_reducible refine Kept.alloc ?_ _ | with_reducible refine Kept.drewN ?_ _ | with_reducible refine Kept.drew ?_ | with_reducible refine Kept.trans ?_ (by with_reducible assumption) | with_reducible refine Kept.dr ?_ (by with_reducible assumption)))⟩
theorem add_ok (u v : Int) (u0 : -170141183460469231731687303715884105728 ≤ u) (u1 : u < 170141183460469231731687303715884105728) (v0 : -170141183460469231731687303715884105728 ≤ v) (v1 : v < 170141183460469231731687303715884105728) (f0 : -170141183460469231731687303715884105728 ≤ u + v) (f1 : u + v < 170141183460469231731687303715884105728) (w : World) : Calls Try.prog 40 #[.agg #[.int .i64 (wh (u)), .int .u64 (wl (u))], .agg #[.int .i64 (wh (v)), .int .u64 (wl (v))]] w fun e w' => e = .returned (.tuple #[.agg #[.int .i64 (wh (u + v)), .int .u64 (wl (u + v))], .bool true]) ∧ Kept w w' := by
  have h := wadd_w u v u0 u1 v0 v1 w
  rw [(wfit_yes f0 f1).1, (wfit_yes f0 f1).2] at h
  exact h
set_option maxHeartbeats 2000000 in
set_option maxRecDepth 100000 in
theorem resid_no (p : Option Addr) (n c b o : Nat) (M : Ms) (x y : Int) (hn : n ≤ maxLen) (hx : M.chk n ≠ 0) (w : World) (hS : SlM w p n b o M) : Calls Try.prog 20 #[.slice p n c, .agg #[.int .i64 x, .int .i64 y]] w fun e w' => e = .returned (.tuple #[.agg #[.int .i64 0, .int .u64 0], .int .i64 (M.chk n)]) ∧ Kept w w' := by
  have HC := Lib.hid (check_w p n c b o M hn)
  have HS := Lib.hid hS
  clear hS
  obtain ⟨E, hE⟩ : ∃ E, M.chk n = E := ⟨_, rfl⟩
  rw [hE] at HC hx
  rw [hE]
  clear hE
  go_enter Try.func20, Try.ntmps20
  go_wp2_with fail
  refine (HC.out _ (HS.out.kept (by repeat (first | with_reducible exact Kept.refl _ | with_reducible assumption | with_reducible refine Kept.setCell ?_ (by first | (simp; done) | (simp; omega) | omega) _ | with_reducible refine Kept.alloc ?_ _ | with_reducible refine Kept.drewN ?_ _ | with_reducible refine Kept.drew ?_ | with_reducible refine Kept.trans ?_ (by with_reducible assumption) | with_reducible refine Kept.dr ?_ (by with_reducible assumption))))).mono ?_
  rintro e w1 ⟨rfl, hk1⟩
  refine kuz (b := w.heap.size) hk1 (by first | (simp; done) | (simp; omega) | omega) ?_
  intro ha hb hz1_0 hn1_0 hm1_0
  have hf1_0_0 : w1.cell? ⟨w.heap.size, 0, none⟩ = some (.int .i64 x) := (ha _).trans (by first | with_reducible assumption | (simp (maxDischargeDepth := 7) [go_sem]; done) | (simp (maxDischargeDepth := 7) [go_sem, *]; done))
  have hf1_0_1 : w1.cell? ⟨w.heap.size, 1, none⟩ = some (.int .i64 y) := (ha _).trans (by first | with_reducible assumption | (simp (maxDischargeDepth := 7) [go_sem]; done) | (simp (maxDischargeDepth := 7) [go_sem, *]; done))
  try have hg1_0 : ∀ o, w1.frozen? ⟨w.heap.size, o, none⟩ = false := by intro o; rw [hb]; first | (simp (maxDischargeDepth := 7) [go_sem]; done) | (simp (maxDischargeDepth := 7) [go_sem, *]; done)
  clear ha hb
  refine kuz (b := w.heap.size + 1) hk1 (by first | (simp; done) | (simp; omega) | omega) ?_
  intro ha hb hz1_1 hn1_1 hm1_1
  have hf1_1_0 : w1.cell? ⟨w.heap.size + 1, 0, none⟩ = some (.int .i64 0) := (ha _).trans (by first | with_reducible assumption | (simp (maxDischargeDepth := 7) [go_sem]; done) | (simp (maxDischargeDepth := 7) [go_sem, *]; done))
  have hf1_1_1 : w1.cell? ⟨w.heap.size + 1, 1, none⟩ = some (.int .u64 0) := (ha _).trans (by first | with_reducible assumption | (simp (maxDischargeDepth := 7) [go_sem]; done) | (simp (maxDischargeDepth := 7) [go_sem, *]; done))
  try have hg1_1 : ∀ o, w1.frozen? ⟨w.heap.size + 1, o, none⟩ = false := by intro o; rw [hb]; first | (simp (maxDischargeDepth := 7) [go_sem]; done) | (simp (maxDischargeDepth := 7) [go_sem, *]; done)
  clear ha hb
  go_wp2_with fail
  all_goals exact bodyPost_ret (v := .tuple #[.agg #[.int .i64 0, .int .u64 0], .int .i64 E]) (by first | (simp [results, Try.results20, go_sem]; done) | (simp (maxDischargeDepth := 7) [results, Try.results20, go_sem, *]; done)) rfl ⟨rfl, (by repeat (first | with_reducible exact Kept.refl _ | with_reducible assumption | with_reducible refine Kept.setCell ?_ (by first | (simp; done) | (simp; omega) | omega) _ | with_reducible refine Kept.alloc ?_ _ | with_reducible refine Kept.drewN ?_ _ | with_reducible refine Kept.drew ?_ | with_reducible refine Kept.trans ?_ (by with_reducible assumption) | with_reducible refine Kept.dr ?_ (by with_reducible assumption)))⟩
set_option maxHeartbeats 2000000 in
set_option maxRecDepth 100000 in
theorem resid_bad (p : Option Addr) (n c b o : Nat) (M : Ms) (x y : Int) (hn : n ≤ maxLen) (hx : M.chk n = 0) (hp : pok x y = false) (w : World) (hS : SlM w p n b o M) : Calls Try.prog 20 #[.slice p n c, .agg #[.int .i64 x, .int .i64 y]] w fun e w' => e = .returned (.tuple #[.agg #[.int .i64 0, .int .u64 0], .int .i64 1]) ∧ Kept w w' := by
  have HC := Lib.hid (check_w p n c b o M hn)
  have HS := Lib.hid hS
  clear hS
  rw [hx] at HC
  have HV := Lib.hid (pval_w x y)
  rw [hp] at HV
  go_enter Try.func20, Try.ntmps20
  go_wp2_with fail
  refine (HC.out _ (HS.out.kept (by repeat (first | with_reducible exact Kept.refl _ | with_reducible assumption | with_reducible refine Kept.setCell ?_ (by first | (simp; done) | (simp; omega) | omega) _ | with_reducible refine Kept.alloc ?_ _ | with_reducible refine Kept.drewN ?_ _ | with_reducible refine Kept.drew ?_ | with_reducible refine Kept.trans ?_ (by with_reducible assumption) | with_reducible refine Kept.dr ?_ (by with_reducible assumption))))).mono ?_
  rintro e w1 ⟨rfl, hk1⟩
  refine kuz (b := w.heap.size) hk1 (by first | (simp; done) | (simp; omega) | omega) ?_
  intro ha hb hz1_0 hn1_0 hm1_0
  have hf1_0_0 : w1.cell? ⟨w.heap.size, 0, none⟩ = some (.int .i64 x) := (ha _).trans (by first | with_reducible assumption | (simp (maxDischargeDepth := 7) [go_sem]; done) | (simp (maxDischargeDepth := 7) [go_sem, *]; done))
  have hf1_0_1 : w1.cell? ⟨w.heap.size, 1, none⟩ = some (.int .i64 y) := (ha _).trans (by first | with_reducible assumption | (simp (maxDischargeDepth := 7) [go_sem]; done) | (simp (maxDischargeDepth := 7) [go_sem, *]; done))
  try have hg1_0 : ∀ o, w1.frozen? ⟨w.heap.size, o, none⟩ = false := by intro o; rw [hb]; first | (simp (maxDischargeDepth := 7) [go_sem]; done) | (simp (maxDischargeDepth := 7) [go_sem, *]; done)
  clear ha hb
  refine kuz (b := w.heap.size + 1) hk1 (by first | (simp; done) | (simp; omega) | omega) ?_
  intro ha hb hz1_1 hn1_1 hm1_1
  have hf1_1_0 : w1.cell? ⟨w.heap.size + 1, 0, none⟩ = some (.int .i64 0) := (ha _).trans (by first | with_reducible assumption | (simp (maxDischargeDepth := 7) [go_sem]; done) | (simp (maxDischargeDepth := 7) [go_sem, *]; done))
  have hf1_1_1 : w1.cell? ⟨w.heap.size + 1, 1, none⟩ = some (.int .u64 0) := (ha _).trans (by first | with_reducible assumption | (simp (maxDischargeDepth := 7) [go_sem]; done) | (simp (maxDischargeDepth := 7) [go_sem, *]; done))
  try have hg1_1 : ∀ o, w1.frozen? ⟨w.heap.size + 1, o, none⟩ = false := by intro o; rw [hb]; first | (simp (maxDischargeDepth := 7) [go_sem]; done) | (simp (maxDischargeDepth := 7) [go_sem, *]; done)
  clear ha hb
  go_wp2_with fail
  with_reducible refine (HV.out _).mono ?_
  rintro e w2 ⟨rfl, hk2⟩
  refine kuz (b := w.heap.size) hk2 (by first | (simp; done) | (simp; omega) | omega) ?_
  intro ha hb hz2_0 hn2_0 hm2_0
  have hf2_0_0 := (ha _).trans hf1_0_0
  have hf2_0_1 := (ha _).trans hf1_0_1
  have hg2_0 := fun o => (hb o).trans (hg1_0 o)
  clear ha hb
  refine kuz (b := w.heap.size + 1) hk2 (by first | (simp; done) | (simp; omega) | omega) ?_
  intro ha hb hz2_1 hn2_1 hm2_1
  have hf2_1_0 := (ha _).trans hf1_1_0
  have hf2_1_1 := (ha _).trans hf1_1_1
  have hg2_1 := fun o => (hb o).trans (hg1_1 o)
  clear ha hb
  try clear hf1_0_0
  try clear hf1_0_1
  try clear hf1_1_0
  try clear hf1_1_1
  try clear hg1_0
  try clear hg1_1
  try clear hz1_1
  go_wp2_with fail
  all_goals exact bodyPost_ret (v := .tuple #[.agg #[.int .i64 0, .int .u64 0], .int .i64 1]) (by first | (simp [results, Try.results20, go_sem]; done) | (simp (maxDischargeDepth := 7) [results, Try.results20, go_sem, *]; done)) rfl ⟨rfl, (by repeat (first | with_reducible exact Kept.refl _ | with_reducible assumption | with_reducible refine Kept.setCell ?_ (by first | (simp; done) | (simp; omega) | omega) _ | with_reducible refine Kept.alloc ?_ _ | with_reducible refine Kept.drewN ?_ _ | with_reducible refine Kept.drew ?_ | with_reducible refine Kept.trans ?_ (by with_reducible assumption) | with_reducible refine Kept.dr ?_ (by with_reducible assumption)))⟩
set_option maxHeartbeats 4000000 in
set_option maxRecDepth 100000 in
theorem resid_ok (p : Option Addr) (n c b o : Nat) (M : Ms) (x y : Int) (hn : n ≤ maxLen) (hx : M.chk n = 0) (hp : pok x y = true) (w : World) (hS : SlM w p n b o M) : Calls Try.prog 20 #[.slice p n c, .agg #[.int .i64 x, .int .i64 y]] w fun e w' => e = .returned (.tuple #[.agg #[.int .i64 (wh (M.rr x y n)), .int .u64 (wl (M.rr x y n))], .int .i64 0]) ∧ Kept w w' := by
  obtain ⟨n16, hall⟩ := Ms.chk_0 hx
  have HC := Lib.hid (check_w p n c b o M hn)
  rw [hx] at HC
  have HV := Lib.hid (pval_w x y)
  rw [hp] at HV
  have HS := Lib.hid hS
  have HALL := Lib.hid hall
  clear hS hall hn
  go_enter Try.func20, Try.ntmps20
  go_wp2_with fail
  refine (HC.out _ (HS.out.kept (by repeat (first | with_reducible exact Kept.refl _ | with_reducible assumption | with_reducible refine Kept.setCell ?_ (by first | (simp; done) | (simp; omega) | omega) _ | with_reducible refine Kept.alloc ?_ _ | with_reducible refine Kept.drewN ?_ _ | with_reducible refine Kept.drew ?_ | with_reducible refine Kept.trans ?_ (by with_reducible assumption) | with_reducible refine Kept.dr ?_ (by with_reducible assumption))))).mono ?_
  rintro e w1 ⟨rfl, hk1⟩
  refine kuz (b := w.heap.size) hk1 (by first | (simp; done) | (simp; omega) | omega) ?_
  intro ha hb hz1_0 hn1_0 hm1_0
  have hf1_0_0 : w1.cell? ⟨w.heap.size, 0, none⟩ = some (.int .i64 x) := (ha _).trans (by first | with_reducible assumption | (simp (maxDischargeDepth := 7) [go_sem]; done) | (simp (maxDischargeDepth := 7) [go_sem, *]; done))
  have hf1_0_1 : w1.cell? ⟨w.heap.size, 1, none⟩ = some (.int .i64 y) := (ha _).trans (by first | with_reducible assumption | (simp (maxDischargeDepth := 7) [go_sem]; done) | (simp (maxDischargeDepth := 7) [go_sem, *]; done))
  try have hg1_0 : ∀ o, w1.frozen? ⟨w.heap.size, o, none⟩ = false := by intro o; rw [hb]; first | (simp (maxDischargeDepth := 7) [go_sem]; done) | (simp (maxDischargeDepth := 7) [go_sem, *]; done)
  clear ha hb
  refine kuz (b := w.heap.size + 1) hk1 (by first | (simp; done) | (simp; omega) | omega) ?_
  intro ha hb hz1_1 hn1_1 hm1_1
  have hf1_1_0 : w1.cell? ⟨w.heap.size + 1, 0, none⟩ = some (.int .i64 0) := (ha _).trans (by first | with_reducible assumption | (simp (maxDischargeDepth := 7) [go_sem]; done) | (simp (maxDischargeDepth := 7) [go_sem, *]; done))
  have hf1_1_1 : w1.cell? ⟨w.heap.size + 1, 1, none⟩ = some (.int .u64 0) := (ha _).trans (by first | with_reducible assumption | (simp (maxDischargeDepth := 7) [go_sem]; done) | (simp (maxDischargeDepth := 7) [go_sem, *]; done))
  try have hg1_1 : ∀ o, w1.frozen? ⟨w.heap.size + 1, o, none⟩ = false := by intro o; rw [hb]; first | (simp (maxDischargeDepth := 7) [go_sem]; done) | (simp (maxDischargeDepth := 7) [go_sem, *]; done)
  clear ha hb
  go_wp2_with fail
  with_reducible refine (HV.out _).mono ?_
  rintro e w2 ⟨rfl, hk2⟩
  refine kuz (b := w.heap.size) hk2 (by first | (simp; done) | (simp; omega) | omega) ?_
  intro ha hb hz2_0 hn2_0 hm2_0
  have hf2_0_0 := (ha _).trans hf1_0_0
  have hf2_0_1 := (ha _).trans hf1_0_1
  have hg2_0 := fun o => (hb o).trans (hg1_0 o)
  clear ha hb
  refine kuz (b := w.heap.size + 1) hk2 (by first | (simp; done) | (simp; omega) | omega) ?_
  intro ha hb hz2_1 hn2_1 hm2_1
  have hf2_1_0 := (ha _).trans hf1_1_0
  have hf2_1_1 := (ha _).trans hf1_1_1
  have hg2_1 := fun o => (hb o).trans (hg1_1 o)
  clear ha hb
  try clear hf1_0_0
  try clear hf1_0_1
  try clear hf1_1_0
  try clear hf1_1_1
  try clear hg1_0
  try clear hg1_1
  try clear hz1_1
  go_wp2_with fail
  have hb0 : w.heap.size < w2.heap.size := by omega
  clear HC HV
  go_loopw [23] (fun i wr => ∃ k : Nat, i = .int .i64 k ∧ k ≤ n ∧ Hid (OwnB wr (w.heap.size) [.int .i64 x, .int .i64 y]) ∧ Hid (OwnB wr (w.heap.size + 1) [.int .i64 0, .int .u64 0]) ∧ Hid (OwnB wr (w2.heap.size) [.int .i64 (wh (M.rr x y k)), .int .u64 (wl (M.rr x y k))]) ∧ Hid (Kept w wr)) (fun i _ => n - (intOf i).toNat)
  case atStart => exact ⟨0, rfl, Nat.zero_le _, Lib.hid (OwnB.alloc (show OwnB w2 (w.heap.size) [.int .i64 x, .int .i64 y] from ⟨hz2_0, hg2_0, hf2_0_0, hf2_0_1, trivial⟩) _), Lib.hid (OwnB.alloc (show OwnB w2 (w.heap.size + 1) [.int .i64 0, .int .u64 0] from ⟨hz2_1, hg2_1, hf2_1_0, hf2_1_1, trivial⟩) _), Lib.hid (own_alloc _ [.int .i64 0, .int .u64 0] 34), Lib.hid (by repeat (first | with_reducible exact Kept.refl _ | with_reducible assumption | with_reducible refine Kept.setCell ?_ (by first | (simp; done) | (simp; omega) | omega) _ | with_reducible refine Kept.alloc ?_ _ | with_reducible refine Kept.drewN ?_ _ | with_reducible refine Kept.drew ?_ | with_reducible refine Kept.trans ?_ (by with_reducible assumption) | with_reducible refine Kept.dr ?_ (by with_reducible assumption)))⟩
  case round =>
    obtain ⟨k, rfl, hk, HO0, HO1, HO2, HK⟩ := hrel
    by_cases hlt : k < n
    · have rb := rs_bd (Ms.all_at HALL.out hlt) hp
      have b0 := rr_bd (M := M) (n := k) (by omega) (Ms.all_le HALL.out (by omega)) hp
      have b1 := rr_bd (M := M) (n := k + 1) (by omega) (Ms.all_le HALL.out (by omega)) hp
      obtain ⟨_, _, _, _, _, _, _, _, _, _, _, u0, u1⟩ := mok_yes (Ms.all_at HALL.out hlt)
      obtain ⟨s, hs⟩ : ∃ x, M.s k = x := ⟨_, rfl⟩
      obtain ⟨a, ha⟩ : ∃ x, M.a k = x := ⟨_, rfl⟩
      obtain ⟨bb, hb⟩ : ∃ x, M.b k = x := ⟨_, rfl⟩
      obtain ⟨z, hz⟩ : ∃ x, M.z k = x := ⟨_, rfl⟩
      obtain ⟨ee, he⟩ : ∃ x, M.e k = x := ⟨_, rfl⟩
      obtain ⟨u, hu⟩ : ∃ x, M.u k = x := ⟨_, rfl⟩
      have hS := HS.out.kept HK.out
      have c0 := hS.cs k hlt
      have c1 := hS.ca k hlt
      have c2 := hS.cb k hlt
      have c3 := hS.cz k hlt
      have c4 := hS.ce k hlt
      have c5 := hS.cu k hlt
      obtain ⟨hp, hb_⟩ := hS.hp (by omega)
      rw [hs] at c0
      rw [ha] at c1
      rw [hb] at c2
      rw [hz] at c3
      rw [he] at c4
      rw [hu] at c5
      clear hS
      subst hp
      obtain ⟨r, hr⟩ : ∃ r, M.rs x y k = r := ⟨_, rfl⟩
      have hr2 : a * x + bb * y - z = r := by rw [← hr, ← ha, ← hb, ← hz]; rfl
      have q1 : M.rr x y (k + 1) = M.rr x y k + r * r * u := by rw [← hr, ← hu]; rfl
      rw [ha, hb, hu, hr] at rb
      rw [hu] at u0 u1
      rw [q1] at b1
      obtain ⟨⟨_, _⟩, ⟨_, _⟩, ⟨_, _⟩, ⟨_, _⟩, ⟨_, _⟩⟩ := rb
      have HR := Lib.hid (res_w s a bb z ee u x y r hr2 (by omega) (by omega) (by omega) (by omega) (by omega) (by omega))
      have HM := Lib.hid (wmul_w r r (by omega) (by omega) (by omega) (by omega))
      have HT := Lib.hid (times1_w (r * r) u (by omega) (by omega) (by omega) (by omega) (by omega) (by omega))
      have HA := Lib.hid (add_ok (M.rr x y k) (r * r * u) (by omega) (by omega) (by omega) (by omega) (by omega) (by omega))
      have Q := Lib.hid q1
      have hkk := HK.out
      have hsz := hkk.size
      clear HS HALL HK b0 b1 hr hr2 q1 hs ha hb hz he hu u0 u1
      generalize r * r * u = T at *
      generalize r * r = T2 at *
      obtain ⟨S1, hS1⟩ : ∃ S1, M.rr x y k + T = S1 := ⟨_, rfl⟩
      rw [hS1] at HA Q
      generalize M.rr x y k = S0 at *
      clear hS1
      generalize wh S0 = G0 at *; generalize wl S0 = g0 at *
      obtain ⟨G1, hG1⟩ : ∃ G1, wh S1 = G1 := ⟨_, rfl⟩
      obtain ⟨g1, hg1⟩ : ∃ g1, wl S1 = g1 := ⟨_, rfl⟩
      rw [hG1, hg1] at HA
      have HG1 := Lib.hid hG1
      have Hg1 := Lib.hid hg1
      clear hG1 hg1
      generalize wh T = G2 at *; generalize wl T = g2 at *; generalize wh T2 = G3 at *; generalize wl T2 = g3 at *
      obtain ⟨hz_c9_0, hg_c9_0, hf_c9_0_0, hf_c9_0_1, _⟩ := HO0.out
      obtain ⟨hz_c9_1, hg_c9_1, hf_c9_1_0, hf_c9_1_1, _⟩ := HO1.out
      obtain ⟨hz_c9_2, hg_c9_2, hf_c9_2_0, hf_c9_2_1, _⟩ := HO2.out
      go_wp2_with fail
      with_reducible refine (HR.out _).mono ?_
      rintro e w6 ⟨rfl, hk6⟩
      refine kuz (b := w.heap.size) hk6 (by first | (simp; done) | (simp; omega) | omega) ?_
      intro ha hb hz6_0 hn6_0 hm6_0
      have hf6_0_0 : w6.cell? ⟨w.heap.size, 0, none⟩ = some (.int .i64 x) := (ha _).trans (by first | with_reducible assumption | (simp (maxDischargeDepth := 7) [go_sem]; done) | (simp (maxDischargeDepth := 7) [go_sem, *]; done))
      have hf6_0_1 : w6.cell? ⟨w.heap.size, 1, none⟩ = some (.int .i64 y) := (ha _).trans (by first | with_reducible assumption | (simp (maxDischargeDepth := 7) [go_sem]; done) | (simp (maxDischargeDepth := 7) [go_sem, *]; done))
      try have hg6_0 : ∀ o, w6.frozen? ⟨w.heap.size, o, none⟩ = false := by intro o; rw [hb]; first | (simp (maxDischargeDepth := 7) [go_sem]; done) | (simp (maxDischargeDepth := 7) [go_sem, *]; done)
      clear ha hb
      refine kuz (b := w.heap.size + 1) hk6 (by first | (simp; done) | (simp; omega) | omega) ?_
      intro ha hb hz6_1 hn6_1 hm6_1
      have hf6_1_0 : w6.cell? ⟨w.heap.size + 1, 0, none⟩ = some (.int .i64 0) := (ha _).trans (by first | with_reducible assumption | (simp (maxDischargeDepth := 7) [go_sem]; done) | (simp (maxDischargeDepth := 7) [go_sem, *]; done))
      have hf6_1_1 : w6.cell? ⟨w.heap.size + 1, 1, none⟩ = some (.int .u64 0) := (ha _).trans (by first | with_reducible assumption | (simp (maxDischargeDepth := 7) [go_sem]; done) | (simp (maxDischargeDepth := 7) [go_sem, *]; done))
      try have hg6_1 : ∀ o, w6.frozen? ⟨w.heap.size + 1, o, none⟩ = false := by intro o; rw [hb]; first | (simp (maxDischargeDepth := 7) [go_sem]; done) | (simp (maxDischargeDepth := 7) [go_sem, *]; done)
      clear ha hb
      refine kuz (b := w2.heap.size) hk6 (by first | (simp; done) | (simp; omega) | omega) ?_
      intro ha hb hz6_2 hn6_2 hm6_2
      have hf6_2_0 : w6.cell? ⟨w2.heap.size, 0, none⟩ = some (.int .i64 G0) := (ha _).trans (by first | with_reducible assumption | (simp (maxDischargeDepth := 7) [go_sem]; done) | (simp (maxDischargeDepth := 7) [go_sem, *]; done))
      have hf6_2_1 : w6.cell? ⟨w2.heap.size, 1, none⟩ = some (.int .u64 g0) := (ha _).trans (by first | with_reducible assumption | (simp (maxDischargeDepth := 7) [go_sem]; done) | (simp (maxDischargeDepth := 7) [go_sem, *]; done))
      try have hg6_2 : ∀ o, w6.frozen? ⟨w2.heap.size, o, none⟩ = false := by intro o; rw [hb]; first | (simp (maxDischargeDepth := 7) [go_sem]; done) | (simp (maxDischargeDepth := 7) [go_sem, *]; done)
      clear ha hb
      refine kuz (b := wr.heap.size) hk6 (by first | (simp; done) | (simp; omega) | omega) ?_
      intro ha hb hz6_3 hn6_3 hm6_3
      have hf6_3_0 : w6.cell? ⟨wr.heap.size, 0, none⟩ = some (.int .i64 s) := (ha _).trans (by first | with_reducible assumption | (simp (maxDischargeDepth := 7) [go_sem]; done) | (simp (maxDischargeDepth := 7) [go_sem, *]; done))
      have hf6_3_1 : w6.cell? ⟨wr.heap.size, 1, none⟩ = some (.int .i64 a) := (ha _).trans (by first | with_reducible assumption | (simp (maxDischargeDepth := 7) [go_sem]; done) | (simp (maxDischargeDepth := 7) [go_sem, *]; done))
      have hf6_3_2 : w6.cell? ⟨wr.heap.size, 2, none⟩ = some (.int .i64 bb) := (ha _).trans (by first | with_reducible assumption | (simp (maxDischargeDepth := 7) [go_sem]; done) | (simp (maxDischargeDepth := 7) [go_sem, *]; done))
      have hf6_3_3 : w6.cell? ⟨wr.heap.size, 3, none⟩ = some (.int .i64 z) := (ha _).trans (by first | with_reducible assumption | (simp (maxDischargeDepth := 7) [go_sem]; done) | (simp (maxDischargeDepth := 7) [go_sem, *]; done))
      have hf6_3_4 : w6.cell? ⟨wr.heap.size, 4, none⟩ = some (.int .i64 ee) := (ha _).trans (by first | with_reducible assumption | (simp (maxDischargeDepth := 7) [go_sem]; done) | (simp (maxDischargeDepth := 7) [go_sem, *]; done))
      have hf6_3_5 : w6.cell? ⟨wr.heap.size, 5, none⟩ = some (.int .i64 u) := (ha _).trans (by first | with_reducible assumption | (simp (maxDischargeDepth := 7) [go_sem]; done) | (simp (maxDischargeDepth := 7) [go_sem, *]; done))
      try have hg6_3 : ∀ o, w6.frozen? ⟨wr.heap.size, o, none⟩ = false := by intro o; rw [hb]; first | (simp (maxDischargeDepth := 7) [go_sem]; done) | (simp (maxDischargeDepth := 7) [go_sem, *]; done)
      clear ha hb
      try clear hf_c9_0_0
      try clear hf_c9_0_1
      try clear hf_c9_1_0
      try clear hf_c9_1_1
      try clear hf_c9_2_0
      try clear hf_c9_2_1
      try clear hg_c9_0
      try clear hg_c9_1
      try clear hg_c9_2
      go_wp2_with fail
      have B0 : OwnB w6 (w.heap.size) [.int .i64 x, .int .i64 y] := show OwnB w6 (w.heap.size) [.int .i64 x, .int .i64 y] from ⟨hz6_0, hg6_0, hf6_0_0, hf6_0_1, trivial⟩
      have HC10_0 := Lib.hid B0
      clear B0
      have B1 : OwnB w6 (w.heap.size + 1) [.int .i64 0, .int .u64 0] := show OwnB w6 (w.heap.size + 1) [.int .i64 0, .int .u64 0] from ⟨hz6_1, hg6_1, hf6_1_0, hf6_1_1, trivial⟩
      have HC10_1 := Lib.hid B1
      clear B1
      have B2 : OwnB w6 (w2.heap.size) [.int .i64 G0, .int .u64 g0] := show OwnB w6 (w2.heap.size) [.int .i64 G0, .int .u64 g0] from ⟨hz6_2, hg6_2, hf6_2_0, hf6_2_1, trivial⟩
      have HC10_2 := Lib.hid B2
      clear B2
      have B3 : OwnB w6 (wr.heap.size) [.int .i64 s, .int .i64 a, .int .i64 bb, .int .i64 z, .int .i64 ee, .int .i64 u] := show OwnB w6 (wr.heap.size) [.int .i64 s, .int .i64 a, .int .i64 bb, .int .i64 z, .int .i64 ee, .int .i64 u] from ⟨hz6_3, hg6_3, hf6_3_0, hf6_3_1, hf6_3_2, hf6_3_3, hf6_3_4, hf6_3_5, trivial⟩
      have HC10_3 := Lib.hid B3
      clear B3
      go_region_with (first | (go_at_call 42; with_reducible refine (HM.out _).mono ?_; rintro e w' ⟨rfl, hk⟩; refine kuz (b := w2.heap.size) hk (by first | (simp; done) | (simp; omega) | omega) ?_; intro hq hg hy hn hm; have ff := (hq 0).trans (show _ = some (.int .i64 G0) by first | with_reducible assumption | (simp (maxDischargeDepth := 5) [go_sem]; done) | (simp (maxDischargeDepth := 5) [go_sem, *]; done)); have ff := (hq 1).trans (show _ = some (.int .u64 g0) by first | with_reducible assumption | (simp (maxDischargeDepth := 5) [go_sem]; done) | (simp (maxDischargeDepth := 5) [go_sem, *]; done)); have gg := fun o => (hg o).trans (show _ = false by first | (with_reducible apply_assumption; done) | (simp (maxDischargeDepth := 5) [go_sem]; done) | (simp (maxDischargeDepth := 5) [go_sem, *]; done)); clear hq hg; refine kuz (b := wr.heap.size) hk (by first | (simp; done) | (simp; omega) | omega) ?_; intro hq hg hy hn hm; have ff := (hq 5).trans (show _ = some (.int .i64 u) by first | with_reducible assumption | (simp (maxDischargeDepth := 5) [go_sem]; done) | (simp (maxDischargeDepth := 5) [go_sem, *]; done)); have gg := fun o => (hg o).trans (show _ = false by first | (with_reducible apply_assumption; done) | (simp (maxDischargeDepth := 5) [go_sem]; done) | (simp (maxDischargeDepth := 5) [go_sem, *]; done)); clear hq hg) | (go_at_call 41; with_reducible refine (HT.out _).mono ?_; rintro e w' ⟨rfl, hk⟩; refine kuz (b := w2.heap.size) hk (by first | (simp; done) | (simp; omega) | omega) ?_; intro hq hg hy hn hm; have ff := (hq 0).trans (show _ = some (.int .i64 G0) by first | with_reducible assumption | (simp (maxDischargeDepth := 5) [go_sem]; done) | (simp (maxDischargeDepth := 5) [go_sem, *]; done)); have ff := (hq 1).trans (show _ = some (.int .u64 g0) by first | with_reducible assumption | (simp (maxDischargeDepth := 5) [go_sem]; done) | (simp (maxDischargeDepth := 5) [go_sem, *]; done)); have gg := fun o => (hg o).trans (show _ = false by first | (with_reducible apply_assumption; done) | (simp (maxDischargeDepth := 5) [go_sem]; done) | (simp (maxDischargeDepth := 5) [go_sem, *]; done)); clear hq hg; refine kuz (b := wr.heap.size) hk (by first | (simp; done) | (simp; omega) | omega) ?_; intro hq hg hy hn hm; have ff := (hq 5).trans (show _ = some (.int .i64 u) by first | with_reducible assumption | (simp (maxDischargeDepth := 5) [go_sem]; done) | (simp (maxDischargeDepth := 5) [go_sem, *]; done)); have gg := fun o => (hg o).trans (show _ = false by first | (with_reducible apply_assumption; done) | (simp (maxDischargeDepth := 5) [go_sem]; done) | (simp (maxDischargeDepth := 5) [go_sem, *]; done)); clear hq hg) | (go_at_call 40; with_reducible refine (HA.out _).mono ?_; rintro e w' ⟨rfl, hk⟩; refine kuz (b := w2.heap.size) hk (by first | (simp; done) | (simp; omega) | omega) ?_; intro hq hg hy hn hm; have ff := (hq 0).trans (show _ = some (.int .i64 G0) by first | with_reducible assumption | (simp (maxDischargeDepth := 5) [go_sem]; done) | (simp (maxDischargeDepth := 5) [go_sem, *]; done)); have ff := (hq 1).trans (show _ = some (.int .u64 g0) by first | with_reducible assumption | (simp (maxDischargeDepth := 5) [go_sem]; done) | (simp (maxDischargeDepth := 5) [go_sem, *]; done)); have gg := fun o => (hg o).trans (show _ = false by first | (with_reducible apply_assumption; done) | (simp (maxDischargeDepth := 5) [go_sem]; done) | (simp (maxDischargeDepth := 5) [go_sem, *]; done)); clear hq hg; refine kuz (b := wr.heap.size) hk (by first | (simp; done) | (simp; omega) | omega) ?_; intro hq hg hy hn hm; have ff := (hq 5).trans (show _ = some (.int .i64 u) by first | with_reducible assumption | (simp (maxDischargeDepth := 5) [go_sem]; done) | (simp (maxDischargeDepth := 5) [go_sem, *]; done)); have gg := fun o => (hg o).trans (show _ = false by first | (with_reducible apply_assumption; done) | (simp (maxDischargeDepth := 5) [go_sem]; done) | (simp (maxDischargeDepth := 5) [go_sem, *]; done)); clear hq hg))
      all_goals (try go_wp2_with fail)
      all_goals exact ⟨⟨k + 1, by go_num, by omega, Lib.hid (by repeat (first | with_reducible exact HC10_0.out | with_reducible refine OwnB.setOther ?_ (by first | with_reducible assumption | omega | (simp; done) | (simp; omega)) | with_reducible refine OwnB.drew ?_ | with_reducible refine OwnB.drewN ?_ _ | with_reducible refine OwnB.alloc ?_ _ | with_reducible refine OwnB.kept (by with_reducible assumption) ?_)), Lib.hid (by repeat (first | with_reducible exact HC10_1.out | with_reducible refine OwnB.setOther ?_ (by first | with_reducible assumption | omega | (simp; done) | (simp; omega)) | with_reducible refine OwnB.drew ?_ | with_reducible refine OwnB.drewN ?_ _ | with_reducible refine OwnB.alloc ?_ _ | with_reducible refine OwnB.kept (by with_reducible assumption) ?_)), Lib.hid (by rw [Q.out, HG1.out, Hg1.out]; exact (by repeat (first | with_reducible exact HC10_2.out | with_reducible refine own_s2 (u0 := .int .i64 G0) (u1 := .int .u64 g0) ?_ | with_reducible refine OwnB.setOther ?_ (by first | with_reducible assumption | omega | (simp; done) | (simp; omega)) | with_reducible refine OwnB.drew ?_ | with_reducible refine OwnB.drewN ?_ _ | with_reducible refine OwnB.alloc ?_ _ | with_reducible refine OwnB.kept (by with_reducible assumption) ?_))), Lib.hid (by repeat (first | with_reducible exact Kept.refl _ | with_reducible assumption | with_reducible refine Kept.setCell ?_ (by first | (simp; done) | (simp; omega) | omega) _ | with_reducible refine Kept.alloc ?_ _ | with_reducible refine Kept.drewN ?_ _ | with_reducible refine Kept.drew ?_ | with_reducible refine Kept.trans ?_ (by with_reducible assumption) | with_reducible refine Kept.dr ?_ (by with_reducible assumption)))⟩, by simp [intOf]; omega⟩
    · obtain rfl : k = n := by omega
      have hkk := HK.out
      have hsz := hkk.size
      clear HS HALL HK
      obtain ⟨hz_c9_0, hg_c9_0, hf_c9_0_0, hf_c9_0_1, _⟩ := HO0.out
      obtain ⟨hz_c9_1, hg_c9_1, hf_c9_1_0, hf_c9_1_1, _⟩ := HO1.out
      obtain ⟨hz_c9_2, hg_c9_2, hf_c9_2_0, hf_c9_2_1, _⟩ := HO2.out
      go_wp2_with fail
      exact bodyPost_ret (v := .tuple #[.agg #[.int .i64 (wh (M.rr x y k)), .int .u64 (wl (M.rr x y k))], .int .i64 0]) (by first | (simp [results, Try.results20, go_sem]; done) | (simp (maxDischargeDepth := 7) [results, Try.results20, go_sem, *]; done)) rfl ⟨rfl, (by repeat (first | with_reducible exact Kept.refl _ | with_reducible assumption | with_reducible refine Kept.setCell ?_ (by first | (simp; done) | (simp; omega) | omega) _ | with_reducible refine Kept.alloc ?_ _ | with_reducible refine Kept.drewN ?_ _ | with_reducible refine Kept.drew ?_ | with_reducible refine Kept.trans ?_ (by with_reducible assumption) | with_reducible refine Kept.dr ?_ (by with_reducible assumption)))⟩
end Go.Proofs.Ytoegcfdlecbcjaa
