/-
  Own contracts: the document of layer 42: the least residual.
-/
import Derived.Test.YtoegcfdlecbcjaaLsqq
import Derived.Test.YtoegcfdlecbcjaaWids
import Derived.Test.YtoegcfdlecbcjaaLsqn2
import Derived.Test.YtoegcfdlecbcjaaLsqg
import Derived.WalkKit
import Derived.ProofKit
import Derived.OpenShut
import Derived.WalkLawsBesides
import Derived.WalkSpells
import Derived.Lib.Hide
import Derived.Deep.DeepCutAuto
import Derived.Deep.CutBlock
import Derived.Deep.QuietTactic
import Derived.BigQuiet
import Derived.Handy
import Derived.StillTailTactics
import Derived.IntWalk
import Derived.LoopN
import Derived.Deep.RegionHeld3
namespace Go.Proofs.Ytoegcfdlecbcjaa
open Go.ChangeShapes Go.WideShapes Go.ChangeAt Go.RowKit
set_option linter.unusedVariables false
set_option linter.unusedSimpArgs false
theorem rsolve_err (p : Option Addr) (n c b o : Nat) (M : Ms) (hn : n ≤ maxLen) (hx : M.sE n ≠ 0) (w : World) (hS : SlM w p n b o M) : Calls Try.prog 19 #[.slice p n c] w fun e w' => e = .returned (.tuple #[.agg #[.int .i64 0, .int .u64 0, .int .i64 0, .int .u64 0, .int .i64 0, .int .i64 0, .int .i64 0], .int .i64 (M.sE n)]) ∧ Kept w w' := by
  by_cases h1 : M.chk n = 0
  · by_cases h2 : M.det n = 0
    · rw [Ms.sE_rank h1 h2]; exact rsolve_rank p n c b o M hn h1 h2 w hS
    · cases h3 : pok (M.px n) (M.py n)
      · rw [Ms.sE_rng h1 h2 h3]; exact rsolve_rng p n c b o M hn h1 h2 h3 w hS
      · exact absurd (Ms.sE_ok h1 h2 h3) hx
  · rw [Ms.sE_chk h1]; exact rsolve_no p n c b o M hn h1 w hS
theorem rsolve_good (p : Option Addr) (n c b o : Nat) (M : Ms) (hn : n ≤ maxLen) (hx : M.sE n = 0) (w : World) (hS : SlM w p n b o M) : Calls Try.prog 19 #[.slice p n c] w fun e w' => e = .returned (.tuple #[.agg #[.int .i64 (wh (M.X n)), .int .u64 (wl (M.X n)), .int .i64 (wh (M.Y n)), .int .u64 (wl (M.Y n)), .int .i64 (M.det n), .int .i64 (M.px n), .int .i64 (M.py n)], .int .i64 0]) ∧ Kept w w' :=
  rsolve_ok p n c b o M hn (Ms.sE_0 hx).1 (Ms.sE_0 hx).2.1 (Ms.sE_0 hx).2.2 w hS
theorem radd_ok (u v : Int) (u0 : -170141183460469231731687303715884105728 ≤ u) (u1 : u < 170141183460469231731687303715884105728) (v0 : -170141183460469231731687303715884105728 ≤ v) (v1 : v < 170141183460469231731687303715884105728) (f0 : -170141183460469231731687303715884105728 ≤ u + v) (f1 : u + v < 170141183460469231731687303715884105728) (w : World) : Calls Try.prog 45 #[.agg #[.int .i64 (wh (u)), .int .u64 (wl (u))], .agg #[.int .i64 (wh (v)), .int .u64 (wl (v))]] w fun e w' => e = .returned (.tuple #[.agg #[.int .i64 (wh (u + v)), .int .u64 (wl (u + v))], .bool true]) ∧ Kept w w' := by
  have h := refw_add_w u v u0 u1 v0 v1 w
  rw [(wfit_yes f0 f1).1, (wfit_yes f0 f1).2] at h
  exact h
theorem rsub_ok (u v : Int) (u0 : -170141183460469231731687303715884105728 ≤ u) (u1 : u < 170141183460469231731687303715884105728) (v0 : -170141183460469231731687303715884105728 ≤ v) (v1 : v < 170141183460469231731687303715884105728) (f0 : -170141183460469231731687303715884105728 ≤ u - v) (f1 : u - v < 170141183460469231731687303715884105728) (w : World) : Calls Try.prog 48 #[.agg #[.int .i64 (wh (u)), .int .u64 (wl (u))], .agg #[.int .i64 (wh (v)), .int .u64 (wl (v))]] w fun e w' => e = .returned (.tuple #[.agg #[.int .i64 (wh (u - v)), .int .u64 (wl (u - v))], .bool true]) ∧ Kept w w' := by
  have h := refw_sub_w u v u0 u1 v0 v1 w
  rw [(wfit_yes f0 f1).1, (wfit_yes f0 f1).2] at h
  exact h
theorem rtimes_ok (u x : Int) (u0 : -170141183460469231731687303715884105728 ≤ u) (u1 : u < 170141183460469231731687303715884105728) (x0 : -9223372036854775808 ≤ x) (x1 : x ≤ 9223372036854775807) (f0 : -170141183460469231731687303715884105728 ≤ u * x) (f1 : u * x < 170141183460469231731687303715884105728) (w : World) : Calls Try.prog 43 #[.agg #[.int .i64 (wh (u)), .int .u64 (wl (u))], .int .i64 x] w fun e w' => e = .returned (.tuple #[.agg #[.int .i64 (wh (u * x)), .int .u64 (wl (u * x))], .bool true]) ∧ Kept w w' := by
  have h := ref_times_w u x u0 u1 x0 x1 w
  rw [(wfit_yes f0 f1).1, (wfit_yes f0 f1).2] at h
  exact h
set_option maxHeartbeats 2000000 in
set_option maxRecDepth 100000 in
theorem rleast_err (p : Option Addr) (n c b o : Nat) (M : Ms) (hn : n ≤ maxLen) (hx : M.sE n ≠ 0) (w : World) (hS : SlM w p n b o M) : Calls Try.prog 25 #[.slice p n c] w fun e w' => e = .returned (.tuple #[.agg #[.int .i64 0, .int .u64 0], .int .i64 0, .int .i64 (M.sE n)]) ∧ Kept w w' := by
  have HC := Lib.hid (rsolve_err p n c b o M hn hx)
  have HS := Lib.hid hS
  clear hS
  obtain ⟨E, hE⟩ : ∃ E, M.sE n = E := ⟨_, rfl⟩
  rw [hE] at HC hx
  rw [hE]
  clear hE
  go_enter Try.func25, Try.ntmps25
  go_wp2_with fail
  refine (HC.out _ (HS.out.kept (by repeat (first | with_reducible exact Kept.refl _ | with_reducible assumption | with_reducible refine Kept.setCell ?_ (by first | (simp; done) | (simp; omega) | omega) _ | with_reducible refine Kept.alloc ?_ _ | with_reducible refine Kept.drewN ?_ _ | with_reducible refine Kept.drew ?_ | with_reducible refine Kept.trans ?_ (by with_reducible assumption) | with_reducible refine Kept.dr ?_ (by with_reducible assumption))))).mono ?_
  rintro e w1 ⟨rfl, hk1⟩
  refine kuz (b := w.heap.size) hk1 (by first | (simp; done) | (simp; omega) | omega) ?_
  intro ha hb hz1_0 hn1_0 hm1_0
  have hf1_0_0 : w1.cell? ⟨w.heap.size, 0, none⟩ = some (.int .i64 0) := (ha _).trans (by first | with_reducible assumption | (simp (maxDischargeDepth := 7) [go_sem]; done) | (simp (maxDischargeDepth := 7) [go_sem, *]; done))
  have hf1_0_1 : w1.cell? ⟨w.heap.size, 1, none⟩ = some (.int .u64 0) := (ha _).trans (by first | with_reducible assumption | (simp (maxDischargeDepth := 7) [go_sem]; done) | (simp (maxDischargeDepth := 7) [go_sem, *]; done))
  try have hg1_0 : ∀ o, w1.frozen? ⟨w.heap.size, o, none⟩ = false := by intro o; rw [hb]; first | (simp (maxDischargeDepth := 7) [go_sem]; done) | (simp (maxDischargeDepth := 7) [go_sem, *]; done)
  clear ha hb
  go_wp2_with fail
  all_goals exact bodyPost_ret (v := .tuple #[.agg #[.int .i64 0, .int .u64 0], .int .i64 0, .int .i64 E]) (by first | (simp [results, Try.results25, go_sem]; done) | (simp (maxDischargeDepth := 7) [results, Try.results25, go_sem, *]; done)) rfl ⟨rfl, (by repeat (first | with_reducible exact Kept.refl _ | with_reducible assumption | with_reducible refine Kept.setCell ?_ (by first | (simp; done) | (simp; omega) | omega) _ | with_reducible refine Kept.alloc ?_ _ | with_reducible refine Kept.drewN ?_ _ | with_reducible refine Kept.drew ?_ | with_reducible refine Kept.trans ?_ (by with_reducible assumption) | with_reducible refine Kept.dr ?_ (by with_reducible assumption)))⟩
set_option maxHeartbeats 16000000 in
set_option maxRecDepth 100000 in
theorem rleast_ok (p : Option Addr) (n c b o : Nat) (M : Ms) (hn : n ≤ maxLen) (hx : M.sE n = 0) (w : World) (hS : SlM w p n b o M) : Calls Try.prog 25 #[.slice p n c] w fun e w' => e = .returned (.tuple #[.agg #[.int .i64 (wh (M.num n)), .int .u64 (wl (M.num n))], .int .i64 (M.det n), .int .i64 0]) ∧ Kept w w' := by
  obtain ⟨hx1, hx2, hx3⟩ := Ms.sE_0 hx
  obtain ⟨n16, hall⟩ := Ms.chk_0 hx1
  have mb := mb_of n16 hall
  have mx := mx_of mb
  have mn := mn_of n16 hall
  have HC := Lib.hid (rsolve_good p n c b o M hn hx)
  have HN := Lib.hid (ref_normal_ok p n c b o M hn hx1)
  obtain ⟨m1, m2⟩ := mn.s1
  obtain ⟨m3, m4⟩ := mn.s2
  obtain ⟨m5, m6⟩ := mn.s3
  obtain ⟨z0, z1⟩ := mb.zz
  obtain ⟨c0, c1⟩ := mb.xz
  obtain ⟨c2, c3⟩ := mb.yz
  obtain ⟨x0, x1⟩ := mx.X
  obtain ⟨y0, y1⟩ := mx.Y
  obtain ⟨d0, d1⟩ := mx.d1
  have HT1 := Lib.hid (rtimes_ok (M.zz n) (M.det n) (by omega) (by omega) (by omega) (by omega) (by omega) (by omega))
  have HT2 := Lib.hid (rtimes_ok (M.X n) (M.xz n) (by omega) (by omega) (by omega) (by omega) (by omega) (by omega))
  have HT3 := Lib.hid (rtimes_ok (M.Y n) (M.yz n) (by omega) (by omega) (by omega) (by omega) (by omega) (by omega))
  have HM1 := Lib.hid (rsub_ok (M.zz n * M.det n) (M.X n * M.xz n) (by omega) (by omega) (by omega) (by omega) (by omega) (by omega))
  have HM2 := Lib.hid (rsub_ok (M.zz n * M.det n - M.X n * M.xz n) (M.Y n * M.yz n) (by omega) (by omega) (by omega) (by omega) (by omega) (by omega))
  have HS := Lib.hid hS
  have HALL := Lib.hid hall
  clear hS hall hn hx hx1 hx2 hx3 mb mx mn m1 m2 m3 m4 m5 m6 z0 z1 c0 c1 c2 c3 x0 x1 y0 y1 d0 d1
  go_enter Try.func25, Try.ntmps25
  go_wp2_with fail
  refine (HC.out _ (HS.out.kept (by repeat (first | with_reducible exact Kept.refl _ | with_reducible assumption | with_reducible refine Kept.setCell ?_ (by first | (simp; done) | (simp; omega) | omega) _ | with_reducible refine Kept.alloc ?_ _ | with_reducible refine Kept.drewN ?_ _ | with_reducible refine Kept.drew ?_ | with_reducible refine Kept.trans ?_ (by with_reducible assumption) | with_reducible refine Kept.dr ?_ (by with_reducible assumption))))).mono ?_
  rintro e w1 ⟨rfl, hk1⟩
  refine kuz (b := w.heap.size) hk1 (by first | (simp; done) | (simp; omega) | omega) ?_
  intro ha hb hz1_0 hn1_0 hm1_0
  have hf1_0_0 : w1.cell? ⟨w.heap.size, 0, none⟩ = some (.int .i64 0) := (ha _).trans (by first | with_reducible assumption | (simp (maxDischargeDepth := 7) [go_sem]; done) | (simp (maxDischargeDepth := 7) [go_sem, *]; done))
  have hf1_0_1 : w1.cell? ⟨w.heap.size, 1, none⟩ = some (.int .u64 0) := (ha _).trans (by first | with_reducible assumption | (simp (maxDischargeDepth := 7) [go_sem]; done) | (simp (maxDischargeDepth := 7) [go_sem, *]; done))
  try have hg1_0 : ∀ o, w1.frozen? ⟨w.heap.size, o, none⟩ = false := by intro o; rw [hb]; first | (simp (maxDischargeDepth := 7) [go_sem]; done) | (simp (maxDischargeDepth := 7) [go_sem, *]; done)
  clear ha hb
  go_wp2_with fail
  refine (HN.out _ (HS.out.kept (by repeat (first | with_reducible exact Kept.refl _ | with_reducible assumption | with_reducible refine Kept.setCell ?_ (by first | (simp; done) | (simp; omega) | omega) _ | with_reducible refine Kept.alloc ?_ _ | with_reducible refine Kept.drewN ?_ _ | with_reducible refine Kept.drew ?_ | with_reducible refine Kept.trans ?_ (by with_reducible assumption) | with_reducible refine Kept.dr ?_ (by with_reducible assumption))))).mono ?_
  rintro e w2 ⟨rfl, hk2⟩
  refine kuz (b := w.heap.size) hk2 (by first | (simp; done) | (simp; omega) | omega) ?_
  intro ha hb hz2_0 hn2_0 hm2_0
  have hf2_0_0 : w2.cell? ⟨w.heap.size, 0, none⟩ = some (.int .i64 0) := (ha _).trans (by first | with_reducible assumption | (simp (maxDischargeDepth := 7) [go_sem]; done) | (simp (maxDischargeDepth := 7) [go_sem, *]; done))
  have hf2_0_1 : w2.cell? ⟨w.heap.size, 1, none⟩ = some (.int .u64 0) := (ha _).trans (by first | with_reducible assumption | (simp (maxDischargeDepth := 7) [go_sem]; done) | (simp (maxDischargeDepth := 7) [go_sem, *]; done))
  try have hg2_0 : ∀ o, w2.frozen? ⟨w.heap.size, o, none⟩ = false := by intro o; rw [hb]; first | (simp (maxDischargeDepth := 7) [go_sem]; done) | (simp (maxDischargeDepth := 7) [go_sem, *]; done)
  clear ha hb
  refine kuz (b := w1.heap.size) hk2 (by first | (simp; done) | (simp; omega) | omega) ?_
  intro ha hb hz2_1 hn2_1 hm2_1
  have hf2_1_0 : w2.cell? ⟨w1.heap.size, 0, none⟩ = some (.int .i64 (wh (M.X n))) := (ha _).trans (by first | with_reducible assumption | (simp (maxDischargeDepth := 7) [go_sem]; done) | (simp (maxDischargeDepth := 7) [go_sem, *]; done))
  have hf2_1_1 : w2.cell? ⟨w1.heap.size, 1, none⟩ = some (.int .u64 (wl (M.X n))) := (ha _).trans (by first | with_reducible assumption | (simp (maxDischargeDepth := 7) [go_sem]; done) | (simp (maxDischargeDepth := 7) [go_sem, *]; done))
  have hf2_1_2 : w2.cell? ⟨w1.heap.size, 2, none⟩ = some (.int .i64 (wh (M.Y n))) := (ha _).trans (by first | with_reducible assumption | (simp (maxDischargeDepth := 7) [go_sem]; done) | (simp (maxDischargeDepth := 7) [go_sem, *]; done))
  have hf2_1_3 : w2.cell? ⟨w1.heap.size, 3, none⟩ = some (.int .u64 (wl (M.Y n))) := (ha _).trans (by first | with_reducible assumption | (simp (maxDischargeDepth := 7) [go_sem]; done) | (simp (maxDischargeDepth := 7) [go_sem, *]; done))
  have hf2_1_4 : w2.cell? ⟨w1.heap.size, 4, none⟩ = some (.int .i64 (M.det n)) := (ha _).trans (by first | with_reducible assumption | (simp (maxDischargeDepth := 7) [go_sem]; done) | (simp (maxDischargeDepth := 7) [go_sem, *]; done))
  have hf2_1_5 : w2.cell? ⟨w1.heap.size, 5, none⟩ = some (.int .i64 (M.px n)) := (ha _).trans (by first | with_reducible assumption | (simp (maxDischargeDepth := 7) [go_sem]; done) | (simp (maxDischargeDepth := 7) [go_sem, *]; done))
  have hf2_1_6 : w2.cell? ⟨w1.heap.size, 6, none⟩ = some (.int .i64 (M.py n)) := (ha _).trans (by first | with_reducible assumption | (simp (maxDischargeDepth := 7) [go_sem]; done) | (simp (maxDischargeDepth := 7) [go_sem, *]; done))
  try have hg2_1 : ∀ o, w2.frozen? ⟨w1.heap.size, o, none⟩ = false := by intro o; rw [hb]; first | (simp (maxDischargeDepth := 7) [go_sem]; done) | (simp (maxDischargeDepth := 7) [go_sem, *]; done)
  clear ha hb
  try clear hf1_0_0
  try clear hf1_0_1
  try clear hg1_0
  go_wp2_with fail
  have hb0 : w.heap.size < w1.heap.size := by have := hk1.size; (try simp at this); omega
  have hb1 : w1.heap.size < w2.heap.size := by omega
  clear HC HN
  go_loopw [32] (fun i wr => ∃ k : Nat, i = .int .i64 k ∧ k ≤ n ∧ Hid (OwnB wr (w.heap.size) [.int .i64 0, .int .u64 0]) ∧ Hid (OwnB wr (w1.heap.size) [.int .i64 (wh (M.X n)), .int .u64 (wl (M.X n)), .int .i64 (wh (M.Y n)), .int .u64 (wl (M.Y n)), .int .i64 (M.det n), .int .i64 (M.px n), .int .i64 (M.py n)]) ∧ Hid (OwnB wr (w2.heap.size) [.int .i64 (M.xx n), .int .i64 (M.xy n), .int .i64 (M.yy n), .int .i64 (M.xz n), .int .i64 (M.yz n)]) ∧ Hid (OwnB wr (w2.heap.size + 1) [.int .i64 (wh (M.zz k)), .int .u64 (wl (M.zz k))]) ∧ Hid (Kept w wr)) (fun i _ => n - (intOf i).toNat)
  case atStart => exact ⟨0, rfl, Nat.zero_le _, Lib.hid (OwnB.alloc (OwnB.alloc (show OwnB w2 (w.heap.size) [.int .i64 0, .int .u64 0] from ⟨hz2_0, hg2_0, hf2_0_0, hf2_0_1, trivial⟩) _) _), Lib.hid (OwnB.alloc (OwnB.alloc (show OwnB w2 (w1.heap.size) [.int .i64 (wh (M.X n)), .int .u64 (wl (M.X n)), .int .i64 (wh (M.Y n)), .int .u64 (wl (M.Y n)), .int .i64 (M.det n), .int .i64 (M.px n), .int .i64 (M.py n)] from ⟨hz2_1, hg2_1, hf2_1_0, hf2_1_1, hf2_1_2, hf2_1_3, hf2_1_4, hf2_1_5, hf2_1_6, trivial⟩) _) _), Lib.hid (OwnB.alloc (own_alloc _ [.int .i64 (M.xx n), .int .i64 (M.xy n), .int .i64 (M.yy n), .int .i64 (M.xz n), .int .i64 (M.yz n)] 26) _), Lib.hid (own_allocE _ [.int .i64 0, .int .u64 0] 34 _ (by simp)), Lib.hid (by repeat (first | with_reducible exact Kept.refl _ | with_reducible assumption | with_reducible refine Kept.setCell ?_ (by first | (simp; done) | (simp; omega) | omega) _ | with_reducible refine Kept.alloc ?_ _ | with_reducible refine Kept.drewN ?_ _ | with_reducible refine Kept.drew ?_ | with_reducible refine Kept.trans ?_ (by with_reducible assumption) | with_reducible refine Kept.dr ?_ (by with_reducible assumption)))⟩
  case round =>
    obtain ⟨k, rfl, hk, HO0, HO1, HO2, HO3, HK⟩ := hrel
    by_cases hlt : k < n
    · have b0 := mb_of (M := M) (n := k) (by omega) (Ms.all_le HALL.out (by omega))
      have b1 := mb_of (M := M) (n := k + 1) (by omega) (Ms.all_le HALL.out (by omega))
      have mt := mt_of (Ms.all_at HALL.out hlt)
      obtain ⟨_, _, _, _, _, _, _, zb0, zb1, _, _, u0, u1⟩ := mok_yes (Ms.all_at HALL.out hlt)
      obtain ⟨s, hs⟩ : ∃ x, M.s k = x := ⟨_, rfl⟩
      obtain ⟨a, ha⟩ : ∃ x, M.a k = x := ⟨_, rfl⟩
      obtain ⟨bb, hb⟩ : ∃ x, M.b k = x := ⟨_, rfl⟩
      obtain ⟨z, hz⟩ : ∃ x, M.z k = x := ⟨_, rfl⟩
      obtain ⟨ee, he⟩ : ∃ x, M.e k = x := ⟨_, rfl⟩
      obtain ⟨u, hu⟩ : ∃ x, M.u k = x := ⟨_, rfl⟩
      have hS := HS.out.kept HK.out
      have c0 := hS.cs k hlt
      have c1 := hS.ca k hlt
      have c2 := hS.cb k hlt
      have c3 := hS.cz k hlt
      have c4 := hS.ce k hlt
      have c5 := hS.cu k hlt
      obtain ⟨hp, hb_⟩ := hS.hp (by omega)
      rw [hs] at c0
      rw [ha] at c1
      rw [hb] at c2
      rw [hz] at c3
      rw [he] at c4
      rw [hu] at c5
      clear hS
      subst hp
      rw [hs, ha, hb, hz, he, hu] at mt
      rw [hu] at u0 u1
      rw [hz] at zb0 zb1
      have q1 : M.zz (k + 1) = M.zz k + u * z * z := by rw [← hz, ← hu]; show M.zz k + M.z k * M.z k * M.u k = _; grind
      obtain ⟨d0, d1⟩ := b0.zz
      obtain ⟨e0, e1⟩ := b1.zz
      rw [q1] at e0 e1
      obtain ⟨g2, g3⟩ := mt.zz
      have gu := mulb (p := 16) (q := 4294967296) (by omega) (by omega : -16 ≤ u) u1 zb0 zb1
      obtain ⟨g0, g1⟩ := gu
      have eq3 : u * z * z = z * z * u := by grind
      have w1_ : IntKind.i64.wrap (u * z) = u * z := IntWalk.i64_in _ (by omega)
      have HM := Lib.hid (refw_mul_w (u * z) z (by omega) (by omega) (by omega) (by omega))
      have HA := Lib.hid (radd_ok (M.zz k) (u * z * z) (by omega) (by omega) (by omega) (by omega) (by omega) (by omega))
      have Q := Lib.hid q1
      have hkk := HK.out
      have hsz := hkk.size
      clear eq3 HS HALL HK b0 b1 mt q1 hs ha hb hz he hu u0 u1 d0 d1 e0 e1 g0 g1 g2 g3 zb0 zb1 HT1 HT2 HT3 HM1 HM2
      generalize u * z * z = T at *
      obtain ⟨S1, hS1⟩ : ∃ S1, M.zz k + T = S1 := ⟨_, rfl⟩
      rw [hS1] at HA Q
      generalize M.zz k = S0 at *
      clear hS1
      generalize wh S0 = G0 at *; generalize wl S0 = g0 at *
      obtain ⟨G1, hG1⟩ : ∃ G1, wh S1 = G1 := ⟨_, rfl⟩
      obtain ⟨g1, hg1⟩ : ∃ g1, wl S1 = g1 := ⟨_, rfl⟩
      rw [hG1, hg1] at HA
      have HG1 := Lib.hid hG1
      have Hg1 := Lib.hid hg1
      clear hG1 hg1
      generalize wh T = G2 at *; generalize wl T = g2 at *
      obtain ⟨hz_c9_3, hg_c9_3, hf_c9_3_0, hf_c9_3_1, _⟩ := HO3.out
      have hoo : w2.heap.size + 1 < wr.heap.size := hz_c9_3
      go_upto_region 9 with (fail)
      go_region_with (first | (go_at_call 44; with_reducible refine (HM.out _).mono ?_; rintro e w' ⟨rfl, hk⟩; refine kuz (b := w2.heap.size + 1) hk (by first | (simp; done) | (simp; omega) | omega) ?_; intro hq hg hy hn hm; have ff := (hq 0).trans (show _ = some (.int .i64 G0) by first | with_reducible assumption | (simp (maxDischargeDepth := 5) [go_sem]; done) | (simp (maxDischargeDepth := 5) [go_sem, *]; done)); have ff := (hq 1).trans (show _ = some (.int .u64 g0) by first | with_reducible assumption | (simp (maxDischargeDepth := 5) [go_sem]; done) | (simp (maxDischargeDepth := 5) [go_sem, *]; done)); have gg := fun o => (hg o).trans (show _ = false by first | (with_reducible apply_assumption; done) | (simp (maxDischargeDepth := 5) [go_sem]; done) | (simp (maxDischargeDepth := 5) [go_sem, *]; done)); clear hq hg; refine kuz (b := wr.heap.size) hk (by first | (simp; done) | (simp; omega) | omega) ?_; intro hq hg hy hn hm; have ff := (hq 3).trans (show _ = some (.int .i64 z) by first | with_reducible assumption | (simp (maxDischargeDepth := 5) [go_sem]; done) | (simp (maxDischargeDepth := 5) [go_sem, *]; done)); have ff := (hq 5).trans (show _ = some (.int .i64 u) by first | with_reducible assumption | (simp (maxDischargeDepth := 5) [go_sem]; done) | (simp (maxDischargeDepth := 5) [go_sem, *]; done)); have gg := fun o => (hg o).trans (show _ = false by first | (with_reducible apply_assumption; done) | (simp (maxDischargeDepth := 5) [go_sem]; done) | (simp (maxDischargeDepth := 5) [go_sem, *]; done)); clear hq hg) | (go_at_call 45; with_reducible refine (HA.out _).mono ?_; rintro e w' ⟨rfl, hk⟩; refine kuz (b := w2.heap.size + 1) hk (by first | (simp; done) | (simp; omega) | omega) ?_; intro hq hg hy hn hm; have ff := (hq 0).trans (show _ = some (.int .i64 G0) by first | with_reducible assumption | (simp (maxDischargeDepth := 5) [go_sem]; done) | (simp (maxDischargeDepth := 5) [go_sem, *]; done)); have ff := (hq 1).trans (show _ = some (.int .u64 g0) by first | with_reducible assumption | (simp (maxDischargeDepth := 5) [go_sem]; done) | (simp (maxDischargeDepth := 5) [go_sem, *]; done)); have gg := fun o => (hg o).trans (show _ = false by first | (with_reducible apply_assumption; done) | (simp (maxDischargeDepth := 5) [go_sem]; done) | (simp (maxDischargeDepth := 5) [go_sem, *]; done)); clear hq hg; refine kuz (b := wr.heap.size) hk (by first | (simp; done) | (simp; omega) | omega) ?_; intro hq hg hy hn hm; have ff := (hq 3).trans (show _ = some (.int .i64 z) by first | with_reducible assumption | (simp (maxDischargeDepth := 5) [go_sem]; done) | (simp (maxDischargeDepth := 5) [go_sem, *]; done)); have ff := (hq 5).trans (show _ = some (.int .i64 u) by first | with_reducible assumption | (simp (maxDischargeDepth := 5) [go_sem]; done) | (simp (maxDischargeDepth := 5) [go_sem, *]; done)); have gg := fun o => (hg o).trans (show _ = false by first | (with_reducible apply_assumption; done) | (simp (maxDischargeDepth := 5) [go_sem]; done) | (simp (maxDischargeDepth := 5) [go_sem, *]; done)); clear hq hg))
      all_goals (try go_wp2_with fail)
      all_goals exact ⟨⟨k + 1, by go_num, by omega, Lib.hid (by repeat (first | with_reducible exact HO0.out | with_reducible refine OwnB.setOther ?_ (by first | with_reducible assumption | omega | (simp; done) | (simp; omega)) | with_reducible refine OwnB.drew ?_ | with_reducible refine OwnB.drewN ?_ _ | with_reducible refine OwnB.alloc ?_ _ | with_reducible refine OwnB.kept (by with_reducible assumption) ?_)), Lib.hid (by repeat (first | with_reducible exact HO1.out | with_reducible refine OwnB.setOther ?_ (by first | with_reducible assumption | omega | (simp; done) | (simp; omega)) | with_reducible refine OwnB.drew ?_ | with_reducible refine OwnB.drewN ?_ _ | with_reducible refine OwnB.alloc ?_ _ | with_reducible refine OwnB.kept (by with_reducible assumption) ?_)), Lib.hid (by repeat (first | with_reducible exact HO2.out | with_reducible refine OwnB.setOther ?_ (by first | with_reducible assumption | omega | (simp; done) | (simp; omega)) | with_reducible refine OwnB.drew ?_ | with_reducible refine OwnB.drewN ?_ _ | with_reducible refine OwnB.alloc ?_ _ | with_reducible refine OwnB.kept (by with_reducible assumption) ?_)), Lib.hid (by rw [Q.out, HG1.out, Hg1.out]; exact (by repeat (first | with_reducible exact HO3.out | with_reducible refine own_s2 (u0 := .int .i64 G0) (u1 := .int .u64 g0) ?_ | with_reducible refine OwnB.setOther ?_ (by first | with_reducible assumption | omega | (simp; done) | (simp; omega)) | with_reducible refine OwnB.drew ?_ | with_reducible refine OwnB.drewN ?_ _ | with_reducible refine OwnB.alloc ?_ _ | with_reducible refine OwnB.kept (by with_reducible assumption) ?_))), Lib.hid (by repeat (first | with_reducible exact Kept.refl _ | with_reducible assumption | with_reducible refine Kept.setCell ?_ (by first | (simp; done) | (simp; omega) | omega) _ | with_reducible refine Kept.alloc ?_ _ | with_reducible refine Kept.drewN ?_ _ | with_reducible refine Kept.drew ?_ | with_reducible refine Kept.trans ?_ (by with_reducible assumption) | with_reducible refine Kept.dr ?_ (by with_reducible assumption)))⟩, by simp [intOf]; omega⟩
    · obtain rfl : k = n := by omega
      have hkk := HK.out
      have hsz := hkk.size
      clear HS HALL HK
      obtain ⟨hz_c9_0, hg_c9_0, hf_c9_0_0, hf_c9_0_1, _⟩ := HO0.out
      obtain ⟨hz_c9_1, hg_c9_1, hf_c9_1_0, hf_c9_1_1, hf_c9_1_2, hf_c9_1_3, hf_c9_1_4, hf_c9_1_5, hf_c9_1_6, _⟩ := HO1.out
      obtain ⟨hz_c9_2, hg_c9_2, hf_c9_2_0, hf_c9_2_1, hf_c9_2_2, hf_c9_2_3, hf_c9_2_4, _⟩ := HO2.out
      obtain ⟨hz_c9_3, hg_c9_3, hf_c9_3_0, hf_c9_3_1, _⟩ := HO3.out
      go_wp2_with fail
      with_reducible refine (HT1.out _).mono ?_
      rintro e w6 ⟨rfl, hk6⟩
      refine kuz (b := w.heap.size) hk6 (by first | (simp; done) | (simp; omega) | omega) ?_
      intro ha hb hz6_0 hn6_0 hm6_0
      have hf6_0_0 : w6.cell? ⟨w.heap.size, 0, none⟩ = some (.int .i64 0) := (ha _).trans (by first | with_reducible assumption | (simp (maxDischargeDepth := 7) [go_sem]; done) | (simp (maxDischargeDepth := 7) [go_sem, *]; done))
      have hf6_0_1 : w6.cell? ⟨w.heap.size, 1, none⟩ = some (.int .u64 0) := (ha _).trans (by first | with_reducible assumption | (simp (maxDischargeDepth := 7) [go_sem]; done) | (simp (maxDischargeDepth := 7) [go_sem, *]; done))
      try have hg6_0 : ∀ o, w6.frozen? ⟨w.heap.size, o, none⟩ = false := by intro o; rw [hb]; first | (simp (maxDischargeDepth := 7) [go_sem]; done) | (simp (maxDischargeDepth := 7) [go_sem, *]; done)
      clear ha hb
      refine kuz (b := w1.heap.size) hk6 (by first | (simp; done) | (simp; omega) | omega) ?_
      intro ha hb hz6_1 hn6_1 hm6_1
      have hf6_1_0 : w6.cell? ⟨w1.heap.size, 0, none⟩ = some (.int .i64 (wh (M.X k))) := (ha _).trans (by first | with_reducible assumption | (simp (maxDischargeDepth := 7) [go_sem]; done) | (simp (maxDischargeDepth := 7) [go_sem, *]; done))
      have hf6_1_1 : w6.cell? ⟨w1.heap.size, 1, none⟩ = some (.int .u64 (wl (M.X k))) := (ha _).trans (by first | with_reducible assumption | (simp (maxDischargeDepth := 7) [go_sem]; done) | (simp (maxDischargeDepth := 7) [go_sem, *]; done))
      have hf6_1_2 : w6.cell? ⟨w1.heap.size, 2, none⟩ = some (.int .i64 (wh (M.Y k))) := (ha _).trans (by first | with_reducible assumption | (simp (maxDischargeDepth := 7) [go_sem]; done) | (simp (maxDischargeDepth := 7) [go_sem, *]; done))
      have hf6_1_3 : w6.cell? ⟨w1.heap.size, 3, none⟩ = some (.int .u64 (wl (M.Y k))) := (ha _).trans (by first | with_reducible assumption | (simp (maxDischargeDepth := 7) [go_sem]; done) | (simp (maxDischargeDepth := 7) [go_sem, *]; done))
      have hf6_1_4 : w6.cell? ⟨w1.heap.size, 4, none⟩ = some (.int .i64 (M.det k)) := (ha _).trans (by first | with_reducible assumption | (simp (maxDischargeDepth := 7) [go_sem]; done) | (simp (maxDischargeDepth := 7) [go_sem, *]; done))
      have hf6_1_5 : w6.cell? ⟨w1.heap.size, 5, none⟩ = some (.int .i64 (M.px k)) := (ha _).trans (by first | with_reducible assumption | (simp (maxDischargeDepth := 7) [go_sem]; done) | (simp (maxDischargeDepth := 7) [go_sem, *]; done))
      have hf6_1_6 : w6.cell? ⟨w1.heap.size, 6, none⟩ = some (.int .i64 (M.py k)) := (ha _).trans (by first | with_reducible assumption | (simp (maxDischargeDepth := 7) [go_sem]; done) | (simp (maxDischargeDepth := 7) [go_sem, *]; done))
      try have hg6_1 : ∀ o, w6.frozen? ⟨w1.heap.size, o, none⟩ = false := by intro o; rw [hb]; first | (simp (maxDischargeDepth := 7) [go_sem]; done) | (simp (maxDischargeDepth := 7) [go_sem, *]; done)
      clear ha hb
      refine kuz (b := w2.heap.size) hk6 (by first | (simp; done) | (simp; omega) | omega) ?_
      intro ha hb hz6_2 hn6_2 hm6_2
      have hf6_2_0 : w6.cell? ⟨w2.heap.size, 0, none⟩ = some (.int .i64 (M.xx k)) := (ha _).trans (by first | with_reducible assumption | (simp (maxDischargeDepth := 7) [go_sem]; done) | (simp (maxDischargeDepth := 7) [go_sem, *]; done))
      have hf6_2_1 : w6.cell? ⟨w2.heap.size, 1, none⟩ = some (.int .i64 (M.xy k)) := (ha _).trans (by first | with_reducible assumption | (simp (maxDischargeDepth := 7) [go_sem]; done) | (simp (maxDischargeDepth := 7) [go_sem, *]; done))
      have hf6_2_2 : w6.cell? ⟨w2.heap.size, 2, none⟩ = some (.int .i64 (M.yy k)) := (ha _).trans (by first | with_reducible assumption | (simp (maxDischargeDepth := 7) [go_sem]; done) | (simp (maxDischargeDepth := 7) [go_sem, *]; done))
      have hf6_2_3 : w6.cell? ⟨w2.heap.size, 3, none⟩ = some (.int .i64 (M.xz k)) := (ha _).trans (by first | with_reducible assumption | (simp (maxDischargeDepth := 7) [go_sem]; done) | (simp (maxDischargeDepth := 7) [go_sem, *]; done))
      have hf6_2_4 : w6.cell? ⟨w2.heap.size, 4, none⟩ = some (.int .i64 (M.yz k)) := (ha _).trans (by first | with_reducible assumption | (simp (maxDischargeDepth := 7) [go_sem]; done) | (simp (maxDischargeDepth := 7) [go_sem, *]; done))
      try have hg6_2 : ∀ o, w6.frozen? ⟨w2.heap.size, o, none⟩ = false := by intro o; rw [hb]; first | (simp (maxDischargeDepth := 7) [go_sem]; done) | (simp (maxDischargeDepth := 7) [go_sem, *]; done)
      clear ha hb
      refine kuz (b := w2.heap.size + 1) hk6 (by first | (simp; done) | (simp; omega) | omega) ?_
      intro ha hb hz6_3 hn6_3 hm6_3
      have hf6_3_0 : w6.cell? ⟨w2.heap.size + 1, 0, none⟩ = some (.int .i64 (wh (M.zz k))) := (ha _).trans (by first | with_reducible assumption | (simp (maxDischargeDepth := 7) [go_sem]; done) | (simp (maxDischargeDepth := 7) [go_sem, *]; done))
      have hf6_3_1 : w6.cell? ⟨w2.heap.size + 1, 1, none⟩ = some (.int .u64 (wl (M.zz k))) := (ha _).trans (by first | with_reducible assumption | (simp (maxDischargeDepth := 7) [go_sem]; done) | (simp (maxDischargeDepth := 7) [go_sem, *]; done))
      try have hg6_3 : ∀ o, w6.frozen? ⟨w2.heap.size + 1, o, none⟩ = false := by intro o; rw [hb]; first | (simp (maxDischargeDepth := 7) [go_sem]; done) | (simp (maxDischargeDepth := 7) [go_sem, *]; done)
      clear ha hb
      try clear hf_c9_0_0
      try clear hf_c9_0_1
      try clear hf_c9_1_0
      try clear hf_c9_1_1
      try clear hf_c9_1_2
      try clear hf_c9_1_3
      try clear hf_c9_1_4
      try clear hf_c9_1_5
      try clear hf_c9_1_6
      try clear hf_c9_2_0
      try clear hf_c9_2_1
      try clear hf_c9_2_2
      try clear hf_c9_2_3
      try clear hf_c9_2_4
      try clear hf_c9_3_0
      try clear hf_c9_3_1
      try clear hg_c9_0
      try clear hg_c9_1
      try clear hg_c9_2
      try clear hg_c9_3
      go_wp2_with fail
      with_reducible refine (HT2.out _).mono ?_
      rintro e w7 ⟨rfl, hk7⟩
      refine kuz (b := w.heap.size) hk7 (by first | (simp; done) | (simp; omega) | omega) ?_
      intro ha hb hz7_0 hn7_0 hm7_0
      have hf7_0_0 : w7.cell? ⟨w.heap.size, 0, none⟩ = some (.int .i64 (wh (M.zz k * M.det k))) := (ha _).trans (by first | with_reducible assumption | (simp (maxDischargeDepth := 7) [go_sem]; done) | (simp (maxDischargeDepth := 7) [go_sem, *]; done))
      have hf7_0_1 : w7.cell? ⟨w.heap.size, 1, none⟩ = some (.int .u64 (wl (M.zz k * M.det k))) := (ha _).trans (by first | with_reducible assumption | (simp (maxDischargeDepth := 7) [go_sem]; done) | (simp (maxDischargeDepth := 7) [go_sem, *]; done))
      try have hg7_0 : ∀ o, w7.frozen? ⟨w.heap.size, o, none⟩ = false := by intro o; rw [hb]; first | (simp (maxDischargeDepth := 7) [go_sem]; done) | (simp (maxDischargeDepth := 7) [go_sem, *]; done)
      clear ha hb
      refine kuz (b := w1.heap.size) hk7 (by first | (simp; done) | (simp; omega) | omega) ?_
      intro ha hb hz7_1 hn7_1 hm7_1
      have hf7_1_0 : w7.cell? ⟨w1.heap.size, 0, none⟩ = some (.int .i64 (wh (M.X k))) := (ha _).trans (by first | with_reducible assumption | (simp (maxDischargeDepth := 7) [go_sem]; done) | (simp (maxDischargeDepth := 7) [go_sem, *]; done))
      have hf7_1_1 : w7.cell? ⟨w1.heap.size, 1, none⟩ = some (.int .u64 (wl (M.X k))) := (ha _).trans (by first | with_reducible assumption | (simp (maxDischargeDepth := 7) [go_sem]; done) | (simp (maxDischargeDepth := 7) [go_sem, *]; done))
      have hf7_1_2 : w7.cell? ⟨w1.heap.size, 2, none⟩ = some (.int .i64 (wh (M.Y k))) := (ha _).trans (by first | with_reducible assumption | (simp (maxDischargeDepth := 7) [go_sem]; done) | (simp (maxDischargeDepth := 7) [go_sem, *]; done))
      have hf7_1_3 : w7.cell? ⟨w1.heap.size, 3, none⟩ = some (.int .u64 (wl (M.Y k))) := (ha _).trans (by first | with_reducible assumption | (simp (maxDischargeDepth := 7) [go_sem]; done) | (simp (maxDischargeDepth := 7) [go_sem, *]; done))
      have hf7_1_4 : w7.cell? ⟨w1.heap.size, 4, none⟩ = some (.int .i64 (M.det k)) := (ha _).trans (by first | with_reducible assumption | (simp (maxDischargeDepth := 7) [go_sem]; done) | (simp (maxDischargeDepth := 7) [go_sem, *]; done))
      have hf7_1_5 : w7.cell? ⟨w1.heap.size, 5, none⟩ = some (.int .i64 (M.px k)) := (ha _).trans (by first | with_reducible assumption | (simp (maxDischargeDepth := 7) [go_sem]; done) | (simp (maxDischargeDepth := 7) [go_sem, *]; done))
      have hf7_1_6 : w7.cell? ⟨w1.heap.size, 6, none⟩ = some (.int .i64 (M.py k)) := (ha _).trans (by first | with_reducible assumption | (simp (maxDischargeDepth := 7) [go_sem]; done) | (simp (maxDischargeDepth := 7) [go_sem, *]; done))
      try have hg7_1 : ∀ o, w7.frozen? ⟨w1.heap.size, o, none⟩ = false := by intro o; rw [hb]; first | (simp (maxDischargeDepth := 7) [go_sem]; done) | (simp (maxDischargeDepth := 7) [go_sem, *]; done)
      clear ha hb
      refine kuz (b := w2.heap.size) hk7 (by first | (simp; done) | (simp; omega) | omega) ?_
      intro ha hb hz7_2 hn7_2 hm7_2
      have hf7_2_0 : w7.cell? ⟨w2.heap.size, 0, none⟩ = some (.int .i64 (M.xx k)) := (ha _).trans (by first | with_reducible assumption | (simp (maxDischargeDepth := 7) [go_sem]; done) | (simp (maxDischargeDepth := 7) [go_sem, *]; done))
      have hf7_2_1 : w7.cell? ⟨w2.heap.size, 1, none⟩ = some (.int .i64 (M.xy k)) := (ha _).trans (by first | with_reducible assumption | (simp (maxDischargeDepth := 7) [go_sem]; done) | (simp (maxDischargeDepth := 7) [go_sem, *]; done))
      have hf7_2_2 : w7.cell? ⟨w2.heap.size, 2, none⟩ = some (.int .i64 (M.yy k)) := (ha _).trans (by first | with_reducible assumption | (simp (maxDischargeDepth := 7) [go_sem]; done) | (simp (maxDischargeDepth := 7) [go_sem, *]; done))
      have hf7_2_3 : w7.cell? ⟨w2.heap.size, 3, none⟩ = some (.int .i64 (M.xz k)) := (ha _).trans (by first | with_reducible assumption | (simp (maxDischargeDepth := 7) [go_sem]; done) | (simp (maxDischargeDepth := 7) [go_sem, *]; done))
      have hf7_2_4 : w7.cell? ⟨w2.heap.size, 4, none⟩ = some (.int .i64 (M.yz k)) := (ha _).trans (by first | with_reducible assumption | (simp (maxDischargeDepth := 7) [go_sem]; done) | (simp (maxDischargeDepth := 7) [go_sem, *]; done))
      try have hg7_2 : ∀ o, w7.frozen? ⟨w2.heap.size, o, none⟩ = false := by intro o; rw [hb]; first | (simp (maxDischargeDepth := 7) [go_sem]; done) | (simp (maxDischargeDepth := 7) [go_sem, *]; done)
      clear ha hb
      refine kuz (b := w2.heap.size + 1) hk7 (by first | (simp; done) | (simp; omega) | omega) ?_
      intro ha hb hz7_3 hn7_3 hm7_3
      have hf7_3_0 : w7.cell? ⟨w2.heap.size + 1, 0, none⟩ = some (.int .i64 (wh (M.zz k))) := (ha _).trans (by first | with_reducible assumption | (simp (maxDischargeDepth := 7) [go_sem]; done) | (simp (maxDischargeDepth := 7) [go_sem, *]; done))
      have hf7_3_1 : w7.cell? ⟨w2.heap.size + 1, 1, none⟩ = some (.int .u64 (wl (M.zz k))) := (ha _).trans (by first | with_reducible assumption | (simp (maxDischargeDepth := 7) [go_sem]; done) | (simp (maxDischargeDepth := 7) [go_sem, *]; done))
      try have hg7_3 : ∀ o, w7.frozen? ⟨w2.heap.size + 1, o, none⟩ = false := by intro o; rw [hb]; first | (simp (maxDischargeDepth := 7) [go_sem]; done) | (simp (maxDischargeDepth := 7) [go_sem, *]; done)
      clear ha hb
      try clear hf6_0_0
      try clear hf6_0_1
      try clear hf6_1_0
      try clear hf6_1_1
      try clear hf6_1_2
      try clear hf6_1_3
      try clear hf6_1_4
      try clear hf6_1_5
      try clear hf6_1_6
      try clear hf6_2_0
      try clear hf6_2_1
      try clear hf6_2_2
      try clear hf6_2_3
      try clear hf6_2_4
      try clear hf6_3_0
      try clear hf6_3_1
      try clear hg6_0
      try clear hg6_1
      try clear hg6_2
      try clear hg6_3
      try clear hz6_1
      try clear hz6_2
      try clear hz6_3
      go_wp2_with fail
      with_reducible refine (HT3.out _).mono ?_
      rintro e w8 ⟨rfl, hk8⟩
      refine kuz (b := w.heap.size) hk8 (by first | (simp; done) | (simp; omega) | omega) ?_
      intro ha hb hz8_0 hn8_0 hm8_0
      have hf8_0_0 : w8.cell? ⟨w.heap.size, 0, none⟩ = some (.int .i64 (wh (M.zz k * M.det k))) := (ha _).trans (by first | with_reducible assumption | (simp (maxDischargeDepth := 7) [go_sem]; done) | (simp (maxDischargeDepth := 7) [go_sem, *]; done))
      have hf8_0_1 : w8.cell? ⟨w.heap.size, 1, none⟩ = some (.int .u64 (wl (M.zz k * M.det k))) := (ha _).trans (by first | with_reducible assumption | (simp (maxDischargeDepth := 7) [go_sem]; done) | (simp (maxDischargeDepth := 7) [go_sem, *]; done))
      try have hg8_0 : ∀ o, w8.frozen? ⟨w.heap.size, o, none⟩ = false := by intro o; rw [hb]; first | (simp (maxDischargeDepth := 7) [go_sem]; done) | (simp (maxDischargeDepth := 7) [go_sem, *]; done)
      clear ha hb
      refine kuz (b := w1.heap.size) hk8 (by first | (simp; done) | (simp; omega) | omega) ?_
      intro ha hb hz8_1 hn8_1 hm8_1
      have hf8_1_0 : w8.cell? ⟨w1.heap.size, 0, none⟩ = some (.int .i64 (wh (M.X k))) := (ha _).trans (by first | with_reducible assumption | (simp (maxDischargeDepth := 7) [go_sem]; done) | (simp (maxDischargeDepth := 7) [go_sem, *]; done))
      have hf8_1_1 : w8.cell? ⟨w1.heap.size, 1, none⟩ = some (.int .u64 (wl (M.X k))) := (ha _).trans (by first | with_reducible assumption | (simp (maxDischargeDepth := 7) [go_sem]; done) | (simp (maxDischargeDepth := 7) [go_sem, *]; done))
      have hf8_1_2 : w8.cell? ⟨w1.heap.size, 2, none⟩ = some (.int .i64 (wh (M.Y k))) := (ha _).trans (by first | with_reducible assumption | (simp (maxDischargeDepth := 7) [go_sem]; done) | (simp (maxDischargeDepth := 7) [go_sem, *]; done))
      have hf8_1_3 : w8.cell? ⟨w1.heap.size, 3, none⟩ = some (.int .u64 (wl (M.Y k))) := (ha _).trans (by first | with_reducible assumption | (simp (maxDischargeDepth := 7) [go_sem]; done) | (simp (maxDischargeDepth := 7) [go_sem, *]; done))
      have hf8_1_4 : w8.cell? ⟨w1.heap.size, 4, none⟩ = some (.int .i64 (M.det k)) := (ha _).trans (by first | with_reducible assumption | (simp (maxDischargeDepth := 7) [go_sem]; done) | (simp (maxDischargeDepth := 7) [go_sem, *]; done))
      have hf8_1_5 : w8.cell? ⟨w1.heap.size, 5, none⟩ = some (.int .i64 (M.px k)) := (ha _).trans (by first | with_reducible assumption | (simp (maxDischargeDepth := 7) [go_sem]; done) | (simp (maxDischargeDepth := 7) [go_sem, *]; done))
      have hf8_1_6 : w8.cell? ⟨w1.heap.size, 6, none⟩ = some (.int .i64 (M.py k)) := (ha _).trans (by first | with_reducible assumption | (simp (maxDischargeDepth := 7) [go_sem]; done) | (simp (maxDischargeDepth := 7) [go_sem, *]; done))
      try have hg8_1 : ∀ o, w8.frozen? ⟨w1.heap.size, o, none⟩ = false := by intro o; rw [hb]; first | (simp (maxDischargeDepth := 7) [go_sem]; done) | (simp (maxDischargeDepth := 7) [go_sem, *]; done)
      clear ha hb
      refine kuz (b := w2.heap.size) hk8 (by first | (simp; done) | (simp; omega) | omega) ?_
      intro ha hb hz8_2 hn8_2 hm8_2
      have hf8_2_0 : w8.cell? ⟨w2.heap.size, 0, none⟩ = some (.int .i64 (M.xx k)) := (ha _).trans (by first | with_reducible assumption | (simp (maxDischargeDepth := 7) [go_sem]; done) | (simp (maxDischargeDepth := 7) [go_sem, *]; done))
      have hf8_2_1 : w8.cell? ⟨w2.heap.size, 1, none⟩ = some (.int .i64 (M.xy k)) := (ha _).trans (by first | with_reducible assumption | (simp (maxDischargeDepth := 7) [go_sem]; done) | (simp (maxDischargeDepth := 7) [go_sem, *]; done))
      have hf8_2_2 : w8.cell? ⟨w2.heap.size, 2, none⟩ = some (.int .i64 (M.yy k)) := (ha _).trans (by first | with_reducible assumption | (simp (maxDischargeDepth := 7) [go_sem]; done) | (simp (maxDischargeDepth := 7) [go_sem, *]; done))
      have hf8_2_3 : w8.cell? ⟨w2.heap.size, 3, none⟩ = some (.int .i64 (M.xz k)) := (ha _).trans (by first | with_reducible assumption | (simp (maxDischargeDepth := 7) [go_sem]; done) | (simp (maxDischargeDepth := 7) [go_sem, *]; done))
      have hf8_2_4 : w8.cell? ⟨w2.heap.size, 4, none⟩ = some (.int .i64 (M.yz k)) := (ha _).trans (by first | with_reducible assumption | (simp (maxDischargeDepth := 7) [go_sem]; done) | (simp (maxDischargeDepth := 7) [go_sem, *]; done))
      try have hg8_2 : ∀ o, w8.frozen? ⟨w2.heap.size, o, none⟩ = false := by intro o; rw [hb]; first | (simp (maxDischargeDepth := 7) [go_sem]; done) | (simp (maxDischargeDepth := 7) [go_sem, *]; done)
      clear ha hb
      refine kuz (b := w2.heap.size + 1) hk8 (by first | (simp; done) | (simp; omega) | omega) ?_
      intro ha hb hz8_3 hn8_3 hm8_3
      have hf8_3_0 : w8.cell? ⟨w2.heap.size + 1, 0, none⟩ = some (.int .i64 (wh (M.zz k))) := (ha _).trans (by first | with_reducible assumption | (simp (maxDischargeDepth := 7) [go_sem]; done) | (simp (maxDischargeDepth := 7) [go_sem, *]; done))
      have hf8_3_1 : w8.cell? ⟨w2.heap.size + 1, 1, none⟩ = some (.int .u64 (wl (M.zz k))) := (ha _).trans (by first | with_reducible assumption | (simp (maxDischargeDepth := 7) [go_sem]; done) | (simp (maxDischargeDepth := 7) [go_sem, *]; done))
      try have hg8_3 : ∀ o, w8.frozen? ⟨w2.heap.size + 1, o, none⟩ = false := by intro o; rw [hb]; first | (simp (maxDischargeDepth := 7) [go_sem]; done) | (simp (maxDischargeDepth := 7) [go_sem, *]; done)
      clear ha hb
      refine kuz (b := w7.heap.size) hk8 (by first | (simp; done) | (simp; omega) | omega) ?_
      intro ha hb hz8_4 hn8_4 hm8_4
      have hf8_4_0 : w8.cell? ⟨w7.heap.size, 0, none⟩ = some (.int .i64 (wh (M.X k * M.xz k))) := (ha _).trans (by first | with_reducible assumption | (simp (maxDischargeDepth := 7) [go_sem]; done) | (simp (maxDischargeDepth := 7) [go_sem, *]; done))
      have hf8_4_1 : w8.cell? ⟨w7.heap.size, 1, none⟩ = some (.int .u64 (wl (M.X k * M.xz k))) := (ha _).trans (by first | with_reducible assumption | (simp (maxDischargeDepth := 7) [go_sem]; done) | (simp (maxDischargeDepth := 7) [go_sem, *]; done))
      try have hg8_4 : ∀ o, w8.frozen? ⟨w7.heap.size, o, none⟩ = false := by intro o; rw [hb]; first | (simp (maxDischargeDepth := 7) [go_sem]; done) | (simp (maxDischargeDepth := 7) [go_sem, *]; done)
      clear ha hb
      try clear hf7_0_0
      try clear hf7_0_1
      try clear hf7_1_0
      try clear hf7_1_1
      try clear hf7_1_2
      try clear hf7_1_3
      try clear hf7_1_4
      try clear hf7_1_5
      try clear hf7_1_6
      try clear hf7_2_0
      try clear hf7_2_1
      try clear hf7_2_2
      try clear hf7_2_3
      try clear hf7_2_4
      try clear hf7_3_0
      try clear hf7_3_1
      try clear hg7_0
      try clear hg7_1
      try clear hg7_2
      try clear hg7_3
      try clear hz7_1
      try clear hz7_2
      try clear hz7_3
      go_wp2_with fail
      with_reducible refine (HM1.out _).mono ?_
      rintro e w9 ⟨rfl, hk9⟩
      refine kuz (b := w.heap.size) hk9 (by first | (simp; done) | (simp; omega) | omega) ?_
      intro ha hb hz9_0 hn9_0 hm9_0
      have hf9_0_0 : w9.cell? ⟨w.heap.size, 0, none⟩ = some (.int .i64 (wh (M.zz k * M.det k))) := (ha _).trans (by first | with_reducible assumption | (simp (maxDischargeDepth := 7) [go_sem]; done) | (simp (maxDischargeDepth := 7) [go_sem, *]; done))
      have hf9_0_1 : w9.cell? ⟨w.heap.size, 1, none⟩ = some (.int .u64 (wl (M.zz k * M.det k))) := (ha _).trans (by first | with_reducible assumption | (simp (maxDischargeDepth := 7) [go_sem]; done) | (simp (maxDischargeDepth := 7) [go_sem, *]; done))
      try have hg9_0 : ∀ o, w9.frozen? ⟨w.heap.size, o, none⟩ = false := by intro o; rw [hb]; first | (simp (maxDischargeDepth := 7) [go_sem]; done) | (simp (maxDischargeDepth := 7) [go_sem, *]; done)
      clear ha hb
      refine kuz (b := w1.heap.size) hk9 (by first | (simp; done) | (simp; omega) | omega) ?_
      intro ha hb hz9_1 hn9_1 hm9_1
      have hf9_1_0 : w9.cell? ⟨w1.heap.size, 0, none⟩ = some (.int .i64 (wh (M.X k))) := (ha _).trans (by first | with_reducible assumption | (simp (maxDischargeDepth := 7) [go_sem]; done) | (simp (maxDischargeDepth := 7) [go_sem, *]; done))
      have hf9_1_1 : w9.cell? ⟨w1.heap.size, 1, none⟩ = some (.int .u64 (wl (M.X k))) := (ha _).trans (by first | with_reducible assumption | (simp (maxDischargeDepth := 7) [go_sem]; done) | (simp (maxDischargeDepth := 7) [go_sem, *]; done))
      have hf9_1_2 : w9.cell? ⟨w1.heap.size, 2, none⟩ = some (.int .i64 (wh (M.Y k))) := (ha _).trans (by first | with_reducible assumption | (simp (maxDischargeDepth := 7) [go_sem]; done) | (simp (maxDischargeDepth := 7) [go_sem, *]; done))
      have hf9_1_3 : w9.cell? ⟨w1.heap.size, 3, none⟩ = some (.int .u64 (wl (M.Y k))) := (ha _).trans (by first | with_reducible assumption | (simp (maxDischargeDepth := 7) [go_sem]; done) | (simp (maxDischargeDepth := 7) [go_sem, *]; done))
      have hf9_1_4 : w9.cell? ⟨w1.heap.size, 4, none⟩ = some (.int .i64 (M.det k)) := (ha _).trans (by first | with_reducible assumption | (simp (maxDischargeDepth := 7) [go_sem]; done) | (simp (maxDischargeDepth := 7) [go_sem, *]; done))
      have hf9_1_5 : w9.cell? ⟨w1.heap.size, 5, none⟩ = some (.int .i64 (M.px k)) := (ha _).trans (by first | with_reducible assumption | (simp (maxDischargeDepth := 7) [go_sem]; done) | (simp (maxDischargeDepth := 7) [go_sem, *]; done))
      have hf9_1_6 : w9.cell? ⟨w1.heap.size, 6, none⟩ = some (.int .i64 (M.py k)) := (ha _).trans (by first | with_reducible assumption | (simp (maxDischargeDepth := 7) [go_sem]; done) | (simp (maxDischargeDepth := 7) [go_sem, *]; done))
      try have hg9_1 : ∀ o, w9.frozen? ⟨w1.heap.size, o, none⟩ = false := by intro o; rw [hb]; first | (simp (maxDischargeDepth := 7) [go_sem]; done) | (simp (maxDischargeDepth := 7) [go_sem, *]; done)
      clear ha hb
      refine kuz (b := w2.heap.size) hk9 (by first | (simp; done) | (simp; omega) | omega) ?_
      intro ha hb hz9_2 hn9_2 hm9_2
      have hf9_2_0 : w9.cell? ⟨w2.heap.size, 0, none⟩ = some (.int .i64 (M.xx k)) := (ha _).trans (by first | with_reducible assumption | (simp (maxDischargeDepth := 7) [go_sem]; done) | (simp (maxDischargeDepth := 7) [go_sem, *]; done))
      have hf9_2_1 : w9.cell? ⟨w2.heap.size, 1, none⟩ = some (.int .i64 (M.xy k)) := (ha _).trans (by first | with_reducible assumption | (simp (maxDischargeDepth := 7) [go_sem]; done) | (simp (maxDischargeDepth := 7) [go_sem, *]; done))
      have hf9_2_2 : w9.cell? ⟨w2.heap.size, 2, none⟩ = some (.int .i64 (M.yy k)) := (ha _).trans (by first | with_reducible assumption | (simp (maxDischargeDepth := 7) [go_sem]; done) | (simp (maxDischargeDepth := 7) [go_sem, *]; done))
      have hf9_2_3 : w9.cell? ⟨w2.heap.size, 3, none⟩ = some (.int .i64 (M.xz k)) := (ha _).trans (by first | with_reducible assumption | (simp (maxDischargeDepth := 7) [go_sem]; done) | (simp (maxDischargeDepth := 7) [go_sem, *]; done))
      have hf9_2_4 : w9.cell? ⟨w2.heap.size, 4, none⟩ = some (.int .i64 (M.yz k)) := (ha _).trans (by first | with_reducible assumption | (simp (maxDischargeDepth := 7) [go_sem]; done) | (simp (maxDischargeDepth := 7) [go_sem, *]; done))
      try have hg9_2 : ∀ o, w9.frozen? ⟨w2.heap.size, o, none⟩ = false := by intro o; rw [hb]; first | (simp (maxDischargeDepth := 7) [go_sem]; done) | (simp (maxDischargeDepth := 7) [go_sem, *]; done)
      clear ha hb
      refine kuz (b := w2.heap.size + 1) hk9 (by first | (simp; done) | (simp; omega) | omega) ?_
      intro ha hb hz9_3 hn9_3 hm9_3
      have hf9_3_0 : w9.cell? ⟨w2.heap.size + 1, 0, none⟩ = some (.int .i64 (wh (M.zz k))) := (ha _).trans (by first | with_reducible assumption | (simp (maxDischargeDepth := 7) [go_sem]; done) | (simp (maxDischargeDepth := 7) [go_sem, *]; done))
      have hf9_3_1 : w9.cell? ⟨w2.heap.size + 1, 1, none⟩ = some (.int .u64 (wl (M.zz k))) := (ha _).trans (by first | with_reducible assumption | (simp (maxDischargeDepth := 7) [go_sem]; done) | (simp (maxDischargeDepth := 7) [go_sem, *]; done))
      try have hg9_3 : ∀ o, w9.frozen? ⟨w2.heap.size + 1, o, none⟩ = false := by intro o; rw [hb]; first | (simp (maxDischargeDepth := 7) [go_sem]; done) | (simp (maxDischargeDepth := 7) [go_sem, *]; done)
      clear ha hb
      refine kuz (b := w7.heap.size) hk9 (by first | (simp; done) | (simp; omega) | omega) ?_
      intro ha hb hz9_4 hn9_4 hm9_4
      have hf9_4_0 : w9.cell? ⟨w7.heap.size, 0, none⟩ = some (.int .i64 (wh (M.X k * M.xz k))) := (ha _).trans (by first | with_reducible assumption | (simp (maxDischargeDepth := 7) [go_sem]; done) | (simp (maxDischargeDepth := 7) [go_sem, *]; done))
      have hf9_4_1 : w9.cell? ⟨w7.heap.size, 1, none⟩ = some (.int .u64 (wl (M.X k * M.xz k))) := (ha _).trans (by first | with_reducible assumption | (simp (maxDischargeDepth := 7) [go_sem]; done) | (simp (maxDischargeDepth := 7) [go_sem, *]; done))
      try have hg9_4 : ∀ o, w9.frozen? ⟨w7.heap.size, o, none⟩ = false := by intro o; rw [hb]; first | (simp (maxDischargeDepth := 7) [go_sem]; done) | (simp (maxDischargeDepth := 7) [go_sem, *]; done)
      clear ha hb
      refine kuz (b := w8.heap.size) hk9 (by first | (simp; done) | (simp; omega) | omega) ?_
      intro ha hb hz9_5 hn9_5 hm9_5
      have hf9_5_0 : w9.cell? ⟨w8.heap.size, 0, none⟩ = some (.int .i64 (wh (M.Y k * M.yz k))) := (ha _).trans (by first | with_reducible assumption | (simp (maxDischargeDepth := 7) [go_sem]; done) | (simp (maxDischargeDepth := 7) [go_sem, *]; done))
      have hf9_5_1 : w9.cell? ⟨w8.heap.size, 1, none⟩ = some (.int .u64 (wl (M.Y k * M.yz k))) := (ha _).trans (by first | with_reducible assumption | (simp (maxDischargeDepth := 7) [go_sem]; done) | (simp (maxDischargeDepth := 7) [go_sem, *]; done))
      try have hg9_5 : ∀ o, w9.frozen? ⟨w8.heap.size, o, none⟩ = false := by intro o; rw [hb]; first | (simp (maxDischargeDepth := 7) [go_sem]; done) | (simp (maxDischargeDepth := 7) [go_sem, *]; done)
      clear ha hb
      try clear hf8_0_0
      try clear hf8_0_1
      try clear hf8_1_0
      try clear hf8_1_1
      try clear hf8_1_2
      try clear hf8_1_3
      try clear hf8_1_4
      try clear hf8_1_5
      try clear hf8_1_6
      try clear hf8_2_0
      try clear hf8_2_1
      try clear hf8_2_2
      try clear hf8_2_3
      try clear hf8_2_4
      try clear hf8_3_0
      try clear hf8_3_1
      try clear hf8_4_0
      try clear hf8_4_1
      try clear hg8_0
      try clear hg8_1
      try clear hg8_2
      try clear hg8_3
      try clear hg8_4
      try clear hz8_1
      try clear hz8_2
      try clear hz8_3
      try clear hz8_4
      go_wp2_with fail
      with_reducible refine (HM2.out _).mono ?_
      rintro e w10 ⟨rfl, hk10⟩
      refine kuz (b := w.heap.size) hk10 (by first | (simp; done) | (simp; omega) | omega) ?_
      intro ha hb hz10_0 hn10_0 hm10_0
      have hf10_0_0 : w10.cell? ⟨w.heap.size, 0, none⟩ = some (.int .i64 (wh (M.zz k * M.det k - M.X k * M.xz k))) := (ha _).trans (by first | with_reducible assumption | (simp (maxDischargeDepth := 7) [go_sem]; done) | (simp (maxDischargeDepth := 7) [go_sem, *]; done))
      have hf10_0_1 : w10.cell? ⟨w.heap.size, 1, none⟩ = some (.int .u64 (wl (M.zz k * M.det k - M.X k * M.xz k))) := (ha _).trans (by first | with_reducible assumption | (simp (maxDischargeDepth := 7) [go_sem]; done) | (simp (maxDischargeDepth := 7) [go_sem, *]; done))
      try have hg10_0 : ∀ o, w10.frozen? ⟨w.heap.size, o, none⟩ = false := by intro o; rw [hb]; first | (simp (maxDischargeDepth := 7) [go_sem]; done) | (simp (maxDischargeDepth := 7) [go_sem, *]; done)
      clear ha hb
      refine kuz (b := w1.heap.size) hk10 (by first | (simp; done) | (simp; omega) | omega) ?_
      intro ha hb hz10_1 hn10_1 hm10_1
      have hf10_1_0 : w10.cell? ⟨w1.heap.size, 0, none⟩ = some (.int .i64 (wh (M.X k))) := (ha _).trans (by first | with_reducible assumption | (simp (maxDischargeDepth := 7) [go_sem]; done) | (simp (maxDischargeDepth := 7) [go_sem, *]; done))
      have hf10_1_1 : w10.cell? ⟨w1.heap.size, 1, none⟩ = some (.int .u64 (wl (M.X k))) := (ha _).trans (by first | with_reducible assumption | (simp (maxDischargeDepth := 7) [go_sem]; done) | (simp (maxDischargeDepth := 7) [go_sem, *]; done))
      have hf10_1_2 : w10.cell? ⟨w1.heap.size, 2, none⟩ = some (.int .i64 (wh (M.Y k))) := (ha _).trans (by first | with_reducible assumption | (simp (maxDischargeDepth := 7) [go_sem]; done) | (simp (maxDischargeDepth := 7) [go_sem, *]; done))
      have hf10_1_3 : w10.cell? ⟨w1.heap.size, 3, none⟩ = some (.int .u64 (wl (M.Y k))) := (ha _).trans (by first | with_reducible assumption | (simp (maxDischargeDepth := 7) [go_sem]; done) | (simp (maxDischargeDepth := 7) [go_sem, *]; done))
      have hf10_1_4 : w10.cell? ⟨w1.heap.size, 4, none⟩ = some (.int .i64 (M.det k)) := (ha _).trans (by first | with_reducible assumption | (simp (maxDischargeDepth := 7) [go_sem]; done) | (simp (maxDischargeDepth := 7) [go_sem, *]; done))
      have hf10_1_5 : w10.cell? ⟨w1.heap.size, 5, none⟩ = some (.int .i64 (M.px k)) := (ha _).trans (by first | with_reducible assumption | (simp (maxDischargeDepth := 7) [go_sem]; done) | (simp (maxDischargeDepth := 7) [go_sem, *]; done))
      have hf10_1_6 : w10.cell? ⟨w1.heap.size, 6, none⟩ = some (.int .i64 (M.py k)) := (ha _).trans (by first | with_reducible assumption | (simp (maxDischargeDepth := 7) [go_sem]; done) | (simp (maxDischargeDepth := 7) [go_sem, *]; done))
      try have hg10_1 : ∀ o, w10.frozen? ⟨w1.heap.size, o, none⟩ = false := by intro o; rw [hb]; first | (simp (maxDischargeDepth := 7) [go_sem]; done) | (simp (maxDischargeDepth := 7) [go_sem, *]; done)
      clear ha hb
      refine kuz (b := w2.heap.size) hk10 (by first | (simp; done) | (simp; omega) | omega) ?_
      intro ha hb hz10_2 hn10_2 hm10_2
      have hf10_2_0 : w10.cell? ⟨w2.heap.size, 0, none⟩ = some (.int .i64 (M.xx k)) := (ha _).trans (by first | with_reducible assumption | (simp (maxDischargeDepth := 7) [go_sem]; done) | (simp (maxDischargeDepth := 7) [go_sem, *]; done))
      have hf10_2_1 : w10.cell? ⟨w2.heap.size, 1, none⟩ = some (.int .i64 (M.xy k)) := (ha _).trans (by first | with_reducible assumption | (simp (maxDischargeDepth := 7) [go_sem]; done) | (simp (maxDischargeDepth := 7) [go_sem, *]; done))
      have hf10_2_2 : w10.cell? ⟨w2.heap.size, 2, none⟩ = some (.int .i64 (M.yy k)) := (ha _).trans (by first | with_reducible assumption | (simp (maxDischargeDepth := 7) [go_sem]; done) | (simp (maxDischargeDepth := 7) [go_sem, *]; done))
      have hf10_2_3 : w10.cell? ⟨w2.heap.size, 3, none⟩ = some (.int .i64 (M.xz k)) := (ha _).trans (by first | with_reducible assumption | (simp (maxDischargeDepth := 7) [go_sem]; done) | (simp (maxDischargeDepth := 7) [go_sem, *]; done))
      have hf10_2_4 : w10.cell? ⟨w2.heap.size, 4, none⟩ = some (.int .i64 (M.yz k)) := (ha _).trans (by first | with_reducible assumption | (simp (maxDischargeDepth := 7) [go_sem]; done) | (simp (maxDischargeDepth := 7) [go_sem, *]; done))
      try have hg10_2 : ∀ o, w10.frozen? ⟨w2.heap.size, o, none⟩ = false := by intro o; rw [hb]; first | (simp (maxDischargeDepth := 7) [go_sem]; done) | (simp (maxDischargeDepth := 7) [go_sem, *]; done)
      clear ha hb
      refine kuz (b := w2.heap.size + 1) hk10 (by first | (simp; done) | (simp; omega) | omega) ?_
      intro ha hb hz10_3 hn10_3 hm10_3
      have hf10_3_0 : w10.cell? ⟨w2.heap.size + 1, 0, none⟩ = some (.int .i64 (wh (M.zz k))) := (ha _).trans (by first | with_reducible assumption | (simp (maxDischargeDepth := 7) [go_sem]; done) | (simp (maxDischargeDepth := 7) [go_sem, *]; done))
      have hf10_3_1 : w10.cell? ⟨w2.heap.size + 1, 1, none⟩ = some (.int .u64 (wl (M.zz k))) := (ha _).trans (by first | with_reducible assumption | (simp (maxDischargeDepth := 7) [go_sem]; done) | (simp (maxDischargeDepth := 7) [go_sem, *]; done))
      try have hg10_3 : ∀ o, w10.frozen? ⟨w2.heap.size + 1, o, none⟩ = false := by intro o; rw [hb]; first | (simp (maxDischargeDepth := 7) [go_sem]; done) | (simp (maxDischargeDepth := 7) [go_sem, *]; done)
      clear ha hb
      refine kuz (b := w7.heap.size) hk10 (by first | (simp; done) | (simp; omega) | omega) ?_
      intro ha hb hz10_4 hn10_4 hm10_4
      have hf10_4_0 : w10.cell? ⟨w7.heap.size, 0, none⟩ = some (.int .i64 (wh (M.X k * M.xz k))) := (ha _).trans (by first | with_reducible assumption | (simp (maxDischargeDepth := 7) [go_sem]; done) | (simp (maxDischargeDepth := 7) [go_sem, *]; done))
      have hf10_4_1 : w10.cell? ⟨w7.heap.size, 1, none⟩ = some (.int .u64 (wl (M.X k * M.xz k))) := (ha _).trans (by first | with_reducible assumption | (simp (maxDischargeDepth := 7) [go_sem]; done) | (simp (maxDischargeDepth := 7) [go_sem, *]; done))
      try have hg10_4 : ∀ o, w10.frozen? ⟨w7.heap.size, o, none⟩ = false := by intro o; rw [hb]; first | (simp (maxDischargeDepth := 7) [go_sem]; done) | (simp (maxDischargeDepth := 7) [go_sem, *]; done)
      clear ha hb
      refine kuz (b := w8.heap.size) hk10 (by first | (simp; done) | (simp; omega) | omega) ?_
      intro ha hb hz10_5 hn10_5 hm10_5
      have hf10_5_0 : w10.cell? ⟨w8.heap.size, 0, none⟩ = some (.int .i64 (wh (M.Y k * M.yz k))) := (ha _).trans (by first | with_reducible assumption | (simp (maxDischargeDepth := 7) [go_sem]; done) | (simp (maxDischargeDepth := 7) [go_sem, *]; done))
      have hf10_5_1 : w10.cell? ⟨w8.heap.size, 1, none⟩ = some (.int .u64 (wl (M.Y k * M.yz k))) := (ha _).trans (by first | with_reducible assumption | (simp (maxDischargeDepth := 7) [go_sem]; done) | (simp (maxDischargeDepth := 7) [go_sem, *]; done))
      try have hg10_5 : ∀ o, w10.frozen? ⟨w8.heap.size, o, none⟩ = false := by intro o; rw [hb]; first | (simp (maxDischargeDepth := 7) [go_sem]; done) | (simp (maxDischargeDepth := 7) [go_sem, *]; done)
      clear ha hb
      try clear hf9_0_0
      try clear hf9_0_1
      try clear hf9_1_0
      try clear hf9_1_1
      try clear hf9_1_2
      try clear hf9_1_3
      try clear hf9_1_4
      try clear hf9_1_5
      try clear hf9_1_6
      try clear hf9_2_0
      try clear hf9_2_1
      try clear hf9_2_2
      try clear hf9_2_3
      try clear hf9_2_4
      try clear hf9_3_0
      try clear hf9_3_1
      try clear hf9_4_0
      try clear hf9_4_1
      try clear hf9_5_0
      try clear hf9_5_1
      try clear hg9_0
      try clear hg9_1
      try clear hg9_2
      try clear hg9_3
      try clear hg9_4
      try clear hg9_5
      try clear hz9_1
      try clear hz9_2
      try clear hz9_3
      try clear hz9_4
      try clear hz9_5
      go_upto_region 16 with (fail)
      go_region
      repeat (first | go_values | go_skip | go_guarded | go_step | go_upon)
      all_goals exact bodyPost_ret (v := .tuple #[.agg #[.int .i64 (wh (M.zz k * M.det k - M.X k * M.xz k - M.Y k * M.yz k)), .int .u64 (wl (M.zz k * M.det k - M.X k * M.xz k - M.Y k * M.yz k))], .int .i64 (M.det k), .int .i64 0]) (by simp (maxDischargeDepth := 5) [results, Try.results25, go_sem, *]; done) rfl ⟨rfl, (by repeat (first | with_reducible exact Kept.refl _ | with_reducible assumption | with_reducible refine Kept.setCell ?_ (by first | (simp; done) | (simp; omega) | omega) _ | with_reducible refine Kept.alloc ?_ _ | with_reducible refine Kept.drewN ?_ _ | with_reducible refine Kept.drew ?_ | with_reducible refine Kept.trans ?_ (by with_reducible assumption) | with_reducible refine Kept.dr ?_ (by with_reducible assumption)))⟩
end Go.Proofs.Ytoegcfdlecbcjaa
