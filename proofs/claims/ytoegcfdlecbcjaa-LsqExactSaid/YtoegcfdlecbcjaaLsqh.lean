/-
  Own contracts: package lsq: the least residual.
-/
import Derived.Test.YtoegcfdlecbcjaaLsqe
import Derived.Test.YtoegcfdlecbcjaaLsqg
import Derived.WalkKit
import Derived.ProofKit
import Derived.OpenShut
import Derived.WalkLawsBesides
import Derived.WalkSpells
import Derived.Lib.Hide
import Derived.Deep.DeepCutAuto
import Derived.Deep.CutBlock
import Derived.Deep.QuietTactic
import Derived.BigQuiet
import Derived.Handy
import Derived.StillTailTactics
import Derived.IntWalk
import Derived.LoopN
import Derived.Deep.RegionHeld3
namespace Go.Proofs.Ytoegcfdlecbcjaa
open Go.ChangeShapes Go.WideShapes Go.ChangeAt Go.RowKit
set_option linter.unusedVariables false
set_option linter.unusedSimpArgs false
theorem solve_err (p : Option Addr) (n c b o : Nat) (M : Ms) (hn : n ≤ maxLen) (hx : M.sE n ≠ 0) (w : World) (hS : SlM w p n b o M) : Calls Try.prog 18 #[.slice p n c] w fun e w' => e = .returned (.tuple #[.agg #[.int .i64 0, .int .u64 0, .int .i64 0, .int .u64 0, .int .i64 0, .int .i64 0, .int .i64 0], .int .i64 (M.sE n)]) ∧ Kept w w' := by
  by_cases h1 : M.chk n = 0
  · by_cases h2 : M.det n = 0
    · rw [Ms.sE_rank h1 h2]; exact solve_rank p n c b o M hn h1 h2 w hS
    · cases h3 : pok (M.px n) (M.py n)
      · rw [Ms.sE_rng h1 h2 h3]; exact solve_rng p n c b o M hn h1 h2 h3 w hS
      · exact absurd (Ms.sE_ok h1 h2 h3) hx
  · rw [Ms.sE_chk h1]; exact solve_no p n c b o M hn h1 w hS
theorem solve_good (p : Option Addr) (n c b o : Nat) (M : Ms) (hn : n ≤ maxLen) (hx : M.sE n = 0) (w : World) (hS : SlM w p n b o M) : Calls Try.prog 18 #[.slice p n c] w fun e w' => e = .returned (.tuple #[.agg #[.int .i64 (wh (M.X n)), .int .u64 (wl (M.X n)), .int .i64 (wh (M.Y n)), .int .u64 (wl (M.Y n)), .int .i64 (M.det n), .int .i64 (M.px n), .int .i64 (M.py n)], .int .i64 0]) ∧ Kept w w' :=
  solve_ok p n c b o M hn (Ms.sE_0 hx).1 (Ms.sE_0 hx).2.1 (Ms.sE_0 hx).2.2 w hS
set_option maxHeartbeats 2000000 in
set_option maxRecDepth 100000 in
theorem least_err (p : Option Addr) (n c b o : Nat) (M : Ms) (hn : n ≤ maxLen) (hx : M.sE n ≠ 0) (w : World) (hS : SlM w p n b o M) : Calls Try.prog 24 #[.slice p n c] w fun e w' => e = .returned (.tuple #[.agg #[.int .i64 0, .int .u64 0], .int .i64 0, .int .i64 (M.sE n)]) ∧ Kept w w' := by
  have HC := Lib.hid (solve_err p n c b o M hn hx)
  have HS := Lib.hid hS
  clear hS
  obtain ⟨E, hE⟩ : ∃ E, M.sE n = E := ⟨_, rfl⟩
  rw [hE] at HC hx
  rw [hE]
  clear hE
  go_enter Try.func24, Try.ntmps24
  go_wp2_with fail
  refine (HC.out _ (HS.out.kept (by repeat (first | with_reducible exact Kept.refl _ | with_reducible assumption | with_reducible refine Kept.setCell ?_ (by first | (simp; done) | (simp; omega) | omega) _ | with_reducible refine Kept.alloc ?_ _ | with_reducible refine Kept.drewN ?_ _ | with_reducible refine Kept.drew ?_ | with_reducible refine Kept.trans ?_ (by with_reducible assumption) | with_reducible refine Kept.dr ?_ (by with_reducible assumption))))).mono ?_
  rintro e w1 ⟨rfl, hk1⟩
  refine kuz (b := w.heap.size) hk1 (by first | (simp; done) | (simp; omega) | omega) ?_
  intro ha hb hz1_0 hn1_0 hm1_0
  have hf1_0_0 : w1.cell? ⟨w.heap.size, 0, none⟩ = some (.int .i64 0) := (ha _).trans (by first | with_reducible assumption | (simp (maxDischargeDepth := 7) [go_sem]; done) | (simp (maxDischargeDepth := 7) [go_sem, *]; done))
  have hf1_0_1 : w1.cell? ⟨w.heap.size, 1, none⟩ = some (.int .u64 0) := (ha _).trans (by first | with_reducible assumption | (simp (maxDischargeDepth := 7) [go_sem]; done) | (simp (maxDischargeDepth := 7) [go_sem, *]; done))
  try have hg1_0 : ∀ o, w1.frozen? ⟨w.heap.size, o, none⟩ = false := by intro o; rw [hb]; first | (simp (maxDischargeDepth := 7) [go_sem]; done) | (simp (maxDischargeDepth := 7) [go_sem, *]; done)
  clear ha hb
  go_wp2_with fail
  all_goals exact bodyPost_ret (v := .tuple #[.agg #[.int .i64 0, .int .u64 0], .int .i64 0, .int .i64 E]) (by first | (simp [results, Try.results24, go_sem]; done) | (simp (maxDischargeDepth := 7) [results, Try.results24, go_sem, *]; done)) rfl ⟨rfl, (by repeat (first | with_reducible exact Kept.refl _ | with_reducible assumption | with_reducible refine Kept.setCell ?_ (by first | (simp; done) | (simp; omega) | omega) _ | with_reducible refine Kept.alloc ?_ _ | with_reducible refine Kept.drewN ?_ _ | with_reducible refine Kept.drew ?_ | with_reducible refine Kept.trans ?_ (by with_reducible assumption) | with_reducible refine Kept.dr ?_ (by with_reducible assumption)))⟩
set_option maxHeartbeats 8000000 in
set_option maxRecDepth 100000 in
theorem least_ok (p : Option Addr) (n c b o : Nat) (M : Ms) (hn : n ≤ maxLen) (hx : M.sE n = 0) (w : World) (hS : SlM w p n b o M) : Calls Try.prog 24 #[.slice p n c] w fun e w' => e = .returned (.tuple #[.agg #[.int .i64 (wh (M.num n)), .int .u64 (wl (M.num n))], .int .i64 (M.det n), .int .i64 0]) ∧ Kept w w' := by
  obtain ⟨hx1, hx2, hx3⟩ := Ms.sE_0 hx
  obtain ⟨n16, hall⟩ := Ms.chk_0 hx1
  have mb := mb_of n16 hall
  have mx := mx_of mb
  have mn := mn_of n16 hall
  have HC := Lib.hid (solve_good p n c b o M hn hx)
  have HN := Lib.hid (normal_ok p n c b o M hn hx1)
  obtain ⟨m1, m2⟩ := mn.s1
  obtain ⟨m3, m4⟩ := mn.s2
  obtain ⟨m5, m6⟩ := mn.s3
  obtain ⟨z0, z1⟩ := mb.zz
  obtain ⟨c0, c1⟩ := mb.xz
  obtain ⟨c2, c3⟩ := mb.yz
  obtain ⟨x0, x1⟩ := mx.X
  obtain ⟨y0, y1⟩ := mx.Y
  obtain ⟨d0, d1⟩ := mx.d1
  have HT1 := Lib.hid (times1_w (M.zz n) (M.det n) (by omega) (by omega) (by omega) (by omega) (by omega) (by omega))
  have HT2 := Lib.hid (times1_w (M.X n) (M.xz n) (by omega) (by omega) (by omega) (by omega) (by omega) (by omega))
  have HT3 := Lib.hid (times1_w (M.Y n) (M.yz n) (by omega) (by omega) (by omega) (by omega) (by omega) (by omega))
  have HM1 := Lib.hid (minus_w (M.zz n * M.det n) (M.X n * M.xz n) (by omega) (by omega) (by omega) (by omega) (by omega) (by omega))
  have HM2 := Lib.hid (minus_w (M.zz n * M.det n - M.X n * M.xz n) (M.Y n * M.yz n) (by omega) (by omega) (by omega) (by omega) (by omega) (by omega))
  have HS := Lib.hid hS
  have HALL := Lib.hid hall
  clear hS hall hn hx hx1 hx2 hx3 mb mx mn m1 m2 m3 m4 m5 m6 z0 z1 c0 c1 c2 c3 x0 x1 y0 y1 d0 d1
  go_enter Try.func24, Try.ntmps24
  go_wp2_with fail
  refine (HC.out _ (HS.out.kept (by repeat (first | with_reducible exact Kept.refl _ | with_reducible assumption | with_reducible refine Kept.setCell ?_ (by first | (simp; done) | (simp; omega) | omega) _ | with_reducible refine Kept.alloc ?_ _ | with_reducible refine Kept.drewN ?_ _ | with_reducible refine Kept.drew ?_ | with_reducible refine Kept.trans ?_ (by with_reducible assumption) | with_reducible refine Kept.dr ?_ (by with_reducible assumption))))).mono ?_
  rintro e w1 ⟨rfl, hk1⟩
  refine kuz (b := w.heap.size) hk1 (by first | (simp; done) | (simp; omega) | omega) ?_
  intro ha hb hz1_0 hn1_0 hm1_0
  have hf1_0_0 : w1.cell? ⟨w.heap.size, 0, none⟩ = some (.int .i64 0) := (ha _).trans (by first | with_reducible assumption | (simp (maxDischargeDepth := 7) [go_sem]; done) | (simp (maxDischargeDepth := 7) [go_sem, *]; done))
  have hf1_0_1 : w1.cell? ⟨w.heap.size, 1, none⟩ = some (.int .u64 0) := (ha _).trans (by first | with_reducible assumption | (simp (maxDischargeDepth := 7) [go_sem]; done) | (simp (maxDischargeDepth := 7) [go_sem, *]; done))
  try have hg1_0 : ∀ o, w1.frozen? ⟨w.heap.size, o, none⟩ = false := by intro o; rw [hb]; first | (simp (maxDischargeDepth := 7) [go_sem]; done) | (simp (maxDischargeDepth := 7) [go_sem, *]; done)
  clear ha hb
  go_wp2_with fail
  refine (HN.out _ (HS.out.kept (by repeat (first | with_reducible exact Kept.refl _ | with_reducible assumption | with_reducible refine Kept.setCell ?_ (by first | (simp; done) | (simp; omega) | omega) _ | with_reducible refine Kept.alloc ?_ _ | with_reducible refine Kept.drewN ?_ _ | with_reducible refine Kept.drew ?_ | with_reducible refine Kept.trans ?_ (by with_reducible assumption) | with_reducible refine Kept.dr ?_ (by with_reducible assumption))))).mono ?_
  rintro e w2 ⟨rfl, hk2⟩
  refine kuz (b := w.heap.size) hk2 (by first | (simp; done) | (simp; omega) | omega) ?_
  intro ha hb hz2_0 hn2_0 hm2_0
  have hf2_0_0 : w2.cell? ⟨w.heap.size, 0, none⟩ = some (.int .i64 0) := (ha _).trans (by first | with_reducible assumption | (simp (maxDischargeDepth := 7) [go_sem]; done) | (simp (maxDischargeDepth := 7) [go_sem, *]; done))
  have hf2_0_1 : w2.cell? ⟨w.heap.size, 1, none⟩ = some (.int .u64 0) := (ha _).trans (by first | with_reducible assumption | (simp (maxDischargeDepth := 7) [go_sem]; done) | (simp (maxDischargeDepth := 7) [go_sem, *]; done))
  try have hg2_0 : ∀ o, w2.frozen? ⟨w.heap.size, o, none⟩ = false := by intro o; rw [hb]; first | (simp (maxDischargeDepth := 7) [go_sem]; done) | (simp (maxDischargeDepth := 7) [go_sem, *]; done)
  clear ha hb
  refine kuz (b := w1.heap.size) hk2 (by first | (simp; done) | (simp; omega) | omega) ?_
  intro ha hb hz2_1 hn2_1 hm2_1
  have hf2_1_0 : w2.cell? ⟨w1.heap.size, 0, none⟩ = some (.int .i64 (wh (M.X n))) := (ha _).trans (by first | with_reducible assumption | (simp (maxDischargeDepth := 7) [go_sem]; done) | (simp (maxDischargeDepth := 7) [go_sem, *]; done))
  have hf2_1_1 : w2.cell? ⟨w1.heap.size, 1, none⟩ = some (.int .u64 (wl (M.X n))) := (ha _).trans (by first | with_reducible assumption | (simp (maxDischargeDepth := 7) [go_sem]; done) | (simp (maxDischargeDepth := 7) [go_sem, *]; done))
  have hf2_1_2 : w2.cell? ⟨w1.heap.size, 2, none⟩ = some (.int .i64 (wh (M.Y n))) := (ha _).trans (by first | with_reducible assumption | (simp (maxDischargeDepth := 7) [go_sem]; done) | (simp (maxDischargeDepth := 7) [go_sem, *]; done))
  have hf2_1_3 : w2.cell? ⟨w1.heap.size, 3, none⟩ = some (.int .u64 (wl (M.Y n))) := (ha _).trans (by first | with_reducible assumption | (simp (maxDischargeDepth := 7) [go_sem]; done) | (simp (maxDischargeDepth := 7) [go_sem, *]; done))
  have hf2_1_4 : w2.cell? ⟨w1.heap.size, 4, none⟩ = some (.int .i64 (M.det n)) := (ha _).trans (by first | with_reducible assumption | (simp (maxDischargeDepth := 7) [go_sem]; done) | (simp (maxDischargeDepth := 7) [go_sem, *]; done))
  have hf2_1_5 : w2.cell? ⟨w1.heap.size, 5, none⟩ = some (.int .i64 (M.px n)) := (ha _).trans (by first | with_reducible assumption | (simp (maxDischargeDepth := 7) [go_sem]; done) | (simp (maxDischargeDepth := 7) [go_sem, *]; done))
  have hf2_1_6 : w2.cell? ⟨w1.heap.size, 6, none⟩ = some (.int .i64 (M.py n)) := (ha _).trans (by first | with_reducible assumption | (simp (maxDischargeDepth := 7) [go_sem]; done) | (simp (maxDischargeDepth := 7) [go_sem, *]; done))
  try have hg2_1 : ∀ o, w2.frozen? ⟨w1.heap.size, o, none⟩ = false := by intro o; rw [hb]; first | (simp (maxDischargeDepth := 7) [go_sem]; done) | (simp (maxDischargeDepth := 7) [go_sem, *]; done)
  clear ha hb
  try clear hf1_0_0
  try clear hf1_0_1
  try clear hg1_0
  go_wp2_with fail
  have hb0 : w.heap.size < w1.heap.size := by have := hk1.size; (try simp at this); omega
  have hb1 : w1.heap.size < w2.heap.size := by omega
  clear HC HN
  go_loopw [27] (fun i wr => ∃ k : Nat, i = .int .i64 k ∧ k ≤ n ∧ Hid (OwnB wr (w.heap.size) [.int .i64 0, .int .u64 0]) ∧ Hid (OwnB wr (w1.heap.size) [.int .i64 (wh (M.X n)), .int .u64 (wl (M.X n)), .int .i64 (wh (M.Y n)), .int .u64 (wl (M.Y n)), .int .i64 (M.det n), .int .i64 (M.px n), .int .i64 (M.py n)]) ∧ Hid (OwnB wr (w2.heap.size) [.int .i64 (M.xx n), .int .i64 (M.xy n), .int .i64 (M.yy n), .int .i64 (M.xz n), .int .i64 (M.yz n)]) ∧ Hid (OwnB wr (w2.heap.size + 1) [.int .i64 (wh (M.zz k)), .int .u64 (wl (M.zz k))]) ∧ Hid (Kept w wr)) (fun i _ => n - (intOf i).toNat)
  case atStart => exact ⟨0, rfl, Nat.zero_le _, Lib.hid (OwnB.alloc (OwnB.alloc (show OwnB w2 (w.heap.size) [.int .i64 0, .int .u64 0] from ⟨hz2_0, hg2_0, hf2_0_0, hf2_0_1, trivial⟩) _) _), Lib.hid (OwnB.alloc (OwnB.alloc (show OwnB w2 (w1.heap.size) [.int .i64 (wh (M.X n)), .int .u64 (wl (M.X n)), .int .i64 (wh (M.Y n)), .int .u64 (wl (M.Y n)), .int .i64 (M.det n), .int .i64 (M.px n), .int .i64 (M.py n)] from ⟨hz2_1, hg2_1, hf2_1_0, hf2_1_1, hf2_1_2, hf2_1_3, hf2_1_4, hf2_1_5, hf2_1_6, trivial⟩) _) _), Lib.hid (OwnB.alloc (own_alloc _ [.int .i64 (M.xx n), .int .i64 (M.xy n), .int .i64 (M.yy n), .int .i64 (M.xz n), .int .i64 (M.yz n)] 26) _), Lib.hid (own_allocE _ [.int .i64 0, .int .u64 0] 34 _ (by simp)), Lib.hid (by repeat (first | with_reducible exact Kept.refl _ | with_reducible assumption | with_reducible refine Kept.setCell ?_ (by first | (simp; done) | (simp; omega) | omega) _ | with_reducible refine Kept.alloc ?_ _ | with_reducible refine Kept.drewN ?_ _ | with_reducible refine Kept.drew ?_ | with_reducible refine Kept.trans ?_ (by with_reducible assumption) | with_reducible refine Kept.dr ?_ (by with_reducible assumption)))⟩
  case round =>
    obtain ⟨k, rfl, hk, HO0, HO1, HO2, HO3, HK⟩ := hrel
    by_cases hlt : k < n
    · have b0 := mb_of (M := M) (n := k) (by omega) (Ms.all_le HALL.out (by omega))
      have b1 := mb_of (M := M) (n := k + 1) (by omega) (Ms.all_le HALL.out (by omega))
      have mt := mt_of (Ms.all_at HALL.out hlt)
      obtain ⟨_, _, _, _, _, _, _, zb0, zb1, _, _, u0, u1⟩ := mok_yes (Ms.all_at HALL.out hlt)
      obtain ⟨s, hs⟩ : ∃ x, M.s k = x := ⟨_, rfl⟩
      obtain ⟨a, ha⟩ : ∃ x, M.a k = x := ⟨_, rfl⟩
      obtain ⟨bb, hb⟩ : ∃ x, M.b k = x := ⟨_, rfl⟩
      obtain ⟨z, hz⟩ : ∃ x, M.z k = x := ⟨_, rfl⟩
      obtain ⟨ee, he⟩ : ∃ x, M.e k = x := ⟨_, rfl⟩
      obtain ⟨u, hu⟩ : ∃ x, M.u k = x := ⟨_, rfl⟩
      have hS := HS.out.kept HK.out
      have c0 := hS.cs k hlt
      have c1 := hS.ca k hlt
      have c2 := hS.cb k hlt
      have c3 := hS.cz k hlt
      have c4 := hS.ce k hlt
      have c5 := hS.cu k hlt
      obtain ⟨hp, hb_⟩ := hS.hp (by omega)
      rw [hs] at c0
      rw [ha] at c1
      rw [hb] at c2
      rw [hz] at c3
      rw [he] at c4
      rw [hu] at c5
      clear hS
      subst hp
      rw [hs, ha, hb, hz, he, hu] at mt
      rw [hu] at u0 u1
      rw [hz] at zb0 zb1
      have q1 : M.zz (k + 1) = M.zz k + z * z * u := by rw [← hz, ← hu]; rfl
      obtain ⟨d0, d1⟩ := b0.zz
      obtain ⟨e0, e1⟩ := b1.zz
      rw [q1] at e0 e1
      obtain ⟨g0, g1⟩ := mt.z2
      obtain ⟨g2, g3⟩ := mt.zz
      have HM := Lib.hid (wmul_w z z (by omega) (by omega) (by omega) (by omega))
      have HT := Lib.hid (times1_w (z * z) u (by omega) (by omega) (by omega) (by omega) (by omega) (by omega))
      have HA := Lib.hid (add_ok (M.zz k) (z * z * u) (by omega) (by omega) (by omega) (by omega) (by omega) (by omega))
      have Q := Lib.hid q1
      have hkk := HK.out
      have hsz := hkk.size
      clear HS HALL HK b0 b1 mt q1 hs ha hb hz he hu u0 u1 d0 d1 e0 e1 g0 g1 g2 g3 zb0 zb1 HT1 HT2 HT3 HM1 HM2
      generalize z * z * u = T at *
      generalize z * z = T2 at *
      obtain ⟨S1, hS1⟩ : ∃ S1, M.zz k + T = S1 := ⟨_, rfl⟩
      rw [hS1] at HA Q
      generalize M.zz k = S0 at *
      clear hS1
      generalize wh S0 = G0 at *; generalize wl S0 = g0 at *
      obtain ⟨G1, hG1⟩ : ∃ G1, wh S1 = G1 := ⟨_, rfl⟩
      obtain ⟨g1, hg1⟩ : ∃ g1, wl S1 = g1 := ⟨_, rfl⟩
      rw [hG1, hg1] at HA
      have HG1 := Lib.hid hG1
      have Hg1 := Lib.hid hg1
      clear hG1 hg1
      generalize wh T = G2 at *; generalize wl T = g2 at *; generalize wh T2 = G3 at *; generalize wl T2 = g3 at *
      obtain ⟨hz_c9_3, hg_c9_3, hf_c9_3_0, hf_c9_3_1, _⟩ := HO3.out
      have hoo : w2.heap.size + 1 < wr.heap.size := hz_c9_3
      go_upto_region 9 with (fail)
      go_region_with (first | (go_at_call 42; with_reducible refine (HM.out _).mono ?_; rintro e w' ⟨rfl, hk⟩; refine kuz (b := w2.heap.size + 1) hk (by first | (simp; done) | (simp; omega) | omega) ?_; intro hq hg hy hn hm; have ff := (hq 0).trans (show _ = some (.int .i64 G0) by first | with_reducible assumption | (simp (maxDischargeDepth := 5) [go_sem]; done) | (simp (maxDischargeDepth := 5) [go_sem, *]; done)); have ff := (hq 1).trans (show _ = some (.int .u64 g0) by first | with_reducible assumption | (simp (maxDischargeDepth := 5) [go_sem]; done) | (simp (maxDischargeDepth := 5) [go_sem, *]; done)); have gg := fun o => (hg o).trans (show _ = false by first | (with_reducible apply_assumption; done) | (simp (maxDischargeDepth := 5) [go_sem]; done) | (simp (maxDischargeDepth := 5) [go_sem, *]; done)); clear hq hg; refine kuz (b := wr.heap.size) hk (by first | (simp; done) | (simp; omega) | omega) ?_; intro hq hg hy hn hm; have ff := (hq 3).trans (show _ = some (.int .i64 z) by first | with_reducible assumption | (simp (maxDischargeDepth := 5) [go_sem]; done) | (simp (maxDischargeDepth := 5) [go_sem, *]; done)); have ff := (hq 5).trans (show _ = some (.int .i64 u) by first | with_reducible assumption | (simp (maxDischargeDepth := 5) [go_sem]; done) | (simp (maxDischargeDepth := 5) [go_sem, *]; done)); have gg := fun o => (hg o).trans (show _ = false by first | (with_reducible apply_assumption; done) | (simp (maxDischargeDepth := 5) [go_sem]; done) | (simp (maxDischargeDepth := 5) [go_sem, *]; done)); clear hq hg) | (go_at_call 41; with_reducible refine (HT.out _).mono ?_; rintro e w' ⟨rfl, hk⟩; refine kuz (b := w2.heap.size + 1) hk (by first | (simp; done) | (simp; omega) | omega) ?_; intro hq hg hy hn hm; have ff := (hq 0).trans (show _ = some (.int .i64 G0) by first | with_reducible assumption | (simp (maxDischargeDepth := 5) [go_sem]; done) | (simp (maxDischargeDepth := 5) [go_sem, *]; done)); have ff := (hq 1).trans (show _ = some (.int .u64 g0) by first | with_reducible assumption | (simp (maxDischargeDepth := 5) [go_sem]; done) | (simp (maxDischargeDepth := 5) [go_sem, *]; done)); have gg := fun o => (hg o).trans (show _ = false by first | (with_reducible apply_assumption; done) | (simp (maxDischargeDepth := 5) [go_sem]; done) | (simp (maxDischargeDepth := 5) [go_sem, *]; done)); clear hq hg; refine kuz (b := wr.heap.size) hk (by first | (simp; done) | (simp; omega) | omega) ?_; intro hq hg hy hn hm; have ff := (hq 3).trans (show _ = some (.int .i64 z) by first | with_reducible assumption | (simp (maxDischargeDepth := 5) [go_sem]; done) | (simp (maxDischargeDepth := 5) [go_sem, *]; done)); have ff := (hq 5).trans (show _ = some (.int .i64 u) by first | with_reducible assumption | (simp (maxDischargeDepth := 5) [go_sem]; done) | (simp (maxDischargeDepth := 5) [go_sem, *]; done)); have gg := fun o => (hg o).trans (show _ = false by first | (with_reducible apply_assumption; done) | (simp (maxDischargeDepth := 5) [go_sem]; done) | (simp (maxDischargeDepth := 5) [go_sem, *]; done)); clear hq hg) | (go_at_call 40; with_reducible refine (HA.out _).mono ?_; rintro e w' ⟨rfl, hk⟩; refine kuz (b := w2.heap.size + 1) hk (by first | (simp; done) | (simp; omega) | omega) ?_; intro hq hg hy hn hm; have ff := (hq 0).trans (show _ = some (.int .i64 G0) by first | with_reducible assumption | (simp (maxDischargeDepth := 5) [go_sem]; done) | (simp (maxDischargeDepth := 5) [go_sem, *]; done)); have ff := (hq 1).trans (show _ = some (.int .u64 g0) by first | with_reducible assumption | (simp (maxDischargeDepth := 5) [go_sem]; done) | (simp (maxDischargeDepth := 5) [go_sem, *]; done)); have gg := fun o => (hg o).trans (show _ = false by first | (with_reducible apply_assumption; done) | (simp (maxDischargeDepth := 5) [go_sem]; done) | (simp (maxDischargeDepth := 5) [go_sem, *]; done)); clear hq hg; refine kuz (b := wr.heap.size) hk (by first | (simp; done) | (simp; omega) | omega) ?_; intro hq hg hy hn hm; have ff := (hq 3).trans (show _ = some (.int .i64 z) by first | with_reducible assumption | (simp (maxDischargeDepth := 5) [go_sem]; done) | (simp (maxDischargeDepth := 5) [go_sem, *]; done)); have ff := (hq 5).trans (show _ = some (.int .i64 u) by first | with_reducible assumption | (simp (maxDischargeDepth := 5) [go_sem]; done) | (simp (maxDischargeDepth := 5) [go_sem, *]; done)); have gg := fun o => (hg o).trans (show _ = false by first | (with_reducible apply_assumption; done) | (simp (maxDischargeDepth := 5) [go_sem]; done) | (simp (maxDischargeDepth := 5) [go_sem, *]; done)); clear hq hg))
      all_goals (try go_wp2_with fail)
      all_goals exact ⟨⟨k + 1, by go_num, by omega, Lib.hid (by repeat (first | with_reducible exact HO0.out | with_reducible refine OwnB.setOther ?_ (by first | with_reducible assumption | omega | (simp; done) | (simp; omega)) | with_reducible refine OwnB.drew ?_ | with_reducible refine OwnB.drewN ?_ _ | with_reducible refine OwnB.alloc ?_ _ | with_reducible refine OwnB.kept (by with_reducible assumption) ?_)), Lib.hid (by repeat (first | with_reducible exact HO1.out | with_reducible refine OwnB.setOther ?_ (by first | with_reducible assumption | omega | (simp; done) | (simp; omega)) | with_reducible refine OwnB.drew ?_ | with_reducible refine OwnB.drewN ?_ _ | with_reducible refine OwnB.alloc ?_ _ | with_reducible refine OwnB.kept (by with_reducible assumption) ?_)), Lib.hid (by repeat (first | with_reducible exact HO2.out | with_reducible refine OwnB.setOther ?_ (by first | with_reducible assumption | omega | (simp; done) | (simp; omega)) | with_reducible refine OwnB.drew ?_ | with_reducible refine OwnB.drewN ?_ _ | with_reducible refine OwnB.alloc ?_ _ | with_reducible refine OwnB.kept (by with_reducible assumption) ?_)), Lib.hid (by rw [Q.out, HG1.out, Hg1.out]; exact (by repeat (first | with_reducible exact HO3.out | with_reducible refine own_s2 (u0 := .int .i64 G0) (u1 := .int .u64 g0) ?_ | with_reducible refine OwnB.setOther ?_ (by first | with_reducible assumption | omega | (simp; done) | (simp; omega)) | with_reducible refine OwnB.drew ?_ | with_reducible refine OwnB.drewN ?_ _ | with_reducible refine OwnB.alloc ?_ _ | with_reducible refine OwnB.kept (by with_reducible assumption) ?_))), Lib.hid (by repeat (first | with_reducible exact Kept.refl _ | with_reducible assumption | with_reducible refine Kept.setCell ?_ (by first | (simp; done) | (simp; omega) | omega) _ | with_reducible refine Kept.alloc ?_ _ | with_reducible refine Kept.drewN ?_ _ | with_reducible refine Kept.drew ?_ | with_reducible refine Kept.trans ?_ (by with_reducible assumption) | with_reducible refine Kept.dr ?_ (by with_reducible assumption)))⟩, by simp [intOf]; omega⟩
    · obtain rfl : k = n := by omega
      have hkk := HK.out
      have hsz := hkk.size
      clear HS HALL HK
      have eN : Hid (M.num k = M.zz k * M.det k - M.X k * M.xz k - M.Y k * M.yz k) := Lib.hid rfl
      obtain ⟨hz_c9_0, hg_c9_0, hf_c9_0_0, hf_c9_0_1, _⟩ := HO0.out
      obtain ⟨hz_c9_1, hg_c9_1, hf_c9_1_0, hf_c9_1_1, hf_c9_1_2, hf_c9_1_3, hf_c9_1_4, hf_c9_1_5, hf_c9_1_6, _⟩ := HO1.out
      obtain ⟨hz_c9_2, hg_c9_2, hf_c9_2_0, hf_c9_2_1, hf_c9_2_2, hf_c9_2_3, hf_c9_2_4, _⟩ := HO2.out
      obtain ⟨hz_c9_3, hg_c9_3, hf_c9_3_0, hf_c9_3_1, _⟩ := HO3.out
      have B0 : OwnB wr (w.heap.size) [.int .i64 0, .int .u64 0] := show OwnB wr (w.heap.size) [.int .i64 0, .int .u64 0] from ⟨hz_c9_0, hg_c9_0, hf_c9_0_0, hf_c9_0_1, trivial⟩
      have HC10_0 := Lib.hid B0
      clear B0
      have B1 : OwnB wr (w1.heap.size) [.int .i64 (wh (M.X k)), .int .u64 (wl (M.X k)), .int .i64 (wh (M.Y k)), .int .u64 (wl (M.Y k)), .int .i64 (M.det k), .int .i64 (M.px k), .int .i64 (M.py k)] := show OwnB wr (w1.heap.size) [.int .i64 (wh (M.X k)), .int .u64 (wl (M.X k)), .int .i64 (wh (M.Y k)), .int .u64 (wl (M.Y k)), .int .i64 (M.det k), .int .i64 (M.px k), .int .i64 (M.py k)] from ⟨hz_c9_1, hg_c9_1, hf_c9_1_0, hf_c9_1_1, hf_c9_1_2, hf_c9_1_3, hf_c9_1_4, hf_c9_1_5, hf_c9_1_6, trivial⟩
      have HC10_1 := Lib.hid B1
      clear B1
      have B2 : OwnB wr (w2.heap.size) [.int .i64 (M.xx k), .int .i64 (M.xy k), .int .i64 (M.yy k), .int .i64 (M.xz k), .int .i64 (M.yz k)] := show OwnB wr (w2.heap.size) [.int .i64 (M.xx k), .int .i64 (M.xy k), .int .i64 (M.yy k), .int .i64 (M.xz k), .int .i64 (M.yz k)] from ⟨hz_c9_2, hg_c9_2, hf_c9_2_0, hf_c9_2_1, hf_c9_2_2, hf_c9_2_3, hf_c9_2_4, trivial⟩
      have HC10_2 := Lib.hid B2
      clear B2
      have B3 : OwnB wr (w2.heap.size + 1) [.int .i64 (wh (M.zz k)), .int .u64 (wl (M.zz k))] := show OwnB wr (w2.heap.size + 1) [.int .i64 (wh (M.zz k)), .int .u64 (wl (M.zz k))] from ⟨hz_c9_3, hg_c9_3, hf_c9_3_0, hf_c9_3_1, trivial⟩
      have HC10_3 := Lib.hid B3
      clear B3
      go_upto_region 11 with (fail)
      go_cut [] (fun  wx => OwnB wx (w.heap.size) [.int .i64 (wh (M.zz k * M.det k - M.X k * M.xz k - M.Y k * M.yz k)), .int .u64 (wl (M.zz k * M.det k - M.X k * M.xz k - M.Y k * M.yz k))] ∧ OwnB wx (w1.heap.size) [.int .i64 (wh (M.X k)), .int .u64 (wl (M.X k)), .int .i64 (wh (M.Y k)), .int .u64 (wl (M.Y k)), .int .i64 (M.det k), .int .i64 (M.px k), .int .i64 (M.py k)] ∧ OwnB wx (w2.heap.size) [.int .i64 (M.xx k), .int .i64 (M.xy k), .int .i64 (M.yy k), .int .i64 (M.xz k), .int .i64 (M.yz k)] ∧ OwnB wx (w2.heap.size + 1) [.int .i64 (wh (M.zz k)), .int .u64 (wl (M.zz k))] ∧ Kept w wx)
      case first =>
        go_region_held3 (fun W => W.cell? ⟨w1.heap.size, 0, none⟩ = some (.int .i64 (wh (M.X k))) ∧ W.cell? ⟨w1.heap.size, 1, none⟩ = some (.int .u64 (wl (M.X k))) ∧ W.cell? ⟨w1.heap.size, 2, none⟩ = some (.int .i64 (wh (M.Y k))) ∧ W.cell? ⟨w1.heap.size, 3, none⟩ = some (.int .u64 (wl (M.Y k))) ∧ W.cell? ⟨w1.heap.size, 4, none⟩ = some (.int .i64 (M.det k)) ∧ W.cell? ⟨w1.heap.size, 5, none⟩ = some (.int .i64 (M.px k)) ∧ W.cell? ⟨w1.heap.size, 6, none⟩ = some (.int .i64 (M.py k)) ∧ W.cell? ⟨w2.heap.size, 0, none⟩ = some (.int .i64 (M.xx k)) ∧ W.cell? ⟨w2.heap.size, 1, none⟩ = some (.int .i64 (M.xy k)) ∧ W.cell? ⟨w2.heap.size, 2, none⟩ = some (.int .i64 (M.yy k)) ∧ W.cell? ⟨w2.heap.size, 3, none⟩ = some (.int .i64 (M.xz k)) ∧ W.cell? ⟨w2.heap.size, 4, none⟩ = some (.int .i64 (M.yz k)) ∧ W.cell? ⟨w2.heap.size + 1, 0, none⟩ = some (.int .i64 (wh (M.zz k))) ∧ W.cell? ⟨w2.heap.size + 1, 1, none⟩ = some (.int .u64 (wl (M.zz k)))) (first | (go_keep; done) | (simp (maxDischargeDepth := 9) [*, World.cell?_alloc_some, World.cell?_setCell_far]; done) | (simp (maxDischargeDepth := 9) [go_sem, *]; done)) (first | (go_at_call 41; (first | with_reducible refine (HT1.out _).mono ?_ | with_reducible refine (HT2.out _).mono ?_ | with_reducible refine (HT3.out _).mono ?_); rintro e w' ⟨rfl, hk⟩; have hz := hk.size; (try (refine kuse (b := w.heap.size) hk (by first | (simp; done) | (simp; omega) | omega) ?_; intro hq0 hg0; have hy0 : w.heap.size < w'.heap.size := (by (try simp at hz); omega); have hn0 : ¬ w.heap.size = w'.heap.size := (by omega); have hm0 : ¬ w.heap.size = w'.heap.size + 1 := (by omega); refine withF (p := w'.cell? ⟨w.heap.size, 0, none⟩ = some (.int .i64 0)) (by first | (rw [hq0]; with_reducible assumption) | (simp (maxDischargeDepth := 7) [go_sem, hq0]; done) | (simp (maxDischargeDepth := 7) [go_sem, hq0, *]; done) | fail) ?_; intro ff00; refine withF (p := w'.cell? ⟨w.heap.size, 1, none⟩ = some (.int .u64 0)) (by first | (rw [hq0]; with_reducible assumption) | (simp (maxDischargeDepth := 7) [go_sem, hq0]; done) | (simp (maxDischargeDepth := 7) [go_sem, hq0, *]; done) | fail) ?_; intro ff01)); (try (refine kuse (b := w1.heap.size) hk (by first | (simp; done) | (simp; omega) | omega) ?_; intro hq1 hg1; have hy1 : w1.heap.size < w'.heap.size := (by (try simp at hz); omega); have hn1 : ¬ w1.heap.size = w'.heap.size := (by omega); have hm1 : ¬ w1.heap.size = w'.heap.size + 1 := (by omega); refine withF (p := w'.cell? ⟨w1.heap.size, 0, none⟩ = some (.int .i64 (wh (M.X k)))) (by first | (rw [hq1]; with_reducible assumption) | (simp (maxDischargeDepth := 7) [go_sem, hq1]; done) | (simp (maxDischargeDepth := 7) [go_sem, hq1, *]; done) | fail) ?_; intro ff10; refine withF (p := w'.cell? ⟨w1.heap.size, 1, none⟩ = some (.int .u64 (wl (M.X k)))) (by first | (rw [hq1]; with_reducible assumption) | (simp (maxDischargeDepth := 7) [go_sem, hq1]; done) | (simp (maxDischargeDepth := 7) [go_sem, hq1, *]; done) | fail) ?_; intro ff11; refine withF (p := w'.cell? ⟨w1.heap.size, 2, none⟩ = some (.int .i64 (wh (M.Y k)))) (by first | (rw [hq1]; with_reducible assumption) | (simp (maxDischargeDepth := 7) [go_sem, hq1]; done) | (simp (maxDischargeDepth := 7) [go_sem, hq1, *]; done) | fail) ?_; intro ff12; refine withF (p := w'.cell? ⟨w1.heap.size, 3, none⟩ = some (.int .u64 (wl (M.Y k)))) (by first | (rw [hq1]; with_reducible assumption) | (simp (maxDischargeDepth := 7) [go_sem, hq1]; done) | (simp (maxDischargeDepth := 7) [go_sem, hq1, *]; done) | fail) ?_; intro ff13; refine withF (p := w'.cell? ⟨w1.heap.size, 4, none⟩ = some (.int .i64 (M.det k))) (by first | (rw [hq1]; with_reducible assumption) | (simp (maxDischargeDepth := 7) [go_sem, hq1]; done) | (simp (maxDischargeDepth := 7) [go_sem, hq1, *]; done) | fail) ?_; intro ff14; refine withF (p := w'.cell? ⟨w1.heap.size, 5, none⟩ = some (.int .i64 (M.px k))) (by first | (rw [hq1]; with_reducible assumption) | (simp (maxDischargeDepth := 7) [go_sem, hq1]; done) | (simp (maxDischargeDepth := 7) [go_sem, hq1, *]; done) | fail) ?_; intro ff15; refine withF (p := w'.cell? ⟨w1.heap.size, 6, none⟩ = some (.int .i64 (M.py k))) (by first | (rw [hq1]; with_reducible assumption) | (simp (maxDischargeDepth := 7) [go_sem, hq1]; done) | (simp (maxDischargeDepth := 7) [go_sem, hq1, *]; done) | fail) ?_; intro ff16)); (try (refine kuse (b := w2.heap.size) hk (by first | (simp; done) | (simp; omega) | omega) ?_; intro hq2 hg2; have hy2 : w2.heap.size < w'.heap.size := (by (try simp at hz); omega); have hn2 : ¬ w2.heap.size = w'.heap.size := (by omega); have hm2 : ¬ w2.heap.size = w'.heap.size + 1 := (by omega); refine withF (p := w'.cell? ⟨w2.heap.size, 0, none⟩ = some (.int .i64 (M.xx k))) (by first | (rw [hq2]; with_reducible assumption) | (simp (maxDischargeDepth := 7) [go_sem, hq2]; done) | (simp (maxDischargeDepth := 7) [go_sem, hq2, *]; done) | fail) ?_; intro ff20; refine withF (p := w'.cell? ⟨w2.heap.size, 1, none⟩ = some (.int .i64 (M.xy k))) (by first | (rw [hq2]; with_reducible assumption) | (simp (maxDischargeDepth := 7) [go_sem, hq2]; done) | (simp (maxDischargeDepth := 7) [go_sem, hq2, *]; done) | fail) ?_; intro ff21; refine withF (p := w'.cell? ⟨w2.heap.size, 2, none⟩ = some (.int .i64 (M.yy k))) (by first | (rw [hq2]; with_reducible assumption) | (simp (maxDischargeDepth := 7) [go_sem, hq2]; done) | (simp (maxDischargeDepth := 7) [go_sem, hq2, *]; done) | fail) ?_; intro ff22; refine withF (p := w'.cell? ⟨w2.heap.size, 3, none⟩ = some (.int .i64 (M.xz k))) (by first | (rw [hq2]; with_reducible assumption) | (simp (maxDischargeDepth := 7) [go_sem, hq2]; done) | (simp (maxDischargeDepth := 7) [go_sem, hq2, *]; done) | fail) ?_; intro ff23; refine withF (p := w'.cell? ⟨w2.heap.size, 4, none⟩ = some (.int .i64 (M.yz k))) (by first | (rw [hq2]; with_reducible assumption) | (simp (maxDischargeDepth := 7) [go_sem, hq2]; done) | (simp (maxDischargeDepth := 7) [go_sem, hq2, *]; done) | fail) ?_; intro ff24)); (try (refine kuse (b := w2.heap.size + 1) hk (by first | (simp; done) | (simp; omega) | omega) ?_; intro hq3 hg3; have hy3 : w2.heap.size + 1 < w'.heap.size := (by (try simp at hz); omega); have hn3 : ¬ w2.heap.size + 1 = w'.heap.size := (by omega); have hm3 : ¬ w2.heap.size + 1 = w'.heap.size + 1 := (by omega); refine withF (p := w'.cell? ⟨w2.heap.size + 1, 0, none⟩ = some (.int .i64 (wh (M.zz k)))) (by first | (rw [hq3]; with_reducible assumption) | (simp (maxDischargeDepth := 7) [go_sem, hq3]; done) | (simp (maxDischargeDepth := 7) [go_sem, hq3, *]; done) | fail) ?_; intro ff30; refine withF (p := w'.cell? ⟨w2.heap.size + 1, 1, none⟩ = some (.int .u64 (wl (M.zz k)))) (by first | (rw [hq3]; with_reducible assumption) | (simp (maxDischargeDepth := 7) [go_sem, hq3]; done) | (simp (maxDischargeDepth := 7) [go_sem, hq3, *]; done) | fail) ?_; intro ff31))) | (go_at_call 47; (first | with_reducible refine (HM1.out _).mono ?_ | with_reducible refine (HM2.out _).mono ?_); rintro e w' ⟨rfl, hk⟩; have hz := hk.size; (try (refine kuse (b := w.heap.size) hk (by first | (simp; done) | (simp; omega) | omega) ?_; intro hq0 hg0; have hy0 : w.heap.size < w'.heap.size := (by (try simp at hz); omega); have hn0 : ¬ w.heap.size = w'.heap.size := (by omega); have hm0 : ¬ w.heap.size = w'.heap.size + 1 := (by omega); refine withF (p := w'.cell? ⟨w.heap.size, 0, none⟩ = some (.int .i64 0)) (by first | (rw [hq0]; with_reducible assumption) | (simp (maxDischargeDepth := 7) [go_sem, hq0]; done) | (simp (maxDischargeDepth := 7) [go_sem, hq0, *]; done) | fail) ?_; intro ff00; refine withF (p := w'.cell? ⟨w.heap.size, 1, none⟩ = some (.int .u64 0)) (by first | (rw [hq0]; with_reducible assumption) | (simp (maxDischargeDepth := 7) [go_sem, hq0]; done) | (simp (maxDischargeDepth := 7) [go_sem, hq0, *]; done) | fail) ?_; intro ff01)); (try (refine kuse (b := w1.heap.size) hk (by first | (simp; done) | (simp; omega) | omega) ?_; intro hq1 hg1; have hy1 : w1.heap.size < w'.heap.size := (by (try simp at hz); omega); have hn1 : ¬ w1.heap.size = w'.heap.size := (by omega); have hm1 : ¬ w1.heap.size = w'.heap.size + 1 := (by omega); refine withF (p := w'.cell? ⟨w1.heap.size, 0, none⟩ = some (.int .i64 (wh (M.X k)))) (by first | (rw [hq1]; with_reducible assumption) | (simp (maxDischargeDepth := 7) [go_sem, hq1]; done) | (simp (maxDischargeDepth := 7) [go_sem, hq1, *]; done) | fail) ?_; intro ff10; refine withF (p := w'.cell? ⟨w1.heap.size, 1, none⟩ = some (.int .u64 (wl (M.X k)))) (by first | (rw [hq1]; with_reducible assumption) | (simp (maxDischargeDepth := 7) [go_sem, hq1]; done) | (simp (maxDischargeDepth := 7) [go_sem, hq1, *]; done) | fail) ?_; intro ff11; refine withF (p := w'.cell? ⟨w1.heap.size, 2, none⟩ = some (.int .i64 (wh (M.Y k)))) (by first | (rw [hq1]; with_reducible assumption) | (simp (maxDischargeDepth := 7) [go_sem, hq1]; done) | (simp (maxDischargeDepth := 7) [go_sem, hq1, *]; done) | fail) ?_; intro ff12; refine withF (p := w'.cell? ⟨w1.heap.size, 3, none⟩ = some (.int .u64 (wl (M.Y k)))) (by first | (rw [hq1]; with_reducible assumption) | (simp (maxDischargeDepth := 7) [go_sem, hq1]; done) | (simp (maxDischargeDepth := 7) [go_sem, hq1, *]; done) | fail) ?_; intro ff13; refine withF (p := w'.cell? ⟨w1.heap.size, 4, none⟩ = some (.int .i64 (M.det k))) (by first | (rw [hq1]; with_reducible assumption) | (simp (maxDischargeDepth := 7) [go_sem, hq1]; done) | (simp (maxDischargeDepth := 7) [go_sem, hq1, *]; done) | fail) ?_; intro ff14; refine withF (p := w'.cell? ⟨w1.heap.size, 5, none⟩ = some (.int .i64 (M.px k))) (by first | (rw [hq1]; with_reducible assumption) | (simp (maxDischargeDepth := 7) [go_sem, hq1]; done) | (simp (maxDischargeDepth := 7) [go_sem, hq1, *]; done) | fail) ?_; intro ff15; refine withF (p := w'.cell? ⟨w1.heap.size, 6, none⟩ = some (.int .i64 (M.py k))) (by first | (rw [hq1]; with_reducible assumption) | (simp (maxDischargeDepth := 7) [go_sem, hq1]; done) | (simp (maxDischargeDepth := 7) [go_sem, hq1, *]; done) | fail) ?_; intro ff16)); (try (refine kuse (b := w2.heap.size) hk (by first | (simp; done) | (simp; omega) | omega) ?_; intro hq2 hg2; have hy2 : w2.heap.size < w'.heap.size := (by (try simp at hz); omega); have hn2 : ¬ w2.heap.size = w'.heap.size := (by omega); have hm2 : ¬ w2.heap.size = w'.heap.size + 1 := (by omega); refine withF (p := w'.cell? ⟨w2.heap.size, 0, none⟩ = some (.int .i64 (M.xx k))) (by first | (rw [hq2]; with_reducible assumption) | (simp (maxDischargeDepth := 7) [go_sem, hq2]; done) | (simp (maxDischargeDepth := 7) [go_sem, hq2, *]; done) | fail) ?_; intro ff20; refine withF (p := w'.cell? ⟨w2.heap.size, 1, none⟩ = some (.int .i64 (M.xy k))) (by first | (rw [hq2]; with_reducible assumption) | (simp (maxDischargeDepth := 7) [go_sem, hq2]; done) | (simp (maxDischargeDepth := 7) [go_sem, hq2, *]; done) | fail) ?_; intro ff21; refine withF (p := w'.cell? ⟨w2.heap.size, 2, none⟩ = some (.int .i64 (M.yy k))) (by first | (rw [hq2]; with_reducible assumption) | (simp (maxDischargeDepth := 7) [go_sem, hq2]; done) | (simp (maxDischargeDepth := 7) [go_sem, hq2, *]; done) | fail) ?_; intro ff22; refine withF (p := w'.cell? ⟨w2.heap.size, 3, none⟩ = some (.int .i64 (M.xz k))) (by first | (rw [hq2]; with_reducible assumption) | (simp (maxDischargeDepth := 7) [go_sem, hq2]; done) | (simp (maxDischargeDepth := 7) [go_sem, hq2, *]; done) | fail) ?_; intro ff23; refine withF (p := w'.cell? ⟨w2.heap.size, 4, none⟩ = some (.int .i64 (M.yz k))) (by first | (rw [hq2]; with_reducible assumption) | (simp (maxDischargeDepth := 7) [go_sem, hq2]; done) | (simp (maxDischargeDepth := 7) [go_sem, hq2, *]; done) | fail) ?_; intro ff24)); (try (refine kuse (b := w2.heap.size + 1) hk (by first | (simp; done) | (simp; omega) | omega) ?_; intro hq3 hg3; have hy3 : w2.heap.size + 1 < w'.heap.size := (by (try simp at hz); omega); have hn3 : ¬ w2.heap.size + 1 = w'.heap.size := (by omega); have hm3 : ¬ w2.heap.size + 1 = w'.heap.size + 1 := (by omega); refine withF (p := w'.cell? ⟨w2.heap.size + 1, 0, none⟩ = some (.int .i64 (wh (M.zz k)))) (by first | (rw [hq3]; with_reducible assumption) | (simp (maxDischargeDepth := 7) [go_sem, hq3]; done) | (simp (maxDischargeDepth := 7) [go_sem, hq3, *]; done) | fail) ?_; intro ff30; refine withF (p := w'.cell? ⟨w2.heap.size + 1, 1, none⟩ = some (.int .u64 (wl (M.zz k)))) (by first | (rw [hq3]; with_reducible assumption) | (simp (maxDischargeDepth := 7) [go_sem, hq3]; done) | (simp (maxDischargeDepth := 7) [go_sem, hq3, *]; done) | fail) ?_; intro ff31))))
        all_goals (try go_wp2_with fail)
        all_goals (go_meet; case rel => exact ⟨(by repeat (first | with_reducible exact HC10_0.out | with_reducible refine own_s2 (u0 := .int .i64 0) (u1 := .int .u64 0) ?_ | with_reducible refine OwnB.setOther ?_ (by first | with_reducible assumption | omega | (simp; done) | (simp; omega)) | with_reducible refine OwnB.drew ?_ | with_reducible refine OwnB.drewN ?_ _ | with_reducible refine OwnB.alloc ?_ _ | with_reducible refine OwnB.kept (by with_reducible assumption) ?_)), (by repeat (first | with_reducible exact HC10_1.out | with_reducible refine OwnB.setOther ?_ (by first | with_reducible assumption | omega | (simp; done) | (simp; omega)) | with_reducible refine OwnB.drew ?_ | with_reducible refine OwnB.drewN ?_ _ | with_reducible refine OwnB.alloc ?_ _ | with_reducible refine OwnB.kept (by with_reducible assumption) ?_)), (by repeat (first | with_reducible exact HC10_2.out | with_reducible refine OwnB.setOther ?_ (by first | with_reducible assumption | omega | (simp; done) | (simp; omega)) | with_reducible refine OwnB.drew ?_ | with_reducible refine OwnB.drewN ?_ _ | with_reducible refine OwnB.alloc ?_ _ | with_reducible refine OwnB.kept (by with_reducible assumption) ?_)), (by repeat (first | with_reducible exact HC10_3.out | with_reducible refine OwnB.setOther ?_ (by first | with_reducible assumption | omega | (simp; done) | (simp; omega)) | with_reducible refine OwnB.drew ?_ | with_reducible refine OwnB.drewN ?_ _ | with_reducible refine OwnB.alloc ?_ _ | with_reducible refine OwnB.kept (by with_reducible assumption) ?_)), (by repeat (first | with_reducible exact Kept.refl _ | with_reducible assumption | with_reducible refine Kept.setCell ?_ (by first | (simp; done) | (simp; omega) | omega) _ | with_reducible refine Kept.alloc ?_ _ | with_reducible refine Kept.drewN ?_ _ | with_reducible refine Kept.drew ?_ | with_reducible refine Kept.trans ?_ (by with_reducible assumption) | with_reducible refine Kept.dr ?_ (by with_reducible assumption)))⟩)
      case rest =>
      obtain ⟨O10_0, O10_1, O10_2, O10_3, hkc10⟩ := hcut
      obtain ⟨hz_c10_0, hg_c10_0, hf_c10_0_0, hf_c10_0_1, _⟩ := O10_0
      obtain ⟨hz_c10_1, hg_c10_1, hf_c10_1_0, hf_c10_1_1, hf_c10_1_2, hf_c10_1_3, hf_c10_1_4, hf_c10_1_5, hf_c10_1_6, _⟩ := O10_1
      obtain ⟨hz_c10_2, hg_c10_2, hf_c10_2_0, hf_c10_2_1, hf_c10_2_2, hf_c10_2_3, hf_c10_2_4, _⟩ := O10_2
      obtain ⟨hz_c10_3, hg_c10_3, hf_c10_3_0, hf_c10_3_1, _⟩ := O10_3
      try clear hf_c9_0_0
      try clear hf_c9_0_1
      try clear hf_c9_1_0
      try clear hf_c9_1_1
      try clear hf_c9_1_2
      try clear hf_c9_1_3
      try clear hf_c9_1_4
      try clear hf_c9_1_5
      try clear hf_c9_1_6
      try clear hf_c9_2_0
      try clear hf_c9_2_1
      try clear hf_c9_2_2
      try clear hf_c9_2_3
      try clear hf_c9_2_4
      try clear hf_c9_3_0
      try clear hf_c9_3_1
      try clear hg_c9_0
      try clear hg_c9_1
      try clear hg_c9_2
      try clear hg_c9_3
      go_upto_region 12 with (fail)
      go_region
      repeat (first | go_values | go_skip | go_guarded | go_step | go_upon)
      all_goals exact bodyPost_ret (v := .tuple #[.agg #[.int .i64 (wh (M.zz k * M.det k - M.X k * M.xz k - M.Y k * M.yz k)), .int .u64 (wl (M.zz k * M.det k - M.X k * M.xz k - M.Y k * M.yz k))], .int .i64 (M.det k), .int .i64 0]) (by simp (maxDischargeDepth := 5) [results, Try.results24, go_sem, *]; done) rfl ⟨rfl, (by repeat (first | with_reducible exact Kept.refl _ | with_reducible assumption | with_reducible refine Kept.setCell ?_ (by first | (simp; done) | (simp; omega) | omega) _ | with_reducible refine Kept.alloc ?_ _ | with_reducible refine Kept.drewN ?_ _ | with_reducible refine Kept.drew ?_ | with_reducible refine Kept.trans ?_ (by with_reducible assumption) | with_reducible refine Kept.dr ?_ (by with_reducible assumption)))⟩
end Go.Proofs.Ytoegcfdlecbcjaa
