/-
  Own contracts: package lsq and the document of layer 42: normal equations.
-/
import Derived.Test.YtoegcfdlecbcjaaLsqa
import Derived.Test.YtoegcfdlecbcjaaRow
import Derived.Test.YtoegcfdlecbcjaaWida
import Derived.WalkKit
import Derived.ProofKit
import Derived.OpenShut
import Derived.WalkLawsBesides
import Derived.WalkSpells
import Derived.Lib.Hide
import Derived.Deep.DeepCutAuto
import Derived.Deep.CutBlock
import Derived.Deep.QuietTactic
import Derived.BigQuiet
import Derived.Handy
import Derived.StillTailTactics
import Derived.IntWalk
import Derived.LoopN
import Derived.Deep.RegionHeld3
namespace Go.Proofs.Ytoegcfdlecbcjaa
open Go.ChangeShapes Go.WideShapes Go.ChangeAt Go.RowKit
set_option linter.unusedVariables false
set_option linter.unusedSimpArgs false
theorem kuz {W w1 : World} {b : Nat} {G : Prop} (h : Kept W w1) (hb : b < W.heap.size) (g : (∀ o, w1.cell? ⟨b, o, none⟩ = W.cell? ⟨b, o, none⟩) → (∀ o, w1.frozen? ⟨b, o, none⟩ = W.frozen? ⟨b, o, none⟩) → b < w1.heap.size → ¬ b = w1.heap.size → ¬ w1.heap.size = b → G) : G := by
  have z : b < w1.heap.size := Nat.lt_of_lt_of_le hb h.size
  exact g (kcell h b hb).1 (kcell h b hb).2 z (by omega) (by omega)
def Ms.nV (M : Ms) (n : Nat) (x : Int) : Int := if M.chk n = 0 then x else 0
set_option maxHeartbeats 2000000 in
set_option maxRecDepth 100000 in
theorem normal_no (p : Option Addr) (n c b o : Nat) (M : Ms) (hn : n ≤ maxLen) (hx : M.chk n ≠ 0) (w : World) (hS : SlM w p n b o M) : Calls Try.prog 14 #[.slice p n c] w fun e w' => e = .returned (.tuple #[.agg #[.int .i64 0, .int .i64 0, .int .i64 0, .int .i64 0, .int .i64 0], .int .i64 (M.chk n)]) ∧ Kept w w' := by
  have HC := Lib.hid (check_w p n c b o M hn)
  have HS := Lib.hid hS
  clear hS
  obtain ⟨E, hE⟩ : ∃ E, M.chk n = E := ⟨_, rfl⟩
  rw [hE] at HC hx
  rw [hE]
  clear hE
  go_enter Try.func14, Try.ntmps14
  go_wp2_with fail
  refine (HC.out _ (HS.out.kept (by repeat (first | with_reducible exact Kept.refl _ | with_reducible assumption | with_reducible refine Kept.setCell ?_ (by first | (simp; done) | (simp; omega) | omega) _ | with_reducible refine Kept.alloc ?_ _ | with_reducible refine Kept.drewN ?_ _ | with_reducible refine Kept.drew ?_ | with_reducible refine Kept.trans ?_ (by with_reducible assumption) | with_reducible refine Kept.dr ?_ (by with_reducible assumption))))).mono ?_
  rintro e w1 ⟨rfl, hk1⟩
  refine kuz (b := w.heap.size) hk1 (by first | (simp; done) | (simp; omega) | omega) ?_
  intro ha hb hz1_0 hn1_0 hm1_0
  have hf1_0_0 : w1.cell? ⟨w.heap.size, 0, none⟩ = some (.int .i64 0) := (ha _).trans (by first | with_reducible assumption | (simp (maxDischargeDepth := 7) [go_sem]; done) | (simp (maxDischargeDepth := 7) [go_sem, *]; done))
  have hf1_0_1 : w1.cell? ⟨w.heap.size, 1, none⟩ = some (.int .i64 0) := (ha _).trans (by first | with_reducible assumption | (simp (maxDischargeDepth := 7) [go_sem]; done) | (simp (maxDischargeDepth := 7) [go_sem, *]; done))
  have hf1_0_2 : w1.cell? ⟨w.heap.size, 2, none⟩ = some (.int .i64 0) := (ha _).trans (by first | with_reducible assumption | (simp (maxDischargeDepth := 7) [go_sem]; done) | (simp (maxDischargeDepth := 7) [go_sem, *]; done))
  have hf1_0_3 : w1.cell? ⟨w.heap.size, 3, none⟩ = some (.int .i64 0) := (ha _).trans (by first | with_reducible assumption | (simp (maxDischargeDepth := 7) [go_sem]; done) | (simp (maxDischargeDepth := 7) [go_sem, *]; done))
  have hf1_0_4 : w1.cell? ⟨w.heap.size, 4, none⟩ = some (.int .i64 0) := (ha _).trans (by first | with_reducible assumption | (simp (maxDischargeDepth := 7) [go_sem]; done) | (simp (maxDischargeDepth := 7) [go_sem, *]; done))
  try have hg1_0 : ∀ o, w1.frozen? ⟨w.heap.size, o, none⟩ = false := by intro o; rw [hb]; first | (simp (maxDischargeDepth := 7) [go_sem]; done) | (simp (maxDischargeDepth := 7) [go_sem, *]; done)
  clear ha hb
  go_wp2_with fail
  all_goals exact bodyPost_ret (v := .tuple #[.agg #[.int .i64 0, .int .i64 0, .int .i64 0, .int .i64 0, .int .i64 0], .int .i64 E]) (by first | (simp [results, Try.results14, go_sem]; done) | (simp (maxDischargeDepth := 7) [results, Try.results14, go_sem, *]; done)) rfl ⟨rfl, (by repeat (first | with_reducible exact Kept.refl _ | with_reducible assumption | with_reducible refine Kept.setCell ?_ (by first | (simp; done) | (simp; omega) | omega) _ | with_reducible refine Kept.alloc ?_ _ | with_reducible refine Kept.drewN ?_ _ | with_reducible refine Kept.drew ?_ | with_reducible refine Kept.trans ?_ (by with_reducible assumption) | with_reducible refine Kept.dr ?_ (by with_reducible assumption)))⟩
set_option maxHeartbeats 4000000 in
set_option maxRecDepth 100000 in
theorem normal_ok (p : Option Addr) (n c b o : Nat) (M : Ms) (hn : n ≤ maxLen) (hx : M.chk n = 0) (w : World) (hS : SlM w p n b o M) : Calls Try.prog 14 #[.slice p n c] w fun e w' => e = .returned (.tuple #[.agg #[.int .i64 (M.xx n), .int .i64 (M.xy n), .int .i64 (M.yy n), .int .i64 (M.xz n), .int .i64 (M.yz n)], .int .i64 0]) ∧ Kept w w' := by
  obtain ⟨n16, hall⟩ := Ms.chk_0 hx
  have HC := Lib.hid (check_w p n c b o M hn)
  rw [hx] at HC
  have HS := Lib.hid hS
  have HALL := Lib.hid hall
  clear hS hall hx hn
  go_enter Try.func14, Try.ntmps14
  go_wp2_with fail
  refine (HC.out _ (HS.out.kept (by repeat (first | with_reducible exact Kept.refl _ | with_reducible assumption | with_reducible refine Kept.setCell ?_ (by first | (simp; done) | (simp; omega) | omega) _ | with_reducible refine Kept.alloc ?_ _ | with_reducible refine Kept.drewN ?_ _ | with_reducible refine Kept.drew ?_ | with_reducible refine Kept.trans ?_ (by with_reducible assumption) | with_reducible refine Kept.dr ?_ (by with_reducible assumption))))).mono ?_
  rintro e w1 ⟨rfl, hk1⟩
  refine kuz (b := w.heap.size) hk1 (by first | (simp; done) | (simp; omega) | omega) ?_
  intro ha hb hz1_0 hn1_0 hm1_0
  have hf1_0_0 : w1.cell? ⟨w.heap.size, 0, none⟩ = some (.int .i64 0) := (ha _).trans (by first | with_reducible assumption | (simp (maxDischargeDepth := 7) [go_sem]; done) | (simp (maxDischargeDepth := 7) [go_sem, *]; done))
  have hf1_0_1 : w1.cell? ⟨w.heap.size, 1, none⟩ = some (.int .i64 0) := (ha _).trans (by first | with_reducible assumption | (simp (maxDischargeDepth := 7) [go_sem]; done) | (simp (maxDischargeDepth := 7) [go_sem, *]; done))
  have hf1_0_2 : w1.cell? ⟨w.heap.size, 2, none⟩ = some (.int .i64 0) := (ha _).trans (by first | with_reducible assumption | (simp (maxDischargeDepth := 7) [go_sem]; done) | (simp (maxDischargeDepth := 7) [go_sem, *]; done))
  have hf1_0_3 : w1.cell? ⟨w.heap.size, 3, none⟩ = some (.int .i64 0) := (ha _).trans (by first | with_reducible assumption | (simp (maxDischargeDepth := 7) [go_sem]; done) | (simp (maxDischargeDepth := 7) [go_sem, *]; done))
  have hf1_0_4 : w1.cell? ⟨w.heap.size, 4, none⟩ = some (.int .i64 0) := (ha _).trans (by first | with_reducible assumption | (simp (maxDischargeDepth := 7) [go_sem]; done) | (simp (maxDischargeDepth := 7) [go_sem, *]; done))
  try have hg1_0 : ∀ o, w1.frozen? ⟨w.heap.size, o, none⟩ = false := by intro o; rw [hb]; first | (simp (maxDischargeDepth := 7) [go_sem]; done) | (simp (maxDischargeDepth := 7) [go_sem, *]; done)
  clear ha hb
  go_wp2_with fail
  have hb1 : w.heap.size < w1.heap.size := by have := hk1.size; (try simp at this); omega
  clear HC
  go_loopw [16] (fun i wr => ∃ k : Nat, i = .int .i64 k ∧ k ≤ n ∧ Hid (OwnB wr w.heap.size [.int .i64 0, .int .i64 0, .int .i64 0, .int .i64 0, .int .i64 0]) ∧ Hid (OwnB wr w1.heap.size [.int .i64 (M.xx k), .int .i64 (M.xy k), .int .i64 (M.yy k), .int .i64 (M.xz k), .int .i64 (M.yz k)]) ∧ Hid (Kept w wr)) (fun i _ => n - (intOf i).toNat)
  case atStart => exact ⟨0, rfl, Nat.zero_le _, Lib.hid (OwnB.alloc (show OwnB w1 w.heap.size [.int .i64 0, .int .i64 0, .int .i64 0, .int .i64 0, .int .i64 0] from ⟨hz1_0, hg1_0, hf1_0_0, hf1_0_1, hf1_0_2, hf1_0_3, hf1_0_4, trivial⟩) _), Lib.hid (own_alloc _ [.int .i64 0, .int .i64 0, .int .i64 0, .int .i64 0, .int .i64 0] 26), Lib.hid (by repeat (first | with_reducible exact Kept.refl _ | with_reducible assumption | with_reducible refine Kept.setCell ?_ (by first | (simp; done) | (simp; omega) | omega) _ | with_reducible refine Kept.alloc ?_ _ | with_reducible refine Kept.drewN ?_ _ | with_reducible refine Kept.drew ?_ | with_reducible refine Kept.trans ?_ (by with_reducible assumption) | with_reducible refine Kept.dr ?_ (by with_reducible assumption)))⟩
  case round =>
    obtain ⟨k, rfl, hk, HR, HN, HK⟩ := hrel
    obtain ⟨nz, ng, n0, n1, n2, n3, n4, _⟩ := HN.out
    by_cases hlt : k < n
    · have b0 := mb_of (M := M) (n := k) (by omega) (Ms.all_le HALL.out (by omega))
      have b1 := mb_of (M := M) (n := k + 1) (by omega) (Ms.all_le HALL.out (by omega))
      have mt := mt_of (Ms.all_at HALL.out hlt)
      obtain ⟨s, hs⟩ : ∃ x, M.s k = x := ⟨_, rfl⟩
      obtain ⟨a, ha⟩ : ∃ x, M.a k = x := ⟨_, rfl⟩
      obtain ⟨bb, hb⟩ : ∃ x, M.b k = x := ⟨_, rfl⟩
      obtain ⟨z, hz⟩ : ∃ x, M.z k = x := ⟨_, rfl⟩
      obtain ⟨ee, he⟩ : ∃ x, M.e k = x := ⟨_, rfl⟩
      obtain ⟨u, hu⟩ : ∃ x, M.u k = x := ⟨_, rfl⟩
      have hS := HS.out.kept HK.out
      have c0 := hS.cs k hlt
      have c1 := hS.ca k hlt
      have c2 := hS.cb k hlt
      have c3 := hS.cz k hlt
      have c4 := hS.ce k hlt
      have c5 := hS.cu k hlt
      obtain ⟨hp, hb_⟩ := hS.hp (by omega)
      rw [hs] at c0
      rw [ha] at c1
      rw [hb] at c2
      rw [hz] at c3
      rw [he] at c4
      rw [hu] at c5
      clear hS
      subst hp
      rw [hs, ha, hb, hz, he, hu] at mt
      have q0 : M.xx (k + 1) = M.xx k + u * a * a := by rw [← hu, ← ha]; rfl
      have q1 : M.xy (k + 1) = M.xy k + u * a * bb := by rw [← hu, ← ha, ← hb]; rfl
      have q2 : M.yy (k + 1) = M.yy k + u * bb * bb := by rw [← hu, ← hb]; rfl
      have q3 : M.xz (k + 1) = M.xz k + u * a * z := by rw [← hu, ← ha, ← hz]; rfl
      have q4 : M.yz (k + 1) = M.yz k + u * bb * z := by rw [← hu, ← hb, ← hz]; rfl
      obtain ⟨⟨d0, d1⟩, ⟨d2, d3⟩, ⟨d4, d5⟩, ⟨d6, d7⟩, ⟨d8, d9⟩, _⟩ := b0
      obtain ⟨⟨e0, e1⟩, ⟨e2, e3⟩, ⟨e4, e5⟩, ⟨e6, e7⟩, ⟨e8, e9⟩, _⟩ := b1
      obtain ⟨⟨f0, f1⟩, ⟨f2, f3⟩, ⟨f4, f5⟩, ⟨f6, f7⟩, ⟨f8, f9⟩, ⟨g0, g1⟩, ⟨g2, g3⟩, _⟩ := mt
      rw [q0] at e0 e1
      rw [q1] at e2 e3
      rw [q2] at e4 e5
      rw [q3] at e6 e7
      rw [q4] at e8 e9
      have p0 : IntKind.i64.wrap (u * a) = u * a := IntWalk.i64_in _ (by omega)
      have p1 : IntKind.i64.wrap (u * bb) = u * bb := IntWalk.i64_in _ (by omega)
      have p2 : IntKind.i64.wrap (u * a * a) = u * a * a := IntWalk.i64_in _ (by omega)
      have p3 : IntKind.i64.wrap (u * a * bb) = u * a * bb := IntWalk.i64_in _ (by omega)
      have p4 : IntKind.i64.wrap (u * bb * bb) = u * bb * bb := IntWalk.i64_in _ (by omega)
      have p5 : IntKind.i64.wrap (u * a * z) = u * a * z := IntWalk.i64_in _ (by omega)
      have p6 : IntKind.i64.wrap (u * bb * z) = u * bb * z := IntWalk.i64_in _ (by omega)
      have o0 : IntKind.i64.wrap (M.xx k + u * a * a) = M.xx k + u * a * a := IntWalk.i64_in _ (by omega)
      have o1 : IntKind.i64.wrap (M.xy k + u * a * bb) = M.xy k + u * a * bb := IntWalk.i64_in _ (by omega)
      have o2 : IntKind.i64.wrap (M.yy k + u * bb * bb) = M.yy k + u * bb * bb := IntWalk.i64_in _ (by omega)
      have o3 : IntKind.i64.wrap (M.xz k + u * a * z) = M.xz k + u * a * z := IntWalk.i64_in _ (by omega)
      have o4 : IntKind.i64.wrap (M.yz k + u * bb * z) = M.yz k + u * bb * z := IntWalk.i64_in _ (by omega)
      clear d0 d1 d2 d3 d4 d5 d6 d7 d8 d9 e0 e1 e2 e3 e4 e5 e6 e7 e8 e9 f0 f1 f2 f3 f4 f5 f6 f7 f8 f9 g0 g1 g2 g3
      have Q := Lib.hid (And.intro q0 (And.intro q1 (And.intro q2 (And.intro q3 q4))))
      clear q0 q1 q2 q3 q4 hs ha hb hz he hu
      have hkk := HK.out
      clear HS HALL HK
      generalize M.xx k = X0 at *
      generalize M.xy k = X1 at *
      generalize M.yy k = X2 at *
      generalize M.xz k = X3 at *
      generalize M.yz k = X4 at *
      go_wp2_with fail
      refine ⟨⟨k + 1, by go_num, by omega, Lib.hid ?_, Lib.hid ?_, Lib.hid ?_⟩, by simp [intOf]; omega⟩
      · with_reducible exact OwnB.alloc (OwnB.other5 HR.out (by omega)) _
      · rw [Q.out.1, Q.out.2.1, Q.out.2.2.1, Q.out.2.2.2.1, Q.out.2.2.2.2]
        have hR5 := own_set5 (us := [.int .i64 X0, .int .i64 X1, .int .i64 X2, .int .i64 X3, .int .i64 X4]) (v0 := .int .i64 (X0 + u * a * a)) (v1 := .int .i64 (X1 + u * a * bb)) (v2 := .int .i64 (X2 + u * bb * bb)) (v3 := .int .i64 (X3 + u * a * z)) (v4 := .int .i64 (X4 + u * bb * z)) HN.out rfl
        with_reducible exact OwnB.alloc hR5 _
      · exact (by repeat (first | with_reducible exact Kept.refl _ | with_reducible assumption | with_reducible refine Kept.setCell ?_ (by first | (simp; done) | (simp; omega) | omega) _ | with_reducible refine Kept.alloc ?_ _ | with_reducible refine Kept.drewN ?_ _ | with_reducible refine Kept.drew ?_ | with_reducible refine Kept.trans ?_ (by with_reducible assumption) | with_reducible refine Kept.dr ?_ (by with_reducible assumption)))
    · obtain rfl : k = n := by omega
      obtain ⟨rz, rg, r0, r1, r2, r3, r4, _⟩ := HR.out
      have hkk := HK.out
      clear HS HALL HK HN HR
      go_wp2_with fail
      exact bodyPost_ret (v := .tuple #[.agg #[.int .i64 (M.xx k), .int .i64 (M.xy k), .int .i64 (M.yy k), .int .i64 (M.xz k), .int .i64 (M.yz k)], .int .i64 0]) (by first | (simp [results, Try.results14, go_sem]; done) | (simp (maxDischargeDepth := 7) [results, Try.results14, go_sem, *]; done)) rfl ⟨rfl, (by repeat (first | with_reducible exact Kept.refl _ | with_reducible assumption | with_reducible refine Kept.setCell ?_ (by first | (simp; done) | (simp; omega) | omega) _ | with_reducible refine Kept.alloc ?_ _ | with_reducible refine Kept.drewN ?_ _ | with_reducible refine Kept.drew ?_ | with_reducible refine Kept.trans ?_ (by with_reducible assumption) | with_reducible refine Kept.dr ?_ (by with_reducible assumption)))⟩
set_option maxHeartbeats 2000000 in
set_option maxRecDepth 100000 in
theorem ref_normal_no (p : Option Addr) (n c b o : Nat) (M : Ms) (hn : n ≤ maxLen) (hx : M.chk n ≠ 0) (w : World) (hS : SlM w p n b o M) : Calls Try.prog 15 #[.slice p n c] w fun e w' => e = .returned (.tuple #[.agg #[.int .i64 0, .int .i64 0, .int .i64 0, .int .i64 0, .int .i64 0], .int .i64 (M.chk n)]) ∧ Kept w w' := by
  have HC := Lib.hid (ref_check_w p n c b o M hn)
  have HS := Lib.hid hS
  clear hS
  obtain ⟨E, hE⟩ : ∃ E, M.chk n = E := ⟨_, rfl⟩
  rw [hE] at HC hx
  rw [hE]
  clear hE
  go_enter Try.func15, Try.ntmps15
  go_wp2_with fail
  refine (HC.out _ (HS.out.kept (by repeat (first | with_reducible exact Kept.refl _ | with_reducible assumption | with_reducible refine Kept.setCell ?_ (by first | (simp; done) | (simp; omega) | omega) _ | with_reducible refine Kept.alloc ?_ _ | with_reducible refine Kept.drewN ?_ _ | with_reducible refine Kept.drew ?_ | with_reducible refine Kept.trans ?_ (by with_reducible assumption) | with_reducible refine Kept.dr ?_ (by with_reducible assumption))))).mono ?_
  rintro e w1 ⟨rfl, hk1⟩
  refine kuz (b := w.heap.size) hk1 (by first | (simp; done) | (simp; omega) | omega) ?_
  intro ha hb hz1_0 hn1_0 hm1_0
  have hf1_0_0 : w1.cell? ⟨w.heap.size, 0, none⟩ = some (.int .i64 0) := (ha _).trans (by first | with_reducible assumption | (simp (maxDischargeDepth := 7) [go_sem]; done) | (simp (maxDischargeDepth := 7) [go_sem, *]; done))
  have hf1_0_1 : w1.cell? ⟨w.heap.size, 1, none⟩ = some (.int .i64 0) := (ha _).trans (by first | with_reducible assumption | (simp (maxDischargeDepth := 7) [go_sem]; done) | (simp (maxDischargeDepth := 7) [go_sem, *]; done))
  have hf1_0_2 : w1.cell? ⟨w.heap.size, 2, none⟩ = some (.int .i64 0) := (ha _).trans (by first | with_reducible assumption | (simp (maxDischargeDepth := 7) [go_sem]; done) | (simp (maxDischargeDepth := 7) [go_sem, *]; done))
  have hf1_0_3 : w1.cell? ⟨w.heap.size, 3, none⟩ = some (.int .i64 0) := (ha _).trans (by first | with_reducible assumption | (simp (maxDischargeDepth := 7) [go_sem]; done) | (simp (maxDischargeDepth := 7) [go_sem, *]; done))
  have hf1_0_4 : w1.cell? ⟨w.heap.size, 4, none⟩ = some (.int .i64 0) := (ha _).trans (by first | with_reducible assumption | (simp (maxDischargeDepth := 7) [go_sem]; done) | (simp (maxDischargeDepth := 7) [go_sem, *]; done))
  try have hg1_0 : ∀ o, w1.frozen? ⟨w.heap.size, o, none⟩ = false := by intro o; rw [hb]; first | (simp (maxDischargeDepth := 7) [go_sem]; done) | (simp (maxDischargeDepth := 7) [go_sem, *]; done)
  clear ha hb
  go_wp2_with fail
  all_goals exact bodyPost_ret (v := .tuple #[.agg #[.int .i64 0, .int .i64 0, .int .i64 0, .int .i64 0, .int .i64 0], .int .i64 E]) (by first | (simp [results, Try.results15, go_sem]; done) | (simp (maxDischargeDepth := 7) [results, Try.results15, go_sem, *]; done)) rfl ⟨rfl, (by repeat (first | with_reducible exact Kept.refl _ | with_reducible assumption | with_reducible refine Kept.setCell ?_ (by first | (simp; done) | (simp; omega) | omega) _ | with_reducible refine Kept.alloc ?_ _ | with_reducible refine Kept.drewN ?_ _ | with_reducible refine Kept.drew ?_ | with_reducible refine Kept.trans ?_ (by with_reducible assumption) | with_reducible refine Kept.dr ?_ (by with_reducible assumption)))⟩
set_option maxHeartbeats 4000000 in
set_option maxRecDepth 100000 in
theorem ref_normal_ok (p : Option Addr) (n c b o : Nat) (M : Ms) (hn : n ≤ maxLen) (hx : M.chk n = 0) (w : World) (hS : SlM w p n b o M) : Calls Try.prog 15 #[.slice p n c] w fun e w' => e = .returned (.tuple #[.agg #[.int .i64 (M.xx n), .int .i64 (M.xy n), .int .i64 (M.yy n), .int .i64 (M.xz n), .int .i64 (M.yz n)], .int .i64 0]) ∧ Kept w w' := by
  obtain ⟨n16, hall⟩ := Ms.chk_0 hx
  have HC := Lib.hid (ref_check_w p n c b o M hn)
  rw [hx] at HC
  have HS := Lib.hid hS
  have HALL := Lib.hid hall
  clear hS hall hx hn
  go_enter Try.func15, Try.ntmps15
  go_wp2_with fail
  refine (HC.out _ (HS.out.kept (by repeat (first | with_reducible exact Kept.refl _ | with_reducible assumption | with_reducible refine Kept.setCell ?_ (by first | (simp; done) | (simp; omega) | omega) _ | with_reducible refine Kept.alloc ?_ _ | with_reducible refine Kept.drewN ?_ _ | with_reducible refine Kept.drew ?_ | with_reducible refine Kept.trans ?_ (by with_reducible assumption) | with_reducible refine Kept.dr ?_ (by with_reducible assumption))))).mono ?_
  rintro e w1 ⟨rfl, hk1⟩
  refine kuz (b := w.heap.size) hk1 (by first | (simp; done) | (simp; omega) | omega) ?_
  intro ha hb hz1_0 hn1_0 hm1_0
  have hf1_0_0 : w1.cell? ⟨w.heap.size, 0, none⟩ = some (.int .i64 0) := (ha _).trans (by first | with_reducible assumption | (simp (maxDischargeDepth := 7) [go_sem]; done) | (simp (maxDischargeDepth := 7) [go_sem, *]; done))
  have hf1_0_1 : w1.cell? ⟨w.heap.size, 1, none⟩ = some (.int .i64 0) := (ha _).trans (by first | with_reducible assumption | (simp (maxDischargeDepth := 7) [go_sem]; done) | (simp (maxDischargeDepth := 7) [go_sem, *]; done))
  have hf1_0_2 : w1.cell? ⟨w.heap.size, 2, none⟩ = some (.int .i64 0) := (ha _).trans (by first | with_reducible assumption | (simp (maxDischargeDepth := 7) [go_sem]; done) | (simp (maxDischargeDepth := 7) [go_sem, *]; done))
  have hf1_0_3 : w1.cell? ⟨w.heap.size, 3, none⟩ = some (.int .i64 0) := (ha _).trans (by first | with_reducible assumption | (simp (maxDischargeDepth := 7) [go_sem]; done) | (simp (maxDischargeDepth := 7) [go_sem, *]; done))
  have hf1_0_4 : w1.cell? ⟨w.heap.size, 4, none⟩ = some (.int .i64 0) := (ha _).trans (by first | with_reducible assumption | (simp (maxDischargeDepth := 7) [go_sem]; done) | (simp (maxDischargeDepth := 7) [go_sem, *]; done))
  try have hg1_0 : ∀ o, w1.frozen? ⟨w.heap.size, o, none⟩ = false := by intro o; rw [hb]; first | (simp (maxDischargeDepth := 7) [go_sem]; done) | (simp (maxDischargeDepth := 7) [go_sem, *]; done)
  clear ha hb
  go_wp2_with fail
  have hb1 : w.heap.size < w1.heap.size := by have := hk1.size; (try simp at this); omega
  clear HC
  go_loopw [17] (fun i wr => ∃ k : Nat, i = .int .i64 k ∧ k ≤ n ∧ Hid (OwnB wr w.heap.size [.int .i64 0, .int .i64 0, .int .i64 0, .int .i64 0, .int .i64 0]) ∧ Hid (OwnB wr w1.heap.size [.int .i64 (M.xx k), .int .i64 (M.xy k), .int .i64 (M.yy k), .int .i64 (M.xz k), .int .i64 (M.yz k)]) ∧ Hid (Kept w wr)) (fun i _ => n - (intOf i).toNat)
  case atStart => exact ⟨0, rfl, Nat.zero_le _, Lib.hid (OwnB.alloc (show OwnB w1 w.heap.size [.int .i64 0, .int .i64 0, .int .i64 0, .int .i64 0, .int .i64 0] from ⟨hz1_0, hg1_0, hf1_0_0, hf1_0_1, hf1_0_2, hf1_0_3, hf1_0_4, trivial⟩) _), Lib.hid (own_alloc _ [.int .i64 0, .int .i64 0, .int .i64 0, .int .i64 0, .int .i64 0] 26), Lib.hid (by repeat (first | with_reducible exact Kept.refl _ | with_reducible assumption | with_reducible refine Kept.setCell ?_ (by first | (simp; done) | (simp; omega) | omega) _ | with_reducible refine Kept.alloc ?_ _ | with_reducible refine Kept.drewN ?_ _ | with_reducible refine Kept.drew ?_ | with_reducible refine Kept.trans ?_ (by with_reducible assumption) | with_reducible refine Kept.dr ?_ (by with_reducible assumption)))⟩
  case round =>
    obtain ⟨k, rfl, hk, HR, HN, HK⟩ := hrel
    obtain ⟨nz, ng, n0, n1, n2, n3, n4, _⟩ := HN.out
    by_cases hlt : k < n
    · have b0 := mb_of (M := M) (n := k) (by omega) (Ms.all_le HALL.out (by omega))
      have b1 := mb_of (M := M) (n := k + 1) (by omega) (Ms.all_le HALL.out (by omega))
      have mt := mt_of (Ms.all_at HALL.out hlt)
      obtain ⟨s, hs⟩ : ∃ x, M.s k = x := ⟨_, rfl⟩
      obtain ⟨a, ha⟩ : ∃ x, M.a k = x := ⟨_, rfl⟩
      obtain ⟨bb, hb⟩ : ∃ x, M.b k = x := ⟨_, rfl⟩
      obtain ⟨z, hz⟩ : ∃ x, M.z k = x := ⟨_, rfl⟩
      obtain ⟨ee, he⟩ : ∃ x, M.e k = x := ⟨_, rfl⟩
      obtain ⟨u, hu⟩ : ∃ x, M.u k = x := ⟨_, rfl⟩
      have hS := HS.out.kept HK.out
      have c0 := hS.cs k hlt
      have c1 := hS.ca k hlt
      have c2 := hS.cb k hlt
      have c3 := hS.cz k hlt
      have c4 := hS.ce k hlt
      have c5 := hS.cu k hlt
      obtain ⟨hp, hb_⟩ := hS.hp (by omega)
      rw [hs] at c0
      rw [ha] at c1
      rw [hb] at c2
      rw [hz] at c3
      rw [he] at c4
      rw [hu] at c5
      clear hS
      subst hp
      rw [hs, ha, hb, hz, he, hu] at mt
      have q0 : M.xx (k + 1) = M.xx k + u * a * a := by rw [← hu, ← ha]; rfl
      have q1 : M.xy (k + 1) = M.xy k + u * a * bb := by rw [← hu, ← ha, ← hb]; rfl
      have q2 : M.yy (k + 1) = M.yy k + u * bb * bb := by rw [← hu, ← hb]; rfl
      have q3 : M.xz (k + 1) = M.xz k + u * a * z := by rw [← hu, ← ha, ← hz]; rfl
      have q4 : M.yz (k + 1) = M.yz k + u * bb * z := by rw [← hu, ← hb, ← hz]; rfl
      obtain ⟨⟨d0, d1⟩, ⟨d2, d3⟩, ⟨d4, d5⟩, ⟨d6, d7⟩, ⟨d8, d9⟩, _⟩ := b0
      obtain ⟨⟨e0, e1⟩, ⟨e2, e3⟩, ⟨e4, e5⟩, ⟨e6, e7⟩, ⟨e8, e9⟩, _⟩ := b1
      obtain ⟨⟨f0, f1⟩, ⟨f2, f3⟩, ⟨f4, f5⟩, ⟨f6, f7⟩, ⟨f8, f9⟩, ⟨g0, g1⟩, ⟨g2, g3⟩, _⟩ := mt
      rw [q0] at e0 e1
      rw [q1] at e2 e3
      rw [q2] at e4 e5
      rw [q3] at e6 e7
      rw [q4] at e8 e9
      have p0 : IntKind.i64.wrap (u * a) = u * a := IntWalk.i64_in _ (by omega)
      have p1 : IntKind.i64.wrap (u * bb) = u * bb := IntWalk.i64_in _ (by omega)
      have p2 : IntKind.i64.wrap (u * a * a) = u * a * a := IntWalk.i64_in _ (by omega)
      have p3 : IntKind.i64.wrap (u * a * bb) = u * a * bb := IntWalk.i64_in _ (by omega)
      have p4 : IntKind.i64.wrap (u * bb * bb) = u * bb * bb := IntWalk.i64_in _ (by omega)
      have p5 : IntKind.i64.wrap (u * a * z) = u * a * z := IntWalk.i64_in _ (by omega)
      have p6 : IntKind.i64.wrap (u * bb * z) = u * bb * z := IntWalk.i64_in _ (by omega)
      have o0 : IntKind.i64.wrap (M.xx k + u * a * a) = M.xx k + u * a * a := IntWalk.i64_in _ (by omega)
      have o1 : IntKind.i64.wrap (M.xy k + u * a * bb) = M.xy k + u * a * bb := IntWalk.i64_in _ (by omega)
      have o2 : IntKind.i64.wrap (M.yy k + u * bb * bb) = M.yy k + u * bb * bb := IntWalk.i64_in _ (by omega)
      have o3 : IntKind.i64.wrap (M.xz k + u * a * z) = M.xz k + u * a * z := IntWalk.i64_in _ (by omega)
      have o4 : IntKind.i64.wrap (M.yz k + u * bb * z) = M.yz k + u * bb * z := IntWalk.i64_in _ (by omega)
      clear d0 d1 d2 d3 d4 d5 d6 d7 d8 d9 e0 e1 e2 e3 e4 e5 e6 e7 e8 e9 f0 f1 f2 f3 f4 f5 f6 f7 f8 f9 g0 g1 g2 g3
      have Q := Lib.hid (And.intro q0 (And.intro q1 (And.intro q2 (And.intro q3 q4))))
      clear q0 q1 q2 q3 q4 hs ha hb hz he hu
      have hkk := HK.out
      clear HS HALL HK
      generalize M.xx k = X0 at *
      generalize M.xy k = X1 at *
      generalize M.yy k = X2 at *
      generalize M.xz k = X3 at *
      generalize M.yz k = X4 at *
      go_wp2_with fail
      refine ⟨⟨k + 1, by go_num, by omega, Lib.hid ?_, Lib.hid ?_, Lib.hid ?_⟩, by simp [intOf]; omega⟩
      · with_reducible exact OwnB.alloc (OwnB.other5 HR.out (by omega)) _
      · rw [Q.out.1, Q.out.2.1, Q.out.2.2.1, Q.out.2.2.2.1, Q.out.2.2.2.2]
        have hR5 := own_set5 (us := [.int .i64 X0, .int .i64 X1, .int .i64 X2, .int .i64 X3, .int .i64 X4]) (v0 := .int .i64 (X0 + u * a * a)) (v1 := .int .i64 (X1 + u * a * bb)) (v2 := .int .i64 (X2 + u * bb * bb)) (v3 := .int .i64 (X3 + u * a * z)) (v4 := .int .i64 (X4 + u * bb * z)) HN.out rfl
        with_reducible exact OwnB.alloc hR5 _
      · exact (by repeat (first | with_reducible exact Kept.refl _ | with_reducible assumption | with_reducible refine Kept.setCell ?_ (by first | (simp; done) | (simp; omega) | omega) _ | with_reducible refine Kept.alloc ?_ _ | with_reducible refine Kept.drewN ?_ _ | with_reducible refine Kept.drew ?_ | with_reducible refine Kept.trans ?_ (by with_reducible assumption) | with_reducible refine Kept.dr ?_ (by with_reducible assumption)))
    · obtain rfl : k = n := by omega
      obtain ⟨rz, rg, r0, r1, r2, r3, r4, _⟩ := HR.out
      have hkk := HK.out
      clear HS HALL HK HN HR
      go_wp2_with fail
      exact bodyPost_ret (v := .tuple #[.agg #[.int .i64 (M.xx k), .int .i64 (M.xy k), .int .i64 (M.yy k), .int .i64 (M.xz k), .int .i64 (M.yz k)], .int .i64 0]) (by first | (simp [results, Try.results15, go_sem]; done) | (simp (maxDischargeDepth := 7) [results, Try.results15, go_sem, *]; done)) rfl ⟨rfl, (by repeat (first | with_reducible exact Kept.refl _ | with_reducible assumption | with_reducible refine Kept.setCell ?_ (by first | (simp; done) | (simp; omega) | omega) _ | with_reducible refine Kept.alloc ?_ _ | with_reducible refine Kept.drewN ?_ _ | with_reducible refine Kept.drew ?_ | with_reducible refine Kept.trans ?_ (by with_reducible assumption) | with_reducible refine Kept.dr ?_ (by with_reducible assumption)))⟩
end Go.Proofs.Ytoegcfdlecbcjaa
