/-
  Own contracts: layer 13: the ground speeds of a set of winds.
-/
import Derived.Test.YtfpgdicacjkfoaaGreatDoorWina
import Derived.Test.YtfpgdicacjkfoaaGreatDoorWins
import Derived.Test.YtfpgdicacjkfoaaGreatDoorRow
import Derived.WalkKit
import Derived.ProofKit
import Derived.OpenShut
import Derived.WalkLawsBesides
import Derived.WalkSpells
import Derived.Lib.Hide
import Derived.Deep.DeepCutAuto
import Derived.Deep.CutBlock
import Derived.Deep.QuietTactic
import Derived.BigQuiet
import Derived.Handy
import Derived.StillTailTactics
import Derived.IntWalk
import Derived.LoopN
import Derived.Deep.RegionHeld3
namespace Go.Proofs.YtfpgdicacjkfoaaGreatDoor
open Go.ChangeShapes Go.WideShapes Go.ChangeAt Go.RowKit
set_option linter.unusedVariables false
set_option linter.unusedSimpArgs false
theorem wcut2 {w x : World} {c : Code} {P : Program} {Q : Exit → Act → World → Prop} {a : Act} {b1 b2 : Nat} {v1 v2 : List Value} (h1 : OwnB x b1 v1) (h2 : OwnB x b2 v2) (hk : Kept w x) (g : ∀ x', Hid (OwnB x' b1 v1) → Hid (OwnB x' b2 v2) → Hid (Kept w x') → c.wp P Q a x') : c.wp P Q a x := g x (Lib.hid h1) (Lib.hid h2) (Lib.hid hk)
set_option maxHeartbeats 8000000 in
set_option maxRecDepth 100000 in
theorem extremes_w (c el eh nl nh : Int) (c_0 : -9223372036854775808 ≤ c) (c_1 : c ≤ 9223372036854775807) (e0 : el ≤ eh) (e1 : -400 ≤ el) (e2 : el ≤ 400) (e3 : -400 ≤ eh) (e4 : eh ≤ 400) (n0 : nl ≤ nh) (n1 : -400 ≤ nl) (n2 : nl ≤ 400) (n3 : -400 ≤ nh) (n4 : nh ≤ 400) (w : World) : Calls Tryz.prog 48 #[.int .i64 c, .agg #[.int .i64 el, .int .i64 eh, .int .i64 nl, .int .i64 nh]] w fun e w' => e = .returned (.tuple #[.agg #[.int .i64 (eAl c el eh nl nh), .int .i64 (eAh c el eh nl nh)], .agg #[.int .i64 (eCl c el eh nl nh), .int .i64 (eCh c el eh nl nh)]]) ∧ Kept w w' := by
  obtain ⟨a0, qa0⟩ : ∃ a, alo c el nl = a := ⟨_, rfl⟩
  obtain ⟨b0, qb0⟩ : ∃ b, acr c el nl = b := ⟨_, rfl⟩
  have HP0 := fun W => wparts_ok c el nl c_0 c_1 (by omega) (by omega) (by omega) (by omega) W
  rw [qa0, qb0] at HP0
  obtain ⟨a1, qa1⟩ : ∃ a, alo c el nh = a := ⟨_, rfl⟩
  obtain ⟨b1, qb1⟩ : ∃ b, acr c el nh = b := ⟨_, rfl⟩
  have HP1 := fun W => wparts_ok c el nh c_0 c_1 (by omega) (by omega) (by omega) (by omega) W
  rw [qa1, qb1] at HP1
  obtain ⟨a2, qa2⟩ : ∃ a, alo c eh nl = a := ⟨_, rfl⟩
  obtain ⟨b2, qb2⟩ : ∃ b, acr c eh nl = b := ⟨_, rfl⟩
  have HP2 := fun W => wparts_ok c eh nl c_0 c_1 (by omega) (by omega) (by omega) (by omega) W
  rw [qa2, qb2] at HP2
  obtain ⟨a3, qa3⟩ : ∃ a, alo c eh nh = a := ⟨_, rfl⟩
  obtain ⟨b3, qb3⟩ : ∃ b, acr c eh nh = b := ⟨_, rfl⟩
  have HP3 := fun W => wparts_ok c eh nh c_0 c_1 (by omega) (by omega) (by omega) (by omega) W
  rw [qa3, qb3] at HP3
  have pz : mni a0 a0 = a0 := by unfold mni; omega
  have qz : mxi a0 a0 = a0 := by unfold mxi; omega
  have Bp0 : ∀ (ts : Array TypeId) (ty : TypeId) (w : World), (Builtin.min_ ts ty #[.int .i64 a0, .int .i64 a0]).run Tryz.prog w = .ok (.int .i64 a0) w := fun ts ty w => by rw [run_mn2, pz]
  have Bq0 : ∀ (ts : Array TypeId) (ty : TypeId) (w : World), (Builtin.max_ ts ty #[.int .i64 a0, .int .i64 a0]).run Tryz.prog w = .ok (.int .i64 a0) w := fun ts ty w => by rw [run_mx2, qz]
  obtain ⟨p1, qp1⟩ : ∃ z, mni a0 a1 = z := ⟨_, rfl⟩
  obtain ⟨q1, qq1⟩ : ∃ z, mxi a0 a1 = z := ⟨_, rfl⟩
  have Bp1 : ∀ (ts : Array TypeId) (ty : TypeId) (w : World), (Builtin.min_ ts ty #[.int .i64 a0, .int .i64 a1]).run Tryz.prog w = .ok (.int .i64 p1) w := fun ts ty w => by rw [run_mn2, qp1]
  have Bq1 : ∀ (ts : Array TypeId) (ty : TypeId) (w : World), (Builtin.max_ ts ty #[.int .i64 a0, .int .i64 a1]).run Tryz.prog w = .ok (.int .i64 q1) w := fun ts ty w => by rw [run_mx2, qq1]
  obtain ⟨p2, qp2⟩ : ∃ z, mni p1 a2 = z := ⟨_, rfl⟩
  obtain ⟨q2, qq2⟩ : ∃ z, mxi q1 a2 = z := ⟨_, rfl⟩
  have Bp2 : ∀ (ts : Array TypeId) (ty : TypeId) (w : World), (Builtin.min_ ts ty #[.int .i64 p1, .int .i64 a2]).run Tryz.prog w = .ok (.int .i64 p2) w := fun ts ty w => by rw [run_mn2, qp2]
  have Bq2 : ∀ (ts : Array TypeId) (ty : TypeId) (w : World), (Builtin.max_ ts ty #[.int .i64 q1, .int .i64 a2]).run Tryz.prog w = .ok (.int .i64 q2) w := fun ts ty w => by rw [run_mx2, qq2]
  obtain ⟨p3, qp3⟩ : ∃ z, mni p2 a3 = z := ⟨_, rfl⟩
  obtain ⟨q3, qq3⟩ : ∃ z, mxi q2 a3 = z := ⟨_, rfl⟩
  have Bp3 : ∀ (ts : Array TypeId) (ty : TypeId) (w : World), (Builtin.min_ ts ty #[.int .i64 p2, .int .i64 a3]).run Tryz.prog w = .ok (.int .i64 p3) w := fun ts ty w => by rw [run_mn2, qp3]
  have Bq3 : ∀ (ts : Array TypeId) (ty : TypeId) (w : World), (Builtin.max_ ts ty #[.int .i64 q2, .int .i64 a3]).run Tryz.prog w = .ok (.int .i64 q3) w := fun ts ty w => by rw [run_mx2, qq3]
  have rz : mni b0 b0 = b0 := by unfold mni; omega
  have sz : mxi b0 b0 = b0 := by unfold mxi; omega
  have Br0 : ∀ (ts : Array TypeId) (ty : TypeId) (w : World), (Builtin.min_ ts ty #[.int .i64 b0, .int .i64 b0]).run Tryz.prog w = .ok (.int .i64 b0) w := fun ts ty w => by rw [run_mn2, rz]
  have Bs0 : ∀ (ts : Array TypeId) (ty : TypeId) (w : World), (Builtin.max_ ts ty #[.int .i64 b0, .int .i64 b0]).run Tryz.prog w = .ok (.int .i64 b0) w := fun ts ty w => by rw [run_mx2, sz]
  obtain ⟨r1, qr1⟩ : ∃ z, mni b0 b1 = z := ⟨_, rfl⟩
  obtain ⟨s1, qs1⟩ : ∃ z, mxi b0 b1 = z := ⟨_, rfl⟩
  have Br1 : ∀ (ts : Array TypeId) (ty : TypeId) (w : World), (Builtin.min_ ts ty #[.int .i64 b0, .int .i64 b1]).run Tryz.prog w = .ok (.int .i64 r1) w := fun ts ty w => by rw [run_mn2, qr1]
  have Bs1 : ∀ (ts : Array TypeId) (ty : TypeId) (w : World), (Builtin.max_ ts ty #[.int .i64 b0, .int .i64 b1]).run Tryz.prog w = .ok (.int .i64 s1) w := fun ts ty w => by rw [run_mx2, qs1]
  obtain ⟨r2, qr2⟩ : ∃ z, mni r1 b2 = z := ⟨_, rfl⟩
  obtain ⟨s2, qs2⟩ : ∃ z, mxi s1 b2 = z := ⟨_, rfl⟩
  have Br2 : ∀ (ts : Array TypeId) (ty : TypeId) (w : World), (Builtin.min_ ts ty #[.int .i64 r1, .int .i64 b2]).run Tryz.prog w = .ok (.int .i64 r2) w := fun ts ty w => by rw [run_mn2, qr2]
  have Bs2 : ∀ (ts : Array TypeId) (ty : TypeId) (w : World), (Builtin.max_ ts ty #[.int .i64 s1, .int .i64 b2]).run Tryz.prog w = .ok (.int .i64 s2) w := fun ts ty w => by rw [run_mx2, qs2]
  obtain ⟨r3, qr3⟩ : ∃ z, mni r2 b3 = z := ⟨_, rfl⟩
  obtain ⟨s3, qs3⟩ : ∃ z, mxi s2 b3 = z := ⟨_, rfl⟩
  have Br3 : ∀ (ts : Array TypeId) (ty : TypeId) (w : World), (Builtin.min_ ts ty #[.int .i64 r2, .int .i64 b3]).run Tryz.prog w = .ok (.int .i64 r3) w := fun ts ty w => by rw [run_mn2, qr3]
  have Bs3 : ∀ (ts : Array TypeId) (ty : TypeId) (w : World), (Builtin.max_ ts ty #[.int .i64 s2, .int .i64 b3]).run Tryz.prog w = .ok (.int .i64 s3) w := fun ts ty w => by rw [run_mx2, qs3]
  have E1 : eAl c el eh nl nh = p3 := by rw [← qp3, ← qp2, ← qp1, ← qa0, ← qa1, ← qa2, ← qa3]; rfl
  have E2 : eAh c el eh nl nh = q3 := by rw [← qq3, ← qq2, ← qq1, ← qa0, ← qa1, ← qa2, ← qa3]; rfl
  have E3 : eCl c el eh nl nh = r3 := by rw [← qr3, ← qr2, ← qr1, ← qb0, ← qb1, ← qb2, ← qb3]; rfl
  have E4 : eCh c el eh nl nh = s3 := by rw [← qs3, ← qs2, ← qs1, ← qb0, ← qb1, ← qb2, ← qb3]; rfl
  rw [E1, E2, E3, E4]
  clear E1 E2 E3 E4 pz qz rz sz qa0 qb0 qa1 qb1 qa2 qb2 qa3 qb3 qp1 qp2 qp3 qq1 qq2 qq3 qr1 qr2 qr3 qs1 qs2 qs3
  have ix0 : ∀ w, (Instr.index 69 (.agg #[.int .i64 el, .int .i64 nl, .int .i64 el, .int .i64 nh, .int .i64 eh, .int .i64 nl, .int .i64 eh, .int .i64 nh]) (.int .i64 0)).run Tryz.prog w = .ok (.agg #[.int .i64 el, .int .i64 nl]) w := fun _ => by kernel_rfl
  have ix1 : ∀ w, (Instr.index 69 (.agg #[.int .i64 el, .int .i64 nl, .int .i64 el, .int .i64 nh, .int .i64 eh, .int .i64 nl, .int .i64 eh, .int .i64 nh]) (.int .i64 1)).run Tryz.prog w = .ok (.agg #[.int .i64 el, .int .i64 nh]) w := fun _ => by kernel_rfl
  have ix2 : ∀ w, (Instr.index 69 (.agg #[.int .i64 el, .int .i64 nl, .int .i64 el, .int .i64 nh, .int .i64 eh, .int .i64 nl, .int .i64 eh, .int .i64 nh]) (.int .i64 2)).run Tryz.prog w = .ok (.agg #[.int .i64 eh, .int .i64 nl]) w := fun _ => by kernel_rfl
  have ix3 : ∀ w, (Instr.index 69 (.agg #[.int .i64 el, .int .i64 nl, .int .i64 el, .int .i64 nh, .int .i64 eh, .int .i64 nl, .int .i64 eh, .int .i64 nh]) (.int .i64 3)).run Tryz.prog w = .ok (.agg #[.int .i64 eh, .int .i64 nh]) w := fun _ => by kernel_rfl
  have GHP0 := Lib.hid HP0
  clear HP0
  have GHP1 := Lib.hid HP1
  clear HP1
  have GHP2 := Lib.hid HP2
  clear HP2
  have GHP3 := Lib.hid HP3
  clear HP3
  have GBp0 := Lib.hid Bp0
  clear Bp0
  have GBp1 := Lib.hid Bp1
  clear Bp1
  have GBp2 := Lib.hid Bp2
  clear Bp2
  have GBp3 := Lib.hid Bp3
  clear Bp3
  have GBq0 := Lib.hid Bq0
  clear Bq0
  have GBq1 := Lib.hid Bq1
  clear Bq1
  have GBq2 := Lib.hid Bq2
  clear Bq2
  have GBq3 := Lib.hid Bq3
  clear Bq3
  have GBr0 := Lib.hid Br0
  clear Br0
  have GBr1 := Lib.hid Br1
  clear Br1
  have GBr2 := Lib.hid Br2
  clear Br2
  have GBr3 := Lib.hid Br3
  clear Br3
  have GBs0 := Lib.hid Bs0
  clear Bs0
  have GBs1 := Lib.hid Bs1
  clear Bs1
  have GBs2 := Lib.hid Bs2
  clear Bs2
  have GBs3 := Lib.hid Bs3
  clear Bs3
  have Gix0 := Lib.hid ix0
  clear ix0
  have Gix1 := Lib.hid ix1
  clear ix1
  have Gix2 := Lib.hid ix2
  clear ix2
  have Gix3 := Lib.hid ix3
  clear ix3
  go_enter Tryz.func48, Tryz.ntmps48
  go_wp2_with fail
  refine wp_loop_rounds 5 ?_
  have ix0 := Gix0.out
  rw [rounds_succ]
  go_wp2_with fail
  clear ix0
  with_reducible refine (GHP0.out _).mono ?_
  rintro e w1 ⟨rfl, hk1⟩
  refine kuse (b := w.heap.size) hk1 (by first | (simp; done) | (simp; omega) | omega) ?_
  intro ha hb
  have hz1_0 : w.heap.size < w1.heap.size := by have := hk1.size; (try simp at this); omega
  have hn1_0 : ¬ w.heap.size = w1.heap.size := by omega
  have hm1_0 : ¬ w1.heap.size = w.heap.size := by omega
  have hf1_0_0 : w1.cell? ⟨w.heap.size, 0, none⟩ = some (.int .i64 el) := by first | (rw [ha]; with_reducible assumption) | (simp (maxDischargeDepth := 7) [go_sem, ha]; done) | (rw [ha]; assumption) | (simp (maxDischargeDepth := 7) [go_sem, ha, *]; done)
  have hf1_0_1 : w1.cell? ⟨w.heap.size, 1, none⟩ = some (.int .i64 eh) := by first | (rw [ha]; with_reducible assumption) | (simp (maxDischargeDepth := 7) [go_sem, ha]; done) | (rw [ha]; assumption) | (simp (maxDischargeDepth := 7) [go_sem, ha, *]; done)
  have hf1_0_2 : w1.cell? ⟨w.heap.size, 2, none⟩ = some (.int .i64 nl) := by first | (rw [ha]; with_reducible assumption) | (simp (maxDischargeDepth := 7) [go_sem, ha]; done) | (rw [ha]; assumption) | (simp (maxDischargeDepth := 7) [go_sem, ha, *]; done)
  have hf1_0_3 : w1.cell? ⟨w.heap.size, 3, none⟩ = some (.int .i64 nh) := by first | (rw [ha]; with_reducible assumption) | (simp (maxDischargeDepth := 7) [go_sem, ha]; done) | (rw [ha]; assumption) | (simp (maxDischargeDepth := 7) [go_sem, ha, *]; done)
  try have hg1_0 : ∀ o, w1.frozen? ⟨w.heap.size, o, none⟩ = false := by intro o; first | (simp (maxDischargeDepth := 7) [go_sem, hb]; done) | (rw [hb]; simp (maxDischargeDepth := 7) [go_sem, *]; done)
  clear ha hb
  refine kuse (b := w.heap.size + 1) hk1 (by first | (simp; done) | (simp; omega) | omega) ?_
  intro ha hb
  have hz1_1 : w.heap.size + 1 < w1.heap.size := by have := hk1.size; (try simp at this); omega
  have hn1_1 : ¬ w.heap.size + 1 = w1.heap.size := by omega
  have hm1_1 : ¬ w1.heap.size = w.heap.size + 1 := by omega
  have hf1_1_0 : w1.cell? ⟨w.heap.size + 1, 0, none⟩ = some (.int .i64 0) := by first | (rw [ha]; with_reducible assumption) | (simp (maxDischargeDepth := 7) [go_sem, ha]; done) | (rw [ha]; assumption) | (simp (maxDischargeDepth := 7) [go_sem, ha, *]; done)
  have hf1_1_1 : w1.cell? ⟨w.heap.size + 1, 1, none⟩ = some (.int .i64 0) := by first | (rw [ha]; with_reducible assumption) | (simp (maxDischargeDepth := 7) [go_sem, ha]; done) | (rw [ha]; assumption) | (simp (maxDischargeDepth := 7) [go_sem, ha, *]; done)
  try have hg1_1 : ∀ o, w1.frozen? ⟨w.heap.size + 1, o, none⟩ = false := by intro o; first | (simp (maxDischargeDepth := 7) [go_sem, hb]; done) | (rw [hb]; simp (maxDischargeDepth := 7) [go_sem, *]; done)
  clear ha hb
  refine kuse (b := w.heap.size + 2) hk1 (by first | (simp; done) | (simp; omega) | omega) ?_
  intro ha hb
  have hz1_2 : w.heap.size + 2 < w1.heap.size := by have := hk1.size; (try simp at this); omega
  have hn1_2 : ¬ w.heap.size + 2 = w1.heap.size := by omega
  have hm1_2 : ¬ w1.heap.size = w.heap.size + 2 := by omega
  have hf1_2_0 : w1.cell? ⟨w.heap.size + 2, 0, none⟩ = some (.int .i64 0) := by first | (rw [ha]; with_reducible assumption) | (simp (maxDischargeDepth := 7) [go_sem, ha]; done) | (rw [ha]; assumption) | (simp (maxDischargeDepth := 7) [go_sem, ha, *]; done)
  have hf1_2_1 : w1.cell? ⟨w.heap.size + 2, 1, none⟩ = some (.int .i64 0) := by first | (rw [ha]; with_reducible assumption) | (simp (maxDischargeDepth := 7) [go_sem, ha]; done) | (rw [ha]; assumption) | (simp (maxDischargeDepth := 7) [go_sem, ha, *]; done)
  try have hg1_2 : ∀ o, w1.frozen? ⟨w.heap.size + 2, o, none⟩ = false := by intro o; first | (simp (maxDischargeDepth := 7) [go_sem, hb]; done) | (rw [hb]; simp (maxDischargeDepth := 7) [go_sem, *]; done)
  clear ha hb
  refine kuse (b := w.heap.size + 3) hk1 (by first | (simp; done) | (simp; omega) | omega) ?_
  intro ha hb
  have hz1_3 : w.heap.size + 3 < w1.heap.size := by have := hk1.size; (try simp at this); omega
  have hn1_3 : ¬ w.heap.size + 3 = w1.heap.size := by omega
  have hm1_3 : ¬ w1.heap.size = w.heap.size + 3 := by omega
  have hf1_3_0 : w1.cell? ⟨w.heap.size + 3, 0, none⟩ = some (.int .i64 el) := by first | (rw [ha]; with_reducible assumption) | (simp (maxDischargeDepth := 7) [go_sem, ha]; done) | (rw [ha]; assumption) | (simp (maxDischargeDepth := 7) [go_sem, ha, *]; done)
  have hf1_3_1 : w1.cell? ⟨w.heap.size + 3, 1, none⟩ = some (.int .i64 nl) := by first | (rw [ha]; with_reducible assumption) | (simp (maxDischargeDepth := 7) [go_sem, ha]; done) | (rw [ha]; assumption) | (simp (maxDischargeDepth := 7) [go_sem, ha, *]; done)
  have hf1_3_2 : w1.cell? ⟨w.heap.size + 3, 2, none⟩ = some (.int .i64 el) := by first | (rw [ha]; with_reducible assumption) | (simp (maxDischargeDepth := 7) [go_sem, ha]; done) | (rw [ha]; assumption) | (simp (maxDischargeDepth := 7) [go_sem, ha, *]; done)
  have hf1_3_3 : w1.cell? ⟨w.heap.size + 3, 3, none⟩ = some (.int .i64 nh) := by first | (rw [ha]; with_reducible assumption) | (simp (maxDischargeDepth := 7) [go_sem, ha]; done) | (rw [ha]; assumption) | (simp (maxDischargeDepth := 7) [go_sem, ha, *]; done)
  have hf1_3_4 : w1.cell? ⟨w.heap.size + 3, 4, none⟩ = some (.int .i64 eh) := by first | (rw [ha]; with_reducible assumption) | (simp (maxDischargeDepth := 7) [go_sem, ha]; done) | (rw [ha]; assumption) | (simp (maxDischargeDepth := 7) [go_sem, ha, *]; done)
  have hf1_3_5 : w1.cell? ⟨w.heap.size + 3, 5, none⟩ = some (.int .i64 nl) := by first | (rw [ha]; with_reducible assumption) | (simp (maxDischargeDepth := 7) [go_sem, ha]; done) | (rw [ha]; assumption) | (simp (maxDischargeDepth := 7) [go_sem, ha, *]; done)
  have hf1_3_6 : w1.cell? ⟨w.heap.size + 3, 6, none⟩ = some (.int .i64 eh) := by first | (rw [ha]; with_reducible assumption) | (simp (maxDischargeDepth := 7) [go_sem, ha]; done) | (rw [ha]; assumption) | (simp (maxDischargeDepth := 7) [go_sem, ha, *]; done)
  have hf1_3_7 : w1.cell? ⟨w.heap.size + 3, 7, none⟩ = some (.int .i64 nh) := by first | (rw [ha]; with_reducible assumption) | (simp (maxDischargeDepth := 7) [go_sem, ha]; done) | (rw [ha]; assumption) | (simp (maxDischargeDepth := 7) [go_sem, ha, *]; done)
  try have hg1_3 : ∀ o, w1.frozen? ⟨w.heap.size + 3, o, none⟩ = false := by intro o; first | (simp (maxDischargeDepth := 7) [go_sem, hb]; done) | (rw [hb]; simp (maxDischargeDepth := 7) [go_sem, *]; done)
  clear ha hb
  refine kuse (b := w.heap.size + 4) hk1 (by first | (simp; done) | (simp; omega) | omega) ?_
  intro ha hb
  have hz1_4 : w.heap.size + 4 < w1.heap.size := by have := hk1.size; (try simp at this); omega
  have hn1_4 : ¬ w.heap.size + 4 = w1.heap.size := by omega
  have hm1_4 : ¬ w1.heap.size = w.heap.size + 4 := by omega
  have hf1_4_0 : w1.cell? ⟨w.heap.size + 4, 0, none⟩ = some (.int .i64 el) := by first | (rw [ha]; with_reducible assumption) | (simp (maxDischargeDepth := 7) [go_sem, ha]; done) | (rw [ha]; assumption) | (simp (maxDischargeDepth := 7) [go_sem, ha, *]; done)
  have hf1_4_1 : w1.cell? ⟨w.heap.size + 4, 1, none⟩ = some (.int .i64 nl) := by first | (rw [ha]; with_reducible assumption) | (simp (maxDischargeDepth := 7) [go_sem, ha]; done) | (rw [ha]; assumption) | (simp (maxDischargeDepth := 7) [go_sem, ha, *]; done)
  try have hg1_4 : ∀ o, w1.frozen? ⟨w.heap.size + 4, o, none⟩ = false := by intro o; first | (simp (maxDischargeDepth := 7) [go_sem, hb]; done) | (rw [hb]; simp (maxDischargeDepth := 7) [go_sem, *]; done)
  clear ha hb
  have HO0_0 : Hid (OwnB w1 (w.heap.size + 1) [.int .i64 0, .int .i64 0]) := Lib.hid ⟨hz1_1, hg1_1, hf1_1_0, hf1_1_1, trivial⟩
  have HO0_1 : Hid (OwnB w1 (w.heap.size + 2) [.int .i64 0, .int .i64 0]) := Lib.hid ⟨hz1_2, hg1_2, hf1_2_0, hf1_2_1, trivial⟩
  have HK0 : Hid (Kept w w1) := Lib.hid (by repeat (first | with_reducible exact Kept.refl _ | with_reducible assumption | with_reducible refine Kept.setCell ?_ (by first | (simp; done) | (simp; omega) | omega) _ | with_reducible refine Kept.alloc ?_ _ | with_reducible refine Kept.drewN ?_ _ | with_reducible refine Kept.drew ?_ | with_reducible refine Kept.trans ?_ (by with_reducible assumption) | with_reducible refine Kept.dr ?_ (by with_reducible assumption)))
  have nw0 : w.heap.size ≤ w.heap.size + 1 := by first | omega | (have := HK0.out.size; omega)
  have nb0_1 : ¬ w.heap.size + 1 = w.heap.size + 2 := by omega
  have nc0_1 : ¬ w.heap.size + 2 = w.heap.size + 1 := by omega
  have nw1 : w.heap.size ≤ w.heap.size + 2 := by first | omega | (have := HK0.out.size; omega)
  try clear hk1
  try clear hz1_0
  try clear hn1_0
  try clear hm1_0
  try clear hg1_0
  try clear hf1_0_0
  try clear hf1_0_1
  try clear hf1_0_2
  try clear hf1_0_3
  try clear hf1_0_4
  try clear hf1_0_5
  try clear hf1_0_6
  try clear hf1_0_7
  try clear hf1_0_8
  try clear hf1_0_9
  try clear hf1_0_10
  try clear hf1_0_11
  try clear hz1_1
  try clear hn1_1
  try clear hm1_1
  try clear hg1_1
  try clear hf1_1_0
  try clear hf1_1_1
  try clear hf1_1_2
  try clear hf1_1_3
  try clear hf1_1_4
  try clear hf1_1_5
  try clear hf1_1_6
  try clear hf1_1_7
  try clear hf1_1_8
  try clear hf1_1_9
  try clear hf1_1_10
  try clear hf1_1_11
  try clear hz1_0 hn1_0 hm1_0 hg1_0
  try clear hf1_0_0
  try clear hf1_0_1
  try clear hf1_0_2
  try clear hf1_0_3
  try clear hf1_0_4
  try clear hf1_0_5
  try clear hf1_0_6
  try clear hf1_0_7
  try clear hz1_1 hn1_1 hm1_1 hg1_1
  try clear hf1_1_0
  try clear hf1_1_1
  try clear hf1_1_2
  try clear hf1_1_3
  try clear hf1_1_4
  try clear hf1_1_5
  try clear hf1_1_6
  try clear hf1_1_7
  try clear hz1_2 hn1_2 hm1_2 hg1_2
  try clear hf1_2_0
  try clear hf1_2_1
  try clear hf1_2_2
  try clear hf1_2_3
  try clear hf1_2_4
  try clear hf1_2_5
  try clear hf1_2_6
  try clear hf1_2_7
  try clear hz1_3 hn1_3 hm1_3 hg1_3
  try clear hf1_3_0
  try clear hf1_3_1
  try clear hf1_3_2
  try clear hf1_3_3
  try clear hf1_3_4
  try clear hf1_3_5
  try clear hf1_3_6
  try clear hf1_3_7
  try clear hz1_4 hn1_4 hm1_4 hg1_4
  try clear hf1_4_0
  try clear hf1_4_1
  try clear hf1_4_2
  try clear hf1_4_3
  try clear hf1_4_4
  try clear hf1_4_5
  try clear hf1_4_6
  try clear hf1_4_7
  obtain ⟨oz0, og0, of0_0, of0_1, _⟩ := HO0_0.out
  obtain ⟨oz1, og1, of1_0, of1_1, _⟩ := HO0_1.out
  have Bp0 := GBp0.out
  have Bq0 := GBq0.out
  have Br0 := GBr0.out
  have Bs0 := GBs0.out
  have ix1 := Gix1.out
  go_wp2_with fail
  rw [rounds_succ]
  go_wp2_with fail
  clear Bp0 Bq0 Br0 Bs0 ix1
  try clear oz0 og0 of0_0 of0_1 oz1 og1 of1_0 of1_1
  refine (GHP1.out _).mono ?_
  rintro e v1 ⟨rfl, hk⟩
  have nwk := HK0.out.size
  obtain ⟨oz0, og0, of0_0, of0_1, _⟩ := HO0_0.out
  obtain ⟨oz1, og1, of1_0, of1_1, _⟩ := HO0_1.out
  have HO1_0 : Hid (OwnB v1 (w.heap.size + 1) [.int .i64 a0, .int .i64 a0]) := Lib.hid (OwnB.kept hk (by (repeat (first | with_reducible refine OwnB.setOther ?_ (by first | with_reducible assumption | omega) | with_reducible refine OwnB.alloc ?_ _ | with_reducible refine OwnB.drew ?_ | with_reducible refine OwnB.drewN ?_ _)); with_reducible refine own_set2 (us := [.int .i64 a0, .int .i64 a0]) ?_ rfl; (repeat (first | with_reducible refine OwnB.setOther ?_ (by first | with_reducible assumption | omega) | with_reducible refine OwnB.alloc ?_ _ | with_reducible refine OwnB.drew ?_ | with_reducible refine OwnB.drewN ?_ _)); with_reducible refine own_set2 (us := [.int .i64 0, .int .i64 0]) ?_ rfl; (repeat (first | with_reducible refine OwnB.setOther ?_ (by first | with_reducible assumption | omega) | with_reducible refine OwnB.alloc ?_ _ | with_reducible refine OwnB.drew ?_ | with_reducible refine OwnB.drewN ?_ _)); with_reducible exact HO0_0.out))
  have HO1_1 : Hid (OwnB v1 (w.heap.size + 2) [.int .i64 b0, .int .i64 b0]) := Lib.hid (OwnB.kept hk (by (repeat (first | with_reducible refine OwnB.setOther ?_ (by first | with_reducible assumption | omega) | with_reducible refine OwnB.alloc ?_ _ | with_reducible refine OwnB.drew ?_ | with_reducible refine OwnB.drewN ?_ _)); with_reducible refine own_set2 (us := [.int .i64 b0, .int .i64 b0]) ?_ rfl; (repeat (first | with_reducible refine OwnB.setOther ?_ (by first | with_reducible assumption | omega) | with_reducible refine OwnB.alloc ?_ _ | with_reducible refine OwnB.drew ?_ | with_reducible refine OwnB.drewN ?_ _)); with_reducible refine own_set2 (us := [.int .i64 0, .int .i64 0]) ?_ rfl; (repeat (first | with_reducible refine OwnB.setOther ?_ (by first | with_reducible assumption | omega) | with_reducible refine OwnB.alloc ?_ _ | with_reducible refine OwnB.drew ?_ | with_reducible refine OwnB.drewN ?_ _)); with_reducible exact HO0_1.out))
  have HK1 : Hid (Kept w v1) := Lib.hid (Kept.trans (by repeat (first | with_reducible exact HK0.out | with_reducible refine Kept.setCell ?_ (by first | with_reducible assumption | omega) _ | with_reducible refine Kept.drew ?_ | with_reducible refine Kept.drewN ?_ _ | with_reducible refine Kept.alloc ?_ _)) hk)
  try clear oz0 og0 of0_0 of0_1 oz1 og1 of1_0 of1_1
  clear hk nwk HO0_0 HO0_1 HK0
  obtain ⟨oz0, og0, of0_0, of0_1, _⟩ := HO1_0.out
  obtain ⟨oz1, og1, of1_0, of1_1, _⟩ := HO1_1.out
  have Bp1 := GBp1.out
  have Bq1 := GBq1.out
  have Br1 := GBr1.out
  have Bs1 := GBs1.out
  have ix2 := Gix2.out
  go_wp2_with fail
  rw [rounds_succ]
  go_wp2_with fail
  clear Bp1 Bq1 Br1 Bs1 ix2
  try clear oz0 og0 of0_0 of0_1 oz1 og1 of1_0 of1_1
  refine (GHP2.out _).mono ?_
  rintro e v2 ⟨rfl, hk⟩
  have nwk := HK1.out.size
  obtain ⟨oz0, og0, of0_0, of0_1, _⟩ := HO1_0.out
  obtain ⟨oz1, og1, of1_0, of1_1, _⟩ := HO1_1.out
  have HO2_0 : Hid (OwnB v2 (w.heap.size + 1) [.int .i64 p1, .int .i64 q1]) := Lib.hid (OwnB.kept hk (by (repeat (first | with_reducible refine OwnB.setOther ?_ (by first | with_reducible assumption | omega) | with_reducible refine OwnB.alloc ?_ _ | with_reducible refine OwnB.drew ?_ | with_reducible refine OwnB.drewN ?_ _)); with_reducible refine own_set2 (us := [.int .i64 a0, .int .i64 a0]) ?_ rfl; (repeat (first | with_reducible refine OwnB.setOther ?_ (by first | with_reducible assumption | omega) | with_reducible refine OwnB.alloc ?_ _ | with_reducible refine OwnB.drew ?_ | with_reducible refine OwnB.drewN ?_ _)); with_reducible exact HO1_0.out))
  have HO2_1 : Hid (OwnB v2 (w.heap.size + 2) [.int .i64 r1, .int .i64 s1]) := Lib.hid (OwnB.kept hk (by (repeat (first | with_reducible refine OwnB.setOther ?_ (by first | with_reducible assumption | omega) | with_reducible refine OwnB.alloc ?_ _ | with_reducible refine OwnB.drew ?_ | with_reducible refine OwnB.drewN ?_ _)); with_reducible refine own_set2 (us := [.int .i64 b0, .int .i64 b0]) ?_ rfl; (repeat (first | with_reducible refine OwnB.setOther ?_ (by first | with_reducible assumption | omega) | with_reducible refine OwnB.alloc ?_ _ | with_reducible refine OwnB.drew ?_ | with_reducible refine OwnB.drewN ?_ _)); with_reducible exact HO1_1.out))
  have HK2 : Hid (Kept w v2) := Lib.hid (Kept.trans (by repeat (first | with_reducible exact HK1.out | with_reducible refine Kept.setCell ?_ (by first | with_reducible assumption | omega) _ | with_reducible refine Kept.drew ?_ | with_reducible refine Kept.drewN ?_ _ | with_reducible refine Kept.alloc ?_ _)) hk)
  try clear oz0 og0 of0_0 of0_1 oz1 og1 of1_0 of1_1
  clear hk nwk HO1_0 HO1_1 HK1
  obtain ⟨oz0, og0, of0_0, of0_1, _⟩ := HO2_0.out
  obtain ⟨oz1, og1, of1_0, of1_1, _⟩ := HO2_1.out
  have Bp2 := GBp2.out
  have Bq2 := GBq2.out
  have Br2 := GBr2.out
  have Bs2 := GBs2.out
  have ix3 := Gix3.out
  go_wp2_with fail
  rw [rounds_succ]
  go_wp2_with fail
  clear Bp2 Bq2 Br2 Bs2 ix3
  try clear oz0 og0 of0_0 of0_1 oz1 og1 of1_0 of1_1
  refine (GHP3.out _).mono ?_
  rintro e v3 ⟨rfl, hk⟩
  have nwk := HK2.out.size
  obtain ⟨oz0, og0, of0_0, of0_1, _⟩ := HO2_0.out
  obtain ⟨oz1, og1, of1_0, of1_1, _⟩ := HO2_1.out
  have HO3_0 : Hid (OwnB v3 (w.heap.size + 1) [.int .i64 p2, .int .i64 q2]) := Lib.hid (OwnB.kept hk (by (repeat (first | with_reducible refine OwnB.setOther ?_ (by first | with_reducible assumption | omega) | with_reducible refine OwnB.alloc ?_ _ | with_reducible refine OwnB.drew ?_ | with_reducible refine OwnB.drewN ?_ _)); with_reducible refine own_set2 (us := [.int .i64 p1, .int .i64 q1]) ?_ rfl; (repeat (first | with_reducible refine OwnB.setOther ?_ (by first | with_reducible assumption | omega) | with_reducible refine OwnB.alloc ?_ _ | with_reducible refine OwnB.drew ?_ | with_reducible refine OwnB.drewN ?_ _)); with_reducible exact HO2_0.out))
  have HO3_1 : Hid (OwnB v3 (w.heap.size + 2) [.int .i64 r2, .int .i64 s2]) := Lib.hid (OwnB.kept hk (by (repeat (first | with_reducible refine OwnB.setOther ?_ (by first | with_reducible assumption | omega) | with_reducible refine OwnB.alloc ?_ _ | with_reducible refine OwnB.drew ?_ | with_reducible refine OwnB.drewN ?_ _)); with_reducible refine own_set2 (us := [.int .i64 r1, .int .i64 s1]) ?_ rfl; (repeat (first | with_reducible refine OwnB.setOther ?_ (by first | with_reducible assumption | omega) | with_reducible refine OwnB.alloc ?_ _ | with_reducible refine OwnB.drew ?_ | with_reducible refine OwnB.drewN ?_ _)); with_reducible exact HO2_1.out))
  have HK3 : Hid (Kept w v3) := Lib.hid (Kept.trans (by repeat (first | with_reducible exact HK2.out | with_reducible refine Kept.setCell ?_ (by first | with_reducible assumption | omega) _ | with_reducible refine Kept.drew ?_ | with_reducible refine Kept.drewN ?_ _ | with_reducible refine Kept.alloc ?_ _)) hk)
  try clear oz0 og0 of0_0 of0_1 oz1 og1 of1_0 of1_1
  clear hk nwk HO2_0 HO2_1 HK2
  obtain ⟨oz0, og0, of0_0, of0_1, _⟩ := HO3_0.out
  obtain ⟨oz1, og1, of1_0, of1_1, _⟩ := HO3_1.out
  have Bp3 := GBp3.out
  have Bq3 := GBq3.out
  have Br3 := GBr3.out
  have Bs3 := GBs3.out
  go_wp2_with fail
  rw [rounds_succ]
  go_wp2_with fail
  clear Bp3 Bq3 Br3 Bs3
  refine wcut2 (b1 := w.heap.size + 1) (b2 := w.heap.size + 2) (v1 := [.int .i64 p3, .int .i64 q3]) (v2 := [.int .i64 r3, .int .i64 s3]) (by (repeat (first | with_reducible refine OwnB.setOther ?_ (by first | with_reducible assumption | omega) | with_reducible refine OwnB.alloc ?_ _ | with_reducible refine OwnB.drew ?_ | with_reducible refine OwnB.drewN ?_ _)); with_reducible refine own_set2 (us := [.int .i64 p2, .int .i64 q2]) ?_ rfl; (repeat (first | with_reducible refine OwnB.setOther ?_ (by first | with_reducible assumption | omega) | with_reducible refine OwnB.alloc ?_ _ | with_reducible refine OwnB.drew ?_ | with_reducible refine OwnB.drewN ?_ _)); with_reducible exact HO3_0.out) (by (repeat (first | with_reducible refine OwnB.setOther ?_ (by first | with_reducible assumption | omega) | with_reducible refine OwnB.alloc ?_ _ | with_reducible refine OwnB.drew ?_ | with_reducible refine OwnB.drewN ?_ _)); with_reducible refine own_set2 (us := [.int .i64 r2, .int .i64 s2]) ?_ rfl; (repeat (first | with_reducible refine OwnB.setOther ?_ (by first | with_reducible assumption | omega) | with_reducible refine OwnB.alloc ?_ _ | with_reducible refine OwnB.drew ?_ | with_reducible refine OwnB.drewN ?_ _)); with_reducible exact HO3_1.out) (by repeat (first | with_reducible exact HK3.out | with_reducible refine Kept.setCell ?_ (by first | with_reducible assumption | omega) _ | with_reducible refine Kept.drew ?_ | with_reducible refine Kept.drewN ?_ _ | with_reducible refine Kept.alloc ?_ _)) ?_
  clear HO3_0 HO3_1 HK3
  intro x HX1 HX2 HKX
  have nwk := HKX.out.size
  clear GHP0 GBp0 GBq0 GBr0 GBs0 Gix0
  clear GHP1 GBp1 GBq1 GBr1 GBs1 Gix1
  clear GHP2 GBp2 GBq2 GBr2 GBs2 Gix2
  clear GHP3 GBp3 GBq3 GBr3 GBs3 Gix3
  obtain ⟨oz0, og0, of0_0, of0_1, _⟩ := HX1.out
  obtain ⟨oz1, og1, of1_0, of1_1, _⟩ := HX2.out
  go_region
  all_goals go_wp2_with fail
  all_goals exact bodyPost_ret (v := .tuple #[.agg #[.int .i64 p3, .int .i64 q3], .agg #[.int .i64 r3, .int .i64 s3]]) (by first | (simp [results, Tryz.results48, go_sem]; done) | (simp (maxDischargeDepth := 7) [results, Tryz.results48, go_sem, *]; done)) rfl ⟨rfl, (by repeat (first | with_reducible exact HKX.out | with_reducible refine Kept.setCell ?_ (by first | with_reducible assumption | omega) _ | with_reducible refine Kept.drew ?_ | with_reducible refine Kept.drewN ?_ _ | with_reducible refine Kept.alloc ?_ _))⟩
end Go.Proofs.YtfpgdicacjkfoaaGreatDoor
